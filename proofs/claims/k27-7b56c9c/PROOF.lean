import PyProof.Rows.All
import Wide.All
import OpenK.AllK
import Wide.FinOn
import Lean
import PyProof.EqAt
import PyProof.EqKinds
import PyProof.TupleCall
import PySem.Challenge.RW_cratefit_k27_rows_refused
set_option Elab.async false
set_option linter.all false
set_option maxRecDepth 100000
namespace L2
open PySem PySem.Spec PyProof.Rows
abbrev Key := Sum Int Str
def keyIs : Key → Value → Bool
 | .inl k, v => Value.isInt k v
 | .inr x, v => Value.isStrOf x v
def keyH (w : World) : Key → Int
 | .inl k => hashInt k
 | .inr x => hashStr w x
theorem keyIs_shape : ∀ {k : Key} {v : Value}, keyIs k v = true → (∃ i t, k = Sum.inl i ∧ v = Value.int i t) ∨ (∃ x t, k = Sum.inr x ∧ v = Value.str x t)
 | .inl i, v, h => by
  obtain ⟨t, e⟩ := Value.isInt_shape (k := i) (v := v) h
  exact .inl ⟨i, t, rfl, e⟩
 | .inr x, v, h => by
  obtain ⟨t, e⟩ := Value.isStrOf_shape (x := x) (v := v) h
  exact .inr ⟨x, t, rfl, e⟩
theorem key_ll (a b : Int) : decide ((Sum.inl a : Key) = Sum.inl b) = (a == b) := by
 by_cases e : a = b
 ·subst e; simp
 ·have h : ¬ (Sum.inl a : Key) = Sum.inl b := fun q => e (Sum.inl.inj q)
  rw [decide_eq_false h]
  exact (beq_eq_false_iff_ne.mpr e).symm
theorem key_rr (a b : Str) : decide ((Sum.inr a : Key) = Sum.inr b) = decide (a = b) := by
 by_cases e : a = b
 ·subst e; simp
 ·have h : ¬ (Sum.inr a : Key) = Sum.inr b := fun q => e (Sum.inr.inj q)
  rw [decide_eq_false h, decide_eq_false e]
theorem key_lr (a : Int) (b : Str) : decide ((Sum.inl a : Key) = Sum.inr b) = false := decide_eq_false (fun q => nomatch q)
theorem key_rl (a : Str) (b : Int) : decide ((Sum.inr a : Key) = Sum.inl b) = false := decide_eq_false (fun q => nomatch q)
def mixKind (prog : Program) (w : World) : PySem.KeyKind prog w Key where
 is := keyIs
 hash := keyH w
 inj := fun v a b ha hb => by
  rcases keyIs_shape ha with ⟨i, t, rfl, rfl⟩ | ⟨x, t, rfl, rfl⟩
  ·rcases keyIs_shape hb with ⟨j, u, rfl, e⟩ | ⟨y, u, rfl, e⟩
   ·injection e with e1 _; rw [e1]
   ·exact nomatch e
  ·rcases keyIs_shape hb with ⟨j, u, rfl, e⟩ | ⟨y, u, rfl, e⟩
   ·exact nomatch e
   ·injection e with e1 _; rw [e1]
 byValue := fun k v h => by
  rcases keyIs_shape h with ⟨i, t, rfl, rfl⟩ | ⟨x, t, rfl, rfl⟩ <;> rfl
 pyHash := fun hv h => by
  rcases keyIs_shape hv with ⟨i, t, rfl, rfl⟩ | ⟨x, t, rfl, rfl⟩
  ·exact wpAny_pyHash_int h
  ·exact wpAny_pyHash_str h
 eqBool := fun hu hv h => by
  rcases keyIs_shape hu with ⟨i, t, rfl, rfl⟩ | ⟨x, t, rfl, rfl⟩
  ·rcases keyIs_shape hv with ⟨j, u, rfl, rfl⟩ | ⟨y, u, rfl, rfl⟩
   ·rw [key_ll] at h; exact wpAny_eqBool_int h
   ·rw [key_lr] at h; exact SeqAt.EqAt.int_str i t y u _ _ _ _ h
  ·rcases keyIs_shape hv with ⟨j, u, rfl, rfl⟩ | ⟨y, u, rfl, rfl⟩
   ·rw [key_rl] at h; exact SeqAt.EqAt.str_int x t j u _ _ _ _ h
   ·rw [key_rr] at h; exact wpAny_eqBool_str h
 «strs» := fun k x t v h => by
  rcases keyIs_shape h with ⟨i, u, rfl, e⟩ | ⟨y, u, rfl, e⟩
  ·exact nomatch e
  ·injection e with e1 _
   subst e1
   cases v <;> rfl
inductive V where
 | non | bl (b : Bool) | int (i : Int) | str (x : Str) | byt (b : Array UInt8) | flt (b : UInt64) | ref (a : Addr) | ty (n : String)
 deriving DecidableEq
def RelV : V → Value → Prop
 | .non, u => u = Value.none
 | .bl b, u => u = Value.bool b
 | .int i, u => ∃ t, u = Value.int i t
 | .str x, u => ∃ t, u = Value.str x t
 | .byt b, u => ∃ t, u = Value.bytes b t
 | .flt b, u => ∃ t, u = Value.float b t
 | .ref a, u => u = Value.ref a
 | .ty n, u => u = Value.type n
abbrev Vals : List V → List Value → Prop := Paired RelV
theorem Vals.length {xs : List V} {us : List Value} (r : Vals xs us) : xs.length = us.length := Paired.length r
theorem Vals.get : ∀ {xs : List V} {us : List Value} {i : Nat} {x : V}, Vals xs us → xs[i]? = some x → ∃ u, us[i]? = some u ∧ RelV x u
 | _, _, _, _, .nil, e => by simp at e
 | _, _, 0, _, .cons r _, e => by simp at e; subst e; exact ⟨_, rfl, r⟩
 | _, _, i + 1, x, .cons _ t, e => by
  obtain ⟨u, h1, h2⟩ := Vals.get (i := i) (x := x) t (by simpa using e)
  exact ⟨u, by simpa using h1, h2⟩
theorem Vals.set {x : V} {u : Value} (r : RelV x u) : ∀ {xs : List V} {us : List Value} (i : Nat), Vals xs us → Vals (xs.set i x) (us.set i u)
 | _, _, _, .nil => .nil
 | _, _, 0, .cons _ t => .cons r t
 | _, _, i + 1, .cons q t => .cons q (Vals.set r i t)
theorem Vals.append : ∀ {xs ys : List V} {us ws : List Value}, Vals xs us → Vals ys ws → Vals (xs ++ ys) (us ++ ws)
 | _, _, _, _, .nil, s => s
 | _, _, _, _, .cons r t, s => .cons r (Vals.append t s)
theorem Vals.take : ∀ {xs : List V} {us : List Value} (n : Nat), Vals xs us → Vals (xs.take n) (us.take n)
 | _, _, 0, _ => .nil
 | _, _, _ + 1, .nil => .nil
 | _, _, n + 1, .cons r t => .cons r (Vals.take n t)
theorem Vals.drop : ∀ {xs : List V} {us : List Value} (n : Nat), Vals xs us → Vals (xs.drop n) (us.drop n)
 | _, _, 0, r => r
 | _, _, _ + 1, .nil => .nil
 | _, _, n + 1, .cons _ t => Vals.drop n t
theorem Vals.none_of : ∀ {xs : List V} {us : List Value} {i : Nat}, Vals xs us → xs[i]? = none → us[i]? = none := fun {xs us i} r e => by
 have h1 := r.length
 have h2 : xs.length ≤ i := List.getElem?_eq_none_iff.mp e
 exact List.getElem?_eq_none_iff.mpr (by omega)
def RelO : Option V → Option Value → Prop
 | some v, some u => RelV v u
 | none, none => True
 | _, _ => False
def KV {κ : Type} : List (κ × V) → List (κ × Value) → Prop := Paired fun (p : κ × V) (q : κ × Value) => p.1 = q.1 ∧ RelV p.2 q.2
def kV : Key → V
 | .inl i => .int i
 | .inr x => .str x
inductive HO where
 /-- a list -/
 | lst (xs : List V)
 /-- a tuple (never changes) -/
 | tup (xs : List V)
 /-- a dict whose keys are ints and texts; one whose keys are tuples of ints and texts (the empty one is both) -/
 | dK (kvs : List (Key × V)) | dT (kvs : List (List Key × V))
 /-- a set of ints: its members, its size -/
 | set (S : Int → Bool) (n : Nat)
 /-- an instance of the class at C, its dict at dx, its attributes -/
 | ins (C dx : Addr) (fs : List (Str × V))
 /-- the dict of the instance at x -/
 | own (x : Addr)
 /-- the dict of an exception -/
 | xd (fs : List (Str × V))
 /-- a bound method, f of x -/
 | met (f x : Addr)
 /-- a range object lo, lo + 1, .. below hi -/
 | rng (lo hi : Int)
 /-- a thing that is known to the object (the script; a dict while a loop walks it): read, never written while it is so -/
 | frz (o : Obj) (u : HO)
 /-- a code object's table -/
 | tbl (ps : Array Value)
 /-- any other thing, by what is true of its one object (a def of one's own: SetO a S n := HO.ext fun h => ..) -/
 | ext (φ : Heap → Prop)
abbrev Hp := Addr → Option HO
def upd (H : Hp) (a : Addr) (o : HO) : Hp := fun b => if b = a then some o else H b
theorem upd_same {H : Hp} {a : Addr} {o : HO} : upd H a o a = some o := by unfold upd; rw [if_pos rfl]
theorem upd_ne {H : Hp} {a b : Addr} {o : HO} (h : b ≠ a) : upd H a o b = H b := by unfold upd; rw [if_neg h]
theorem upd_upd {H : Hp} {a : Addr} {o u : HO} : upd (upd H a o) a u = upd H a u := by
 funext b; unfold upd; split <;> rfl
theorem ne_of {H : Hp} {a b : Addr} {o u : HO} (h : H a = some o) (h' : H b = some u) (d : o ≠ u) : a ≠ b := by
 intro e; subst e; rw [h] at h'; exact d (Option.some.inj h')
theorem ne_of_none {H : Hp} {a b : Addr} {o : HO} (h : H a = some o) (h' : H b = none) : a ≠ b := by
 intro e; subst e; rw [h] at h'; cases h'
section
variable (P : Program) (w : World)
def ObjOk (H : Hp) (h : Heap) (a : Addr) : HO → Prop
 | .lst xs => xs.length ≤ sizeLine ∧ ∃ (its : List Value) (n : Nat), Vals xs its ∧ h.get? a = some { cls := .type "list", data := .seq its.toArray n }
 | .tup xs => xs.length ≤ sizeLine ∧ ∃ its : List Value, Vals xs its ∧ IsTup h a its.toArray
 | .dK kvs => kvs.length ≤ sizeLine ∧ (a == sysModules) = false ∧ ∃ vs, KV kvs vs ∧ h.DictOf (mixKind P w) a vs
 | .dT kvs => kvs.length ≤ sizeLine ∧ (a == sysModules) = false ∧ ∃ xs : List (List Key × Addr × Value),
   Paired (fun (p : List Key × V) (q : List Key × Addr × Value) => p.1 = q.1 ∧ H q.2.1 = some (.tup (p.1.map kV)) ∧ RelV p.2 q.2.2) kvs xs ∧
   ∃ o es ep, h.get? a = some o ∧ o.ExactDict ∧ o.data = .dict es ep ∧ es.toList = xs.map (entryOfKey (tupleKind (mixKind P w))) ∧ (xs.map (·.1)).Nodup
 | .set S n => h.SetOf (intKind P w) a S n
 | .ins C dx fs => H dx = some (.own a) ∧ fs.length ≤ 1000 ∧ dx ≠ a ∧ h.get? a = some (W.instObj C dx) ∧
   ∃ mA, h.Ns1 dx mA ∧ (∀ f, RelO (fs.lookup f) (mA f)) ∧ PySem.Within mA (fs.map (·.1))
 | .own _ => ∃ o, h.get? a = some o
 | .xd fs => ∃ mA, h.Ns1 a mA ∧ ∀ f, RelO (fs.lookup f) (mA f)
 | .rng lo hi => ∃ t u v, h.get? a = some { cls := .type "range", data := .fields #[.int lo t, .int hi u, .int 1 v] }
 | .frz o u => h.get? a = some o ∧ ObjOk H h a u
 | .tbl ps => h.get? a = some { cls := .none, data := .fields ps }
 | .met f x => h.get? a = some (W.methodObj (.ref f) (.ref x))
 | .ext φ => φ h ∧ (∃ o, h.get? a = some o) ∧ ∀ h1 h2 : Heap, φ h1 → (∀ o, h1.get? a = some o → h2.get? a = some o) → φ h2
def HOk (H : Hp) (h : Heap) : Prop := ∀ a o, H a = some o → ObjOk P w H h a o
end
section
variable {P : Program} {w : World} {H H' : Hp} {h h' : Heap} {a : Addr} {o : HO}
theorem ObjOk.lt (x : ObjOk P w H h a o) : a < h.objs.size := by
 cases o with
 | lst xs => obtain ⟨_, _, _, _, e⟩ := x; exact Heap.lt_size e
 | tup xs => obtain ⟨_, _, _, p⟩ := x; exact p.lt
 | dK kvs => obtain ⟨_, _, _, _, o, _, _, e, _⟩ := x; exact Heap.lt_size e
 | dT kvs => obtain ⟨_, _, _, _, o, _, _, e, _⟩ := x; exact Heap.lt_size e
 | set S n => obtain ⟨o, _, _, _, e, _⟩ := x; exact Heap.lt_size e
 | ins C dx fs => obtain ⟨_, _, _, e, _⟩ := x; exact Heap.lt_size e
 | own y => obtain ⟨_, e⟩ := x; exact Heap.lt_size e
 | xd fs => obtain ⟨_, ⟨_, _, _, e, _⟩, _⟩ := x; exact Heap.lt_size e
 | rng lo hi => obtain ⟨_, _, _, e⟩ := x; exact Heap.lt_size e
 | frz ob u => obtain ⟨e, _⟩ := x; exact Heap.lt_size e
 | tbl ps => exact Heap.lt_size (show h.get? a = some _ from x)
 | met f y => exact Heap.lt_size (show h.get? a = some _ from x)
 | ext φ => obtain ⟨_, ⟨_, e⟩, _⟩ := x; exact Heap.lt_size e
theorem Paired.mapP {α β : Type} {F G : α → β → Prop} : ∀ {l₁ : List α} {l₂ : List β}, Paired F l₁ l₂ → (∀ a b, F a b → G a b) → Paired G l₁ l₂
 | _, _, .nil, _ => .nil
 | _, _, .cons r t, f => .cons (f _ _ r) (Paired.mapP t f)
theorem ObjOk.stay (x : ObjOk P w H h a o) (k : ∀ b u, (b = a ∨ H b = some (.own a)) → h.get? b = some u → h'.get? b = some u)
  (ho : ∀ b, H b = some (.own a) → H' b = some (.own a)) (ht : ∀ b xs, H b = some (.tup xs) → H' b = some (.tup xs)) : ObjOk P w H' h' a o := by
 induction o with
 | lst xs => obtain ⟨z, its, n, r, e⟩ := x; exact ⟨z, its, n, r, k _ _ (.inl rfl) e⟩
 | tup xs => obtain ⟨z, its, r, ob, e, c⟩ := x; exact ⟨z, its, r, ob, k _ _ (.inl rfl) e, c⟩
 | dK kvs => obtain ⟨z, y, vs, r, ob, es, ep, e, c⟩ := x; exact ⟨z, y, vs, r, ob, es, ep, k _ _ (.inl rfl) e, c⟩
 | dT kvs =>
  obtain ⟨z, y, xs, r, ob, es, ep, e, c⟩ := x
  exact ⟨z, y, xs, Paired.mapP r fun p q z => ⟨z.1, ht _ _ z.2.1, z.2.2⟩, ob, es, ep, k _ _ (.inl rfl) e, c⟩
 | set S n => obtain ⟨ob, es, ep, t, e, c⟩ := x; exact ⟨ob, es, ep, t, k _ _ (.inl rfl) e, c⟩
 | ins C dx fs =>
  obtain ⟨d, z, ne, e, mA, ⟨od, es, ep, e2, c⟩, r⟩ := x
  exact ⟨ho _ d, z, ne, k _ _ (.inl rfl) e, mA, ⟨od, es, ep, k _ _ (.inr d) e2, c⟩, r⟩
 | own y => obtain ⟨ob, e⟩ := x; exact ⟨ob, k _ _ (.inl rfl) e⟩
 | xd fs => obtain ⟨mA, ⟨od, es, ep, e, c⟩, r⟩ := x; exact ⟨mA, ⟨od, es, ep, k _ _ (.inl rfl) e, c⟩, r⟩
 | rng lo hi => obtain ⟨t, u, v, e⟩ := x; exact ⟨t, u, v, k _ _ (.inl rfl) e⟩
 | frz ob u ih => obtain ⟨e, q⟩ := x; exact ⟨k _ _ (.inl rfl) e, ih q⟩
 | tbl ps =>
  have e : h.get? a = some { cls := .none, data := .fields ps } := x
  show h'.get? a = some { cls := .none, data := .fields ps }
  exact k a _ (.inl rfl) e
 | met f y =>
  have e : h.get? a = some (W.methodObj (.ref f) (.ref y)) := x
  show h'.get? a = some (W.methodObj (.ref f) (.ref y))
  exact k a _ (.inl rfl) e
 | ext φ => obtain ⟨p, ⟨o, e⟩, st⟩ := x; exact ⟨st _ _ p fun o q => k _ _ (.inl rfl) q, ⟨o, k _ _ (.inl rfl) e⟩, st⟩
theorem HOk.lt (x : HOk P w H h) (e : H a = some o) : a < h.objs.size := (x a o e).lt
theorem HOk.fresh (x : HOk P w H h) (e : h.objs.size ≤ a) : H a = none := by
 cases q : H a with
 | none => rfl
 | some u => exact absurd (Nat.lt_of_lt_of_le (x.lt q) e) (Nat.lt_irrefl _)
theorem HOk.kept (x : HOk P w H h) (k : ∀ b u, h.get? b = some u → h'.get? b = some u) : HOk P w H h' := fun a o e =>
 (x a o e).stay (fun b u _ q => k b u q) (fun _ q => q) fun _ _ q => q
theorem HOk.laid (x : HOk P w H h) (k : ∀ b u, h.get? b = some u → h'.get? b = some u) (hp : h.objs.size ≤ a) (new : ObjOk P w (upd H a o) h' a o) : HOk P w (upd H a o) h' := fun b u e => by
 have hn := x.fresh hp
 by_cases hb : b = a
 ·subst hb; rw [upd_same] at e; cases e; exact new
 ·rw [upd_ne hb] at e
  exact (x b u e).stay (fun c v _ q => k c v q) (fun c q => by rw [upd_ne (ne_of_none q hn)]; exact q) fun c xs q => by rw [upd_ne (ne_of_none q hn)]; exact q
end
def Rd (H : Hp) (a : Addr) (u : HO) : Prop := H a = some u ∨ ∃ o, H a = some (.frz o u)
theorem Rd.of {H : Hp} {a : Addr} {u : HO} (h : H a = some u) : Rd H a u := .inl h
theorem Rd.ok {P : Program} {w : World} {H : Hp} {h : Heap} {a : Addr} {u : HO} (r : Rd H a u) (x : HOk P w H h) : ObjOk P w H h a u := by
 rcases r with r | ⟨o, r⟩
 ·exact x a u r
 ·obtain ⟨_, q⟩ := x a _ r
  exact q
def Mut : Option HO → Prop
 | some (.lst _) => True
 | some (.dK _) => True
 | some (.dT _) => True
 | some (.set _ _) => True
 | some (.ins _ _ _) => True
 | some (.ext _) => True
 | _ => False
section
variable {P : Program} {w : World} {H : Hp} {h h' : Heap} {x e : Addr} {o' : HO}
theorem HOk.write (ok : HOk P w H h) (mu : Mut (H x)) (he : e = x ∨ H e = some (.own x)) (k : ∀ b u, b ≠ e → h.get? b = some u → h'.get? b = some u) (heo : ∃ u, h'.get? e = some u)
  (new : ObjOk P w (upd H x o') h' x o') : HOk P w (upd H x o') h' := fun b u q => by
 have nown : ∀ c y, H c = some (.own y) → c ≠ x := fun c y r z => by subst z; rw [r] at mu; exact mu
 have ntup : ∀ c xs, H c = some (.tup xs) → c ≠ x := fun c xs r z => by subst z; rw [r] at mu; exact mu
 by_cases hb : b = x
 ·subst hb; rw [upd_same] at q; cases q; exact new
 ·rw [upd_ne hb] at q
  by_cases hbe : b = e
  ·have q' : H b = some (.own x) := by
    rcases he with z | z
    ·exact absurd (hbe.trans z) hb
    ·rw [hbe]; exact z
   rw [q] at q'; cases q'
   obtain ⟨v, hv⟩ := heo
   exact ⟨v, by rw [hbe]; exact hv⟩
  ·refine (ok b u q).stay (fun c v hc r => k c v ?_ r) (fun c r => by rw [upd_ne (nown c b r)]; exact r) fun c xs r => by rw [upd_ne (ntup c xs r)]; exact r
   rcases hc with rfl | hc
   ·exact hbe
   ·rintro rfl
    rcases he with z | z
    ·exact nown c b hc z
    ·rw [hc] at z; cases z; exact hb rfl
end
structure Un (fs ex : List Addr) (H H' : Hp) (h h' : Heap) : Prop where
 keep : ∀ b o, h.get? b = some o → H b = none → b ∉ fs → b ∉ ex → h'.get? b = some o
 slot : ∀ b o, h.get? b = some o → H b = none → b ∈ fs → b ∉ ex → ∃ sl, h'.get? b = some { o with slots := sl }
 free : ∀ b o, h.get? b = some o → H b = none → b ∉ ex → H' b = none
 there : ∀ b o, h.get? b = some o → b ∉ ex → ∃ o', h'.get? b = some o'
 tups : ∀ b xs, H b = some (.tup xs) → H' b = some (.tup xs)
 frzs : ∀ b o u, H b = some (.frz o u) → H' b = some (.frz o u)
 tbls : ∀ b ps, H b = some (.tbl ps) → ∃ more, H' b = some (.tbl (ps ++ more))
section
variable {fs fs' ex ex' : List Addr} {H H1 H2 : Hp} {h h1 h2 h' : Heap} {a x e : Addr} {o : HO}
theorem Un.any (u : Un fs ex H H1 h h1) {b : Addr} {ob : Obj} (q : h.get? b = some ob) (n : H b = none) (hx : b ∉ ex) : ∃ sl, h1.get? b = some { ob with slots := sl } := by
 by_cases hb : b ∈ fs
 ·exact u.slot b ob q n hb hx
 ·exact ⟨ob.slots, u.keep b ob q n hb hx⟩
theorem Un.trans (a : Un fs ex H H1 h h1) (b : Un fs ex H1 H2 h1 h2) : Un fs ex H H2 h h2 where
 keep := fun c ob q n hc hx => b.keep c ob (a.keep c ob q n hc hx) (a.free c ob q n hx) hc hx
 slot := fun c ob q n hc hx => by
  obtain ⟨sl, e1⟩ := a.slot c ob q n hc hx
  obtain ⟨sl', e2⟩ := b.slot c _ e1 (a.free c ob q n hx) hc hx
  exact ⟨sl', e2⟩
 free := fun c ob q n hx => by
  obtain ⟨o', e1⟩ := a.there c ob q hx
  exact b.free c o' e1 (a.free c ob q n hx) hx
 there := fun c ob q hx => by
  obtain ⟨o', e1⟩ := a.there c ob q hx
  exact b.there c o' e1 hx
 tups := fun c xs q => b.tups c xs (a.tups c xs q)
 frzs := fun c ob xs q => b.frzs c ob xs (a.frzs c ob xs q)
 tbls := fun c ps q => by
  obtain ⟨m1, e1⟩ := a.tbls c ps q
  obtain ⟨m2, e2⟩ := b.tbls c _ e1
  exact ⟨m1 ++ m2, by rw [e2, Array.append_assoc]⟩
theorem Un.kept (k : ∀ b u, h.get? b = some u → h'.get? b = some u) : Un fs ex H H h h' :=
 ⟨fun b ob q _ _ _ => k b ob q, fun b ob q _ _ _ => ⟨ob.slots, k b ob q⟩, fun _ _ _ n _ => n, fun b ob q _ => ⟨ob, k b ob q⟩, fun _ _ q => q, fun _ _ _ q => q, fun _ ps q => ⟨#[], by rw [q]; simp⟩⟩
theorem Un.refl : Un fs ex H H h h := Un.kept fun _ _ q => q
theorem Un.laid (k : ∀ b u, h.get? b = some u → h'.get? b = some u) (hp : h.objs.size ≤ a) (hn : H a = none) : Un fs ex H (upd H a o) h h' where
 keep := fun b u q _ _ _ => k b u q
 slot := fun b u q _ _ _ => ⟨u.slots, k b u q⟩
 free := fun b u q n _ => by rw [upd_ne (Nat.ne_of_lt (Nat.lt_of_lt_of_le (Heap.lt_size q) hp))]; exact n
 there := fun b u q _ => ⟨u, k b u q⟩
 tups := fun b xs q => by rw [upd_ne (ne_of_none q hn)]; exact q
 frzs := fun b u xs q => by rw [upd_ne (ne_of_none q hn)]; exact q
 tbls := fun b ps q => ⟨#[], by rw [upd_ne (ne_of_none q hn), q]; simp⟩
theorem Un.write (mu : Mut (H x)) (he : e = x ∨ H e = some (.own x)) (k : ∀ b u, b ≠ e → h.get? b = some u → h'.get? b = some u) (heo : ∃ u, h'.get? e = some u) : Un fs ex H (upd H x o) h h' := by
 have hx : ∀ b, H b = none → b ≠ x := fun b n z => by subst z; rw [n] at mu; exact mu
 have hb : ∀ b, H b = none → b ≠ e := fun b n z => by
  subst z
  rcases he with r | r
  ·exact hx b n r
  ·rw [n] at r; cases r
 have hm : ∀ b u, H b = some u → ¬ Mut (some u) → b ≠ x := fun b u q nm z => by subst z; rw [q] at mu; exact nm mu
 refine ⟨fun b u q n _ _ => k b u (hb b n) q, fun b u q n _ _ => ⟨u.slots, k b u (hb b n) q⟩, fun b u q n _ => by rw [upd_ne (hx b n)]; exact n, fun b u q _ => ?_,
  fun b xs q => by rw [upd_ne (hm b _ q fun z => z)]; exact q, fun b u xs q => by rw [upd_ne (hm b _ q fun z => z)]; exact q, fun b ps q => ⟨#[], by rw [upd_ne (hm b _ q fun z => z), q]; simp⟩⟩
 by_cases hbe : b = e
 ·subst hbe; exact heo
 ·exact ⟨u, k b u hbe q⟩
theorem Un.mono (u : Un fs ex H H1 h h1) (hs : ∀ b ∈ fs, b ∈ fs') (hx : ∀ b ∈ ex, b ∈ ex') : Un fs' ex' H H1 h h1 :=
 ⟨fun b ob q n hb he => u.keep b ob q n (fun z => hb (hs b z)) fun z => he (hx b z), fun _ _ q n _ he => u.any q n fun z => he (hx _ z), fun b ob q n he => u.free b ob q n fun z => he (hx b z), fun b ob q he => u.there b ob q fun z => he (hx b z), u.tups, u.frzs, u.tbls⟩
end
def trk (h : Heap) (H : Hp) : List Addr := (List.range h.objs.size).filter fun a => (H a).isSome
def hidT (h : Heap) (H : Hp) : Heap := W.hideAll h (trk h H)
theorem hidT_size (h : Heap) (H : Hp) : (hidT h H).objs.size = h.objs.size := W.hideAll_size _ _
theorem hidT_get {h : Heap} {H : Hp} {b : Addr} {o : Obj} (e : h.get? b = some o) (n : H b = none) : (hidT h H).get? b = some o :=
 W.hideAll_get _ e fun hm => by
  have q : (H b).isSome = true := (List.mem_filter.mp hm).2
  rw [n] at q; simp at q
theorem of_hidT {h : Heap} {H : Hp} {b : Addr} {o : Obj} (e : (hidT h H).get? b = some o) : h.get? b = some o ∧ H b = none := by
 have e' : h.get? b = some o := W.of_hideAll (trk h H) e
 refine ⟨e', ?_⟩
 cases q : H b with
 | none => rfl
 | some x =>
  have hm : b ∈ trk h H := List.mem_filter.mpr ⟨List.mem_range.mpr (Heap.lt_size e'), by simp [q]⟩
  have z : (hidT h H).get? b = none := W.hideAll_none (trk h H) hm
  rw [z] at e; cases e
def allNews (g h : Heap) (L : Addr) : List (Addr × Obj) := (List.range h.objs.size).filterMap fun a => if a = L ∨ (g.get? a).isSome = true then none else (h.get? a).map fun o => (a, o)
def rest (g h : Heap) (L d : Addr) : List (Addr × Obj) := (allNews g h L).filter fun p => decide (p.1 ≠ d)
structure Mod (K : W.Frag) (mg : Str → Option Value) (base : Heap) : Prop where
 kin : K.In base
 glob : base.Ns mainGlobals mg
 blt : ∃ mb, base.Ns builtinsNs mb ∧ ∀ x : Str, x ≠ "__name__" → mb x = bootBuiltins x
 nolimit : base.NoLimit
structure Cx where
 prog : Program
 w : World
 K : W.Frag
 mg : Str → Option Value
 base : Heap
 A : Around
 N : List Str
 s₀ : Shared
 H₀ : Hp
 env : Env
 outer : List Env
 stack : List Env
 ex : List Addr
 fn : Str → Bool
 calm : Bool
 pn : List (Addr × Obj)
 xe : Value → Shared → Prop
def frs (l : List Env) : List Addr := l.filterMap (·.frame)
abbrev Cx.fs (X : Cx) : List Addr := frs X.outer
def Vis (sc : Scope) (x : Str) : Prop := sc.names.lookup x = some .local ∨ sc.names.lookup x = some .cell ∨ sc.names.lookup x = some .free
def Loc (sc : Scope) (x : Str) : Prop := sc.names.lookup x = some .local ∨ sc.names.lookup x = some .cell
def Look (env : Env) (h : Heap) (m : Str → Option Value) (x : Str) (u : Value) : Prop :=
 (env.kindOf x = some .local ∧ m x = some u) ∨ ((env.kindOf x = some .cell ∨ env.kindOf x = some .free) ∧ ∃ c, env.cells.lookup x = some c ∧ h.IsCell c (some u))
structure Cx.Ok (X : Cx) : Prop where
 mod : Mod X.K X.mg X.base
 kind : X.env.scope.kind = .function
 glob : X.env.globals = mainGlobals
 blt : X.env.builtins = builtinsNs
 above : X.s₀.heap.objs.size ≤ X.env.locals
 inj : ∀ x y c, X.env.cells.lookup x = some c → X.env.cells.lookup y = some c → x = y
 has : ∀ x, (X.env.kindOf x = some .cell ∨ X.env.kindOf x = some .free) → ∃ c, X.env.cells.lookup x = some c
 cab : ∀ x c, X.fn x = true → X.env.cells.lookup x = some c → X.s₀.heap.objs.size ≤ c
 hd : X.calm = true → X.A.handled = none
 frames : X.A.frames = some X.stack
 stk : X.stack = X.outer ∨ (X.stack = X.env :: X.outer ∧ X.env.frame = some X.env.locals)
 exf : ∀ b ∈ X.ex, b ≠ X.env.locals ∧ ∀ x c, X.env.cells.lookup x = some c → c ≠ b
 bs : ∀ b o, X.base.get? b = some o → X.s₀.heap.get? b = some o ∧ X.H₀ b = none
 bsz : X.base.objs.size ≤ X.s₀.heap.objs.size
 noex : ∀ b o, X.base.get? b = some o → b ∉ X.ex
 exfs : ∀ b ∈ X.ex, b ∉ X.fs
 funs : X.s₀.heap.FunFrames X.base X.outer
 frf : ∀ b ∈ X.fs, X.H₀ b = none
structure Inv (X : Cx) (pins : List (Addr × Obj)) (σ : List (Option V)) (H : Hp) (s : Shared) : Prop where
 ok : X.Ok
 os : s.os = X.s₀.os
 bare : AllBare s.gens
 base : Un X.fs X.ex X.H₀ H X.s₀.heap s.heap
 loc : ∃ m, s.heap.Ns X.env.locals m ∧ ∀ (i : Nat) (x : Str) (v : V), X.N[i]? = some x → σ[i]? = some (some v) → Vis X.env.scope x → ∃ u, RelV v u ∧ Look X.env s.heap m x u
 cell : ∀ x c, X.env.cells.lookup x = some c → ∃ v, s.heap.IsCell c v
 free : H X.env.locals = none
 freeC : ∀ x c, X.env.cells.lookup x = some c → H c = none
 pin : ∀ p ∈ X.pn ++ pins, s.heap.get? p.1 = some p.2 ∧ H p.1 = none ∧ p.1 ≠ X.env.locals ∧ p.1 ∉ X.fs ∧ ∀ v, p.2.data ≠ .cell v
 hok : HOk X.prog X.w H s.heap
 len : σ.length = X.N.length
section
variable {X : Cx} {pins : List (Addr × Obj)} {σ : List (Option V)} {H H' : Hp} {s : Shared} {h' : Heap}
theorem Cx.Ok.nofr (ok : X.Ok) {b : Addr} {o : Obj} (e : X.base.get? b = some o) : b ∉ X.fs := fun hb => by
 have := (ok.funs.mem hb).1
 rw [e] at this; cases this
theorem Inv.bs (I : Inv X pins σ H s) : ∀ b o, X.base.get? b = some o → s.heap.get? b = some o ∧ H b = none := fun b o e =>
 ⟨I.base.keep b o (I.ok.bs b o e).1 (I.ok.bs b o e).2 (I.ok.nofr e) (I.ok.noex b o e), I.base.free b o (I.ok.bs b o e).1 (I.ok.bs b o e).2 (I.ok.noex b o e)⟩
theorem Inv.bk (I : Inv X pins σ H s) : ∀ b o, X.base.get? b = some o → s.heap.get? b = some o := fun b o e => (I.bs b o e).1
theorem Inv.mod (I : Inv X pins σ H s) : Mod X.K X.mg X.base := I.ok.mod
theorem Inv.kIn (I : Inv X pins σ H s) : X.K.In s.heap := I.ok.mod.kin.keeps I.bk
theorem Inv.nolimit (I : Inv X pins σ H s) : s.heap.NoLimit := I.ok.mod.nolimit.keeps I.bk
theorem Inv.fr (I : Inv X pins σ H s) : ∃ m, Fr X.base X.env.locals s.heap m :=
 let ⟨m, hn, _⟩ := I.loc
 ⟨m, hn, I.bk, Nat.le_trans I.ok.bsz I.ok.above⟩
theorem Inv.lt (I : Inv X pins σ H s) : X.env.locals < s.heap.objs.size := let ⟨_, hn, _⟩ := I.loc; hn.lt
theorem Inv.sz (I : Inv X pins σ H s) : X.s₀.heap.objs.size ≤ s.heap.objs.size := Nat.le_trans I.ok.above (Nat.le_of_lt I.lt)
theorem Inv.cne (I : Inv X pins σ H s) : ∀ x c, X.env.cells.lookup x = some c → c ≠ X.env.locals := fun x c e z => by
 obtain ⟨v, o, ho, hd⟩ := I.cell x c e
 obtain ⟨m, ⟨o', es, ep, ho', hd', _⟩, _⟩ := I.loc
 rw [z, ho'] at ho; cases ho; rw [hd'] at hd; cases hd
theorem Inv.funs (I : Inv X pins σ H s) : s.heap.FunFrames X.base X.outer := by
 have all : ∀ (l : List Env), (∀ b ∈ frs l, b ∈ X.fs) → X.s₀.heap.FunFrames X.base l → s.heap.FunFrames X.base l := by
  intro l
  induction l with
  | nil => intro _ _; trivial
  | cons env r ih =>
   intro hs hl
   obtain ⟨hk, ⟨L, o, hf, hn, ho, hd⟩, hr⟩ := hl
   have hL : L ∈ X.fs := hs L (by unfold frs; rw [List.filterMap_cons, hf]; exact List.mem_cons_self)
   obtain ⟨sl, e⟩ := I.base.slot L o ho (I.ok.frf L hL) hL fun z => I.ok.exfs L z hL
   exact ⟨hk, ⟨L, _, hf, hn, e, hd⟩, ih (fun b hb => hs b (by unfold frs; rw [List.filterMap_cons, hf]; exact List.mem_cons_of_mem _ hb)) hr⟩
 exact all X.outer (fun _ hb => hb) I.ok.funs
theorem Inv.stack (I : Inv X pins σ H s) : s.heap.FunFrames X.base X.stack := by
 rcases I.ok.stk with e | ⟨e, hf⟩
 ·rw [e]; exact I.funs
 ·rw [e]
  obtain ⟨m, hn, _⟩ := I.loc
  refine .cons (by rw [I.ok.kind]; decide) hf hn ?_ I.funs
  exact Heap.get?_none_of_le (Nat.le_trans I.ok.bsz I.ok.above)
theorem Inv.stkSub (I : Inv X pins σ H s) : ∀ b ∈ frs X.stack, b ∈ X.env.locals :: X.fs := fun b hb => by
 rcases I.ok.stk with e | ⟨e, hf⟩
 ·rw [e] at hb; exact List.mem_cons_of_mem _ hb
 ·rw [e] at hb
  unfold frs at hb
  rw [List.filterMap_cons, hf] at hb
  exact hb
theorem Inv.stkFree (I : Inv X pins σ H s) : ∀ b ∈ frs X.stack, H b = none := fun b hb => by
 rcases List.mem_cons.mp (I.stkSub b hb) with e | hb
 ·rw [e]; exact I.free
 ·obtain ⟨_, o, ho, _⟩ := I.ok.funs.mem hb
  exact I.base.free b o ho (I.ok.frf b hb) fun z => I.ok.exfs b z hb
theorem Inv.step {g' : Array GenState} {t' : Nat} {d' : Drawn} {ch : List Addr} (I : Inv X pins σ H s)
  (hch : ∀ b ∈ ch, (b ∈ X.ex ∨ X.s₀.heap.objs.size ≤ b) ∧ b ≠ X.env.locals ∧ (∀ x c, X.env.cells.lookup x = some c → c ≠ b) ∧ ∀ p ∈ X.pn ++ pins, p.1 ≠ b)
  (keep : ∀ b o, b ≠ X.env.locals → b ∉ X.fs → b ∉ ch → s.heap.get? b = some o → H b = none → h'.get? b = some o)
  (slot : ∀ b o, b ≠ X.env.locals → b ∈ X.fs → b ∉ ch → s.heap.get? b = some o → H b = none → ∃ sl, h'.get? b = some { o with slots := sl }) (free : ∀ b o, b ∉ ch → s.heap.get? b = some o → H b = none → H' b = none)
  (there : ∀ b o, b ∉ ch → s.heap.get? b = some o → ∃ o', h'.get? b = some o')
  (tups : ∀ b xs, H b = some (.tup xs) → H' b = some (.tup xs)) (frzs : ∀ b o u, H b = some (.frz o u) → H' b = some (.frz o u)) (tbls : ∀ b ps, H b = some (.tbl ps) → ∃ more, H' b = some (.tbl (ps ++ more)))
  (ns : ∀ m, s.heap.Ns X.env.locals m → h'.Ns X.env.locals m) (hok : HOk X.prog X.w H' h') (hg : AllBare g') :
  Inv X pins σ H' { s with heap := h', gens := g', drawn := d', toks := t' } := by
 have neL : ∀ b o, X.s₀.heap.get? b = some o → b ≠ X.env.locals := fun b o e => Nat.ne_of_lt (Nat.lt_of_lt_of_le (Heap.lt_size e) I.ok.above)
 have neC : ∀ b o, X.s₀.heap.get? b = some o → b ∉ X.ex → b ∉ ch := fun b o e hx hb => by
  rcases (hch b hb).1 with z | z
  ·exact hx z
  ·exact absurd (Nat.lt_of_lt_of_le (Heap.lt_size e) z) (Nat.lt_irrefl _)
 have cellK : ∀ x c, X.env.cells.lookup x = some c → ∀ v, s.heap.IsCell c v → h'.IsCell c v := fun x c e v ⟨o, ho, hd⟩ => by
  have nch : c ∉ ch := fun z => (hch c z).2.2.1 x c e rfl
  by_cases hc : c ∈ X.fs
  ·obtain ⟨sl, q⟩ := slot c o (I.cne x c e) hc nch ho (I.freeC x c e)
   exact ⟨_, q, hd⟩
  ·exact ⟨o, keep c o (I.cne x c e) hc nch ho (I.freeC x c e), hd⟩
 refine ⟨I.ok, I.os, hg, ⟨fun b o e n hb hx => ?_, fun b o e n hb hx => ?_, fun b o e n hx => ?_, fun b o e hx => ?_, fun b xs e => tups b xs (I.base.tups b xs e), fun b o xs e => frzs b o xs (I.base.frzs b o xs e), fun b ps e => ?_⟩, ?_, fun x c e => ?_, ?_, fun x c e => ?_, fun p hp => ?_, hok, I.len⟩
 ·exact keep b o (neL b o e) hb (neC b o e hx) (I.base.keep b o e n hb hx) (I.base.free b o e n hx)
 ·obtain ⟨sl, e1⟩ := I.base.slot b o e n hb hx
  obtain ⟨sl', e2⟩ := slot b _ (neL b o e) hb (neC b o e hx) e1 (I.base.free b o e n hx)
  exact ⟨sl', e2⟩
 ·obtain ⟨o', e1⟩ := I.base.there b o e hx
  exact free b o' (neC b o e hx) e1 (I.base.free b o e n hx)
 ·obtain ⟨o', e1⟩ := I.base.there b o e hx
  exact there b o' (neC b o e hx) e1
 ·obtain ⟨m1, e1⟩ := I.base.tbls b ps e
  obtain ⟨m2, e2⟩ := tbls b _ e1
  exact ⟨m1 ++ m2, by rw [e2, Array.append_assoc]⟩
 ·obtain ⟨m, hn, hl⟩ := I.loc
  refine ⟨m, ns m hn, fun i x v e1 e2 e3 => ?_⟩
  obtain ⟨u, r, l⟩ := hl i x v e1 e2 e3
  refine ⟨u, r, ?_⟩
  rcases l with l | ⟨k, c, e, z⟩
  ·exact .inl l
  ·exact .inr ⟨k, c, e, cellK x c e _ z⟩
 ·obtain ⟨v, z⟩ := I.cell x c e
  exact ⟨v, cellK x c e v z⟩
 ·obtain ⟨m, ⟨o, _, _, ho, _⟩, _⟩ := I.loc
  exact free _ o (fun z => (hch _ z).2.1 rfl) ho I.free
 ·obtain ⟨v, o, ho, hd⟩ := I.cell x c e
  exact free c o (fun z => (hch c z).2.2.1 x c e rfl) ho (I.freeC x c e)
 ·obtain ⟨e, n, ne, nf, d⟩ := I.pin p hp
  have nch : p.1 ∉ ch := fun z => (hch p.1 z).2.2.2 p hp rfl
  exact ⟨keep p.1 p.2 ne nf nch e n, free p.1 p.2 nch e n, ne, nf, d⟩
theorem Inv.un {t' : Nat} (I : Inv X pins σ H s) (u : Un X.fs [] H H' s.heap h') (hok : HOk X.prog X.w H' h') : Inv X pins σ H' { s with heap := h', toks := t' } := by
 obtain ⟨m, ⟨o, es, ep, ho, r⟩, _⟩ := id I.loc
 obtain ⟨sl, hL⟩ := u.any ho I.free (by simp)
 exact I.step (g' := s.gens) (d' := s.drawn) (ch := []) (fun _ z => nomatch z) (fun b o _ hb _ e n => u.keep b o e n hb (by simp)) (fun b o _ hb _ e n => u.slot b o e n hb (by simp)) (fun b o _ e n => u.free b o e n (by simp)) (fun b o _ e => u.there b o e (by simp)) u.tups u.frzs u.tbls (fun m' hm => by
  obtain ⟨o', es', ep', ho', r'⟩ := hm
  rw [ho] at ho'; cases ho'
  exact ⟨_, es', ep', hL, r'⟩) hok I.bare
theorem Inv.call {g' : Array GenState} {t' : Nat} {d' : Drawn} {ch : List Addr} (I : Inv X pins σ H s) (u : Un (frs X.stack) ch H H' s.heap h') (hok : HOk X.prog X.w H' h') (hg : AllBare g')
  (hch : ∀ b ∈ ch, (b ∈ X.ex ∨ X.s₀.heap.objs.size ≤ b) ∧ b ≠ X.env.locals ∧ (∀ x c, X.env.cells.lookup x = some c → c ≠ b) ∧ ∀ p ∈ X.pn ++ pins, p.1 ≠ b) :
  Inv X pins σ H' { s with heap := h', gens := g', drawn := d', toks := t' } := by
 obtain ⟨m, ⟨o, es, ep, ho, r⟩, _⟩ := id I.loc
 obtain ⟨sl, hL⟩ := u.any ho I.free fun z => (hch _ z).2.1 rfl
 exact I.step (ch := ch) hch (fun b o hL hb hc e n => u.keep b o e n (fun z => (List.mem_cons.mp (I.stkSub b z)).elim hL hb) hc) (fun b o _ _ hc e n => u.any e n hc) (fun b o hc e n => u.free b o e n hc) (fun b o hc e => u.there b o e hc) u.tups u.frzs u.tbls (fun m' hm => by
  obtain ⟨o', es', ep', ho', r'⟩ := hm
  rw [ho] at ho'; cases ho'
  exact ⟨_, es', ep', hL, r'⟩) hok hg
theorem Inv.tok (I : Inv X pins σ H s) (t : Nat) : Inv X pins σ H { s with toks := t } := I.un (h' := s.heap) (t' := t) Un.refl I.hok
theorem Inv.kept {t' : Nat} (I : Inv X pins σ H s) (k : ∀ b u, s.heap.get? b = some u → h'.get? b = some u) : Inv X pins σ H { s with heap := h', toks := t' } := I.un (Un.kept k) (I.hok.kept k)
theorem Inv.laid {a : Addr} {o : HO} {t' : Nat} (I : Inv X pins σ H s) (k : ∀ b u, s.heap.get? b = some u → h'.get? b = some u) (hp : s.heap.objs.size ≤ a) (new : ObjOk X.prog X.w (upd H a o) h' a o) :
  Inv X pins σ (upd H a o) { s with heap := h', toks := t' } := I.un (Un.laid k hp (I.hok.fresh hp)) (I.hok.laid k hp new)
theorem Inv.write {x e : Addr} {o : HO} {t' : Nat} (I : Inv X pins σ H s) (mu : Mut (H x)) (he : e = x ∨ H e = some (.own x)) (k : ∀ b u, b ≠ e → s.heap.get? b = some u → h'.get? b = some u) (heo : ∃ u, h'.get? e = some u)
  (new : ObjOk X.prog X.w (upd H x o) h' x o) : Inv X pins σ (upd H x o) { s with heap := h', toks := t' } := I.un (Un.write mu he k heo) (I.hok.write mu he k heo new)
theorem Inv.weak {σ' : List (Option V)} (I : Inv X pins σ H s) (hl : σ'.length = σ.length) (w : ∀ (i : Nat) v, σ'[i]? = some (some v) → σ[i]? = some (some v)) : Inv X pins σ' H s :=
 ⟨I.ok, I.os, I.bare, I.base, let ⟨m, hn, hl'⟩ := I.loc; ⟨m, hn, fun i x v e1 e2 e3 => hl' i x v e1 (w i v e2) e3⟩, I.cell, I.free, I.freeC, I.pin, I.hok, hl.trans I.len⟩
theorem nodup_ix {N : List Str} (hN : N.Nodup) {i j : Nat} {x : Str} (a : N[i]? = some x) (b : N[j]? = some x) : i = j := by
 obtain ⟨h1, e1⟩ := List.getElem?_eq_some_iff.mp a
 obtain ⟨h2, e2⟩ := List.getElem?_eq_some_iff.mp b
 exact (List.getElem_inj hN).mp (e1.trans e2.symm)
theorem store_ok2 {M : Model} {A : Around} {E : Value → Shared → Prop} {i : Nat} {x : Str} {v : V} {u : Value} {Q : Unit → Shared → Prop} (I : Inv X pins σ H s) (hN : X.N.Nodup) (hi : X.N[i]? = some x) (hx : Loc X.env.scope x) (r : RelV v u)
  (h : ∀ s', Inv X pins (σ.set i (some v)) H s' → (∃ a, Heap.SameBut a s.heap s'.heap ∧ (a = X.env.locals ∨ X.env.cells.lookup x = some a)) → Q () s') (hf : X.fn x = true ∨ X.env.scope.names.lookup x = some .local := by first | exact .inl rfl | exact .inr rfl | assumption) : wpAny M A (storeName X.env x u) Q E s := by
 obtain ⟨m, hn, hl⟩ := id I.loc
 have hcls : (X.env.scope.kind == .class || (X.env.scope.kind == .module && X.env.locals != X.env.globals)) = false := by rw [I.ok.kind]; rfl
 have hiσ : i < σ.length := by rw [I.len]; exact (List.getElem?_eq_some_iff.mp hi).1
 have cne := I.cne
 have tracked : ∀ {a : Addr} {h' : Heap}, (∃ o, s.heap.get? a = some o ∧ H a = none) → Heap.SameBut a s.heap h' → HOk X.prog X.w H h' := fun {a h'} ha hs b ob e => by
  obtain ⟨_, _, hfree⟩ := ha
  refine (I.hok b ob e).stay (fun c w' hc q => (hs.2 c ?_).trans q) (fun _ q => q) fun _ _ q => q
  rintro rfl
  rcases hc with rfl | hc
  ·rw [hfree] at e; cases e
  ·rw [hfree] at hc; cases hc
 rcases hx with hk | hk
 ·refine wpAny_storeName_local hk hn (fun h' hn' hs => ?_) hcls
  obtain ⟨oL, _, _, hoL, _⟩ := id hn
  refine h _ ⟨I.ok, I.os, I.bare, ⟨fun b o e n hb hx => ?_, fun b o e n hb hx => ?_, I.base.free, fun b o e hx => ?_, I.base.tups, I.base.frzs, I.base.tbls⟩, ⟨_, hn', fun j y v' e1 e2 e3 => ?_⟩, fun y c e => ?_, I.free, I.freeC, fun p hp => ?_, tracked ⟨oL, hoL, I.free⟩ hs, by simpa using I.len⟩ ⟨_, hs, .inl rfl⟩
  ·exact (hs.2 b (Nat.ne_of_lt (Nat.lt_of_lt_of_le (Heap.lt_size e) I.ok.above))).trans (I.base.keep b o e n hb hx)
  ·obtain ⟨sl, e1⟩ := I.base.slot b o e n hb hx
   exact ⟨sl, (hs.2 b (Nat.ne_of_lt (Nat.lt_of_lt_of_le (Heap.lt_size e) I.ok.above))).trans e1⟩
  ·obtain ⟨o', e1⟩ := I.base.there b o e hx
   exact ⟨o', (hs.2 b (Nat.ne_of_lt (Nat.lt_of_lt_of_le (Heap.lt_size e) I.ok.above))).trans e1⟩
  ·by_cases hj : j = i
   ·subst hj
    rw [hi] at e1; cases e1
    rw [List.getElem?_set_self hiσ] at e2
    cases e2
    exact ⟨u, r, .inl ⟨hk, by simp⟩⟩
   ·rw [List.getElem?_set_ne (Ne.symm hj)] at e2
    obtain ⟨u', r', q⟩ := hl j y v' e1 e2 e3
    refine ⟨u', r', ?_⟩
    rcases q with ⟨k, e⟩ | ⟨k, c, e, z⟩
    ·refine .inl ⟨k, ?_⟩
     have : y ≠ x := fun e => hj (nodup_ix hN e1 (e ▸ hi))
     simp [this, e]
    ·exact .inr ⟨k, c, e, z.sameBut hs (cne y c e)⟩
  ·obtain ⟨w', z⟩ := I.cell y c e
   exact ⟨w', z.sameBut hs (cne y c e)⟩
  ·obtain ⟨e, n, ne, nf, d⟩ := I.pin p hp
   exact ⟨(hs.2 p.1 ne).trans e, n, ne, nf, d⟩
 ·have hfn : X.fn x = true := by
   rcases hf with z | z
   ·exact z
   ·rw [z] at hk; cases hk
  obtain ⟨c, hc⟩ := I.ok.has x (.inl hk)
  obtain ⟨w', z⟩ := I.cell x c hc
  refine wpAny_storeName_cell I.ok.kind hk hc z (fun h' hc' hs => ?_)
  obtain ⟨oc, hoc, hocd⟩ := id z
  refine h { s with heap := h' } ⟨I.ok, I.os, I.bare, ⟨fun b o e n hb hx => ?_, fun b o e n hb hx => ?_, I.base.free, fun b o e hx => ?_, I.base.tups, I.base.frzs, I.base.tbls⟩, ⟨m, hn.sameBut hs (Ne.symm (cne x c hc)), fun j y v' e1 e2 e3 => ?_⟩, fun y c' e => ?_, I.free, I.freeC, fun p hp => ?_, tracked ⟨oc, hoc, I.freeC x c hc⟩ hs, by simpa using I.len⟩ ⟨c, hs, .inr hc⟩
  ·exact (hs.2 b (Nat.ne_of_lt (Nat.lt_of_lt_of_le (Heap.lt_size e) (I.ok.cab x c hfn hc)))).trans (I.base.keep b o e n hb hx)
  ·obtain ⟨sl, e1⟩ := I.base.slot b o e n hb hx
   exact ⟨sl, (hs.2 b (Nat.ne_of_lt (Nat.lt_of_lt_of_le (Heap.lt_size e) (I.ok.cab x c hfn hc)))).trans e1⟩
  ·obtain ⟨o', e1⟩ := I.base.there b o e hx
   exact ⟨o', (hs.2 b (Nat.ne_of_lt (Nat.lt_of_lt_of_le (Heap.lt_size e) (I.ok.cab x c hfn hc)))).trans e1⟩
  ·by_cases hj : j = i
   ·subst hj
    rw [hi] at e1; cases e1
    rw [List.getElem?_set_self hiσ] at e2
    cases e2
    exact ⟨u, r, .inr ⟨.inl hk, c, hc, hc'⟩⟩
   ·rw [List.getElem?_set_ne (Ne.symm hj)] at e2
    obtain ⟨u', r', q⟩ := hl j y v' e1 e2 e3
    refine ⟨u', r', ?_⟩
    rcases q with q | ⟨k, c', e, z'⟩
    ·exact .inl q
    ·refine .inr ⟨k, c', e, z'.sameBut hs ?_⟩
     rintro rfl
     exact hj (nodup_ix hN e1 (I.ok.inj _ _ _ e hc ▸ hi))
  ·by_cases hcc : c' = c
   ·subst hcc; exact ⟨_, hc'⟩
   ·obtain ⟨w2, z2⟩ := I.cell y c' e
    exact ⟨w2, z2.sameBut hs hcc⟩
  ·obtain ⟨e, n, ne, nf, d⟩ := I.pin p hp
   refine ⟨(hs.2 p.1 ?_).trans e, n, ne, nf, d⟩
   intro q
   rw [q, hoc] at e
   have q' : oc = p.2 := Option.some.inj e
   exact d w' (by rw [← q']; exact hocd)
theorem store_ok {M : Model} {A : Around} {E : Value → Shared → Prop} {i : Nat} {x : Str} {v : V} {u : Value} {Q : Unit → Shared → Prop} (I : Inv X pins σ H s) (hN : X.N.Nodup) (hi : X.N[i]? = some x) (hx : Loc X.env.scope x) (r : RelV v u)
  (h : ∀ s', Inv X pins (σ.set i (some v)) H s' → Q () s') (hf : X.fn x = true ∨ X.env.scope.names.lookup x = some .local := by first | exact .inl rfl | exact .inr rfl | assumption) : wpAny M A (storeName X.env x u) Q E s :=
 store_ok2 I hN hi hx r (fun s' I' _ => h s' I') hf
theorem Inv.call' {s' : Shared} {ch : List Addr} (I : Inv X pins σ H s) (ho : s'.os = s.os) (u : Un (frs X.stack) ch H H' s.heap s'.heap) (hok : HOk X.prog X.w H' s'.heap) (hg : AllBare s'.gens)
  (hch : ∀ b ∈ ch, (b ∈ X.ex ∨ X.s₀.heap.objs.size ≤ b) ∧ b ≠ X.env.locals ∧ (∀ x c, X.env.cells.lookup x = some c → c ≠ b) ∧ ∀ p ∈ X.pn ++ pins, p.1 ≠ b) : Inv X pins σ H' s' := by
 obtain ⟨h', g', d', t', o'⟩ := s'
 have e : o' = s.os := ho
 subst e
 exact I.call (g' := g') (t' := t') (d' := d') u hok hg hch
end
abbrev XK := Value → Option Addr → Hp → Prop
abbrev St := List (Option V)
abbrev VK := V → Hp → Prop
abbrev TE := St → Hp → VK → Prop
abbrev TT := St → Hp → (Bool → Hp → Prop) → Prop
abbrev TA := St → Hp → (List V → Hp → Prop) → Prop
structure Ends where
 nx : St → Hp → Prop
 rt : VK
 bk : St → Hp → Prop := fun _ _ => False
 ct : St → Hp → Prop := fun _ _ => False
abbrev TS := Ends → St → Hp → Prop
def EP (X : Cx) (pins : List (Addr × Obj)) (σ : St) (Q : VK) (u : Value) (s' : Shared) : Prop := ∃ v H', Inv X pins σ H' s' ∧ RelV v u ∧ Q v H'
def TP (X : Cx) (pins : List (Addr × Obj)) (σ : St) (Q : Bool → Hp → Prop) (b : Bool) (s' : Shared) : Prop := ∃ H', Inv X pins σ H' s' ∧ Q b H'
def AP (X : Cx) (pins : List (Addr × Obj)) (σ : St) (Q : List V → Hp → Prop) (us : List Value) (s' : Shared) : Prop := ∃ vs H', Inv X pins σ H' s' ∧ Vals vs us ∧ Q vs H'
def SP (X : Cx) (pins : List (Addr × Obj)) (D : Ends) (f : Flow) (s' : Shared) : Prop :=
 match f with
 | .next => ∃ σ' H', Inv X pins σ' H' s' ∧ D.nx σ' H'
 | .brk => ∃ σ' H', Inv X pins σ' H' s' ∧ D.bk σ' H'
 | .cont => ∃ σ' H', Inv X pins σ' H' s' ∧ D.ct σ' H'
 | .ret u => ∃ v σ' H', Inv X pins σ' H' s' ∧ RelV v u ∧ D.rt v H'
def PE (X : Cx) (e : Expr) (t : TE) : Prop :=
 ∀ (pins : List (Addr × Obj)) (s : Shared) (σ : St) (H : Hp) (Q : VK), Inv X pins σ H s → t σ H Q → wpAny (model X.prog X.w) X.A (eval e X.env) (EP X pins σ Q) X.xe s
def PT (X : Cx) (e : Expr) (t : TT) : Prop :=
 ∀ (pins : List (Addr × Obj)) (s : Shared) (σ : St) (H : Hp) (Q : Bool → Hp → Prop), Inv X pins σ H s → t σ H Q → wpAny (model X.prog X.w) X.A (isTrue e X.env (eval e X.env)) (TP X pins σ Q) X.xe s
def PW (X : Cx) (e : Expr) (t : TT) : Prop :=
 ∀ (whole : Sem Value) (pins : List (Addr × Obj)) (s : Shared) (σ : St) (H : Hp) (Q : Bool → Hp → Prop), Inv X pins σ H s → t σ H Q → wpAny (model X.prog X.w) X.A (isTrue e X.env whole) (TP X pins σ Q) X.xe s
theorem PW.pt {X : Cx} {e : Expr} {t : TT} (h : PW X e t) : PT X e t := h _
def PA (X : Cx) (es : List Expr) (t : TA) : Prop :=
 ∀ (pos : Pos) (pins : List (Addr × Obj)) (s : Shared) (σ : St) (H : Hp) (Q : List V → Hp → Prop), Inv X pins σ H s → t σ H Q → wpAny (model X.prog X.w) X.A (spliced (backTo pos (starEach es X.env))) (AP X pins σ Q) X.xe s
def PS (X : Cx) (st : Stmt) (t : TS) : Prop :=
 ∀ (pins : List (Addr × Obj)) (s : Shared) (σ : St) (H : Hp) (D : Ends), Inv X pins σ H s → t D σ H → wpAny (model X.prog X.w) X.A (exec st X.env) (SP X pins D) X.xe s
def PSs (X : Cx) (st : List Stmt) (t : TS) : Prop :=
 ∀ (pins : List (Addr × Obj)) (s : Shared) (σ : St) (H : Hp) (D : Ends), Inv X pins σ H s → t D σ H → wpAny (model X.prog X.w) X.A (execs st X.env) (SP X pins D) X.xe s
theorem thn {α : Type} {t : Sem α} {Q Q' : α → Shared → Prop} {M : Model} {A : Around} {E : Value → Shared → Prop} {s : Shared} (h : wpAny M A t Q E s) (hQ : ∀ a s, Q a s → Q' a s) : wpAny M A t Q' E s := wpAny_mono h hQ fun _ _ x => x
section
variable {X : Cx}
def tVar (i : Nat) : TE := fun σ H Q => ∃ v, σ[i]? = some (some v) ∧ Q v H
def tC (v : V) : TE := fun _ H Q => Q v H
theorem pe_var {i : Nat} {x : Str} {pos : Pos} (hN : X.N[i]? = some x) (hv : Vis X.env.scope x) (hd : (x == ("__debug__" : Str)) = false := by decide) (hcd : (x == ("__classdict__" : Str)) = false := by decide) : PE X (.Name x pos) (tVar i) := by
 intro pins s σ H Q I h
 obtain ⟨v, e, h⟩ := h
 obtain ⟨m, hn, hl⟩ := I.loc
 obtain ⟨u, r, l⟩ := hl i x v hN e hv
 have fin : EP X pins σ Q u s := ⟨v, H, I, r, h⟩
 rcases l with ⟨hk, hm⟩ | ⟨hk, c, hc, hcell⟩
 ·exact wpAny_Name (wpAny_loadName_local I.ok.kind hk hn hm fin) hd
 ·rcases hk with hk | hk
  ·exact wpAny_Name (wpAny_loadName_cell I.ok.kind hk hc hcell fin) hd
  ·exact wpAny_Name (wpAny_loadName_free I.ok.kind hk hc hcell fin hcd) hd
theorem pe_int {i j pos} : PE X (.Constant (.int i) j pos) (tC (.int i)) := fun _ _ _ H _ I h => wpAny_Constant_int ⟨.int i, H, I.tok _, ⟨_, rfl⟩, h⟩
theorem pe_bl {b j pos} : PE X (.Constant (.bool b) j pos) (tC (.bl b)) := fun _ _ _ H _ I h => Constant_bool ⟨.bl b, H, I, rfl, h⟩
theorem pe_non {j pos} : PE X (.Constant .none j pos) (tC .non) := fun _ _ _ H _ I h => Constant_none ⟨.non, H, I, rfl, h⟩
theorem pe_str {x j pos} : PE X (.Constant (.str x) j pos) (tC (.str x)) := fun _ _ _ H _ I h => Calls.Constant_str ⟨.str x, H, I.tok _, ⟨_, rfl⟩, h⟩
def Gl (X : Cx) (x : Str) : Prop := X.env.kindOf x = some .globalImplicit
theorem ld_glob {E : Value → Shared → Prop} {pins : List (Addr × Obj)} {s : Shared} {σ : St} {H : Hp} {x : Str} {u : Value} {pos : Pos} {Q : Value → Shared → Prop} (I : Inv X pins σ H s) (hg : Gl X x) (hm : X.mg x = some u) (h : Q u s)
  (hd : (x == ("__debug__" : Str)) = false := by decide) : wpAny (model X.prog X.w) X.A (eval (.Name x pos) X.env) Q E s :=
 Calls.Name_function_global I.ok.kind hg (Calls.loadGlobal_global (by rw [I.ok.glob]; exact I.mod.glob.keeps I.bk) hm h) hd
theorem ld_blt {E : Value → Shared → Prop} {pins : List (Addr × Obj)} {s : Shared} {σ : St} {H : Hp} {x : Str} {u : Value} {pos : Pos} {Q : Value → Shared → Prop} (I : Inv X pins σ H s) (hg : Gl X x) (hm : X.mg x = none) (hv : bootBuiltins x = some u) (h : Q u s)
  (hn : x ≠ "__name__" := by decide) (hd : (x == ("__debug__" : Str)) = false := by decide) : wpAny (model X.prog X.w) X.A (eval (.Name x pos) X.env) Q E s := by
 obtain ⟨mb, h1, h2⟩ := I.mod.blt
 exact Calls.Name_function_global I.ok.kind hg (Calls.loadGlobal_builtin (by rw [I.ok.glob]; exact I.mod.glob.keeps I.bk) hm (by rw [I.ok.blt]; exact h1.keeps I.bk) ((h2 x hn).trans hv) h) hd
theorem pe_glob {x : Str} {v : V} {u : Value} {pos : Pos} (hg : Gl X x) (hm : X.mg x = some u) (r : RelV v u) (hd : (x == ("__debug__" : Str)) = false := by decide) : PE X (.Name x pos) (tC v) :=
 fun _ _ _ H _ I h => ld_glob I hg hm ⟨v, H, I, r, h⟩ hd
theorem pe_bltn {x : Str} {v : V} {u : Value} {pos : Pos} (hg : Gl X x) (hm : X.mg x = none) (hv : bootBuiltins x = some u) (r : RelV v u) (hn : x ≠ "__name__" := by decide) (hd : (x == ("__debug__" : Str)) = false := by decide) : PE X (.Name x pos) (tC v) :=
 fun _ _ _ H _ I h => ld_blt I hg hm hv ⟨v, H, I, r, h⟩ hn hd
variable {a b : Expr} {ta tb : TE} {pos : Pos}
def tB (t : TE) : TT := fun σ H Q => t σ H fun x H1 => ∃ c, x = .bl c ∧ Q c H1
theorem pt_val {e : Expr} {t : TE} (h : PE X e t) (he : ∀ whole, isTrue e X.env whole = (do let v ← whole; standAt e.pos; holding [v] (truthy v)) := by intro _; rfl) : PT X e (tB t) := by
 intro pins s σ H Q I hw
 refine isTrue_plain (thn (h pins s σ H _ I hw) fun v s1 ⟨x, H1, I1, r1, q1⟩ => ?_) (he _)
 obtain ⟨d, rfl, q⟩ := q1
 cases r1
 exact wpAny_truthy_bool ⟨H1, I1, q⟩
variable {tA tB' : TT} {rest : List Expr}
def tAnd (t u : TT) : TT := fun σ H Q => t σ H fun c H1 => if c = true then u σ H1 Q else Q false H1
def tOr (t u : TT) : TT := fun σ H Q => t σ H fun c H1 => if c = true then Q true H1 else u σ H1 Q
def tNot (t : TT) : TT := fun σ H Q => t σ H fun c H1 => Q (!c) H1
theorem pw_and1 (ha : PT X a tA) : PW X (.BoolOp .And [a] pos) tA := by
 intro wh pins s σ H Q I h
 refine isTrue_and (thn (ha pins s σ H Q I h) fun c s1 e => ?_)
 cases c with
 | true => exact isTrue_and_nil e
 | false => exact e
theorem pw_or1 (ha : PT X a tA) : PW X (.BoolOp .Or [a] pos) tA := by
 intro wh pins s σ H Q I h
 refine isTrue_or (thn (ha pins s σ H Q I h) fun c s1 e => ?_)
 cases c with
 | false => exact isTrue_or_nil e
 | true => exact e
theorem pw_and (ha : PT X a tA) (hb : PW X (.BoolOp .And (b :: rest) pos) tB') : PW X (.BoolOp .And (a :: b :: rest) pos) (tAnd tA tB') := by
 intro wh pins s σ H Q I h
 refine isTrue_and (thn (ha pins s σ H _ I h) fun c s1 ⟨H1, I1, q1⟩ => ?_)
 cases c with
 | true => exact hb wh pins s1 σ H1 Q I1 q1
 | false => exact ⟨H1, I1, q1⟩
theorem pw_or (ha : PT X a tA) (hb : PW X (.BoolOp .Or (b :: rest) pos) tB') : PW X (.BoolOp .Or (a :: b :: rest) pos) (tOr tA tB') := by
 intro wh pins s σ H Q I h
 refine isTrue_or (thn (ha pins s σ H _ I h) fun c s1 ⟨H1, I1, q1⟩ => ?_)
 cases c with
 | true => exact ⟨H1, I1, q1⟩
 | false => exact hb wh pins s1 σ H1 Q I1 q1
theorem pt_not (ha : PT X a tA) : PT X (.UnaryOp .Not a pos) (tNot tA) := by
 intro pins s σ H Q I h
 exact isTrue_not (ha pins s σ H (fun c H1 => Q (!c) H1) I h)
def tAndV (ta tb : TE) : TE := fun σ H Q => ta σ H fun x H1 => ∃ c, x = .bl c ∧ if c = true then tb σ H1 Q else Q (.bl false) H1
def tOrV (ta tb : TE) : TE := fun σ H Q => ta σ H fun x H1 => ∃ c, x = .bl c ∧ if c = true then Q (.bl true) H1 else tb σ H1 Q
def tNotV (ta : TE) : TE := fun σ H Q => ta σ H fun x H1 => ∃ c, x = .bl c ∧ Q (.bl (!c)) H1
theorem pe_one {op} {t : TE} (h : PE X a t) : PE X (.BoolOp op [a] pos) t := fun pins s σ H Q I hw => BoolOp_one (h pins s σ H Q I hw)
theorem pe_and (ha : PE X a ta) (hb : PE X (.BoolOp .And (b :: rest) pos) tb) : PE X (.BoolOp .And (a :: b :: rest) pos) (tAndV ta tb) := by
 intro pins s σ H Q I h
 refine BoolOp_and (thn (ha pins s σ H _ I h) fun v s1 ⟨x, H1, I1, r1, q1⟩ => ?_)
 obtain ⟨c, rfl, q1⟩ := q1
 cases r1
 refine wpAny_truthy_bool ?_
 cases c with
 | true => exact hb pins s1 σ H1 Q I1 q1
 | false => exact ⟨.bl false, H1, I1, rfl, q1⟩
theorem pe_or (ha : PE X a ta) (hb : PE X (.BoolOp .Or (b :: rest) pos) tb) : PE X (.BoolOp .Or (a :: b :: rest) pos) (tOrV ta tb) := by
 intro pins s σ H Q I h
 refine BoolOp_or (thn (ha pins s σ H _ I h) fun v s1 ⟨x, H1, I1, r1, q1⟩ => ?_)
 obtain ⟨c, rfl, q1⟩ := q1
 cases r1
 refine wpAny_truthy_bool ?_
 cases c with
 | false => exact hb pins s1 σ H1 Q I1 q1
 | true => exact ⟨.bl true, H1, I1, rfl, q1⟩
theorem pe_not (ha : PE X a ta) : PE X (.UnaryOp .Not a pos) (tNotV ta) := by
 intro pins s σ H Q I h
 refine UnaryOp_ (thn (ha pins s σ H _ I h) fun v s1 ⟨x, H1, I1, r1, q1⟩ => ?_)
 obtain ⟨c, rfl, q1⟩ := q1
 cases r1
 exact not_of (wpAny_truthy_bool ⟨.bl (!c), H1, I1, rfl, q1⟩)
def tIf (t : TT) (ta tb : TE) : TE := fun σ H Q => t σ H fun c H1 => if c = true then ta σ H1 Q else tb σ H1 Q
theorem pe_ifExp {c : Expr} (hc : PT X c tA) (ha : PE X a ta) (hb : PE X b tb) : PE X (.IfExp c a b pos) (tIf tA ta tb) := by
 intro pins s σ H Q I h
 refine wpAny_IfExp (thn (hc pins s σ H _ I h) fun d s1 ⟨H1, I1, q1⟩ => ?_)
 cases d with
 | true => exact ha pins s1 σ H1 Q I1 q1
 | false => exact hb pins s1 σ H1 Q I1 q1
end
def SqL (K : W.Frag) (H : Hp) (a : Addr) (xs : List V) : Prop :=
 Rd H a (.lst xs) ∨
  ∃ (o : Obj) (its : Array Value) (n : Nat), K.lookup a = some o ∧ o.cls = .type "list" ∧ o.dict = none ∧ o.data = .seq its n ∧ its.size ≤ sizeLine ∧ Vals xs its.toList
def SqT (K : W.Frag) (H : Hp) (a : Addr) (xs : List V) : Prop :=
 Rd H a (.tup xs) ∨
  ∃ (o : Obj) (its : Array Value) (n : Nat), K.lookup a = some o ∧ o.cls = .type "tuple" ∧ o.data = .seq its n ∧ its.size ≤ sizeLine ∧ Vals xs its.toList
def absV : Value → Option V
 | .none => some .non
 | .bool b => some (.bl b)
 | .int i _ => some (.int i)
 | .str x _ => some (.str x)
 | .bytes b _ => some (.byt b)
 | .float b _ => some (.flt b)
 | .ref a => some (.ref a)
 | .type n => some (.ty n)
 | _ => none
theorem RelV.abs {x : V} {u : Value} (r : RelV x u) : absV u = some x := by
 cases x with
 | non => cases r; rfl
 | bl _ => cases r; rfl
 | int _ => obtain ⟨t, rfl⟩ := r; rfl
 | str _ => obtain ⟨t, rfl⟩ := r; rfl
 | byt _ => obtain ⟨t, rfl⟩ := r; rfl
 | flt _ => obtain ⟨t, rfl⟩ := r; rfl
 | ref _ => cases r; rfl
 | ty _ => cases r; rfl
theorem RelV.inj {x y : V} {u : Value} (r : RelV x u) (q : RelV y u) : x = y := Option.some.inj (r.abs.symm.trans q.abs)
theorem Vals.inj : ∀ {xs ys : List V} {us : List Value}, Vals xs us → Vals ys us → xs = ys
 | _, _, _, .nil, .nil => rfl
 | _, _, _, .cons r t, .cons r' t' => by rw [r.inj r', Vals.inj t t']
section
variable {X : Cx} {pins : List (Addr × Obj)} {σ : St} {H : Hp} {s : Shared} {a : Addr} {xs ys : List V}
theorem SqL.of {K : W.Frag} (h : H a = some (.lst xs)) : SqL K H a xs := .inl (.inl h)
theorem SqT.of {K : W.Frag} (h : H a = some (.tup xs)) : SqT K H a xs := .inl (.inl h)
theorem Inv.list (I : Inv X pins σ H s) (h : SqL X.K H a xs) : ∃ its : List Value, Vals xs its ∧ PlainL s.heap a its.toArray ∧ xs.length ≤ sizeLine := by
 rcases h with h | ⟨o, its, n, hk, hc, hd, hs, hz, r⟩
 ·obtain ⟨z, its, n, r, e⟩ := h.ok I.hok
  exact ⟨its, r, ⟨_, n, e, rfl, rfl, rfl⟩, z⟩
 ·refine ⟨its.toList, r, ⟨o, n, I.kIn a o hk, hc, hd, by simpa using hs⟩, ?_⟩
  have e := r.length
  simp only [Array.length_toList] at e
  omega
theorem Inv.tuple (I : Inv X pins σ H s) (h : SqT X.K H a xs) : ∃ its : List Value, Vals xs its ∧ IsTup s.heap a its.toArray ∧ xs.length ≤ sizeLine := by
 rcases h with h | ⟨o, its, n, hk, hc, hs, hz, r⟩
 ·obtain ⟨z, its, r, p⟩ := h.ok I.hok
  exact ⟨its, r, p, z⟩
 ·refine ⟨its.toList, r, ⟨o, I.kIn a o hk, hc, n, by simpa using hs⟩, ?_⟩
  have e := r.length
  simp only [Array.length_toList] at e
  omega
end
abbrev Cx.wish (X : Cx) (E : Value → Shared → Prop) : Cx := { X with xe := E }
abbrev Cx.nox (X : Cx) : Cx := X.wish fun _ _ => False
theorem Cx.Ok.wish {X : Cx} (ok : X.Ok) (E : Value → Shared → Prop) : (X.wish E).Ok :=
 ⟨ok.mod, ok.kind, ok.glob, ok.blt, ok.above, ok.inj, ok.has, ok.cab, ok.hd, ok.frames, ok.stk, ok.exf, ok.bs, ok.bsz, ok.noex, ok.exfs, ok.funs, ok.frf⟩
theorem Cx.Ok.unwish {X : Cx} {E : Value → Shared → Prop} (ok : (X.wish E).Ok) : X.Ok :=
 ⟨ok.mod, ok.kind, ok.glob, ok.blt, ok.above, ok.inj, ok.has, ok.cab, ok.hd, ok.frames, ok.stk, ok.exf, ok.bs, ok.bsz, ok.noex, ok.exfs, ok.funs, ok.frf⟩
section
variable {X : Cx} {pins : List (Addr × Obj)} {σ : St} {H : Hp} {s : Shared} {E : Value → Shared → Prop}
theorem Inv.wish (I : Inv X pins σ H s) (E : Value → Shared → Prop) : Inv (X.wish E) pins σ H s := ⟨I.ok.wish E, I.os, I.bare, I.base, I.loc, I.cell, I.free, I.freeC, I.pin, I.hok, I.len⟩
theorem Inv.unwish (I : Inv (X.wish E) pins σ H s) : Inv X pins σ H s := ⟨I.ok.unwish, I.os, I.bare, I.base, I.loc, I.cell, I.free, I.freeC, I.pin, I.hok, I.len⟩
theorem SP.unwish {D : Ends} {f : Flow} {s' : Shared} (h : SP (X.wish E) pins D f s') : SP X pins D f s' := by
 cases f with
 | next => obtain ⟨σ', H', I, q⟩ := h; exact ⟨σ', H', I.unwish, q⟩
 | brk => obtain ⟨σ', H', I, q⟩ := h; exact ⟨σ', H', I.unwish, q⟩
 | cont => obtain ⟨σ', H', I, q⟩ := h; exact ⟨σ', H', I.unwish, q⟩
 | ret u => obtain ⟨v, σ', H', I, r, q⟩ := h; exact ⟨v, σ', H', I.unwish, r, q⟩
theorem PE.nox {e : Expr} {t : TE} (h : PE X.nox e t) : PE X e t := fun pins s σ H Q I hw =>
 wpAny_mono (h pins s σ H Q (I.wish _) hw) (fun _ _ ⟨v, H', I', r, q⟩ => ⟨v, H', I'.unwish, r, q⟩) fun _ _ z => False.elim z
theorem PT.nox {e : Expr} {t : TT} (h : PT X.nox e t) : PT X e t := fun pins s σ H Q I hw =>
 wpAny_mono (h pins s σ H Q (I.wish _) hw) (fun _ _ ⟨H', I', q⟩ => ⟨H', I'.unwish, q⟩) fun _ _ z => False.elim z
theorem PSs.nox {st : List Stmt} {t : TS} (h : PSs X.nox st t) : PSs X st t := fun pins s σ H D I hw =>
 wpAny_mono (h pins s σ H D (I.wish _) hw) (fun _ _ q => q.unwish) fun _ _ z => False.elim z
end
section
variable {X : Cx} {st : Stmt} {rest : List Stmt} {t u : TS} {e : Expr} {te : TE} {pos : Pos}
def tNext : TS := fun D σ H => D.nx σ H
def tSeq (t u : TS) : TS := fun D σ H => t { D with nx := u D } σ H
theorem pss_nil : PSs X [] tNext := fun _ _ σ H _ I h => wpAny_execs_nil ⟨σ, H, I, h⟩
theorem pss_cons (h1 : PS X st t) (h2 : PSs X rest u) : PSs X (st :: rest) (tSeq t u) := by
 intro pins s σ H D I h
 refine wpAny_execs_cons (thn (h1 pins s σ H { D with nx := u D } I h) fun f s1 q => ?_)
 cases f with
 | next =>
  obtain ⟨σ', H', I', q⟩ := q
  exact h2 pins s1 σ' H' D I' q
 | ret v => exact q
 | brk => exact q
 | cont => exact q
theorem pss_one (h1 : PS X st t) : PSs X [st] t := by
 intro pins s σ H D I h
 refine wpAny_execs_cons (thn (h1 pins s σ H D I h) fun f s1 q => ?_)
 cases f with
 | next => exact wpAny_execs_nil q
 | ret v => exact q
 | brk => exact q
 | cont => exact q
theorem Inv.quiet {pins : List (Addr × Obj)} {σ : St} {H : Hp} {s : Shared} (I : Inv X pins σ H s) : interactive X.env = false := by simp [interactive, I.ok.kind]
def tDrop (te : TE) : TS := fun D σ H => te σ H fun _ H1 => D.nx σ H1
theorem ps_expr (he : PE X e te) (hs : swapsWith e none pos.line X.env = pure false := by rfl) : PS X (.Expr e pos) (tDrop te) := by
 intro pins s σ H D I h
 exact wpAny_Expr_any (thn (he pins s σ H _ I h) fun v s1 ⟨x, H1, I1, r1, q1⟩ => ⟨σ, H1, I1, q1⟩) I.quiet hs
def tRet (te : TE) : TS := fun D σ H => te σ H D.rt
theorem ps_ret (he : PE X e te) : PS X (.Return (some e) pos) (tRet te) := by
 intro pins s σ H D I h
 exact wpAny_Return_some (thn (he pins s σ H _ I h) fun v s1 ⟨x, H1, I1, r1, q1⟩ => ⟨x, σ, H1, I1, r1, q1⟩)
def tIfS (c : TT) (t u : TS) : TS := fun D σ H => c σ H fun b H1 => if b = true then t D σ H1 else u D σ H1
theorem ps_if {c : Expr} {a b : List Stmt} {tc : TT} (hc : PT X c tc) (ha : PSs X a t) (hb : PSs X b u) : PS X (.If c a b pos) (tIfS tc t u) := by
 intro pins s σ H D I h
 refine wpAny_If (thn (hc pins s σ H _ I h) fun d s1 ⟨H1, I1, q1⟩ => ?_)
 cases d with
 | true => exact ha pins s1 σ H1 D I1 q1
 | false => exact hb pins s1 σ H1 D I1 q1
end
abbrev TG := V → St → Hp → (St → Hp → Prop) → Prop
abbrev TGs := List V → St → Hp → (St → Hp → Prop) → Prop
def PG (X : Cx) (target : Expr) (t : TG) : Prop :=
 ∀ (pins : List (Addr × Obj)) (s : Shared) (σ : St) (H : Hp) (v : V) (u : Value) (Q : St → Hp → Prop), Inv X pins σ H s → RelV v u → t v σ H Q →
  wpAny (model X.prog X.w) X.A (assign target X.env u) (fun _ s' => ∃ σ' H', Inv X pins σ' H' s' ∧ Q σ' H') X.xe s
def PGs (X : Cx) (ts : List Expr) (t : TGs) : Prop :=
 ∀ (pins : List (Addr × Obj)) (s : Shared) (σ : St) (H : Hp) (vs : List V) (us : List Value) (Q : St → Hp → Prop), Inv X pins σ H s → Vals vs us → t vs σ H Q →
  wpAny (model X.prog X.w) X.A (assignInOrder ((assignEach ts X.env).map (·.2)) us) (fun _ s' => ∃ σ' H', Inv X pins σ' H' s' ∧ Q σ' H') X.xe s
section
variable {X : Cx} {pos : Pos}
def gName (i : Nat) : TG := fun v σ H Q => Q (σ.set i (some v)) H
theorem pg_name {i : Nat} {x : Str} (hN : X.N.Nodup) (hi : X.N[i]? = some x) (hx : Loc X.env.scope x) (hf : X.fn x = true ∨ X.env.scope.names.lookup x = some .local := by first | exact .inl rfl | exact .inr rfl | assumption) : PG X (.Name x pos) (gName i) := by
 intro pins s σ H v u Q I r h
 exact wpAny_assign_Name (store_ok I hN hi hx r (fun s' I' => ⟨_, H, I', h⟩) hf)
def gNil : TGs := fun vs σ H Q => vs = [] ∧ Q σ H
def gCons (t : TG) (u : TGs) : TGs := fun vs σ H Q => ∃ v r, vs = v :: r ∧ t v σ H fun σ' H' => u r σ' H' Q
theorem pgs_nil : PGs X [] gNil := by
 intro pins s σ H vs us Q I r h
 obtain ⟨e, h⟩ := h
 subst e
 cases r
 exact assignInOrder_nil ⟨σ, H, I, h⟩
theorem pgs_cons {e : Expr} {es : List Expr} {t : TG} {u : TGs} (h1 : PG X e t) (h2 : PGs X es u)
  (hs : (assignEach (e :: es) X.env).map (·.2) = assign e X.env :: (assignEach es X.env).map (·.2) := by rfl) : PGs X (e :: es) (gCons t u) := by
 intro pins s σ H vs us Q I r h
 obtain ⟨v, vr, e1, h⟩ := h
 subst e1
 cases r with
 | cons r rr =>
  rw [hs]
  refine assignInOrder_cons (thn (h1 pins s σ H _ _ _ I r h) fun _ s1 ⟨σ1, H1, I1, q1⟩ => ?_)
  exact h2 pins s1 σ1 H1 _ _ Q I1 rr q1
def gTup (K : W.Frag) (n : Nat) (t : TGs) : TG := fun v σ H Q => ∃ a xs, v = .ref a ∧ SqT K H a xs ∧ xs.length = n ∧ t xs σ H Q
theorem pg_tup {es : List Expr} {k : Nat} {t : TGs} {n : Nat} (hc : X.calm = true) (h : PGs X es t)
  (hn : (assignEach es X.env).length = n := by rfl) (hst : (assignEach es X.env).findIdx? (·.1) = none := by rfl) : PG X (.Tuple es k pos) (gTup X.K n t) := by
 intro pins s σ H v u Q I r hw
 obtain ⟨a, xs, e1, hq, hl, hw⟩ := hw
 subst e1
 cases r
 obtain ⟨its, rv, ht, hz⟩ := I.tuple hq
 refine assign_Tuple_tuple (I.ok.hd hc) ht (by simp [hn, ← hl, rv.length]) hst fun h' hx => ?_
 have I1 : Inv X pins σ H { s with heap := h' } := I.kept (t' := s.toks) fun b o e => hx b o (Nat.ne_of_lt (Heap.lt_size e)) e
 exact h pins _ σ H xs _ Q I1 (by simpa using rv) hw
def tAsg (te : TE) (g : TG) : TS := fun D σ H => te σ H fun x H1 => g x σ H1 D.nx
theorem ps_asg {tg e : Expr} {te : TE} {g : TG} (he : PE X e te) (hg : PG X tg g) (hs : swapsWithSole [tg] e pos.line X.env = pure false := by rfl) (hw : swappedStores [tg] e X.env = pure none := by rfl)
  (h1 : (assignEach [tg] X.env).map (·.2) = [assign tg X.env] := by rfl) : PS X (.Assign [tg] e pos) (tAsg te g) := by
 intro pins s σ H D I h
 refine wpAny_Assign_stores (thn (he pins s σ H _ I h) fun v s1 ⟨x, H1, I1, r1, q1⟩ => ?_) hs hw
 rw [h1]
 exact thn (hg pins s1 σ H1 x v _ I1 r1 q1) fun _ s2 q => q
theorem ps_set {i : Nat} {x : Str} {e : Expr} {te : TE} {pos' : Pos} (hN : X.N.Nodup) (hi : X.N[i]? = some x) (hx : Loc X.env.scope x) (he : PE X e te) (hs : swapsWith e (some (.Name x pos')) pos.line X.env = pure false := by rfl) (hf : X.fn x = true ∨ X.env.scope.names.lookup x = some .local := by first | exact .inl rfl | exact .inr rfl | assumption) :
  PS X (.Assign [.Name x pos'] e pos) (tAsg te (gName i)) := by
 intro pins s σ H D I h
 refine wpAny_Assign_Name (thn (he pins s σ H _ I h) fun v s1 ⟨y, H1, I1, r1, q1⟩ => ?_) hs
 exact store_ok I1 hN hi hx r1 (fun s2 I2 => ⟨_, H1, I2, q1⟩) hf
end
structure It where
 go : Nat → Hp → Prop
 yld : Nat → Hp → V → Hp → Prop
 stop : Nat → Hp → Prop
abbrev TI := St → Hp → (It → Hp → Prop) → Prop
abbrev R2 := V → V → Hp → VK → Prop
def OpR (X : Cx) (f : Value → Value → Sem Value) (r : R2) : Prop :=
 ∀ (pins : List (Addr × Obj)) (s : Shared) (σ : St) (H : Hp) (x y : V) (v u : Value) (Q : VK), Inv X pins σ H s → RelV x v → RelV y u → r x y H Q →
  wpAny (model X.prog X.w) X.A (f v u) (EP X pins σ Q) X.xe s
def UnR (X : Cx) (f : Value → Sem Value) (r : V → Hp → VK → Prop) : Prop :=
 ∀ (pins : List (Addr × Obj)) (s : Shared) (σ : St) (H : Hp) (x : V) (v : Value) (Q : VK), Inv X pins σ H s → RelV x v → r x H Q →
  wpAny (model X.prog X.w) X.A (f v) (EP X pins σ Q) X.xe s
def CallR (X : Cx) (f : Value) (r : List V → Hp → VK → Prop) : Prop :=
 ∀ (pins : List (Addr × Obj)) (s : Shared) (σ : St) (H : Hp) (xs : List V) (us : List Value) (Q : VK), Inv X pins σ H s → Vals xs us → r xs H Q →
  wpAny (model X.prog X.w) X.A (call f us) (EP X pins σ Q) X.xe s
def tOp (r : R2) (ta tb : TE) : TE := fun σ H Q => ta σ H fun x H1 => tb σ H1 fun y H2 => r x y H2 Q
def tUn (r : V → Hp → VK → Prop) (ta : TE) : TE := fun σ H Q => ta σ H fun x H1 => r x H1 Q
def rI (C : Int → Int → Prop) (g : Int → Int → V) : R2 := fun x y H Q => ∃ i j, x = .int i ∧ y = .int j ∧ C i j ∧ Q (g i j) H
def rI0 (g : Int → Int → V) : R2 := fun x y H Q => ∃ i j, x = .int i ∧ y = .int j ∧ Q (g i j) H
def rU (g : Int → V) : V → Hp → VK → Prop := fun x H Q => ∃ i, x = .int i ∧ Q (g i) H
section
variable {X : Cx} {a b c : Expr} {ta tb tc : TE} {pos : Pos}
theorem binT (ha : PE X a ta) (hb : PE X b tb) {pins : List (Addr × Obj)} {s : Shared} {σ : St} {H : Hp} {R : V → V → Hp → Prop} (I : Inv X pins σ H s)
  (h : ta σ H fun x H1 => tb σ H1 fun y H2 => R x y H2) {Q : Value → Shared → Prop} {f : Value → Value → Sem Value}
  (hf : ∀ v u s2 x y H2, Inv X pins σ H2 s2 → RelV x v → RelV y u → R x y H2 → wpAny (model X.prog X.w) X.A (f v u) Q X.xe s2) :
  wpAny (model X.prog X.w) X.A (eval a X.env) (fun v s₁ => wpAny (model X.prog X.w) X.A (eval b X.env) (fun u s₂ => wpAny (model X.prog X.w) X.A (f v u) Q X.xe s₂) X.xe s₁) X.xe s := by
 refine thn (ha pins s σ H _ I h) fun v s1 ⟨x, H1, I1, r1, q1⟩ => ?_
 refine thn (hb pins s1 σ H1 _ I1 q1) fun u s2 ⟨y, H2, I2, r2, q2⟩ => ?_
 exact hf v u s2 x y H2 I2 r1 r2 q2
theorem pe_op {op : Operator} {r : R2} (ho : OpR X (binaryOp op) r) (ha : PE X a ta) (hb : PE X b tb) : PE X (.BinOp a op b pos) (tOp r ta tb) := by
 intro pins s σ H Q I h
 exact wpAny_BinOp (binT ha hb I h fun v u s2 x y H2 I2 rx ry q => ho pins s2 σ H2 x y v u Q I2 rx ry q)
theorem pe_un {op : UnaryOp} {r : V → Hp → VK → Prop} (ho : UnR X (unaryOp op) r) (ha : PE X a ta) : PE X (.UnaryOp op a pos) (tUn r ta) := by
 intro pins s σ H Q I h
 exact UnaryOp_ (thn (ha pins s σ H _ I h) fun v s1 ⟨x, H1, I1, r1, q1⟩ => ho pins s1 σ H1 x v Q I1 r1 q1)
theorem opI {f : Value → Value → Sem Value} {C : Int → Int → Prop} {g : Int → Int → Int}
  (rule : ∀ (i j : Int) (t u : Tok) (s : Shared) (Q : Value → Shared → Prop) (E : Value → Shared → Prop), C i j → Q (.int (g i j) s.toks) { s with toks := s.toks + 1 } → wpAny (model X.prog X.w) X.A (f (.int i t) (.int j u)) Q E s) :
  OpR X f (rI C fun i j => .int (g i j)) := by
 intro pins s σ H x y v u Q I rx ry h
 obtain ⟨i, j, rfl, rfl, hc, q⟩ := h
 obtain ⟨t, rfl⟩ := rx
 obtain ⟨t', rfl⟩ := ry
 exact rule i j t t' s _ _ hc ⟨.int (g i j), H, I.tok _, ⟨_, rfl⟩, q⟩
theorem opI0 {f : Value → Value → Sem Value} {g : Int → Int → Int}
  (rule : ∀ (i j : Int) (t u : Tok) (s : Shared) (Q : Value → Shared → Prop) (E : Value → Shared → Prop), Q (.int (g i j) s.toks) { s with toks := s.toks + 1 } → wpAny (model X.prog X.w) X.A (f (.int i t) (.int j u)) Q E s) :
  OpR X f (rI0 fun i j => .int (g i j)) := by
 intro pins s σ H x y v u Q I rx ry h
 obtain ⟨i, j, rfl, rfl, q⟩ := h
 obtain ⟨t, rfl⟩ := rx
 obtain ⟨t', rfl⟩ := ry
 exact rule i j t t' s _ _ ⟨.int (g i j), H, I.tok _, ⟨_, rfl⟩, q⟩
theorem opB0 {f : Value → Value → Sem Value} {g : Int → Int → Bool}
  (rule : ∀ (i j : Int) (t u : Tok) (s : Shared) (Q : Value → Shared → Prop) (E : Value → Shared → Prop), Q (.bool (g i j)) s → wpAny (model X.prog X.w) X.A (f (.int i t) (.int j u)) Q E s) :
  OpR X f (rI0 fun i j => .bl (g i j)) := by
 intro pins s σ H x y v u Q I rx ry h
 obtain ⟨i, j, rfl, rfl, q⟩ := h
 obtain ⟨t, rfl⟩ := rx
 obtain ⟨t', rfl⟩ := ry
 exact rule i j t t' s _ _ ⟨.bl (g i j), H, I, rfl, q⟩
def CPow (i j : Int) : Prop := 0 ≤ j ∧ j ≤ 1000000 ∧ i.natAbs < 2 ^ 64
def CMul (i j : Int) : Prop := (-(2 ^ 64) < i ∧ i < 2 ^ 64) ∨ (-(2 ^ 64) < j ∧ j < 2 ^ 64)
theorem CMul.ok {i j : Int} (h : CMul i j) : IntMulOk i j := by
 rcases h with ⟨h1, h2⟩ | ⟨h1, h2⟩
 ·exact .of_left (intBits_le_64 h1 h2)
 ·exact .of_right (intBits_le_64 h1 h2)
theorem op_add : OpR X (binaryOp .Add) (rI0 fun i j => .int (i + j)) := opI0 fun _ _ _ _ _ _ _ q => add_int q
theorem op_sub : OpR X (binaryOp .Sub) (rI0 fun i j => .int (i - j)) := opI0 fun _ _ _ _ _ _ _ q => sub_int q
theorem op_mod : OpR X (binaryOp .Mod) (rI (fun _ j => 0 < j) fun i j => .int (i % j)) := opI fun i j _ _ _ _ _ hc q => by
 have h1 : (0 : Int) < j := hc
 exact mod_int' (by omega) (by rw [Int.fmod_eq_emod_of_nonneg i (by omega)]; exact q)
theorem op_pow : OpR X (binaryOp .Pow) (rI CPow fun i j => .int (i ^ j.toNat)) := opI fun _ _ _ _ _ _ _ hc q => pow_int_small hc.1 hc.2.1 hc.2.2 q
theorem unI {f : Value → Sem Value} {g : Int → Int}
  (rule : ∀ (i : Int) (t : Tok) (s : Shared) (Q : Value → Shared → Prop) (E : Value → Shared → Prop), Q (.int (g i) s.toks) { s with toks := s.toks + 1 } → wpAny (model X.prog X.w) X.A (f (.int i t)) Q E s) :
  UnR X f (rU fun i => .int (g i)) := by
 intro pins s σ H x v Q I rx h
 obtain ⟨i, rfl, q⟩ := h
 obtain ⟨t, rfl⟩ := rx
 exact rule i t s _ _ ⟨.int (g i), H, I.tok _, ⟨_, rfl⟩, q⟩
theorem un_neg : UnR X (unaryOp .USub) (rU fun i => .int (-i)) := unI fun _ _ _ _ _ q => neg_int q
end
def scal : V → V → Bool
 | .non, .non => true | .non, .int _ => true | .int _, .non => true | .non, .bl _ => true | .bl _, .non => true | .non, .str _ => true | .str _, .non => true
 | .int _, .int _ => true | .bl _, .bl _ => true | .str _, .str _ => true | .byt _, .byt _ => true
 | .int _, .str _ => true | .str _, .int _ => true | .bl _, .str _ => true | .str _, .bl _ => true
 | _, _ => false
def rEq : R2 := fun x y H Q => scal x y = true ∧ Q (.bl (decide (x = y))) H
theorem dec_int {i j : Int} : decide (V.int i = V.int j) = (i == j) := by
 rw [Bool.eq_iff_iff]
 simp
theorem dec_bl {i j : Bool} : decide (V.bl i = V.bl j) = (i == j) := by
 rw [Bool.eq_iff_iff]
 simp
theorem dec_str {i j : Str} : decide (V.str i = V.str j) = (i == j) := by
 rw [Bool.eq_iff_iff]
 simp
theorem dec_byt {i j : Array UInt8} : decide (V.byt i = V.byt j) = (i.toList == j.toList) := by
 rw [Bool.eq_iff_iff]
 cases i
 cases j
 simp
section
variable {X : Cx} {a b c : Expr} {ta tb tc : TE} {pos : Pos}
theorem fin_bl {pins : List (Addr × Obj)} {σ : St} {H : Hp} {s : Shared} {Q : VK} {k k' : Bool} (I : Inv X pins σ H s) (q : Q (.bl k) H) (e : k = k') : EP X pins σ Q (.bool k') s := by
 subst e
 exact ⟨.bl k, H, I, rfl, q⟩
theorem op_eq : OpR X (compareOp .Eq) rEq := by
 intro pins s σ H x y v u Q I rx ry h
 obtain ⟨hs, q⟩ := h
 cases x with
 | non =>
  cases rx
  cases y with
  | non => cases ry; exact PySem.EqNone.eq_none_none (fin_bl I q (by simp))
  | bl j => cases ry; exact PySem.EqNone.eq_none_bool (fin_bl I q (by simp))
  | int j => obtain ⟨t', rfl⟩ := ry; exact PySem.EqNone.eq_none_int (fin_bl I q (by simp))
  | str j => obtain ⟨t', rfl⟩ := ry; exact PySem.EqNone.eq_none_str (fin_bl I q (by simp))
  | _ => exact absurd (show false = true from hs) Bool.false_ne_true
 | bl i =>
  cases rx
  cases y with
  | non => cases ry; exact PySem.EqNone.eq_bool_none (fin_bl I q (by simp))
  | bl j => cases ry; exact eq_bool (fin_bl I q dec_bl)
  | str j => obtain ⟨t', rfl⟩ := ry; exact PySem.EqMixed.eq_bool_str (fin_bl I q (by simp))
  | _ => exact absurd (show false = true from hs) Bool.false_ne_true
 | int i =>
  obtain ⟨t, rfl⟩ := rx
  cases y with
  | non => cases ry; exact PySem.EqNone.eq_int_none (fin_bl I q (by simp))
  | int j => obtain ⟨t', rfl⟩ := ry; exact eq_int (fin_bl I q dec_int)
  | str j => obtain ⟨t', rfl⟩ := ry; exact PySem.EqMixed.eq_int_str (fin_bl I q (by simp))
  | _ => exact absurd (show false = true from hs) Bool.false_ne_true
 | str i =>
  obtain ⟨t, rfl⟩ := rx
  cases y with
  | non => cases ry; exact PySem.EqNone.eq_str_none (fin_bl I q (by simp))
  | bl j => cases ry; exact PySem.EqMixed.eq_str_bool (fin_bl I q (by simp))
  | int j => obtain ⟨t', rfl⟩ := ry; exact PySem.EqMixed.eq_str_int (fin_bl I q (by simp))
  | str j => obtain ⟨t', rfl⟩ := ry; exact eq_str (fin_bl I q dec_str)
  | _ => exact absurd (show false = true from hs) Bool.false_ne_true
 | byt i =>
  obtain ⟨t, rfl⟩ := rx
  cases y with
  | byt j => obtain ⟨t', rfl⟩ := ry; exact W.eq_bytes (fin_bl I q dec_byt)
  | _ => exact absurd (show false = true from hs) Bool.false_ne_true
 | _ => cases y <;> exact absurd (show false = true from hs) Bool.false_ne_true
theorem op_lt : OpR X (compareOp .Lt) (rI0 fun i j => .bl (decide (i < j))) := opB0 fun _ _ _ _ _ _ _ q => lt_int q
theorem op_gt : OpR X (compareOp .Gt) (rI0 fun i j => .bl (decide (j < i))) := opB0 fun _ _ _ _ _ _ _ q => gt_int q
theorem op_isN : OpR X (compareOp .Is) (fun x y H Q => y = .non ∧ Q (.bl (decide (x = .non))) H) := by
 intro pins s σ H x y v u Q I rx ry h
 obtain ⟨rfl, q⟩ := h
 cases ry
 refine is_none_gen (fin_bl I q ?_)
 cases x <;> first
  | (cases rx; rfl)
  | (obtain ⟨t, rfl⟩ := rx; rfl)
theorem nomark (b : Expr) {op : CmpOp} (h : op ≠ .In := by decide) (h2 : op ≠ .NotIn := by decide) : behindInMarks op b = false := by
 have e1 : (op == CmpOp.In) = false := by cases op <;> first | rfl | exact absurd rfl h
 have e2 : (op == CmpOp.NotIn) = false := by cases op <;> first | rfl | exact absurd rfl h2
 cases b <;> simp [behindInMarks, e1, e2]
theorem pe_cmpR {op : CmpOp} {r : R2} (ho : OpR X (compareOp op) r) (ha : PE X a ta) (hb : PE X b tb) (hm : behindInMarks op b = false) : PE X (.Compare a [op] [b] pos) (tOp r ta tb) := by
 intro pins s σ H Q I h
 exact wpAny_Compare1 (binT ha hb I h fun v u s2 x y H2 I2 rx ry q => ho pins s2 σ H2 x y v u Q I2 rx ry q) hm
def tTest (t : TE) : TT := fun σ H Q => t σ H fun x H' => ∃ k, x = .bl k ∧ Q k H'
theorem pt_cmpR {op : CmpOp} {r : R2} (ho : OpR X (compareOp op) r) (ha : PE X a ta) (hb : PE X b tb) (hm : behindInMarks op b = false) : PT X (.Compare a [op] [b] pos) (tTest (tOp r ta tb)) := by
 intro pins s σ H Q I h
 refine wpAny_isTrue_Compare1 (thn (ha pins s σ H _ I h) fun v s1 ⟨x, H1, I1, r1, q1⟩ => thn (hb pins s1 σ H1 _ I1 q1) fun u s2 ⟨y, H2, I2, r2, q2⟩ =>
  thn (ho pins s2 σ H2 x y v u _ I2 r1 r2 q2) fun c s3 ⟨z, H3, I3, r3, k, e, q3⟩ => ?_) hm
 subst e
 cases r3
 exact wpAny_truthy_bool ⟨H3, I3, q3⟩
theorem line63 : (sizeLine : Nat) < 2 ^ 63 := by rw [sizeLine_eq]; decide
theorem vals1 {x : V} {us : List Value} (r : Vals [x] us) : ∃ u, us = [u] ∧ RelV x u := by
 cases r with
 | cons r1 r2 => cases r2; exact ⟨_, rfl, r1⟩
theorem vals2 {x y : V} {us : List Value} (r : Vals [x, y] us) : ∃ u w', us = [u, w'] ∧ RelV x u ∧ RelV y w' := by
 cases r with
 | cons r1 r2 =>
  cases r2 with
  | cons r3 r4 => cases r4; exact ⟨_, _, rfl, r1, r3⟩
end
structure ObjM (h : Heap) (x dx C : Addr) (mA : Str → Option Value) : Prop where
 obj : h.get? x = some (W.instObj C dx)
 ns : h.Ns1 dx mA
 ne : dx ≠ x
theorem lookIn_ns {h : Heap} {dx : Addr} {mA : Str → Option Value} (n : h.Ns1 dx mA) : ∃ od, h.get? dx = some od ∧ ∀ name, W.lookIn name od = some (mA name) := by
 obtain ⟨o, es, ep, ho, hd, hk, _, hm⟩ := n
 refine ⟨o, ho, fun name => ?_⟩
 have e := hm name
 unfold nsFind findBy at e
 rw [← Array.find?_toList] at e
 unfold W.lookIn
 rw [hd]
 dsimp only
 split
 ·rename_i y q
  rw [q] at e
  exact congrArg some e
 ·rename_i q
  rw [q] at e
  have a : es.toList.any (·.refKey) = false := by
   rw [List.any_eq_false]
   intro y hy
   obtain ⟨z, t, hkey⟩ := hk y (Array.mem_toList_iff.mp hy)
   simp [DictEntry.refKey, hkey]
  have a' : ¬ es.toList.any (·.refKey) = true := by rw [a]; exact Bool.false_ne_true
  rw [if_neg a']
  exact congrArg some e
theorem ObjM.look {h : Heap} {x dx C : Addr} {mA : Str → Option Value} (I : ObjM h x dx C mA) : ∃ od, W.InstAt h x (W.instObj C dx) C (some od) ∧ ∀ name, W.lookIn name od = some (mA name) :=
 let ⟨od, ho, hl⟩ := lookIn_ns I.ns
 ⟨od, ⟨I.obj, rfl, rfl, ho⟩, hl⟩
section
variable {prog : Program} {w : World} {A : Around} {E : Value → Shared → Prop} {s : Shared} {K : W.Frag} {x dx C f : Addr} {mA : Str → Option Value} {name : Str} {v : Value}
theorem get_map {expr : Bool} {Q : Value → Shared → Prop} (X : K.In s.heap) (I : ObjM s.heap x dx C mA) (hg : W.plainGet K C name = true) (hh : W.hasDictIn K C = true)
  (ha : W.findIn K (.ref C) name = some none) (hv : mA name = some v) (hv' : W.handedIn v = true) (h : Q v { s with toks := s.toks + 1 }) :
  wpAny (model prog w) A (getAttr (.ref x) name expr) Q E s := by
 obtain ⟨od, J, hl⟩ := I.look
 exact W.get_value X J (W.plainGet_of hg).1 (W.findObj_own hh ha rfl (by rw [hl, hv])) hv' h
theorem get_meth {pl : Sem Bool} {Q : Value × List Value → Shared → Prop} (X : K.In s.heap) (I : ObjM s.heap x dx C mA) (hg : W.plainGet K C name = true)
  (hf : W.findIn K (.ref C) name = some (some (.ref f))) (ht : W.isFn K (.ref f) = true) (hv : mA name = none) (h : Q (.ref f, [.ref x]) s) :
  wpAny (model prog w) A (getMethod (.ref x) name pl) Q E s := by
 obtain ⟨od, J, hl⟩ := I.look
 exact W.method_fn X J (W.plainGet_of hg).1 (W.plainGet_of hg).2 hf (beq_iff_eq.mp ht) (by show (W.lookIn name od).map (·.isSome) = some false; rw [hl, hv]; rfl) h
theorem set_map {ns : List Str} {Q : Unit → Shared → Prop} (X : K.In s.heap) (I : ObjM s.heap x dx C mA)
  (hs : W.findIn K (.ref C) "__setattr__" = some (some (.builtin "object.__setattr__"))) (hp : W.plainOver K C = true) (ht : W.takerIn K C name = some none) (hh : W.hasDictIn K C = true)
  (hw : PySem.Within mA ns) (hsz : ns.length ≤ sizeLine)
  (h : ∀ h', ObjM h' x dx C (fun y => if y = name then some v else mA y) → Heap.SameBut dx s.heap h' → Q () { s with heap := h', toks := s.toks + 2 }) :
  wpAny (model prog w) A (setAttr (.ref x) name v) Q E s := by
 obtain ⟨od, J, hl⟩ := I.look
 refine W.set_plain X J hs (W.osa_open (s := { s with toks := s.toks + 1 }) (r := none) X J hp ht fun b => ?_)
 obtain ⟨cd, hc, hd'⟩ := W.any_some hh
 have hx : s.heap.get? x = some ⟨.ref C, some dx, .plain, #[]⟩ := I.obj
 refine wpAny_bind (wpAny_pure (wpAny_bind (wpAny_bind (wpAny_loadPart hx (wpAny_bind (W.Looks.here (s := { s with toks := s.toks + 1 }) (W.looks_clsIn X hc) ?_))))))
 rw [hd']
 refine wpAny_pure (a := some dx) (wpAny_bind (wpAny_pure (wpAny_bind ?_)))
 refine wpAny_nsSet1 (s := { s with toks := s.toks + 1 }) I.ns fun h' hn2 hs2 => ?_
 obtain ⟨oD, esD, epD, hoD, hdD, hcD⟩ := hn2.count (PySem.Within.cons name v hw)
 refine wpAny_bind (wpAny_lookBehind hoD (by rw [hdD]; exact pastItsLine_dict (Nat.le_trans hcD (by rw [List.length_cons]; omega))) ?_)
 exact wpAny_pure (h _ ⟨(hs2.2 _ (Ne.symm I.ne)).trans I.obj, hn2, I.ne⟩ hs2)
theorem make_map {R : Result → Shared → Prop} {vs : List Value} {kw : List (Str × Value)} (X : K.In s.heap) (hm : W.makesIn K C = true)
  (hi : W.findIn K (.ref C) "__init__" = some (some (.ref f))) (hf : W.typeIn K (.ref f) = some (.type "function"))
  (h : codeAny (model prog w) (A.under (.builtin "type.__call__" ⟨.ref C :: vs, kw⟩)) (.call (.ref f) ⟨.ref (s.heap.objs.size + 1) :: vs, kw⟩) (W.InitBack (s.heap.objs.size + 1) R)
   { s with heap := (s.heap.push W.emptyDict).push (W.instObj C s.heap.objs.size) }) :
  codeAny (model prog w) A (.call (.ref C) ⟨vs, kw⟩) R s := by
 obtain ⟨hh, g, d, t, os⟩ := s
 exact W.make_core (W.makes_of X hm) (W.looks_findIn X hi) (fun self => W.bind_fn X self hf) (.inl rfl) h
end
def putF (f : Str) (v : V) : List (Str × V) → List (Str × V)
 | [] => [(f, v)]
 | (g, x) :: r => if g = f then (g, v) :: r else (g, x) :: putF f v r
theorem lookup_putF (f g : Str) (v : V) : ∀ fs : List (Str × V), (putF f v fs).lookup g = if g = f then some v else fs.lookup g
 | [] => by
  show List.lookup g [(f, v)] = _
  by_cases h : g = f
  ·have hb : (g == f) = true := beq_iff_eq.mpr h
   simp only [List.lookup, hb, if_pos h]
  ·have hb : (g == f) = false := beq_eq_false_iff_ne.mpr h
   simp only [List.lookup, hb, if_neg h]
 | (k, x) :: r => by
  have ih := lookup_putF f g v r
  rw [show putF f v ((k, x) :: r) = (if k = f then (k, v) :: r else (k, x) :: putF f v r) from rfl]
  by_cases hk : k = f
  ·rw [if_pos hk]
   by_cases h : g = k
   ·have hb : (g == k) = true := beq_iff_eq.mpr h
    simp only [List.lookup, hb, if_pos (h.trans hk)]
   ·have hb : (g == k) = false := beq_eq_false_iff_ne.mpr h
    simp only [List.lookup, hb, if_neg (fun e : g = f => h (e.trans hk.symm))]
  ·rw [if_neg hk]
   by_cases h : g = k
   ·have hb : (g == k) = true := beq_iff_eq.mpr h
    simp only [List.lookup, hb, if_neg (fun e : g = f => hk (h.symm.trans e))]
   ·have hb : (g == k) = false := beq_eq_false_iff_ne.mpr h
    simp only [List.lookup, hb]
    exact ih
theorem keys_putF (f : Str) (v : V) : ∀ fs : List (Str × V), f ∈ (putF f v fs).map (·.1) ∧ ∀ g, g ∈ fs.map (·.1) → g ∈ (putF f v fs).map (·.1)
 | [] => ⟨by simp [putF], fun g h => by simp at h⟩
 | (k, x) :: r => by
  obtain ⟨i1, i2⟩ := keys_putF f v r
  rw [show putF f v ((k, x) :: r) = (if k = f then (k, v) :: r else (k, x) :: putF f v r) from rfl]
  by_cases hk : k = f
  ·rw [if_pos hk]
   subst hk
   exact ⟨by simp, fun g h => by simpa using h⟩
  ·rw [if_neg hk]
   refine ⟨?_, fun g h => ?_⟩
   ·rw [List.map_cons]
    exact List.mem_cons_of_mem _ i1
   ·rw [List.map_cons] at h ⊢
    rcases List.mem_cons.mp h with e | e
    ·exact List.mem_cons.mpr (.inl e)
    ·exact List.mem_cons_of_mem _ (i2 g e)
theorem length_putF (f : Str) (v : V) : ∀ fs : List (Str × V), (putF f v fs).length ≤ fs.length + 1
 | [] => by simp [putF]
 | (k, x) :: r => by
  have ih := length_putF f v r
  rw [show putF f v ((k, x) :: r) = (if k = f then (k, v) :: r else (k, x) :: putF f v r) from rfl]
  by_cases hk : k = f
  ·rw [if_pos hk, List.length_cons, List.length_cons]; omega
  ·rw [if_neg hk, List.length_cons, List.length_cons]; omega
theorem RelO.some_of {v : V} {o : Option Value} (r : RelO (some v) o) : ∃ u, o = some u ∧ RelV v u := by
 cases o with
 | none => exact (show False from r).elim
 | some u => exact ⟨u, rfl, r⟩
theorem RelO.none_of {o : Option Value} (r : RelO none o) : o = none := by
 cases o with
 | none => rfl
 | some u => exact (show False from r).elim
theorem handed_of {v : V} {u : Value} (r : RelV v u) : W.handedIn u = true := by
 cases v with
 | non => cases (show u = Value.none from r); rfl
 | bl b => cases (show u = Value.bool b from r); rfl
 | int i => obtain ⟨t, e⟩ := (show ∃ t, u = Value.int i t from r); cases e; rfl
 | str x => obtain ⟨t, e⟩ := (show ∃ t, u = Value.str x t from r); cases e; rfl
 | byt b => obtain ⟨t, e⟩ := (show ∃ t, u = Value.bytes b t from r); cases e; rfl
 | flt b => obtain ⟨t, e⟩ := (show ∃ t, u = Value.float b t from r); cases e; rfl
 | ref a => cases (show u = Value.ref a from r); rfl
 | ty n => cases (show u = Value.type n from r); rfl
section
variable {P : Program} {w : World} {H H' : Hp} {h h' : Heap} {a C dx : Addr} {fs fs' : List (Str × V)}
theorem ins_get (hok : HOk P w H h) (e : H a = some (.ins C dx fs)) : ∃ mA, ObjM h a dx C mA ∧ (∀ f, RelO (fs.lookup f) (mA f)) ∧ PySem.Within mA (fs.map (·.1)) ∧ fs.length ≤ 1000 ∧ H dx = some (.own a) := by
 obtain ⟨d, z, ne, ob, mA, n, r, q⟩ := (show ObjOk P w H h a (.ins C dx fs) from hok a _ e)
 exact ⟨mA, ⟨ob, n, ne⟩, r, q, z, d⟩
end
structure Cls (K : W.Frag) (C : Addr) : Prop where
 pg : W.plainGet K C Str.empty = true
 hd : W.hasDictIn K C = true
 po : W.plainOver K C = true
 sa : W.findIn K (.ref C) "__setattr__" = some (some (.builtin "object.__setattr__"))
theorem Cls.get {K : W.Frag} {C : Addr} (c : Cls K C) (f : Str) : W.plainGet K C f = true := c.pg
def NoAttr (K : W.Frag) (C : Addr) (f : Str) : Prop := W.findIn K (.ref C) f = some none
theorem NoAttr.taker {K : W.Frag} {C : Addr} {f : Str} (n : NoAttr K C f) : W.takerIn K C f = some none := by
 unfold W.takerIn
 rw [show W.findIn K (.ref C) f = some none from n]
 rfl
structure Meth (K : W.Frag) (C : Addr) (m : Str) (f : Addr) : Prop where
 at_ : W.findIn K (.ref C) m = some (some (.ref f))
 fn : W.isFn K (.ref f) = true
 kp : W.keepIn K (.ref f) = true
section
variable {X : Cx} {pins : List (Addr × Obj)} {σ : St} {H : Hp} {s : Shared} {a C dx : Addr} {fs : List (Str × V)} {f : Str} {v : V} {A : Around} {E : Value → Shared → Prop}
theorem getattr_ok {b : Bool} {Q : Value → Shared → Prop} (I : Inv X pins σ H s) (e : H a = some (.ins C dx fs)) (c : Cls X.K C) (n : NoAttr X.K C f) (l : fs.lookup f = some v)
  (h : ∀ u s', Inv X pins σ H s' → RelV v u → Q u s') : wpAny (model X.prog X.w) A (getAttr (.ref a) f b) Q E s := by
 obtain ⟨mA, O, r, _, _, _⟩ := ins_get I.hok e
 obtain ⟨u, hu, ru⟩ := RelO.some_of (v := v) (o := mA f) (by rw [← l]; exact r f)
 exact get_map I.kIn O (c.get f) c.hd n hu (handed_of ru) (h u _ (I.tok _) ru)
theorem getmeth_ok {m : Str} {g : Addr} {pl : Sem Bool} {Q : Value × List Value → Shared → Prop} (I : Inv X pins σ H s) (e : H a = some (.ins C dx fs)) (c : Cls X.K C) (k : Meth X.K C m g) (l : fs.lookup m = none)
  (h : Q (.ref g, [.ref a]) s) : wpAny (model X.prog X.w) A (getMethod (.ref a) m pl) Q E s := by
 obtain ⟨mA, O, r, _, _, _⟩ := ins_get I.hok e
 have hn : mA m = none := RelO.none_of (by rw [← l]; exact r m)
 exact get_meth I.kIn O (c.get m) k.at_ k.fn hn h
theorem setattr_ok {y : V} {u : Value} {Q : Unit → Shared → Prop} (I : Inv X pins σ H s) (e : H a = some (.ins C dx fs)) (c : Cls X.K C) (n : NoAttr X.K C f) (hl : fs.length < 1000) (ry : RelV y u)
  (h : ∀ s', Inv X pins σ (upd H a (.ins C dx (putF f y fs))) s' → Q () s') : wpAny (model X.prog X.w) A (setAttr (.ref a) f u) Q E s := by
 obtain ⟨mA, O, r, wi, _, ho⟩ := ins_get I.hok e
 have hz : (fs.map (·.1)).length ≤ sizeLine := by rw [List.length_map, sizeLine_eq]; omega
 refine set_map I.kIn O c.sa c.po n.taker c.hd wi hz fun h' O' sb => h _ ?_
 have hd : ∃ o, h'.get? dx = some o := let ⟨o, _, _, e', _⟩ := O'.ns; ⟨o, e'⟩
 refine I.write (x := a) (e := dx) (by rw [e]; exact True.intro) (.inr ho) (fun b q hb z => (sb.2 b hb).trans z) hd ?_
 refine ⟨by rw [upd_ne O.ne]; exact ho, ?_, O.ne, O'.obj, _, O'.ns, fun g => ?_, fun g hg => ?_⟩
 ·have := length_putF f y fs; omega
 ·show RelO ((putF f y fs).lookup g) (if g = f then some u else mA g)
  rw [lookup_putF]
  by_cases q : g = f
  ·rw [if_pos q, if_pos q]; exact ry
  ·rw [if_neg q, if_neg q]; exact r g
 ·by_cases q : g = f
  ·rw [q]; exact (keys_putF f y fs).1
  ·refine (keys_putF f y fs).2 g (wi g fun z => hg ?_)
   show (if g = f then some u else mA g) = none
   rw [if_neg q]; exact z
theorem Inv.made (I : Inv X pins σ H s) : Inv X pins σ (upd (upd H s.heap.objs.size (.own (s.heap.objs.size + 1))) (s.heap.objs.size + 1) (.ins C s.heap.objs.size []))
  { s with heap := (s.heap.push W.emptyDict).push (W.instObj C s.heap.objs.size) } := by
 have e1 : (s.heap.push W.emptyDict).get? s.heap.objs.size = some W.emptyDict := Heap.get?_push_size s.heap rfl
 have e2 : ((s.heap.push W.emptyDict).push (W.instObj C s.heap.objs.size)).get? (s.heap.objs.size + 1) = some (W.instObj C s.heap.objs.size) := by
  have := Heap.get?_push_size (s.heap.push W.emptyDict) (o := W.instObj C s.heap.objs.size) rfl
  rwa [Heap.size_push] at this
 have e3 : (s.heap.push W.emptyDict).Ns s.heap.objs.size (fun _ => none) := ⟨W.emptyDict, #[], _, e1, rfl, (fun e he => absurd he (by simp)), fun _ => rfl⟩
 have I1 := I.laid (a := s.heap.objs.size) (o := .own (s.heap.objs.size + 1)) (h' := s.heap.push W.emptyDict) (t' := s.toks) (fun b u q => Heap.get?_push_of_some _ q) (Nat.le_refl _) ⟨_, e1⟩
 refine I1.laid (a := s.heap.objs.size + 1) (o := .ins C s.heap.objs.size []) (t' := s.toks) (fun b u q => Heap.get?_push_of_some _ q) (Nat.le_of_eq (Heap.size_push _ _)) ?_
 have ne : s.heap.objs.size ≠ s.heap.objs.size + 1 := Nat.ne_of_lt (Nat.lt_succ_self _)
 refine ⟨by rw [upd_ne ne, upd_same], Nat.zero_le _, ne, e2, fun _ => none, (Heap.Ns1.of_empty e3).at fun o q => Heap.get?_push_of_some _ q, fun _ => True.intro, fun y hy => absurd rfl hy⟩
theorem attr_of {prog : Program} {w : World} {env : Env} {e : Expr} {f : Str} {pos : Pos} {s : Shared} {Q : Value → Shared → Prop} (hb : attributeBase e f env (eval e env) = eval e env)
  (h : wpAny (model prog w) A (eval e env) (fun o s₁ => wpAny (model prog w) A (getAttr o f true) Q E s₁) E s) : wpAny (model prog w) A (eval (.Attribute e f pos) env) Q E s :=
 Attribute_any_ h (by rw [arm_eval_Attribute, hb])
end
def tFld (K : W.Frag) (ta : TE) (f : Str) : TE := fun σ H Q => ta σ H fun x H1 => ∃ a C dx fs v, x = .ref a ∧ H1 a = some (.ins C dx fs) ∧ Cls K C ∧ NoAttr K C f ∧ fs.lookup f = some v ∧ Q v H1
def sFld (K : W.Frag) (ta tv : TE) (f : Str) : TS := fun D σ H => tv σ H fun y H1 => ta σ H1 fun x H2 => ∃ a C dx fs, x = .ref a ∧ H2 a = some (.ins C dx fs) ∧ Cls K C ∧ NoAttr K C f ∧ fs.length < 1000 ∧
 D.nx σ (upd H2 a (.ins C dx (putF f y fs)))
section
variable {X : Cx} {o e value : Expr} {f : Str} {pos pos' tpos : Pos} {ta tv : TE}
theorem pe_fld (he : PE X e ta) (hb : attributeBase e f X.env (eval e X.env) = eval e X.env) : PE X (.Attribute e f pos) (tFld X.K ta f) := by
 intro pins s σ H Q I h
 refine attr_of hb (thn (he pins s σ H _ I h) fun u s1 ⟨x, H1, I1, rx, a, C, dx, fs, v, ex, ea, c, n, l, q⟩ => ?_)
 subst ex
 obtain rfl : u = Value.ref a := rx
 exact getattr_ok I1 ea c n l fun u' s2 I2 ru => ⟨v, H1, I2, ru, q⟩
theorem ps_fld (ha : PE X o ta) (hv : PE X value tv) (hs : swapsWith value (some (.Attribute o f pos')) pos.line X.env = pure false) : PS X (.Assign [.Attribute o f pos'] value pos) (sFld X.K ta tv f) := by
 intro pins s σ H D I h
 refine plainObj_wpAny_Assign_Attribute (thn (hv pins s σ H _ I h) fun u s1 ⟨y, H1, I1, ry, q⟩ => thn (ha pins s1 σ H1 _ I1 q) fun ov s2 ⟨x, H2, I2, rx, a, C, dx, fs, ex, ea, c, n, l, q2⟩ => ?_) hs
 subst ex
 obtain rfl : ov = Value.ref a := rx
 exact setattr_ok I2 ea c n l ry fun s3 I3 => ⟨σ, _, I3, q2⟩
end
section
variable {X : Cx} {pins : List (Addr × Obj)} {σ : St} {H : Hp} {s : Shared} {A : Around} {E : Value → Shared → Prop} {Q : Value → Shared → Prop} {c : Value} {b : Bool}
inductive TyOf (K : W.Frag) (H : Hp) : V → Value → Prop where
 | non : TyOf K H .non (.type "NoneType")
 | bl (x : Bool) : TyOf K H (.bl x) (.type "bool")
 | int (i : Int) : TyOf K H (.int i) (.type "int")
 | str (x : Str) : TyOf K H (.str x) (.type "str")
 | flt (x : UInt64) : TyOf K H (.flt x) (.type "float")
 | lst {a : Addr} {xs : List V} (e : H a = some (.lst xs)) : TyOf K H (.ref a) (.type "list")
 | frz {a : Addr} {o : Obj} {xs : List V} (e : H a = some (.frz o (.lst xs))) : TyOf K H (.ref a) (.type "list")
 | tup {a : Addr} {xs : List V} (e : H a = some (.tup xs)) : TyOf K H (.ref a) (.type "tuple")
 | dK {a : Addr} {kvs : List (Key × V)} (e : H a = some (.dK kvs)) : TyOf K H (.ref a) (.type "dict")
 | dT {a : Addr} {kvs : List (List Key × V)} (e : H a = some (.dT kvs)) : TyOf K H (.ref a) (.type "dict")
 | ins {a C dx : Addr} {fs : List (Str × V)} (e : H a = some (.ins C dx fs)) (cl : Cls K C) (ha : W.findIn K (.ref C) "__class__" = some (some (.builtin "object.__class__")))
   (hn : W.specialIn K (.builtin "object.__class__") "__get__" = some (some (.builtin "getset_descriptor.__get__"))) (htk : W.takesIn K (.builtin "object.__class__") = some true)
   (hm : W.mroIn K C (.type "object") = some true) : TyOf K H (.ref a) (.ref C)
end
structure Room (k : Nat) (A : Around) : Prop where
 hd : A.handled = none
 dp : A.depth + 3 * k + 5 < recursionLimit
 un : A.units + 16 * k + 200 < cLine
theorem Room.mono {j k : Nat} {A : Around} (r : Room k A) (h : j ≤ k) : Room j A := ⟨r.hd, by have := r.dp; omega, by have := r.un; omega⟩
theorem Room.deeper {k : Nat} {A : Around} (r : Room (k + 1) A) (env : Env) : Room k (A.deeper env) :=
 ⟨r.hd, by have := r.dp; show A.depth + 1 + 3 * k + 5 < _; omega, by have := r.un; show A.units + 3 + 16 * k + 200 < _; omega⟩
theorem Room.in1 {k : Nat} {A : Around} (r : Room (k + 1) A) : Room k A.in1 :=
 ⟨r.hd, by have := r.dp; show A.depth + 3 * k + 5 < _; omega, by have := r.un; show A.units + 1 + 16 * k + 200 < _; omega⟩
theorem make_depth {A : Around} {C : Addr} {us : List Value} {kw : List (Str × Value)} : (A.under (.builtin "type.__call__" ⟨.ref C :: us, kw⟩)).depth = A.depth + 1 := by
 first | rfl | simp [Around.under, Code.weight, Code.isCreation, Code.isGuard, Code.isCaller, Code.frames, Code.isFrame, guardIds]
theorem make_units {A : Around} {C : Addr} {us : List Value} {kw : List (Str × Value)} : (A.under (.builtin "type.__call__" ⟨.ref C :: us, kw⟩)).units = A.units + 1 := by
 first | rfl | simp [Around.under, Code.cUnits, Code.frames, Code.isFrame]
theorem Room.make {k : Nat} {A : Around} (r : Room (k + 1) A) (C : Addr) (us : List Value) (kw : List (Str × Value)) : Room k (A.under (.builtin "type.__call__" ⟨.ref C :: us, kw⟩)) :=
 ⟨r.hd, by have := r.dp; rw [make_depth]; omega, by have := r.un; rw [make_units]; omega⟩
theorem Room.depth {k : Nat} {A : Around} (r : Room k A) : A.depth < recursionLimit := by have := r.dp; omega
theorem Room.units {k : Nat} {A : Around} (r : Room k A) : A.units + 64 < cLine := by have := r.un; omega
def tNil : TA := fun _ H Q => Q [] H
def tCons (ta : TE) (tr : TA) : TA := fun σ H Q => ta σ H fun x H1 => tr σ H1 fun xs H2 => Q (x :: xs) H2
section
variable {X : Cx} {e : Expr} {es : List Expr} {te : TE} {t : TA} {pos : Pos}
theorem pa_nil : PA X [] tNil := fun _ _ _ _ H Q I h => Calls.spliced_nil ⟨[], H, I, .nil, h⟩
theorem pa_cons (ha : PE X e te) (hr : PA X es t) (hs : starEach (e :: es) X.env = (false, eval e X.env) :: starEach es X.env := by rfl) : PA X (e :: es) (tCons te t) := by
 intro pos pins s σ H Q I h
 rw [hs]
 show wpAny _ _ (spliced ((false, eval e X.env) :: backTo pos (starEach es X.env))) _ _ s
 refine Calls.spliced_cons (thn (ha pins s σ H _ I h) fun u s1 ⟨x, H1, I1, r1, q1⟩ => ?_)
 exact thn (hr pos pins s1 σ H1 _ I1 q1) fun us s2 ⟨xs, H2, I2, r2, q2⟩ => ⟨x :: xs, H2, I2, .cons r1 r2, q2⟩
def tTup (t : TA) : TE := fun σ H Q => t σ H fun xs H1 => xs.length ≤ sizeLine ∧ ∀ p, H1 p = none → Q (.ref p) (upd H1 p (.tup xs))
def tLst (t : TA) : TE := fun σ H Q => t σ H fun xs H1 => xs.length ≤ sizeLine ∧ ∀ p, H1 p = none → Q (.ref p) (upd H1 p (.lst xs))
theorem pe_tup {x1} (h : PA X es t) : PE X (.Tuple es x1 pos) (tTup t) := by
 intro pins s σ H Q I hq
 refine wpAny_Tuple_spliced (thn (h pos pins s σ H _ I hq) fun us s1 ⟨xs, H1, I1, r, z, q⟩ => ⟨by rw [← r.length]; exact z, ?_⟩)
 have hf : H1 s1.heap.objs.size = none := I1.hok.fresh (Nat.le_refl _)
 refine ⟨.ref s1.heap.objs.size, upd H1 s1.heap.objs.size (.tup xs), I1.laid (t' := s1.toks) (fun b u e => Heap.get?_push_of_some _ e) (Nat.le_refl _) ?_, rfl, q _ hf⟩
 exact ⟨z, us, r, ⟨_, Heap.get?_push_size _ rfl, rfl, _, rfl⟩⟩
theorem pe_lst (h : PA X es t) : PE X (.List es pos) (tLst t) := by
 intro pins s σ H Q I hq
 refine wpAny_List_spliced (thn (h pos pins s σ H _ I hq) fun us s1 ⟨xs, H1, I1, r, z, q⟩ => ⟨by rw [← r.length]; exact z, ?_⟩)
 have hf : H1 s1.heap.objs.size = none := I1.hok.fresh (Nat.le_refl _)
 refine ⟨.ref s1.heap.objs.size, upd H1 s1.heap.objs.size (.lst xs), I1.laid (t' := s1.toks) (fun b u e => Heap.get?_push_of_some _ e) (Nat.le_refl _) ?_, rfl, q _ hf⟩
 exact ⟨z, us, 0, r, Heap.get?_push_size _ rfl⟩
end
abbrev Sp := List V → Hp → VK → XK → Prop
abbrev CXT := List Env → Hp → Shared → XK → Value → Shared → Prop
structure Env0 (P : Program) (w : World) (K : W.Frag) (mg : Str → Option Value) (base : Heap) (A : Around) (outer : List Env) (s : Shared) (H : Hp) : Prop where
 frames : A.frames = some outer
 mod : Mod K mg base
 bs : ∀ b o, base.get? b = some o → s.heap.get? b = some o ∧ H b = none
 bsz : base.objs.size ≤ s.heap.objs.size
 funs : s.heap.FunFrames base outer
 frf : ∀ b ∈ frs outer, H b = none
 hok : HOk P w H s.heap
 bare : AllBare s.gens
def CE (outer : List Env) (P : Program) (w : World) (H : Hp) (s : Shared) (Q : VK) (u : Value) (s' : Shared) : Prop :=
 ∃ v H', s'.os = s.os ∧ AllBare s'.gens ∧ Un (frs outer) [] H H' s.heap s'.heap ∧ HOk P w H' s'.heap ∧ RelV v u ∧ Q v H'
def CR (CX : CXT) (outer : List Env) (P : Program) (w : World) (H : Hp) (s : Shared) (Q : VK) (E : XK) (r : Result) (s' : Shared) : Prop :=
 match r with
 | .ok (.ret u) => CE outer P w H s Q u s'
 | .ok _ => False
 | .error e => CX outer H s E e s'
structure FnOk (P : Program) (w : World) (K : W.Frag) (mg : Str → Option Value) (base : Heap) (CX : CXT) (k : Nat) (f : Addr) (fd : FuncData) (ps : List Str) (sp : Sp) : Prop where
 len : ∀ vs H Q E, sp vs H Q E → vs.length = ps.length
 run : ∀ (A : Around) (outer : List Env) (s : Shared) (H : Hp) (args : Args) (us : List Value) (vs : List V) (Q : VK) (E : XK), Room k A → Env0 P w K mg base A outer s H → BindsTo s fd args (ps.zip us) → Vals vs us → sp vs H Q E →
  codeAny (model P w) A (.call (.ref f) args) (CR CX outer P w H s Q E) s
theorem FnOk.mono {P : Program} {w : World} {K : W.Frag} {mg : Str → Option Value} {base : Heap} {CX : CXT} {j k : Nat} {f : Addr} {fd : FuncData} {ps : List Str} {sp : Sp} (F : FnOk P w K mg base CX j f fd ps sp) (h : j ≤ k) :
  FnOk P w K mg base CX k f fd ps sp := ⟨F.len, fun A outer s H args us vs Q E hr => F.run A outer s H args us vs Q E (hr.mono h)⟩
theorem FnOk.imp {P : Program} {w : World} {K : W.Frag} {mg : Str → Option Value} {base : Heap} {CX : CXT} {k : Nat} {f : Addr} {fd : FuncData} {ps : List Str} {sp sp' : Sp} (F : FnOk P w K mg base CX k f fd ps sp)
  (h : ∀ vs H Q E, sp' vs H Q E → sp vs H Q E) : FnOk P w K mg base CX k f fd ps sp' :=
 ⟨fun vs H Q E q => F.len vs H Q E (h _ _ _ _ q), fun A outer s H args us vs Q E hr he hb hv hs => F.run A outer s H args us vs Q E hr he hb hv (h _ _ _ _ hs)⟩
theorem Env0.make {P : Program} {w : World} {K : W.Frag} {mg : Str → Option Value} {base : Heap} {A : Around} {outer : List Env} {s : Shared} {H : Hp} (e : Env0 P w K mg base A outer s H) (C : Addr) (us : List Value) (kw : List (Str × Value)) :
  Env0 P w K mg base (A.under (.builtin "type.__call__" ⟨.ref C :: us, kw⟩)) outer s H := ⟨by first | exact e.frames | (simpa [Around.under, Code.envs, Code.isFrame, pushEnvs] using e.frames), e.mod, e.bs, e.bsz, e.funs, e.frf, e.hok, e.bare⟩
theorem Env0.in1 {P : Program} {w : World} {K : W.Frag} {mg : Str → Option Value} {base : Heap} {A : Around} {outer : List Env} {s : Shared} {H : Hp} (e : Env0 P w K mg base A outer s H) :
  Env0 P w K mg base A.in1 outer s H := ⟨e.frames, e.mod, e.bs, e.bsz, e.funs, e.frf, e.hok, e.bare⟩
section
variable {X : Cx} {pins : List (Addr × Obj)} {σ : St} {H : Hp} {s s' : Shared}
theorem Inv.env0 (I : Inv X pins σ H s) : Env0 X.prog X.w X.K X.mg X.base X.A X.stack s H :=
 ⟨I.ok.frames, I.ok.mod, I.bs, Nat.le_trans I.ok.bsz I.sz, I.stack, I.stkFree, I.hok, I.bare⟩
theorem Inv.after {Q : VK} {u : Value} (I : Inv X pins σ H s) (h : CE X.stack X.prog X.w H s Q u s') : EP X pins σ Q u s' := by
 obtain ⟨v, H', os, bare, un, hok, r, q⟩ := h
 obtain ⟨hh, g, d, t, os'⟩ := s'
 obtain rfl : os' = s.os := os
 exact ⟨v, H', I.call (h' := hh) (g' := g) (d' := d) (t' := t) (ch := []) un hok bare (fun b z => absurd z (by simp)), r, q⟩
end
def tCall (sp : Sp) (dvs : List V) (E : XK) (t : TA) : TE := fun σ H Q => t σ H fun vs H1 => sp (vs ++ dvs) H1 Q E
def tMake (C : Addr) (sp : Sp) (dvs : List V) (E : XK) (t : TA) : TE := fun σ H Q => t σ H fun vs H1 => ∀ x dx, H1 x = none → H1 dx = none → dx ≠ x →
 sp (.ref x :: (vs ++ dvs)) (upd (upd H1 dx (.own x)) x (.ins C dx [])) (fun v H2 => v = .non ∧ Q (.ref x) H2) E
def Binds (K : W.Frag) (fd : FuncData) (ps : List Str) (ds : List Value) : Prop :=
 ∀ (s : Shared) (us : List Value), K.In s.heap → (us ++ ds).length = ps.length → BindsTo s fd ⟨us, []⟩ (ps.zip (us ++ ds))
theorem Binds.all {K : W.Frag} {fd : FuncData} {ps : List Str} (h : ∀ us : List Value, us.length = ps.length → bindArgs fd ⟨us, []⟩ = pure (ps.zip us)) : Binds K fd ps [] := fun s us _ hl => by
 rw [List.append_nil] at hl ⊢
 exact .of_eq (h us hl)
def Passes (CX : CXT) (X : Cx) (E : XK) : Prop := ∀ (pins : List (Addr × Obj)) (σ : St) (H : Hp) (s : Shared) (e : Value) (s' : Shared), Inv X pins σ H s → CX X.stack H s E e s' → X.xe e s'
section
variable {X : Cx} {CX : CXT} {k : Nat} {f C : Addr} {fd : FuncData} {ps : List Str} {sp : Sp} {dvs : List V} {ds : List Value} {E : XK} {x m : Str} {p pos apos : Pos} {e o : Expr} {es : List Expr} {ta : TE} {t : TA}
theorem run_fn {pins : List (Addr × Obj)} {σ : St} {H : Hp} {s : Shared} {Q : VK} {us : List Value} {vs : List V} (F : FnOk X.prog X.w X.K X.mg X.base CX k f fd ps sp) (hr : Room k X.A) (hb : Binds X.K fd ps ds) (hd : Vals dvs ds) (hx : Passes CX X E)
  (I : Inv X pins σ H s) (r : Vals vs us) (h : sp (vs ++ dvs) H Q E) : wpAny (model X.prog X.w) X.A (call (.ref f) us) (EP X pins σ Q) X.xe s := by
 have r2 : Vals (vs ++ dvs) (us ++ ds) := r.append hd
 have hl : (us ++ ds).length = ps.length := by rw [← r2.length]; exact F.len _ _ _ _ h
 refine wpAny_call (codeAny_mono (F.run X.A X.stack s H ⟨us, []⟩ (us ++ ds) (vs ++ dvs) Q E hr I.env0 (hb s us I.kIn hl) r2 h) fun r s' hq => ?_)
 cases r with
 | error e => exact hx pins σ H s e s' I hq
 | ok fl =>
  cases fl with
  | ret u => exact I.after hq
  | next => exact False.elim hq
  | brk => exact False.elim hq
  | cont => exact False.elim hq
theorem pe_call (F : FnOk X.prog X.w X.K X.mg X.base CX k f fd ps sp) (hr : Room k X.A) (hg : Gl X x) (hm : X.mg x = some (.ref f)) (hk : W.keepIn X.K (.ref f) = true) (hb : Binds X.K fd ps ds) (hd : Vals dvs ds) (hx : Passes CX X E)
  (ha : PA X (e :: es) t) (hdb : (x == ("__debug__" : Str)) = false := by decide) (he : starEach (e :: es) X.env = (false, eval e X.env) :: starEach es X.env := by rfl) (hpl : (backTo pos (starEach es X.env)).any (·.1) = false := by rfl) :
  PE X (.Call (.Name x p) (e :: es) [] pos) (tCall sp dvs E t) := by
 intro pins s σ H Q I h
 refine wpAny_Call_Name_kw (ld_glob I hg hm ?_ hdb)
 refine W.callWith_K (h₀ := X.base) I.ok.mod.kin hk (thn (ha pos pins s σ H _ I h) fun us s1 ⟨vs, H1, I1, r, q⟩ => ⟨I1.kIn, ?_⟩) he hpl
 exact run_fn F hr hb hd hx I1 r q
structure Mk (K : W.Frag) (C f : Addr) : Prop where
 makes : W.makesIn K C = true
 init : W.findIn K (.ref C) "__init__" = some (some (.ref f))
 fn : W.isFn K (.ref f) = true
 kp : W.keepIn K (.ref C) = true
theorem run_make {pins : List (Addr × Obj)} {σ : St} {H : Hp} {s : Shared} {Q : VK} {us : List Value} {vs : List V} (M : Mk X.K C f) (F : FnOk X.prog X.w X.K X.mg X.base CX k f fd ps sp) (hr : Room (k + 1) X.A) (hb : Binds X.K fd ps ds) (hd : Vals dvs ds)
  (hx : Passes CX X E) (I : Inv X pins σ H s) (r : Vals vs us)
  (h : ∀ x dx, H x = none → H dx = none → dx ≠ x → sp (.ref x :: (vs ++ dvs)) (upd (upd H dx (.own x)) x (.ins C dx [])) (fun v H2 => v = .non ∧ Q (.ref x) H2) E) :
  wpAny (model X.prog X.w) X.A (call (.ref C) us) (EP X pins σ Q) X.xe s := by
 have hq := h (s.heap.objs.size + 1) s.heap.objs.size (I.hok.fresh (Nat.le_succ _)) (I.hok.fresh (Nat.le_refl _)) (Nat.ne_of_lt (Nat.lt_succ_self _))
 have I2 := Inv.made (C := C) I
 have r2 : Vals (V.ref (s.heap.objs.size + 1) :: (vs ++ dvs)) (Value.ref (s.heap.objs.size + 1) :: (us ++ ds)) := .cons rfl (r.append hd)
 have hl : (Value.ref (s.heap.objs.size + 1) :: us ++ ds).length = ps.length := by
  have e := r2.length
  rw [F.len _ _ _ _ hq] at e
  exact e.symm
 refine wpAny_call (make_map (f := f) I.kIn M.makes M.init (beq_iff_eq.mp M.fn) (codeAny_mono (F.run _ X.stack _ _ ⟨Value.ref (s.heap.objs.size + 1) :: us, []⟩ (Value.ref (s.heap.objs.size + 1) :: (us ++ ds)) _ _ E (hr.make C us [])
  (I2.env0.make C us []) (hb _ (Value.ref (s.heap.objs.size + 1) :: us) I2.kIn hl) r2 hq) fun r s' hq' => ?_))
 cases r with
 | error e => exact hx pins σ _ _ e s' I2 hq'
 | ok fl =>
  cases fl with
  | ret u =>
   obtain ⟨v, H', I3, rv, ev, q3⟩ := I2.after hq'
   subst ev
   exact ⟨rv, ⟨V.ref (s.heap.objs.size + 1), H', I3, rfl, q3⟩⟩
  | next => exact False.elim hq'
  | brk => exact False.elim hq'
  | cont => exact False.elim hq'
theorem pe_make (M : Mk X.K C f) (F : FnOk X.prog X.w X.K X.mg X.base CX k f fd ps sp) (hr : Room (k + 1) X.A) (hg : Gl X x) (hm : X.mg x = some (.ref C)) (hb : Binds X.K fd ps ds) (hd : Vals dvs ds) (hx : Passes CX X E)
  (ha : PA X (e :: es) t) (hdb : (x == ("__debug__" : Str)) = false := by decide) (he : starEach (e :: es) X.env = (false, eval e X.env) :: starEach es X.env := by rfl) (hpl : (backTo pos (starEach es X.env)).any (·.1) = false := by rfl) :
  PE X (.Call (.Name x p) (e :: es) [] pos) (tMake C sp dvs E t) := by
 intro pins s σ H Q I h
 refine wpAny_Call_Name_kw (ld_glob I hg hm ?_ hdb)
 refine W.callWith_K (h₀ := X.base) I.ok.mod.kin M.kp (thn (ha pos pins s σ H _ I h) fun us s1 ⟨vs, H1, I1, r, q⟩ => ⟨I1.kIn, ?_⟩) he hpl
 exact run_make M F hr hb hd hx I1 r q
end
structure FnScope (N P : List Str) (sc : Scope) : Prop where
 kind : sc.kind = .function
 co : sc.isCoroutine = false
 gen : sc.isGenerator = false
 nd : N.Nodup
 pre : N.take P.length = P
 par : ∀ x ∈ P, sc.names.lookup x = some .local ∨ sc.names.lookup x = some .cell
 nofree : ∀ y ∈ sc.names, y.2 ≠ .free
theorem bindL_out {kindOf : Str → Option NameKind} {x : Str} : ∀ {binds : List (Str × Value)} {m : Str → Option Value}, (∀ v, (x, v) ∉ binds) → bindL kindOf binds m x = m x
 | [], _, _ => rfl
 | (n, v) :: r, m, h => by
  unfold bindL
  rw [bindL_out fun w hw => h w (List.mem_cons_of_mem _ hw)]
  split
  ·have : x ≠ n := by rintro rfl; exact h v List.mem_cons_self
   simp [this]
  ·rfl
theorem bindC_out {kindOf : Str → Option NameKind} {x : Str} : ∀ {binds : List (Str × Value)} {m : Str → Option Value}, (∀ v, (x, v) ∉ binds) → bindC kindOf binds m x = m x
 | [], _, _ => rfl
 | (n, v) :: r, m, h => by
  unfold bindC
  rw [bindC_out fun w hw => h w (List.mem_cons_of_mem _ hw)]
  split
  ·rfl
  ·have : x ≠ n := by rintro rfl; exact h v List.mem_cons_self
   simp [this]
theorem bindL_get {kindOf : Str → Option NameKind} {x : Str} {v : Value} : ∀ {P : List Str} {vs : List Value} {i : Nat} {m : Str → Option Value}, P.Nodup → P[i]? = some x → vs[i]? = some v → kindOf x = some .local →
  bindL kindOf (P.zip vs) m x = some v
 | [], _, _, _, _, h, _, _ => by simp at h
 | _ :: _, [], _, _, _, _, h, _ => by simp at h
 | p :: P, w :: vs, 0, m, nd, h1, h2, hk => by
  simp at h1 h2; subst h1; subst h2
  show bindL kindOf ((p, w) :: P.zip vs) m p = _
  unfold bindL
  rw [bindL_out fun v hv => (List.nodup_cons.mp nd).1 (List.of_mem_zip hv).1, if_pos hk]
  simp
 | p :: P, w :: vs, i + 1, m, nd, h1, h2, hk => by
  show bindL kindOf ((p, w) :: P.zip vs) m x = _
  unfold bindL
  exact bindL_get (i := i) (List.nodup_cons.mp nd).2 (by simpa using h1) (by simpa using h2) hk
theorem bindC_get {kindOf : Str → Option NameKind} {x : Str} {v : Value} : ∀ {P : List Str} {vs : List Value} {i : Nat} {m : Str → Option Value}, P.Nodup → P[i]? = some x → vs[i]? = some v → kindOf x ≠ some .local →
  bindC kindOf (P.zip vs) m x = some v
 | [], _, _, _, _, h, _, _ => by simp at h
 | _ :: _, [], _, _, _, _, h, _ => by simp at h
 | p :: P, w :: vs, 0, m, nd, h1, h2, hk => by
  simp at h1 h2; subst h1; subst h2
  show bindC kindOf ((p, w) :: P.zip vs) m p = _
  unfold bindC
  rw [bindC_out fun v hv => (List.nodup_cons.mp nd).1 (List.of_mem_zip hv).1, if_neg hk]
  simp
 | p :: P, w :: vs, i + 1, m, nd, h1, h2, hk => by
  show bindC kindOf ((p, w) :: P.zip vs) m x = _
  unfold bindC
  exact bindC_get (i := i) (List.nodup_cons.mp nd).2 (by simpa using h1) (by simpa using h2) hk
def start (N : List Str) (vs : List V) : St := vs.map some ++ List.replicate (N.length - vs.length) none
def cxOf (CX : CXT) (P : Program) (w : World) (K : W.Frag) (mg : Str → Option Value) (base : Heap) (N : List Str) (qual : Str) (scope : Scope) (f : Addr) (cd : Value) (A : Around) (outer : List Env) (s : Shared) (H : Hp) (E : XK) : Cx where
 prog := P
 w := w
 K := K
 mg := mg
 base := base
 A := A.deeper (envOfC qual scope s.heap.objs.size f cd)
 N := N
 s₀ := s
 H₀ := H
 env := envOfC qual scope s.heap.objs.size f cd
 outer := outer
 stack := envOfC qual scope s.heap.objs.size f cd :: outer
 ex := []
 calm := true
 fn := fun _ => true
 pn := []
 xe := fun e s' => wpAny (model P w) (A.deeper (envOfC qual scope s.heap.objs.size f cd)) (leaving (envOfC qual scope s.heap.objs.size f cd) e) (fun _ s'' => CX outer H s E e s'') (fun e' s'' => CX outer H s E e' s'') s'
theorem cell_has {sc : Scope} {n : Nat} {x : Str} (h : sc.names.lookup x = some .cell) : ∃ c, (cellsFrom n sc.names []).lookup x = some c := by
 have q := W.cellsFrom_some sc.names n [] (.inl h)
 exact Option.isSome_iff_exists.mp q
theorem inv_start {CX : CXT} {P : Program} {w : World} {K : W.Frag} {mg : Str → Option Value} {base : Heap} {N ps : List Str} {qual : Str} {scope : Scope} {f : Addr} {cd : Value} {A : Around} {outer : List Env} {s s1 : Shared} {H : Hp} {E : XK} {us : List Value} {vs : List V}
  (S : FnScope N ps scope) (hd : A.handled = none) (e0 : Env0 P w K mg base A outer s H) (hl : vs.length = ps.length) (r : Vals vs us)
  (x : InCallC s s.heap.objs.size (bindL (envOfC qual scope s.heap.objs.size f cd).kindOf (ps.zip us) fun _ => none) (cellsFrom (s.heap.objs.size + 1) scope.names []) (bindC (envOfC qual scope s.heap.objs.size f cd).kindOf (ps.zip us) fun _ => none) s1) :
  Inv (cxOf CX P w K mg base N qual scope f cd A outer s H E) [] (start N vs) H s1 := by
 have hpl : ps.length ≤ N.length := by have := congrArg List.length S.pre; rw [List.length_take] at this; omega
 obtain ⟨h1, tk, rfl, hk⟩ := x.done
 have noA : ∀ b : Addr, b ∉ (cxOf CX P w K mg base N qual scope f cd A outer s H E).ex := fun b z => absurd (show b ∈ ([] : List Addr) from z) (by simp)
 refine ⟨⟨e0.mod, S.kind, rfl, rfl, Nat.le_refl _, fun y z c h1 h2 => ?_, fun y hy => ?_, fun y c _ h => ?_, fun _ => hd, Around.frames_deeper e0.frames, .inr ⟨rfl, rfl⟩, fun b z => absurd z (noA b), e0.bs, e0.bsz, fun b _ _ => noA b, fun b z => absurd z (noA b), e0.funs, e0.frf⟩,
  rfl, e0.bare, Un.kept hk, ⟨_, x.toInCall.ns, fun i y v h1 h2 h3 => ?_⟩, fun y c h => ⟨_, x.cell y c h⟩, e0.hok.fresh (Nat.le_refl _), fun y c h => ?_, fun p hp => absurd (show p ∈ ([] : List (Addr × Obj)) from hp) (by simp), e0.hok.kept hk, ?_⟩
 ·exact name_of_addr x.apart (PySem.mem_of_lookup h1) (PySem.mem_of_lookup h2)
 ·have hy : scope.names.lookup y = some .cell ∨ scope.names.lookup y = some .free := hy
  rcases hy with hy | hy
  ·exact cell_has hy
  ·exact absurd rfl (S.nofree _ (PySem.mem_of_lookup hy))
 ·exact Nat.le_of_lt (x.above y c (PySem.mem_of_lookup h))
 ·have hi : i < vs.length := by
   unfold start at h2
   by_cases hi : i < vs.length
   ·exact hi
   ·rw [List.getElem?_append_right (by simpa using hi)] at h2
    rw [List.getElem?_replicate] at h2
    split at h2 <;> cases h2
  have ha : vs[i]? = some v := by
   unfold start at h2
   rw [List.getElem?_append_left (by simpa using hi), List.getElem?_map] at h2
   cases e : vs[i]? with
   | none => rw [e] at h2; cases h2
   | some a => rw [e] at h2; cases h2; rfl
  obtain ⟨u, hu, rv⟩ := r.get ha
  have hp : ps[i]? = some y := by
   rw [← S.pre, List.getElem?_take_of_lt (by omega)]; exact h1
  have ndP : ps.Nodup := by rw [← S.pre]; exact S.nd.sublist (List.take_sublist _ _)
  refine ⟨u, rv, ?_⟩
  rcases S.par y (List.mem_of_getElem? hp) with k | k
  ·exact .inl ⟨k, bindL_get ndP hp hu k⟩
  ·obtain ⟨c, e⟩ := cell_has (n := s.heap.objs.size + 1) k
   refine .inr ⟨.inl k, c, e, ?_⟩
   have q := x.cell y c e
   rw [bindC_get ndP hp hu (by show scope.names.lookup y ≠ _; rw [k]; decide)] at q
   exact q
 ·exact e0.hok.fresh (Nat.le_of_lt (x.above y c (PySem.mem_of_lookup h)))
 ·unfold start
  show _ = N.length
  rw [List.length_append, List.length_map, List.length_replicate]
  omega
theorem fn_of {CX : CXT} {P : Program} {w : World} {K : W.Frag} {mg : Str → Option Value} {base : Heap} {k : Nat} {f : Addr} {name qual : Str} {params : Arguments} {body : List Stmt} {scope : Scope} {dV kV doc pm cdv ct oc : Value} {an od : Option Addr}
  {osl : Array (Option Value)} {N ps : List Str} {sp : Sp} (lk : K.lookup f = some ⟨oc, od, .func (W.fnOf name qual params body scope dV kV doc pm an cdv ct), osl⟩) (hcd : W.codeIn K cdv qual = true) (S : FnScope N ps scope)
  (len : ∀ vs H Q E, sp vs H Q E → vs.length = ps.length)
  (hbody : ∀ (A : Around) (outer : List Env) (s : Shared) (H : Hp) (vs : List V) (Q : VK) (E : XK), Room k (A.deeper (envOfC qual scope s.heap.objs.size f cdv)) → sp vs H Q E →
   ∃ t, PSs (cxOf CX P w K mg base N qual scope f cdv A outer s H E) body t ∧ t { nx := fun _ H' => Q .non H', rt := Q } (start N vs) H) :
  FnOk P w K mg base CX (k + 1) f (W.fnOf name qual params body scope dV kV doc pm an cdv ct) ps sp := by
 refine ⟨len, fun A outer s H args us vs Q E hr e0 hb r hsp => ?_⟩
 have hl := len _ _ _ _ hsp
 have KX : K.In s.heap := e0.mod.kin.keeps fun b o e => (e0.bs b o e).1
 have lim : s.heap.NoLimit := e0.mod.nolimit.keeps fun b o e => (e0.bs b o e).1
 have hkind : ∀ y ∈ ps.zip us, scope.names.lookup y.1 = some .local ∨ (scope.names.lookup y.1 = some .cell ∧ ((cellsFrom (s.heap.objs.size + 1) scope.names []).lookup y.1).isSome = true) := fun ⟨n, v⟩ hy => by
  rcases S.par n (List.of_mem_zip hy).1 with q | q
  ·exact .inl q
  ·exact .inr ⟨q, W.cellsFrom_some _ _ _ (.inl q)⟩
 refine codeAny_call_function hr.depth (KX _ _ lk) rfl S.co S.gen rfl (W.codeRec_of KX hcd) (hb _ _ _ _ ?_)
 refine wpAny_newFunctionEnv_cells S.kind hkind fun env he s1 x => ?_
 subst he
 refine ⟨lim.keeps x.toInCall.keep, codeAny_func ?_⟩
 obtain ⟨t, ht, hq⟩ := hbody A outer s H vs Q E (hr.deeper _) hsp
 have I : Inv (cxOf CX P w K mg base N qual scope f cdv A outer s H E) [] (start N vs) H s1 := inv_start S hr.hd e0 hl r x
 refine wpAny_mono (ht [] s1 (start N vs) H _ I hq) (fun fl s' hs => ?_) fun e s' hs => hs
 have fin : ∀ {σ' : St} {H' : Hp} {v : V} {u : Value}, Inv (cxOf CX P w K mg base N qual scope f cdv A outer s H E) [] σ' H' s' → RelV v u → Q v H' → CE outer P w H s Q u s' :=
  fun {σ' H' v u} J rv q => ⟨v, H', J.os, J.bare, J.base, J.hok, rv, q⟩
 cases fl with
 | ret u =>
  obtain ⟨v, σ', H', J, rv, q⟩ := hs
  exact fin J rv q
 | next =>
  obtain ⟨σ', H', J, q⟩ := hs
  exact fin (v := V.non) (u := Value.none) J rfl q
 | brk =>
  obtain ⟨_, _, _, q⟩ := hs
  exact False.elim q
 | cont =>
  obtain ⟨_, _, _, q⟩ := hs
  exact False.elim q
section
variable {X : Cx} {x : Str} {p pos : Pos} {e : Expr} {es : List Expr} {t : TA} {id T : String} {r : List V → Hp → VK → Prop}
def tCB (r : List V → Hp → VK → Prop) (t : TA) : TE := fun σ H Q => t σ H fun vs H1 => r vs H1 Q
theorem pe_callB (hc : CallR X (.builtin id) r) (hg : Gl X x) (hm : X.mg x = none) (hv : bootBuiltins x = some (.builtin id)) (ha : PA X (e :: es) t) (hn : x ≠ "__name__" := by decide) (hdb : (x == ("__debug__" : Str)) = false := by decide)
  (he : starEach (e :: es) X.env = (false, eval e X.env) :: starEach es X.env := by rfl) (hpl : (backTo pos (starEach es X.env)).any (·.1) = false := by rfl) : PE X (.Call (.Name x p) (e :: es) [] pos) (tCB r t) := by
 intro pins s σ H Q I h
 refine wpAny_Call_Name_kw (ld_blt I hg hm hv ?_ hn hdb)
 exact PyProof.Rows.callWith_builtin1 (thn (ha pos pins s σ H _ I h) fun us s1 ⟨vs, H1, I1, r1, q1⟩ => hc pins s1 σ H1 vs us Q I1 r1 q1) he hpl
end
end L2
namespace HT
open PySem PyProof.Rows
def lexLt : List Int → List Int → Bool
 | [], [] => false
 | [], _ :: _ => true
 | _ :: _, [] => false
 | x :: xs, y :: ys => if x = y then lexLt xs ys else decide (x < y)
theorem lexLt_cons (x y : Int) (xs ys : List Int) : lexLt (x :: xs) (y :: ys) = if x = y then lexLt xs ys else decide (x < y) := rfl
end HT
namespace L2
open PySem PySem.Spec PyProof.Rows
abbrev TO := St → Hp → (Option Int → Hp → Prop) → Prop
def ixN (n : Nat) (i : Int) : Option Nat := if 0 ≤ i then (if i < n then some i.toNat else none) else if -(n : Int) ≤ i then some (i + n).toNat else none
def atI {α : Type} (xs : List α) (i : Int) : Option α := (ixN xs.length i).bind fun j => xs[j]?
theorem ixN_seq {n : Nat} {i : Int} {j : Nat} (h : ixN n i = some j) : seqIndex? i n = some j ∧ j < n ∧ -(n : Int) ≤ i ∧ i < n := by
 unfold ixN at h
 by_cases h0 : 0 ≤ i
 ·rw [if_pos h0] at h
  by_cases h1 : i < n
  ·rw [if_pos h1] at h
   have e : i.toNat = j := Option.some.inj h
   exact ⟨by rw [seqIndex_of h0 h1, e], by omega, by omega, h1⟩
  ·rw [if_neg h1] at h; cases h
 ·rw [if_neg h0] at h
  by_cases h1 : -(n : Int) ≤ i
  ·rw [if_pos h1] at h
   have e : (i + n).toNat = j := Option.some.inj h
   exact ⟨by rw [seqIndex_neg (by omega) h1, e], by omega, h1, by omega⟩
  ·rw [if_neg h1] at h; cases h
theorem atI_get {α : Type} {xs : List α} {i : Int} {v : α} (h : atI xs i = some v) : ∃ j, seqIndex? i xs.length = some j ∧ xs[j]? = some v ∧ j < xs.length ∧ -(xs.length : Int) ≤ i ∧ i < xs.length := by
 unfold atI at h
 cases e : ixN xs.length i with
 | none => rw [e] at h; cases h
 | some j =>
  rw [e] at h
  obtain ⟨h1, h2, h3, h4⟩ := ixN_seq e
  exact ⟨j, h1, h, h2, h3, h4⟩
def PlainIx (b : Expr) : Prop := ∀ o i, subscripted b false o i = operate [o, i] (getItem o i)
def IxR (X : Cx) (r : R2) : Prop :=
 ∀ (value slice : Expr) (pins : List (Addr × Obj)) (s : Shared) (σ : St) (H : Hp) (x y : V) (v u : Value) (Q : VK), Inv X pins σ H s → RelV x v → RelV y u → r x y H Q →
  subscripted slice false v u = operate [v, u] (getItem v u) → wpAny (model X.prog X.w) X.A (subscriptTail value slice v u) (EP X pins σ Q) X.xe s
section
variable {X : Cx} {a b : Expr} {ta tb : TE} {pos : Pos}
theorem pe_ix {r : R2} (hr : IxR X r) (ha : PE X a ta) (hb : PE X b tb) (hs : PlainIx b) : PE X (.Subscript a b pos) (tOp r ta tb) := by
 intro pins s σ H Q I h
 exact Subscript_ (binT ha hb I h fun v u s2 x y H2 I2 rx ry q => hr a b pins s2 σ H2 x y v u Q I2 rx ry q (hs _ _))
def rIxL (K : W.Frag) : R2 := fun x y H Q => ∃ p xs i v, x = .ref p ∧ y = .int i ∧ SqL K H p xs ∧ atI xs i = some v ∧ Q v H
def rIxT (K : W.Frag) : R2 := fun x y H Q => ∃ p xs i v, x = .ref p ∧ y = .int i ∧ SqT K H p xs ∧ atI xs i = some v ∧ Q v H
theorem ix_list : IxR X (rIxL X.K) := by
 intro value slice pins s σ H x y v u Q I rx ry h hs
 obtain ⟨p, xs, i, z, rfl, rfl, hq, he, q⟩ := h
 cases rx
 obtain ⟨t, rfl⟩ := ry
 obtain ⟨its, r, pl, hz⟩ := I.list hq
 obtain ⟨j, h1, h2, h3, h4, h5⟩ := atI_get he
 obtain ⟨w, ew, rw'⟩ := r.get h2
 have hl := r.length
 have hn := line63
 have fin : EP X pins σ Q w s := ⟨z, H, I, rw', q⟩
 by_cases h0 : 0 ≤ i
 ·have hj : i.toNat = j := by
   rw [seqIndex_of h0 h5] at h1
   exact Option.some.inj h1
  exact item_listR pl.isList h0 (by omega) (by rw [hj]; simpa using ew) fin hs
 ·have hj : (i + (its.toArray.size : Int)).toNat = j := by
   rw [seqIndex_neg (by omega) h4] at h1
   rw [List.size_toArray, ← hl]
   exact Option.some.inj h1
  exact subscriptTail_builtinR (x := w) pl.isList.typeIs slot_list_getitem.lookup
   (wpAny_getItem_list_neg (Q := fun r s' => r = w ∧ EP X pins σ Q r s') pl.isList (by omega) (by rw [List.size_toArray] <;> omega) (by omega) (by rw [hj]; simpa using ew) ⟨rfl, fin⟩) hs
theorem ix_tup : IxR X (rIxT X.K) := by
 intro value slice pins s σ H x y v u Q I rx ry h hs
 obtain ⟨p, xs, i, z, rfl, rfl, hq, he, q⟩ := h
 cases rx
 obtain ⟨t, rfl⟩ := ry
 obtain ⟨its, r, pl, hz⟩ := I.tuple hq
 obtain ⟨j, h1, h2, h3, h4, h5⟩ := atI_get he
 obtain ⟨w, ew, rw'⟩ := r.get h2
 have hl := r.length
 have hn := line63
 have fin : EP X pins σ Q w s := ⟨z, H, I, rw', q⟩
 exact subscriptTail_builtinR (x := w) pl.typeIs slot_tuple_getitem.lookup
  (getItem_tuple (j := j) (Q := fun r s' => r = w ∧ EP X pins σ Q r s') pl (by omega) (by omega) (by rw [List.size_toArray, ← hl]; exact h1) (by simpa using ew) ⟨rfl, fin⟩) hs
theorem Inv.lst {pins : List (Addr × Obj)} {σ : St} {H : Hp} {s : Shared} {p : Addr} {xs : List V} (I : Inv X pins σ H s) (h : H p = some (.lst xs)) :
  ∃ (its : List Value) (n : Nat), Vals xs its ∧ s.heap.get? p = some { cls := .type "list", data := .seq its.toArray n } ∧ xs.length ≤ sizeLine := by
 obtain ⟨z, its, n, r, e⟩ := I.hok p _ h
 exact ⟨its, n, r, e, z⟩
def flatV : V → Bool
 | .non => true
 | .bl _ => true
 | .int _ => true
 | .str _ => true
 | _ => false
def eqV : V → V → Bool
 | .non, .non => true
 | .bl a, .bl b => a == b
 | .bl a, .int b => (if a then 1 else 0) == b
 | .int a, .bl b => a == (if b then 1 else 0)
 | .int a, .int b => a == b
 | .str a, .str b => a == b
 | _, _ => false
theorem eqAt_V {A : Around} {s : Shared} {y x : V} {u v : Value} (ry : RelV y u) (rx : RelV x v) (fy : flatV y = true) (fx : flatV x = true) : SeqAt.EqAt A s u v (eqV y x) := by
 cases y with
 | non =>
  cases ry
  cases x with
  | non => cases rx; exact SeqAt.EqAt.same _
  | bl b => cases rx; exact SeqAt.EqAt.none_bool b
  | int b => obtain ⟨t, rfl⟩ := rx; exact SeqAt.EqAt.none_int b t
  | str b => obtain ⟨t, rfl⟩ := rx; exact SeqAt.EqAt.none_str b t
  | _ => exact absurd (show false = true from fx) Bool.false_ne_true
 | bl a =>
  cases ry
  cases x with
  | non => cases rx; exact SeqAt.EqAt.bool_none a
  | bl b => cases rx; exact SeqAt.EqAt.bool_bool a b
  | int b => obtain ⟨t, rfl⟩ := rx; exact SeqAt.EqAt.bool_int a b t
  | str b => obtain ⟨t, rfl⟩ := rx; exact SeqAt.EqAt.bool_str a b t
  | _ => exact absurd (show false = true from fx) Bool.false_ne_true
 | int a =>
  obtain ⟨t', rfl⟩ := ry
  cases x with
  | non => cases rx; exact SeqAt.EqAt.int_none a t'
  | bl b => cases rx; exact SeqAt.EqAt.int_bool a t' b
  | int b => obtain ⟨t, rfl⟩ := rx; exact SeqAt.EqAt.int_int a t' b t
  | str b => obtain ⟨t, rfl⟩ := rx; exact SeqAt.EqAt.int_str a t' b t
  | _ => exact absurd (show false = true from fx) Bool.false_ne_true
 | str a =>
  obtain ⟨t', rfl⟩ := ry
  cases x with
  | non => cases rx; exact SeqAt.EqAt.str_none a t'
  | bl b => cases rx; exact SeqAt.EqAt.str_bool a t' b
  | int b => obtain ⟨t, rfl⟩ := rx; exact SeqAt.EqAt.str_int a t' b t
  | str b => obtain ⟨t, rfl⟩ := rx; exact SeqAt.EqAt.str_str a t' b t
  | _ => exact absurd (show false = true from fx) Bool.false_ne_true
 | _ => exact absurd (show false = true from fy) Bool.false_ne_true
def eqU (x : V) (u : Value) : Bool := match u with
 | .none => eqV .non x
 | .bool b => eqV (.bl b) x
 | .int i _ => eqV (.int i) x
 | .str z _ => eqV (.str z) x
 | _ => false
theorem eqU_of {x y : V} {u : Value} (r : RelV y u) (f : flatV y = true) : eqU x u = eqV y x := by
 cases y with
 | non => cases r; rfl
 | bl b => cases r; rfl
 | int i => obtain ⟨t, rfl⟩ := r; rfl
 | str z => obtain ⟨t, rfl⟩ := r; rfl
 | _ => exact absurd (show false = true from f) Bool.false_ne_true
theorem any_eqU {x : V} : ∀ {xs : List V} {us : List Value}, Vals xs us → xs.all flatV = true → us.any (eqU x) = xs.any fun y => eqV y x
 | _, _, .nil, _ => rfl
 | y :: xs, u :: us, .cons r t, f => by
  rw [List.all_cons, Bool.and_eq_true] at f
  rw [List.any_cons, List.any_cons, eqU_of r f.1, any_eqU t f.2]
theorem mem_eqAt {A : Around} {s : Shared} {x : V} {v : Value} (rx : RelV x v) (fx : flatV x = true) : ∀ {xs : List V} {us : List Value}, Vals xs us → xs.all flatV = true → ∀ u ∈ us, SeqAt.EqAt A s u v (eqU x u)
 | _, _, .nil, _ => fun u hu => by cases hu
 | y :: xs, u :: us, .cons r t, f => fun u' hu => by
  rw [List.all_cons, Bool.and_eq_true] at f
  rcases List.mem_cons.mp hu with rfl | hu
  ·rw [eqU_of r f.1]; exact eqAt_V r rx f.1 fx
  ·exact mem_eqAt rx fx t f.2 u' hu
def inV (x : V) (xs : List V) : Bool := xs.any fun y => eqV y x
def rIn (K : W.Frag) (neg : Bool) : R2 := fun x y H Q => ∃ p xs, y = .ref p ∧ (SqL K H p xs ∨ SqT K H p xs) ∧ flatV x = true ∧ xs.all flatV = true ∧ Q (.bl (if neg then !inV x xs else inV x xs)) H
theorem op_in_seq : OpR X (compareOp .In) (rIn X.K false) := by
 intro pins s σ H x y v u Q I rx ry h
 obtain ⟨p, xs, rfl, hq, fx, fs, q⟩ := h
 cases ry
 rcases hq with hq | hq
 ·obtain ⟨its, r, pl, hz⟩ := I.list hq
  refine SeqAt.in_listAt (eqU x) pl.isList (fun w hw => mem_eqAt rx fx r fs w (by simpa using hw)) ⟨.bl _, H, I, rfl, ?_⟩
  rw [show its.toArray.any (eqU x) = its.any (eqU x) by simp, any_eqU r fs]
  exact q
 ·obtain ⟨its, r, pl, hz⟩ := I.tuple hq
  refine SeqAt.in_tupleAt (eqU x) pl (fun w hw => mem_eqAt rx fx r fs w (by simpa using hw)) ⟨.bl _, H, I, rfl, ?_⟩
  rw [show its.toArray.any (eqU x) = its.any (eqU x) by simp, any_eqU r fs]
  exact q
theorem call_len_seq : CallR X (.builtin "len") (fun xs H Q => ∃ p ys, xs = [.ref p] ∧ (SqL X.K H p ys ∨ SqT X.K H p ys) ∧ Q (.int ys.length) H) := by
 intro pins s σ H xs us Q I r h
 obtain ⟨p, ys, rfl, hq, q⟩ := h
 obtain ⟨u, rfl, rx⟩ := vals1 r
 cases rx
 have hn := line63
 rcases hq with hq | hq
 ·obtain ⟨its, r', pl, hz⟩ := I.list hq
  have hlen := r'.length
  exact Calls.call_len_list pl.isList (by simp only [List.size_toArray] <;> omega) ⟨.int ys.length, H, I.tok _, ⟨s.toks + 1, by rw [List.size_toArray, hlen]⟩, q⟩
 ·obtain ⟨its, r', pl, hz⟩ := I.tuple hq
  have hlen := r'.length
  exact len_tuple pl (by simp only [List.size_toArray] <;> omega) ⟨.int ys.length, H, I.tok _, ⟨s.toks + 1, by rw [List.size_toArray, hlen]⟩, q⟩
variable {o e : Expr} {es : List Expr} {to : TE} {t : TA} {name : Str} {apos cpos : Pos} {T id : String} {r : V → List V → Hp → VK → Prop}
end
theorem Vals.one : ∀ {x : V} {us : List Value}, Vals [x] us → ∃ u, us = [u] ∧ RelV x u
 | _, _, .cons r .nil => ⟨_, rfl, r⟩
theorem Vals.zero : ∀ {us : List Value}, Vals [] us → us = []
 | _, .nil => rfl
section
variable {X : Cx} {pins : List (Addr × Obj)} {σ : St} {H : Hp} {s : Shared} {l b : Addr} {xs ys zs : List V}
theorem Inv.fresh (I : Inv X pins σ H s) : H s.heap.objs.size = none := I.hok.fresh (Nat.le_refl _)
end
end L2
namespace Att
open PySem PySem.W PySem.Calls PyProof.Rows
theorem ints_of_wellAll {P : Params} {h : Heap} : ∀ (ns : List Int) (vs : List Value), WellAll P h vs (ns.map WData.int) → IntsAre vs ns := by
 intro ns
 induction ns with
 | nil =>
  intro vs w
  rw [List.map_nil] at w
  cases w
  exact .nil
 | cons n ns ih =>
  intro vs w
  rw [List.map_cons] at w
  cases w with
  | cons a b =>
   cases a
   exact .cons _ _ (ih _ b)
theorem script_of {l : OpenLaw} {n : Nat} (hn : l.most = some n) {P : Params} {h : Heap} {args : List WData} {vals : List Value}
  (hpre : l.row.toRowW.claim.pre args = true) (hwl : WellAll P h vals args) :
  ∃ a vs ns, vals = [Value.ref a] ∧ args = [WData.list (ns.map WData.int)] ∧ h.get? a = some { cls := .type "list", data := .seq vs.toArray } ∧ IntsAre vs ns ∧ ns.length ≤ n := by
 have hsh : WShape.hasAll [] args [.list .int] = true := (pre_splitW hpre).1
 have hc : l.pre.holds [] { args := args } = true := (pre_splitW hpre).2
 obtain ⟨d, r, rfl, h1, h2⟩ := hasAllW_cons hsh
 obtain rfl := hasAllW_nil h2
 obtain ⟨xs, rfl, h3⟩ := hasW_list h1
 obtain ⟨ns, rfl⟩ := items_int h3
 have hlen : ns.length ≤ n := by
  unfold OpenLaw.pre at hc
  have h4 : (WTm.not (.lt (.lit (.int (n : Int))) (.len (.arg 0)))).holds [] { args := [.list (ns.map .int)] } = true := by
   have h4 := (holds_andW hc).1
   rw [hn] at h4
   exact h4
  have h5 := condW_of h4 (w_not (w_lt w_lit (w_len_list (w_arg rfl))))
  rw [List.length_map] at h5
  refine Nat.le_of_not_lt fun q => ?_
  have q' : (n : Int) < ((ns.length : Nat) : Int) := by omega
  first
   | (rw [decide_eq_true q'] at h5; exact absurd h5 (by decide))
   | (simp at h5; omega)
 cases hwl with
 | cons w1 w2 =>
  cases w2
  cases w1 with
  | list ho hall => exact ⟨_, _, ns, rfl, rfl, ho, ints_of_wellAll ns _ hall, hlen⟩
theorem post_true (l : OpenLaw) (args : List WData) : l.row.toRowW.claim.post args (.bool true) args = true :=
 postW_of (r := l.row.toRowW) (X := (true == true))
  (show WShape.has [] (.bool true) .bool = true by first | rfl | decide | simp [WShape.has, WShape.arms, WShape.armsAll])
  (show (WTm.eq .res (.lit (.bool true))).value [] { args := args, res := some (.bool true), after := args } = some (.bool (true == true)) from w_eq_bool (w_res rfl) w_lit) rfl
end Att
namespace L2
open PySem PySem.Spec PyProof.Rows
theorem vals_ints : ∀ {vs : List Value} {ns : List Int}, IntsAre vs ns → Vals (ns.map V.int) vs
 | _, _, .nil => .nil
 | _, _, .cons n t h => .cons ⟨t, rfl⟩ (vals_ints h)
def Only (H : Hp) : Prop := ∀ b, H b = none ∨ ∃ o xs, H b = some (.frz o (.lst xs))
theorem law_call {P : Program} {w : World} {K : W.Frag} {mg mb : Str → Option Value} {CX : CXT} {k : Nat} {fa a : Addr} {fd : FuncData} {x : Str} {sp : Sp} {s₁ : Shared} {vs : List Value} {ns : List Int}
  (KX : K.In s₁.heap) (hns : s₁.heap.Ns mainGlobals mg) (hb : s₁.heap.Ns builtinsNs mb) (hbb : ∀ x : Str, x ≠ "__name__" → mb x = bootBuiltins x) (hlim : s₁.heap.NoLimit) (hg : s₁.gens = #[])
  (ha : s₁.heap.get? a = some { cls := .type "list", data := .seq vs.toArray }) (hi : IntsAre vs ns) (hl : ns.length ≤ sizeLine) (hr : Room k callerA)
  (F : ∀ base : Heap, K.In base → base.Ns mainGlobals mg → FnOk P w K mg base CX k fa fd [x] sp) (hbind : ∀ (s : Shared) (u : Value), BindsTo s fd ⟨[u], []⟩ [(x, u)])
  (hsp : ∀ H : Hp, Only H → SqL K H a (ns.map V.int) → sp [.ref a] H (fun v _ => v = .bl true) fun _ _ _ => False)
  (hCX : ∀ H e s', CX [] H s₁ (fun _ _ _ => False) e s' → False) :
  codeAny (model P w) callerA (.call (.ref fa) ⟨[.ref a], []⟩) (fun r s' => r = .ok (.ret (.bool true)) ∧ OldK s₁.heap s'.heap ∧ s'.os = s₁.os ∧ AllBare s'.gens) s₁ := by
 have rv := vals_ints hi
 have lenV := hi.length
 -- from an abstract heap in which nothing but the script may be tracked
 have core : ∀ H : Hp, Only H → SqL K H a (ns.map V.int) → HOk P w H s₁.heap → (∀ b, H b ≠ none → b = a) → (H a ≠ none → K.lookup a = none) →
   codeAny (model P w) callerA (.call (.ref fa) ⟨[.ref a], []⟩) (fun r s' => r = .ok (.ret (.bool true)) ∧ OldK s₁.heap s'.heap ∧ s'.os = s₁.os ∧ AllBare s'.gens) s₁ := by
  intro H hO hS hok hA hK
  have base_of : ∀ {b : Addr} {o : Obj}, s₁.heap.get? b = some o → H b = none → (hidT s₁.heap H).get? b = some o := fun e n => hidT_get e n
  have noA : ∀ {b : Addr} {o : Obj} {es : Array DictEntry} {ep : Nat}, s₁.heap.get? b = some o → o.data = .dict es ep → H b = none := fun {b o es ep} e d => by
   cases q : H b with
   | none => rfl
   | some u =>
    have e' : b = a := hA b (by rw [q]; simp)
    subst e'
    rw [ha] at e; cases e
    have d' : Data.seq vs.toArray _ = Data.dict es ep := d
    cases d'
  have nsK : ∀ {b : Addr} {m : Str → Option Value}, s₁.heap.Ns b m → (hidT s₁.heap H).Ns b m := fun {b m} ⟨o, es, ep, e, d, r⟩ => ⟨o, es, ep, base_of e (noA e d), d, r⟩
  have hKb : K.In (hidT s₁.heap H) := fun b o e => base_of (KX b o e) (by
   cases q : H b with
   | none => rfl
   | some u =>
    have e' : b = a := hA b (by rw [q]; simp)
    subst e'
    rw [hK (by rw [q]; simp)] at e; cases e)
  have hM : Mod K mg (hidT s₁.heap H) := ⟨hKb, nsK hns, ⟨mb, nsK hb, hbb⟩, let ⟨mc, h1, h2⟩ := hlim; ⟨mc, nsK h1, h2⟩⟩
  have e0 : Env0 P w K mg (hidT s₁.heap H) callerA [] s₁ H := ⟨rfl, hM, fun b o e => of_hidT e, Nat.le_of_eq (hidT_size _ _), trivial, fun b hb => absurd (show b ∈ ([] : List Addr) from hb) (by simp), hok, .of_eq hg⟩
  refine codeAny_mono ((F _ hKb (nsK hns)).run callerA [] s₁ H ⟨[.ref a], []⟩ [.ref a] [.ref a] _ _ hr e0 (hbind s₁ (.ref a)) (.cons rfl .nil) (hsp H hO hS)) fun r s' h => ?_
  cases r with
  | error e => exact (hCX H e s' h).elim
  | ok fl =>
   cases fl with
   | next => exact False.elim h
   | brk => exact False.elim h
   | cont => exact False.elim h
   | ret u =>
    obtain ⟨v, H', os, bare, un, hok', r', q⟩ := h
    have q' : v = .bl true := q
    subst q'
    obtain rfl : u = Value.bool true := r'
    refine ⟨rfl, OldK.of_keep fun b o e => ?_, os, bare⟩
    cases q : H b with
    | none => exact un.keep b o e q (by intro z; exact absurd (show b ∈ ([] : List Addr) from z) (by simp)) (by simp)
    | some u =>
     rcases hO b with z | ⟨ob, xs, z⟩
     ·rw [q] at z; cases z
     ·have z2 := un.frzs b ob _ z
      obtain ⟨e1, _⟩ := hok b _ z
      obtain ⟨e2, _⟩ := hok' b _ z2
      rw [e] at e1; cases e1
      exact e2
 cases hk : K.lookup a with
 | some o =>
  -- the script is one of the module's own objects
  have e := KX a o hk
  rw [ha] at e
  cases e
  refine core (fun _ => none) (fun _ => .inl rfl) (.inr ⟨_, vs.toArray, _, hk, rfl, rfl, rfl, by rw [List.size_toArray, lenV]; exact hl, by simpa using rv⟩) (fun b u z => by have z' : (none : Option HO) = some u := z; cases z') (fun b z => absurd rfl z) fun z => absurd rfl z
 | none =>
  refine core (fun b => if b = a then some (.frz { cls := .type "list", data := .seq vs.toArray } (.lst (ns.map V.int))) else none) (fun b => ?_) (.inl (.inr ⟨{ cls := .type "list", data := .seq vs.toArray }, if_pos rfl⟩)) (fun b u z => ?_) (fun b z => ?_) fun _ => hk
  ·by_cases hb : b = a
   ·exact .inr ⟨_, _, if_pos hb⟩
   ·exact .inl (if_neg hb)
  ·by_cases hb : b = a
   ·have z' := (if_pos hb).symm.trans z
    cases z'
    subst hb
    exact ⟨ha, by rw [List.length_map]; exact hl, vs, _, rv, ha⟩
   ·have z' := (if_neg hb).symm.trans z
    cases z'
  ·by_cases hb : b = a
   ·exact hb
   ·exact absurd (if_neg hb) z
def inClass (s : Stmt) (j : Nat) : Stmt := match s with
 | .ClassDef _ _ _ body _ _ _ _ _ _ _ => body.getD j (.Pass ⟨0, 0, 0, 0⟩)
 | _ => .Pass ⟨0, 0, 0, 0⟩
def defArgs (s : Stmt) : Arguments := match s with
 | .FunctionDef _ a _ _ _ _ _ _ _ _ => a
 | _ => { posonlyargs := [], args := [], vararg := none, kwonlyargs := [], kw_defaults := [], kwarg := none, defaults := [] }
def defBody (s : Stmt) : List Stmt := match s with
 | .FunctionDef _ _ b _ _ _ _ _ _ _ => b
 | _ => []
def defScope (s : Stmt) : Scope := match s with
 | .FunctionDef _ _ _ _ _ _ sc _ _ _ => sc
 | _ => { kind := .function, names := [], isGenerator := false, isCoroutine := false }
abbrev CX0 : CXT := fun _ _ _ _ _ _ => False
abbrev E0 : XK := fun _ _ _ => False
structure Fun (K : W.Frag) (x qual : Str) (st : Stmt) (f : Addr) (fd : FuncData) : Prop where
 ex : ∃ (oc : Value) (od : Option Addr) (kV doc pm : Value) (an : Option Addr) (cdv ct : Value) (osl : Array (Option Value)),
  fd = W.fnOf x qual (defArgs st) (defBody st) (defScope st) .none kV doc pm an cdv ct ∧ K.lookup f = some ⟨oc, od, .func fd, osl⟩ ∧ W.codeIn K cdv qual = true
 kp : W.keepIn K (.ref f) = true
section
variable {P : Program} {w : World} {K : W.Frag} {mg : Str → Option Value} {base : Heap}
theorem Fun.ok {x qual : Str} {st : Stmt} {f : Addr} {fd : FuncData} {N ps : List Str} {k : Nat} {sp : Sp} (F : Fun K x qual st f fd) (S : FnScope N ps (defScope st)) (len : ∀ vs H Q E, sp vs H Q E → vs.length = ps.length)
  (hbody : ∀ (cdv : Value) (A : Around) (outer : List Env) (s : Shared) (H : Hp) (vs : List V) (Q : VK) (E : XK), Room k (A.deeper (envOfC qual (defScope st) s.heap.objs.size f cdv)) → sp vs H Q E →
   ∃ t, PSs (cxOf CX0 P w K mg base N qual (defScope st) f cdv A outer s H E).nox (defBody st) t ∧ t { nx := fun _ H' => Q .non H', rt := Q } (start N vs) H) : FnOk P w K mg base CX0 (k + 1) f fd ps sp := by
 obtain ⟨oc, od, kV, doc, pm, an, cdv, ct, osl, rfl, lk, hcd⟩ := F.ex
 refine fn_of lk hcd S len fun A outer s H vs Q E hr hsp => ?_
 obtain ⟨t, h, q⟩ := hbody cdv A outer s H vs Q E hr hsp
 exact ⟨t, h.nox, q⟩
theorem Fun.binds {x qual : Str} {st : Stmt} {f : Addr} {fd : FuncData} {ps : List Str} (F : Fun K x qual st f fd)
  (h : ∀ (kV doc pm : Value) (an : Option Addr) (cdv ct : Value) (us : List Value), us.length = ps.length → bindArgs (W.fnOf x qual (defArgs st) (defBody st) (defScope st) .none kV doc pm an cdv ct) ⟨us, []⟩ = pure (ps.zip us)) : Binds K fd ps [] := by
 obtain ⟨oc, od, kV, doc, pm, an, cdv, ct, osl, rfl, lk, hcd⟩ := F.ex
 exact .all (h kV doc pm an cdv ct)
theorem fun_mk {x qual : Str} {st : Stmt} {f : Addr} {oc : Value} {od an : Option Addr} {osl : Array (Option Value)} {kV doc pm cdv ct : Value} (l : K.lookup f = some ⟨oc, od, .func (W.fnOf x qual (defArgs st) (defBody st) (defScope st) .none kV doc pm an cdv ct), osl⟩)
  (c : W.codeIn K cdv qual = true) (k : W.keepIn K (.ref f) = true) : Fun K x qual st f (W.fnOf x qual (defArgs st) (defBody st) (defScope st) .none kV doc pm an cdv ct) := ⟨⟨oc, od, kV, doc, pm, an, cdv, ct, osl, rfl, l, c⟩, k⟩
end
section
variable {X : Cx}
theorem pv (i : Nat) {x : Str} {pos : Pos} (hN : X.N[i]? = some x := by rfl) (hv : Vis X.env.scope x := by first | exact Or.inl rfl | exact Or.inr (Or.inl rfl) | exact Or.inr (Or.inr rfl)) (hd : (x == ("__debug__" : Str)) = false := by decide)
  (hcd : (x == ("__classdict__" : Str)) = false := by decide) : PE X (.Name x pos) (tVar i) := pe_var hN hv hd hcd
end
def Same (H H' : Hp) : Prop := ∀ b o, H b = some o → H' b = some o
theorem Same.refl (H : Hp) : Same H H := fun _ _ h => h
theorem Same.trans {H H1 H2 : Hp} (a : Same H H1) (b : Same H1 H2) : Same H H2 := fun c o h => b c o (a c o h)
theorem Same.free {H H' : Hp} (e : Same H H') {l : Addr} (h : H' l = Option.none) : H l = Option.none := by
 cases q : H l with
 | none => rfl
 | some o =>
  rw [e l o q] at h
  cases h
theorem Same.seq {K : W.Frag} {H H' : Hp} {a : Addr} {xs : List V} (e : Same H H') (h : SqL K H a xs) : SqL K H' a xs := by
 rcases h with (h | ⟨o, h⟩) | h
 ·exact .inl (.inl (e _ _ h))
 ·exact .inl (.inr ⟨o, e _ _ h⟩)
 ·exact .inr h
end L2
set_option maxHeartbeats 4000000
namespace L2
open PySem PySem.Spec PyProof.Rows
theorem ObjOk.there {P : Program} {w : World} {H : Hp} {h : Heap} {a : Addr} {o : HO} (x : ObjOk P w H h a o) : ∃ ob, h.get? a = some ob := by
 cases o with
 | lst xs => obtain ⟨_, _, _, _, e⟩ := x; exact ⟨_, e⟩
 | tup xs => obtain ⟨_, _, _, p⟩ := x; obtain ⟨o, e, _⟩ := p; exact ⟨_, e⟩
 | dK kvs => obtain ⟨_, _, _, _, o, _, _, e, _⟩ := x; exact ⟨_, e⟩
 | dT kvs => obtain ⟨_, _, _, _, o, _, _, e, _⟩ := x; exact ⟨_, e⟩
 | set S n => obtain ⟨o, _, _, _, e, _⟩ := x; exact ⟨_, e⟩
 | ins C dx fs => obtain ⟨_, _, _, e, _⟩ := x; exact ⟨_, e⟩
 | own y => obtain ⟨_, e⟩ := x; exact ⟨_, e⟩
 | xd fs => obtain ⟨_, ⟨_, _, _, e, _⟩, _⟩ := x; exact ⟨_, e⟩
 | rng lo hi => obtain ⟨_, _, _, e⟩ := x; exact ⟨_, e⟩
 | frz ob u => obtain ⟨e, _⟩ := x; exact ⟨_, e⟩
 | tbl ps => exact ⟨_, (show h.get? a = some _ from x)⟩
 | met f y => exact ⟨_, (show h.get? a = some _ from x)⟩
 | ext φ => obtain ⟨_, ⟨_, e⟩, _⟩ := x; exact ⟨_, e⟩
def Imp (X : Cx) (pins : List (Addr × Obj)) (H : Hp) (b : Addr) : Prop := H b ≠ none ∨ (b ∉ X.ex ∧ ∃ o, X.s₀.heap.get? b = some o) ∨ ∃ p ∈ X.pn ++ pins, p.1 = b
def ctxV : Option Addr → Value
 | none => .none
 | some a => .ref a
def TrX (h B : Heap) (e : Addr) (cls : Value) (cx : Option Addr) (fl : Value) : Prop :=
 ∃ oe vs T oT ts, (h.get? e = some oe ∧ oe.cls = cls ∧ oe.data = .fields vs) ∧ (vs[1]? = some (.ref T) ∧ vs[2]? = some (ctxV cx)) ∧ (B.get? T = none ∧ T ≠ e) ∧ h.get? T = some oT ∧ oT.data = .fields ts ∧ ts[3]? = some fl
theorem ref_not_none (T : Addr) : (Value.ref T != Value.none) = true := by simp
inductive Ph where | new | fly | any
def XTr (B h : Heap) (a : Addr) (cls : Value) (cx : Option Addr) : Ph → Prop
 | .new => ∃ oe vs, h.get? a = some oe ∧ oe.cls = cls ∧ oe.data = .fields vs ∧ vs[1]? = some .none ∧ vs[2]? = some (ctxV cx)
 | .fly => TrX h B a cls cx .none
 | .any => ∃ fl, TrX h B a cls cx fl
theorem XTr.there {B h : Heap} {a : Addr} {cls : Value} {cx : Option Addr} {ph : Ph} (x : XTr B h a cls cx ph) : ∃ oe vs, h.get? a = some oe ∧ oe.cls = cls ∧ oe.data = .fields vs ∧ vs[2]? = some (ctxV cx) := by
 cases ph with
 | new => obtain ⟨oe, vs, h1, h2, h3, _, h4⟩ := x; exact ⟨oe, vs, h1, h2, h3, h4⟩
 | fly => obtain ⟨oe, vs, _, _, _, ⟨h1, h2, h3⟩, ⟨_, h4⟩, _⟩ := x; exact ⟨oe, vs, h1, h2, h3, h4⟩
 | any => obtain ⟨_, oe, vs, _, _, _, ⟨h1, h2, h3⟩, ⟨_, h4⟩, _⟩ := x; exact ⟨oe, vs, h1, h2, h3, h4⟩
section
variable {M : Model} {A : Around} {E : Value → Shared → Prop} {s : Shared}
def NoteX (B : Heap) (l : List Env) (e : Addr) (cls : Value) (cx : Option Addr) (fl : Value) (h h' : Heap) : Prop := B.StaysIn h' ∧ h'.FunFrames B l ∧ TrX h' B e cls cx fl ∧ h.UpToSlots h'
theorem entry_x {B : Heap} {env : Env} {outer : List Env} {L e : Addr} {oe : Obj} {vs : Array Value} {head : Value} {cx : Option Addr} {nx : Bool} {Q : Unit → Shared → Prop} (fr : A.frames = some (env :: outer)) (ff : s.heap.FunFrames B (env :: outer)) (hf : env.frame = some L)
  (ge : s.heap.get? e = some oe) (st : B.StaysIn s.heap) (be : B.get? e = none) (de : oe.data = .fields vs) (z1 : 1 < vs.size) (z2 : vs[2]? = some (ctxV cx)) (q : ∀ h', NoteX B (env :: outer) e oe.cls cx (rawInt L) s.heap h' → Q () { s with heap := h' }) :
  wpAny M A (do let a ← frameOf env; let pl ← entryPlaceOf L nx; let b ← EntryCells.newEntry head a .none (rawInt L) .none pl; setField (.ref e) 1 b) Q E s := by
 have nf : ∀ b o, s.heap.get? b = some o → (∀ ws, o.data ≠ .fields ws) → b ≠ e := fun b o gb nb zb => by subst zb; rw [ge] at gb; cases gb; exact nb vs de
 have out : e ∉ (env :: outer).filterMap (·.frame) := fun m => by obtain ⟨_, o, go, no⟩ := ff.mem m; exact nf e o go no rfl
 refine wpAny_bind (wpAny_frameOf_fun fr ff hf fun h1 only => wpAny_bind (wpAny_entryPlaceOf fun pl place => ?_))
 unfold EntryCells.newEntry newFields
 refine wpAny_bind (wpAny_newObj_type ?_ (place.sizeOk5 _ _ _ _ _))
 have ge1 : h1.get? e = some oe := (only.2.1 e out).trans ge
 have st1 : B.StaysIn h1 := fun b o gb => (only.2.1 b fun m => by have := (ff.mem m).1; rw [this] at gb; cases gb).trans (st b o gb)
 have ne1 : h1.objs.size ≠ e := fun z => absurd (Heap.lt_size ge1) (by rw [z]; exact Nat.lt_irrefl _)
 refine wpAny_setField (Heap.get?_push_of_some _ ge1) de z1 (q _ ?_)
 have far : ∀ {ob : Obj} {g : Obj → Obj} {b : Addr} {o : Obj}, b ≠ e → h1.get? b = some o → ((h1.push ob).update e g).get? b = some o := fun ne gb => (Heap.get?_update_other _ _ (Ne.symm ne)).trans (Heap.get?_push_of_some _ gb)
 refine ⟨fun b o gb => far (fun z => by rw [z, be] at gb; cases gb) (st1 b o gb), ff.of_keeps fun b o gb nb => ?_, ?_, fun b o gb nb => ?_⟩
 ·obtain ⟨sl, g⟩ := only.2.2 b o gb; exact ⟨_, far (nf b o gb nb) g, rfl⟩
 ·have dd := Obj.data_mapFields de (·.setIfInBounds 1 (Value.ref h1.objs.size))
  refine ⟨_, _, h1.objs.size, _, _, ⟨Heap.get?_update_self _ (Heap.get?_push_of_some _ ge1) (Obj.isFreed_of_fields dd), Obj.cls_mapFields _ _, dd⟩, ⟨by simp [z1], by rw [Array.getElem?_setIfInBounds_ne (by decide)]; exact z2⟩, ⟨st1.fresh, ne1⟩, (Heap.get?_update_other _ _ (Ne.symm ne1)).trans (Heap.get?_push_size h1 rfl), rfl, ?_⟩
  first | (simp; done) | (rcases place with rfl | ⟨_, _, _, _, _, _, _, rfl⟩ <;> simp)
 ·obtain ⟨sl, g⟩ := only.2.2 b o gb; exact ⟨sl, far (nf b o gb nb) g⟩
theorem note_first {B : Heap} {env : Env} {outer : List Env} {L e : Addr} {oe : Obj} {vs : Array Value} {cx : Option Addr} {Q : Unit → Shared → Prop} (fr : A.frames = some (env :: outer)) (ff : s.heap.FunFrames B (env :: outer)) (hf : env.frame = some L)
  (ge : s.heap.get? e = some oe) (st : B.StaysIn s.heap) (be : B.get? e = none) (de : oe.data = .fields vs) (z1 : vs[1]? = some .none) (z2 : vs[2]? = some (ctxV cx)) (q : ∀ h', NoteX B (env :: outer) e oe.cls cx (rawInt L) s.heap h' → Q () { s with heap := h' }) : wpAny M A (noteFrame (.ref e) env) Q E s := by
 unfold noteFrame
 simp only [hf]
 refine wpAny_bind (wpAny_field ge de z1 ?_)
 rw [if_neg (by decide)]
 exact entry_x fr ff hf ge st be de (Array.getElem?_eq_some_iff.mp z1).1 z2 q
theorem note_on {B : Heap} {env : Env} {outer : List Env} {L e : Addr} {cls : Value} {cx : Option Addr} {Q : Unit → Shared → Prop} (fr : A.frames = some (env :: outer)) (ff : s.heap.FunFrames B (env :: outer)) (hf : env.frame = some L)
  {fl : Value} (t : TrX s.heap B e cls cx fl) (nl : ¬ (fl == rawInt L) = true) (st : B.StaysIn s.heap) (be : B.get? e = none) (q : ∀ h', NoteX B (env :: outer) e cls cx (rawInt L) s.heap h' → Q () { s with heap := h' }) : wpAny M A (noteFrame (.ref e) env) Q E s := by
 obtain ⟨oe, vs, T, oT, ts, ⟨ge, rfl, de⟩, ⟨z1, z2⟩, ⟨bT, nT⟩, gT, dT, z3⟩ := t
 unfold noteFrame
 simp only [hf]
 refine wpAny_bind (wpAny_field ge de z1 ?_)
 rw [if_pos (ref_not_none T)]
 refine wpAny_bind (wpAny_field gT dT z3 ?_)
 rw [if_neg nl]
 refine wpAny_bind (wpAny_setField gT dT (Array.getElem?_eq_some_iff.mp z3).1 ?_)
 have far : ∀ {g : Obj → Obj} b, b ≠ T → (s.heap.update T g).get? b = s.heap.get? b := fun b ne => Heap.get?_update_other _ _ (Ne.symm ne)
 have nf : ∀ b o, s.heap.get? b = some o → (∀ ws, o.data ≠ .fields ws) → b ≠ T := fun b o gb nb zb => by subst zb; rw [gT] at gb; cases gb; exact nb ts dT
 refine entry_x fr (ff.of_keeps fun b o gb nb => ⟨o, (far b (nf b o gb nb)).trans gb, rfl⟩) hf ((far e (Ne.symm nT)).trans ge) (fun b o gb => (far b fun z => by rw [z, bT] at gb; cases gb).trans (st b o gb)) be de (Array.getElem?_eq_some_iff.mp z1).1 z2 fun h' x => q h' ⟨x.1, x.2.1, x.2.2.1, fun b o gb nb => ?_⟩
 exact x.2.2.2 b o ((far b (nf b o gb nb)).trans gb) nb
theorem note_again {B : Heap} {env : Env} {L e : Addr} {cls : Value} {cx : Option Addr} {fl : Value} {Q : Unit → Shared → Prop} (hf : env.frame = some L) (t : TrX s.heap B e cls cx fl) (el : (fl == rawInt L) = true) (q : Q () s) : wpAny M A (noteFrame (.ref e) env) Q E s := by
 obtain ⟨oe, vs, T, oT, ts, ⟨ge, rfl, de⟩, ⟨z1, z2⟩, ⟨bT, nT⟩, gT, dT, z3⟩ := t
 unfold noteFrame
 simp only [hf]
 refine wpAny_bind (wpAny_field ge de z1 ?_)
 rw [if_pos (ref_not_none T)]
 refine wpAny_bind (wpAny_field gT dT z3 ?_)
 rw [if_pos el]
 exact wpAny_pure q
theorem flight_x {B : Heap} {l : List Env} {e : Addr} {cls fl : Value} {cx fr : Option Addr} {Q : Unit → Shared → Prop} (st : B.StaysIn s.heap) (ff : s.heap.FunFrames B l) (t : TrX s.heap B e cls cx fl)
  (q : ∀ h', NoteX B l e cls cx (fr.elim Value.none fun f => rawInt f) s.heap h' → Q () { s with heap := h' }) : wpAny M A (setFlight (.ref e) fr) Q E s := by
 obtain ⟨oe, vs, T, oT, ts, ⟨ge, rfl, de⟩, ⟨z1, z2⟩, ⟨bT, nT⟩, gT, dT, z3⟩ := t
 have z4 : 3 < ts.size := (Array.getElem?_eq_some_iff.mp z3).1
 have far : ∀ {g : Obj → Obj} b, b ≠ T → (s.heap.update T g).get? b = s.heap.get? b := fun b ne => Heap.get?_update_other _ _ (Ne.symm ne)
 have nf : ∀ b o, s.heap.get? b = some o → (∀ ws, o.data ≠ .fields ws) → b ≠ T := fun b o gb nb zb => by subst zb; rw [gT] at gb; cases gb; exact nb ts dT
 unfold setFlight
 refine wpAny_bind (wpAny_field ge de z1 ?_)
 rw [if_pos (ref_not_none T)]
 refine wpAny_setField gT dT z4 (q _ ⟨fun b o gb => (far b fun z => by rw [z, bT] at gb; cases gb).trans (st b o gb), ff.of_keeps fun b o gb nb => ⟨o, (far b (nf b o gb nb)).trans gb, rfl⟩, ?_, fun b o gb nb => ⟨o.slots, (far b (nf b o gb nb)).trans gb⟩⟩)
 have dd := Obj.data_mapFields dT (·.setIfInBounds 3 (fr.elim Value.none fun f => rawInt f))
 exact ⟨oe, vs, T, _, _, ⟨(far e (Ne.symm nT)).trans ge, rfl, de⟩, ⟨z1, z2⟩, ⟨bT, nT⟩, Heap.get?_update_self _ gT (Obj.isFreed_of_fields dd), dd, by simp [z4]⟩
end
structure XAt (X : Cx) (pins : List (Addr × Obj)) (H : Hp) (s : Shared) (a : Addr) (cls : Value) (cx : Option Addr) (B : Heap) (ph : Ph) : Prop where
 free : H a = none
 stays : B.StaysIn s.heap
 fresh : B.get? a = none
 frames : s.heap.FunFrames B X.stack
 cov : ∀ b o, s.heap.get? b = some o → Imp X pins H b → b ∉ frs X.stack → B.get? b = some o
 tr : XTr B s.heap a cls cx ph
section
variable {X : Cx} {pins : List (Addr × Obj)} {σ : St} {H : Hp} {s : Shared} {a : Addr} {cls : Value} {cx : Option Addr} {B h' : Heap} {ph : Ph}
theorem Imp.there (I : Inv X pins σ H s) {b : Addr} (i : Imp X pins H b) : ∃ o, s.heap.get? b = some o := by
 rcases i with i | ⟨hx, o, i⟩ | ⟨p, hp, e⟩
 ·cases q : H b with
  | none => exact absurd q i
  | some u => exact (I.hok b u q).there
 ·exact I.base.there b o i hx
 ·exact ⟨p.2, by rw [← e]; exact (I.pin p hp).1⟩
theorem Inv.exc (I : Inv X pins σ H s) (cov : ∀ b o, s.heap.get? b = some o → Imp X pins H b → b ∉ frs X.stack → B.get? b = some o) (st : B.StaysIn h') (ups : s.heap.UpToSlots h') :
  Inv X pins σ H { s with heap := h' } := by
 have fr : ∀ b, b ∈ frs X.stack → ∀ o, s.heap.get? b = some o → ∃ sl, h'.get? b = some { o with slots := sl } := fun b hb o e => by
  obtain ⟨_, o', e', d⟩ := I.stack.mem hb
  rw [e] at e'; cases e'
  exact ups b o e d
 have nfr : ∀ b, b ∉ X.fs → b ≠ X.env.locals → b ∉ frs X.stack := fun b h1 h2 z => (List.mem_cons.mp (I.stkSub b z)).elim h2 h1
 have neL : ∀ b o, X.s₀.heap.get? b = some o → b ≠ X.env.locals := fun b o e => Nat.ne_of_lt (Nat.lt_of_lt_of_le (Heap.lt_size e) I.ok.above)
 have cellK : ∀ c v, s.heap.IsCell c v → h'.IsCell c v := fun c v ⟨o, ho, hd⟩ => by
  obtain ⟨sl, q⟩ := ups c o ho (fun vs z => by rw [hd] at z; cases z)
  exact ⟨_, q, hd⟩
 refine ⟨I.ok, I.os, I.bare, ⟨fun b o e n hb hx => ?_, fun b o e n hb hx => ?_, I.base.free, fun b o e hx => ?_, I.base.tups, I.base.frzs, I.base.tbls⟩, ?_, fun x c e => ?_, I.free, I.freeC, fun p hp => ?_, ?_, I.len⟩
 ·exact st _ _ (cov b o (I.base.keep b o e n hb hx) (.inr (.inl ⟨hx, o, e⟩)) (nfr b hb (neL b o e)))
 ·obtain ⟨sl, e1⟩ := I.base.slot b o e n hb hx
  have hb' : b ∈ frs X.stack := by
   rcases I.ok.stk with q | ⟨q, hf⟩
   ·rw [q]; exact hb
   ·rw [q]; unfold frs; rw [List.filterMap_cons, hf]; exact List.mem_cons_of_mem _ hb
  obtain ⟨sl', e2⟩ := fr b hb' _ e1
  exact ⟨sl', e2⟩
 ·obtain ⟨o', e1⟩ := I.base.there b o e hx
  by_cases hb : b ∈ frs X.stack
  ·obtain ⟨sl, q⟩ := fr b hb _ e1
   exact ⟨_, q⟩
  ·exact ⟨o', st _ _ (cov b o' e1 (.inr (.inl ⟨hx, o, e⟩)) hb)⟩
 ·obtain ⟨m, hn, hl⟩ := I.loc
  refine ⟨m, ups.ns hn, fun i x v e1 e2 e3 => ?_⟩
  obtain ⟨u, r, l⟩ := hl i x v e1 e2 e3
  refine ⟨u, r, ?_⟩
  rcases l with l | ⟨k, c, e, z⟩
  ·exact .inl l
  ·exact .inr ⟨k, c, e, cellK c _ z⟩
 ·obtain ⟨v, z⟩ := I.cell x c e
  exact ⟨v, cellK c v z⟩
 ·obtain ⟨e, n, ne, nf, d⟩ := I.pin p hp
  exact ⟨st _ _ (cov p.1 p.2 e (.inr (.inr ⟨p, hp, rfl⟩)) (nfr p.1 nf ne)), n, ne, nf, d⟩
 ·intro b u e
  refine (I.hok b u e).stay (fun c v hc q => ?_) (fun _ q => q) fun _ _ q => q
  have hc' : H c ≠ none := by
   rcases hc with z | z
   ·rw [z, e]; exact fun q => nomatch q
   ·rw [z]; exact fun q => nomatch q
  exact st _ _ (cov c v q (.inl hc') fun z => hc' (I.stkFree c z))
theorem XAt.cov' (x : XAt X pins H s a cls cx B ph) (I : Inv X pins σ H s) (st : B.StaysIn h') : ∀ b o, h'.get? b = some o → Imp X pins H b → b ∉ frs X.stack → B.get? b = some o := fun b o e i n => by
 obtain ⟨o1, e1⟩ := i.there I
 have q := x.cov b o1 e1 i n
 have q2 := st _ _ q
 rw [e] at q2; cases q2
 exact q
variable {M : Model} {A : Around} {E : Value → Shared → Prop} {Q : Unit → Shared → Prop}
theorem note_env {e : Value} {env env0 : Env} (h : env0.frame = env.frame) : noteFrame e env = noteFrame e env0 := by
 unfold noteFrame PySem.frameOf
 rw [h]
theorem note_ok {env0 : Env} {out0 : List Env} {F : Addr} (hA : A.frames = some X.stack) (hs : X.stack = env0 :: out0) (h0 : env0.frame = X.env.frame) (hf : X.env.frame = some F) (I : Inv X pins σ H s) (x : XAt X pins H s a cls cx B ph)
  (hQ : ∀ h', Inv X pins σ H { s with heap := h' } → XAt X pins H { s with heap := h' } a cls cx B .any → Q () { s with heap := h' }) : wpAny M A (noteFrame (.ref a) X.env) Q E s := by
 have hfr : A.frames = some (env0 :: out0) := by rw [hA, hs]
 have hl : s.heap.FunFrames B (env0 :: out0) := by rw [← hs]; exact x.frames
 rw [note_env h0]
 have hf : env0.frame = some F := h0.trans hf
 have fin : ∀ {fl : Value} h', NoteX B (env0 :: out0) a cls cx fl s.heap h' → Q () { s with heap := h' } := fun h' ⟨k1, k2, k3, k4⟩ =>
  hQ h' (I.exc x.cov k1 k4) ⟨x.free, k1, x.fresh, by rw [hs]; exact k2, x.cov' I k1, _, k3⟩
 have on : ∀ fl, TrX s.heap B a cls cx fl → wpAny M A (noteFrame (.ref a) env0) Q E s := fun fl t => by
  by_cases z : (fl == rawInt F) = true
  ·exact note_again hf t z (hQ s.heap I ⟨x.free, x.stays, x.fresh, x.frames, x.cov, fl, t⟩)
  ·exact note_on hfr hl hf t z x.stays x.fresh fin
 cases ph with
 | new =>
  obtain ⟨oe, vs, he, hc, hd, h1, h2⟩ := x.tr
  refine note_first hfr hl hf he x.stays x.fresh hd h1 h2 fun h' hN => ?_
  rw [hc] at hN
  exact fin h' hN
 | fly => exact on _ x.tr
 | any => obtain ⟨fl, t⟩ := x.tr; exact on fl t
theorem land_ok (I : Inv X pins σ H s) (x : XAt X pins H s a cls cx B ph) (hn : ph ≠ .new)
  (hQ : ∀ h', Inv X pins σ H { s with heap := h' } → XAt X pins H { s with heap := h' } a cls cx B .fly → Q () { s with heap := h' }) : wpAny M A (setFlight (.ref a) none) Q E s := by
 have go : ∀ fl, TrX s.heap B a cls cx fl → wpAny M A (setFlight (.ref a) none) Q E s := fun fl ht =>
  flight_x x.stays x.frames ht fun h' ⟨k1, k2, k3, k4⟩ => hQ h' (I.exc x.cov k1 k4) ⟨x.free, k1, x.fresh, k2, x.cov' I k1, k3⟩
 cases ph with
 | new => exact absurd rfl hn
 | fly => exact go _ x.tr
 | any => obtain ⟨fl, t⟩ := x.tr; exact go fl t
end
def CXe (P : Program) (w : World) : CXT := fun outer H s E e s' =>
 ∃ (a : Addr) (cls : Value) (cx : Option Addr) (H' : Hp) (B : Heap), e = .ref a ∧ s'.os = s.os ∧ AllBare s'.gens ∧ Un (frs outer) [] H H' s.heap s'.heap ∧ HOk P w H' s'.heap ∧ B.StaysIn s'.heap ∧ B.get? a = none ∧ s'.heap.FunFrames B outer ∧
  TrX s'.heap B a cls cx .none ∧ H' a = none ∧ (∀ b o, s'.heap.get? b = some o → (H' b ≠ none ∨ ∃ o', s.heap.get? b = some o') → b ∉ frs outer → B.get? b = some o) ∧ E cls cx H'
def XAcc (X : Cx) (E : XK) : Prop := ∀ (pins : List (Addr × Obj)) (σ : St) (H : Hp) (s : Shared) (a : Addr) (cls : Value) (cx : Option Addr) (B : Heap) (ph : Ph), Inv X pins σ H s → XAt X pins H s a cls cx B ph → E cls cx H → X.xe (.ref a) s
theorem acc_def {P : Program} {w : World} {K : W.Frag} {mg : Str → Option Value} {base : Heap} {N : List Str} {qual : Str} {scope : Scope} {f : Addr} {cd : Value} {A : Around} {outer : List Env} {s : Shared} {H : Hp} {E : XK} :
  XAcc (cxOf (CXe P w) P w K mg base N qual scope f cd A outer s H E) E := by
 intro pins σ H1 s1 a cls cx B ph I x e
 show wpAny (model P w) (A.deeper (envOfC qual scope s.heap.objs.size f cd)) (leaving (envOfC qual scope s.heap.objs.size f cd) (.ref a)) _ _ s1
 unfold leaving
 refine wpAny_bind (note_ok (X := cxOf (CXe P w) P w K mg base N qual scope f cd A outer s H E) I.ok.frames rfl rfl rfl I x fun h1 I1 x1 => ?_)
 refine land_ok I1 x1 (fun z => nomatch z) fun h2 I2 x2 => ?_
 refine ⟨a, cls, cx, H1, B, rfl, I2.os, I2.bare, I2.base, I2.hok, x2.stays, x2.fresh, x2.frames.2.2, x2.tr, x2.free, fun b o e1 i n => ?_, e⟩
 have nl : b ≠ (envOfC qual scope s.heap.objs.size f cd).locals := fun z => by
  rcases i with i | ⟨o', i⟩
  ·exact i (by rw [z]; exact I2.free)
  ·have := Heap.lt_size i
   rw [z] at this
   exact absurd this (Nat.lt_irrefl _)
 refine x2.cov b o e1 (i.elim .inl fun z => .inr (.inl ⟨List.not_mem_nil, z⟩)) fun z => ?_
 rcases List.mem_cons.mp (I2.stkSub b z) with q | q
 ·exact nl q
 ·exact n q
theorem XAcc.passes {X : Cx} {E : XK} (acc : XAcc X E) : Passes (CXe X.prog X.w) X E := by
 intro pins σ H s e s' I h
 obtain ⟨a, cls, cx, H', B, rfl, os, bare, un, hok, st, fr, ff, tr, free, cov, hE⟩ := h
 have I' : Inv X pins σ H' s' := I.call' (ch := []) os un hok bare (fun b z => absurd z (by simp))
 refine acc pins σ H' s' a cls cx B .fly I' ⟨free, st, fr, ff, fun b o e i n => cov b o e ?_ n, tr⟩ hE
 rcases i with i | ⟨hx, o', i⟩ | ⟨p, hp, q⟩
 ·exact .inl i
 ·exact .inr (I.base.there b o' i hx)
 ·exact .inr ⟨p.2, by rw [← q]; exact (I.pin p hp).1⟩
end L2
namespace PySem.W
open PySem PySem.Spec PySem.Calls PyProof.Rows
structure ExcT (K : Frag) (C : Addr) : Prop where
 ga : findIn K (.ref C) "__getattribute__" = some (some (.builtin "BaseException.__getattribute__"))
 gt : findIn K (.ref C) "__getattr__" = some none
 cl : findIn K (.ref C) "__class__" = some (some (.builtin "object.__class__"))
 mo : mroIn K C (.type "object") = some true
 sb : subIn K (.ref C) (.type "BaseException") = some true
section
variable {prog : Program} {w : World} {A : Around} {E : Value → Shared → Prop} {h : Heap} {g : Array GenState} {d : Drawn} {t : Nat} {os : OsState} {K : Frag} {x C : Addr} {o : Obj} {R : Result → Shared → Prop}
theorem exc_class_get {tp : Value} (X : K.In h) (hx : h.get? x = some o) (hc : o.cls = .ref C) (hm : mroIn K C (.type "object") = some true)
  (q : R (.ok (.ret (.ref C))) ⟨h, g, d, t, os⟩) : codeAny (model prog w) A (.call (.builtin "getset_descriptor.__get__") ⟨[.builtin "object.__class__", .ref x, tp], []⟩) R ⟨h, g, d, t, os⟩ := by
 have L0 : Looks (model prog w) h (typeOf (.ref x)) (.ref C) := hc ▸ (Looks.ld hx).andThen .now
 have L1 := looks_mroIn (M := model prog w) X hm
 refine codeAny_call_builtin KF.slot_gs.plain KF.entry_gs (KF.slot_gs.check _ _ _ _ _ _ _ _ KF.type_class (KF.args_gs _ _ _) ?_)
 unfold Builtin.«getset_descriptor.__get__» Builtin.Getset_descriptor.descrGet
 rw [dga_obj]
 refine wpAny_bind (wpAny_pure ?_)
 unfold Builtin.Getset_descriptor.descrGetter Builtin.Getset_descriptor.descrCheckInstance Builtin.Getset_descriptor.descrNameAndClass isInstance
 simp only [KF.owner_class]
 repeat lk
 refine ⟨Code.quiet_builtin _ (by decide +kernel), codeAny_builtin KF.entry_class ?_⟩
 unfold Builtin.«object.__class__» shownTypeOf
 repeat lk
 exact q
theorem exc_class_entry {tk : Tok} {Q : Fin → Shared → Prop} (X : K.In h) (T : ExcT K C) (hx : h.get? x = some o) (hc : o.cls = .ref C) (q : Q (.done (.ret (.ref C))) ⟨h, g, d, t, os⟩) :
  wpAny (model prog w) A (Builtin.«object.__getattribute__» ⟨[.ref x, .str "__class__" tk], []⟩) Q E ⟨h, g, d, t, os⟩ := by
 have L0 : Looks (model prog w) h (typeOf (.ref x)) (.ref C) := hc ▸ (Looks.ld hx).andThen .now
 have L1 := looks_findIn (M := model prog w) X T.cl
 have hT5 : (⟨h, g, d, t, os⟩ : Shared).TypeIs (.builtin "object.__class__") "getset_descriptor" := F.typeOf_object_class
 have f5 := F.typeOf_object_class
 have f6 := F.slot_gs_get.lookup
 have f7 := F.slot_gs_set.lookup
 repeat (any_goals (first | assumption | (with_reducible refine L0.at ?_) | (with_reducible refine wpAny_bind (L0.at ?_)) | (with_reducible refine L1.at ?_) | (with_reducible refine wpAny_bind (L1.at ?_)) | wp_step))
 refine exc_class_get X hx hc T.mo ?_
 repeat (any_goals (first | assumption | wp_step))
theorem exc_check_ga {M : Model} {nameV : Value} {Q : Unit → Shared → Prop} (X : K.In h) (T : ExcT K C) (hx : h.get? x = some o) (hc : o.cls = .ref C) (hq : Q () ⟨h, g, d, t, os⟩) : wpAny M A (checkBuiltinCall "BaseException.__getattribute__" ⟨[.ref x, nameV], []⟩) Q E ⟨h, g, d, t, os⟩ := by
 have hk : builtinKind "BaseException.__getattribute__" = some .slot := by decide +kernel
 have hsplit : splitId "BaseException.__getattribute__" = some ("BaseException", "__getattribute__") := by decide +kernel
 have L0 : Looks M h (typeOf (.ref x)) (.ref C) := hc ▸ (Looks.ld hx).andThen .now
 have L1 := looks_subIn (M := M) X T.sb
 have L2 : Looks M h (isInstance (.ref x) (.type "BaseException")) true := L0.andThen L1
 have ha := F.args_bexc_ga (.ref x) nameV
 simp only [checkBuiltinCall, hk, hsplit]
 refine wpAny_bind (L2.at ?_)
 repeat (first | assumption | wp_step)
theorem exc_class_by {tk : Tok} {Q : Value → Shared → Prop} (X : K.In h) (T : ExcT K C) (hx : h.get? x = some o) (hc : o.cls = .ref C) (hq : Q (.ref C) ⟨h, g, d, t, os⟩) : wpAny (model prog w) A (getAttrBy (.ref x) (.str "__class__" tk) false) Q E ⟨h, g, d, t, os⟩ := by
 have L0 : Looks (model prog w) h (typeOf (.ref x)) (.ref C) := hc ▸ (Looks.ld hx).andThen .now
 have L1 := looks_findIn (M := model prog w) X T.ga
 have L2 := looks_findIn (M := model prog w) X T.gt
 have f3 := F.attr_ValueError.ga.bind (.ref x)
 have hx2 : (Value.builtin "BaseException.__getattribute__" == Value.builtin "object.__getattribute__") = false := by decide +kernel
 have hx1 : (onTheHeap (Value.ref C) && Value.builtin "BaseException.__getattribute__" == Value.builtin "object.__getattribute__") = false := by rw [hx2]; rfl
 repeat (any_goals (first | assumption | (with_reducible refine L0.at ?_) | (with_reducible refine wpAny_bind (L0.at ?_)) | (with_reducible refine L1.at ?_) | (with_reducible refine wpAny_bind (L1.at ?_)) | (with_reducible refine L2.at ?_) | (with_reducible refine wpAny_bind (L2.at ?_)) | wp_step))
 refine codeAny_call_builtin F.attr_ValueError.ga.plain F.entry_bexc_ga (exc_check_ga X T hx hc (exc_class_entry X T hx hc ?_))
 repeat (any_goals (first | assumption | wp_step))
theorem exc_class_attr {Q : Option Value → Shared → Prop} (X : K.In h) (T : ExcT K C) (hx : h.get? x = some o) (hc : o.cls = .ref C) (hq : Q (some (.ref C)) ⟨h, g, d, t + 1, os⟩) : wpAny (model prog w) A (getAttr? (.ref x) "__class__") Q E ⟨h, g, d, t, os⟩ := by
 unfold getAttr? getAttrBy?
 repeat (any_goals (first | assumption | with_reducible apply exc_class_by X T hx hc | wp_step))
end
def ExcAtC (x C : Addr) (h : Heap) : Prop := ∃ o vs, h.get? x = some o ∧ o.cls = .ref C ∧ o.data = .fields vs
theorem kitx_exc {K : Frag} {x C : Addr} (T : ExcT K C) : KitX K (.ref x) (.ref C) (ExcAtC x C) where
 ty := fun _ _ _ ⟨_, _, hx, hc, _⟩ => hc ▸ (Looks.ld hx).andThen .now
 it := fun M h X _ => by
  have hm := T.mo
  unfold mroIn at hm
  obtain ⟨cd, hcd⟩ : ∃ cd, clsIn K C = some cd := by
   cases q : clsIn K C with
   | none => rw [q] at hm; cases hm
   | some cd => exact ⟨cd, rfl⟩
  unfold clsIn at hcd
  split at hcd
  ·rename_i c' d' cd' sl' ho
   intro A' Q' E' s' k q
   unfold isType loadHead
   exact wpAny_bind (wpAny_loadPart (k _ _ (X _ _ ho)) (wpAny_pure q))
  ·cases hcd
 ne := fun h tp dd its n sl X htp => by
  have hm := T.mo
  unfold mroIn at hm
  obtain ⟨cd, hcd⟩ : ∃ cd, clsIn K C = some cd := by
   cases q : clsIn K C with
   | none => rw [q] at hm; cases hm
   | some cd => exact ⟨cd, rfl⟩
  refine Bool.eq_false_iff.mpr fun q => ?_
  have e : C = tp := Value.ref.inj (beq_iff_eq.mp q)
  subst e
  unfold clsIn at hcd
  split at hcd
  ·rename_i c' d' cd' sl' ho
   have z := (X _ _ ho).symm.trans htp
   cases z
  ·cases hcd
 ca := fun {_ _ _ _ _ s} X ⟨_, _, hx, hc, _⟩ k => by
  obtain ⟨h, g, d, t, os⟩ := s
  exact exc_class_attr X T hx hc k
end PySem.W
namespace L2
open PySem PySem.Spec PyProof.Rows
abbrev TJ := St → Hp → Str → (Str → Hp → Prop) → Prop
def PJ (X : Cx) (es : List Expr) (t : TJ) : Prop :=
 ∀ (pins : List (Addr × Obj)) (s : Shared) (σ : St) (H : Hp) (acc : Str) (Q : VK), Inv X pins σ H s → t σ H acc (fun y H1 => Q (.str y) H1) → wpAny (model X.prog X.w) X.A (joinParts acc (evalEach es X.env)) (EP X pins σ Q) X.xe s
def tJNil : TJ := fun _ H acc Q => acc.length ≤ sizeLine ∧ Q acc H
def tJCons (te : TE) (tr : TJ) : TJ := fun σ H acc Q => te σ H fun x H1 => ∃ y, x = .str y ∧ (acc ++ y).length ≤ sizeLine ∧ tr σ H1 (acc ++ y) Q
section
variable {X : Cx} {e : Expr} {es : List Expr} {te : TE} {t : TJ} {pos : Pos}
theorem pj_nil : PJ X [] tJNil := fun pins s σ H acc Q I h => joinParts_nil ⟨.str acc, H, I.tok _, ⟨_, rfl⟩, h.2⟩ h.1
theorem pj_cons (he : PE X e te) (hr : PJ X es t) : PJ X (e :: es) (tJCons te t) := by
 intro pins s σ H acc Q I h
 refine joinParts_cons (thn (he pins s σ H _ I h) fun v s1 ⟨x, H1, I1, r1, q1⟩ => ?_)
 obtain ⟨y, rfl, z, q⟩ := q1
 obtain ⟨tk, rfl⟩ := r1
 exact ⟨z, hr pins s1 σ H1 _ Q I1 q⟩
def tJoin (t : TJ) : TE := fun σ H Q => t σ H Str.empty fun y H1 => Q (.str y) H1
theorem pe_joined {e2 : Expr} (h : PJ X (e :: e2 :: es) t) : PE X (.JoinedStr (e :: e2 :: es) pos) (tJoin t) := fun pins s σ H Q I hq => JoinedStr_many (h pins s σ H Str.empty Q I hq)
def tFmt (te : TE) : TE := fun σ H Q => te σ H fun x H1 => (∃ i : Int, x = .int i ∧ i.natAbs.log2 < 1920 ∧ Q (.str (toString i)) H1) ∨ ∃ y, x = .str y ∧ y.length ≤ sizeLine ∧ Q (.str y) H1
theorem pe_fmt (he : PE X e te) : PE X (.FormattedValue e (-1) none pos) (tFmt te) := by
 intro pins s σ H Q I h
 refine FormattedValue_plain (thn (he pins s σ H _ I h) fun v s1 ⟨x, H1, I1, r1, q1⟩ => ?_)
 rcases q1 with ⟨i, rfl, z, q⟩ | ⟨y, rfl, z, q⟩
 ·obtain ⟨tk, rfl⟩ := r1
  exact formatField_int_small z ⟨.str (toString i), H1, I1.tok _, ⟨_, rfl⟩, q⟩
 ·obtain ⟨tk, rfl⟩ := r1
  exact formatField_str (fun t' tk => ⟨.str y, H1, I1.tok _, ⟨_, rfl⟩, q⟩) z
end
def vErr : List Value := [.type "ValueError", .type "Exception", .type "BaseException", .type "object"]
theorem exc_obj {K : W.Frag} {h₀ : Heap} {C : Addr} (KX : K.In h₀) (q : W.excIn K C vErr "ValueError.__new__" = true) :
  ∃ bm N nm q bs hdct sn sub ab col dd k0 k1 k2 k3 k5 mN, h₀.get? C = some (excClassObj nm q C N bs bm hdct sn sub ab col dd k0 k1 k2 k3 k5 "ValueError.__new__") ∧ h₀.Ns N mN ∧ mN "__init__" = none ∧ OwnTail h₀ vErr bm := by
 unfold W.excIn at q
 split at q
 ·rename_i dd cd sl ho
  split at q
  ·rename_i C' bm k0 k1 k2 k3 n k5 hm hs
   simp only [Bool.and_eq_true, beq_iff_eq, Bool.not_eq_true'] at q
   obtain ⟨⟨⟨⟨⟨rfl, rfl⟩, hdel⟩, ht⟩, hok⟩, hni⟩ := q
   obtain ⟨nm, bs, mro, ns, qn, hd, sn, sub, ab, col, del⟩ := cd
   dsimp only at hm hdel hok hni
   subst hm hdel
   have hsl : sl = #[k0, k1, k2, k3, some (.builtin "ValueError.__new__"), k5] := by
    obtain ⟨l⟩ := sl
    simp only at hs
    rw [hs]
   subst hsl
   exact ⟨bm, ns, nm, qn, bs, hd, sn, sub, ab, col, dd, k0, k1, k2, k3, k5, _, KX _ _ ho, .of_isNs (W.isNs_of_in KX hok), W.nsMap_none_of_in KX hok hni, W.tail_of_in KX ht⟩
  ·cases q
 ·cases q
section
variable {X : Cx} {E : XK}
theorem XAt.first {pins : List (Addr × Obj)} {σ : St} {H : Hp} {s : Shared} {h' : Heap} {a : Addr} {cls : Value} {cx : Option Addr} {oe : Obj} {vs : Array Value} (I : Inv X pins σ H s) (k : ∀ b o, s.heap.get? b = some o → h'.get? b = some o)
  (n : s.heap.get? a = none) (g : h'.get? a = some oe) (hc : oe.cls = cls) (hd : oe.data = .fields vs) (z1 : vs[1]? = some .none) (z2 : vs[2]? = some (ctxV cx)) :
  Inv X pins σ H { s with heap := h' } ∧ XAt X pins H { s with heap := h' } a cls cx (W.hideAll s.heap (frs X.stack)) .new := by
 have I' : Inv X pins σ H { s with heap := h' } := I.kept (t' := s.toks) k
 have fr : H a = none := by
  cases q : H a with
  | none => rfl
  | some u => obtain ⟨o, e⟩ := (I.hok a u q).there; rw [n] at e; cases e
 refine ⟨I', fr, fun b o e => k b o (W.of_hideAll _ e), ?_, (W.funFrames_hide I.stack fun env he b hb => List.mem_filterMap.mpr ⟨env, he, hb⟩).of_keeps fun b o e _ => ⟨o, k b o e, rfl⟩, fun b o e i n => ?_, ⟨oe, vs, g, hc, hd, z1, z2⟩⟩
 ·cases q : (W.hideAll s.heap (frs X.stack)).get? a with
  | none => rfl
  | some o => have := W.of_hideAll _ q; rw [n] at this; cases this
 ·obtain ⟨o1, e1⟩ := i.there I
  have e2 := k _ _ e1
  rw [e] at e2; cases e2
  exact W.hideAll_get _ e1 n
theorem XAt.made {pins : List (Addr × Obj)} {σ : St} {H : Hp} {s : Shared} {h' : Heap} {a : Addr} {cls : Value} {vs : List Value} (I : Inv X pins σ H s) (m : Heap.MadeExcOf s.heap h' a cls vs) :
  Inv X pins σ H { s with heap := h' } ∧ XAt X pins H { s with heap := h' } a cls none (W.hideAll s.heap (frs X.stack)) .new := by
 obtain ⟨t, he, _, _⟩ := m.there
 exact XAt.first I m.keeps m.new he rfl rfl rfl rfl
def tRaise (C : Addr) (E : XK) (ta : TA) : TS := fun _ σ H => ta σ H fun vs H1 => vs.length ≤ sizeLine ∧ E (.ref C) none H1
theorem ps_raise {x : Str} {C : Addr} {e₀ : Expr} {rest : List Expr} {np cpos pos : Pos} {ta : TA} (acc : XAcc X E) (q : W.excIn X.K C vErr "ValueError.__new__" = true) (hg : Gl X x) (hm : X.mg x = some (.ref C)) (ha : PA X (e₀ :: rest) ta)
  (hc : X.calm = true := by rfl) (hex : X.ex = [] := by rfl)
  (he : starEach (e₀ :: rest) X.env = (false, eval e₀ X.env) :: starEach rest X.env := by rfl) (hplain : (backTo cpos (starEach rest X.env)).any (·.1) = false := by rfl) (hd : (x == ("__debug__" : Str)) = false := by decide) :
  PS X (.Raise (some (.Call (.Name x np) (e₀ :: rest) [] cpos)) none pos) (tRaise C E ta) := by
 intro pins s σ H D I h
 obtain ⟨tl, N, nm, qn, bs, hdct, sn, sub, ab, col, dd, k0, k1, k2, k3, k5, mN, hC, hN, hni, T⟩ := exc_obj I.mod.kin q
 have hp := ha cpos pins s σ H _ I h
 rw [he] at hp
 refine wpAny_Raise_call_subT (C := C) (nm := nm) (q := qn) (N := N) (bs := bs) (bm := tl) (hdct := hdct) (sn := sn) (sub := sub) (ab := ab) (col := col) (dd := dd) (k0 := k0) (k1 := k1) (k2 := k2) (k3 := k3) (k5 := k5)
  PySem.F.excBase_ValueError (mN := mN) (T.hasType PySem.F.excBase_ValueError.hasBase) (I.ok.hd hc) (by rw [he]; show (false || (backTo cpos (starEach rest X.env)).any (·.1)) = false; rw [hplain]; rfl) hni (ld_glob I hg hm ⟨rfl, ?_⟩ hd)
 rw [he]
 refine Calls.evalArgs_plain (thn hp fun us s2 ⟨vs, H2, I2, rv, z, hE⟩ => ⟨rfl, by rw [← rv.length]; exact z, I2.bk _ _ hC, hN.keeps I2.bk, T.keeps I2.bk, fun h' e m => ?_⟩)
 obtain ⟨I3, x3⟩ := XAt.made I2 m
 exact acc pins σ H2 _ e _ none _ .new I3 x3 hE
end
def ExcO (a : Addr) (cls : Value) (cx : Option Addr) : HO := .ext fun h => ∃ o vs, h.get? a = some o ∧ o.cls = cls ∧ o.data = .fields vs ∧ vs[2]? = some (ctxV cx)
section
variable {X : Cx} {pins : List (Addr × Obj)} {σ : St} {H : Hp} {s : Shared} {a : Addr} {cls : Value} {cx : Option Addr} {B : Heap} {ph : Ph}
theorem XAt.nofr (x : XAt X pins H s a cls cx B ph) : a ∉ frs X.stack := fun z => by
 obtain ⟨oe, vs, e, _, d, _⟩ := x.tr.there
 obtain ⟨_, o, e', d'⟩ := x.frames.mem z
 rw [e] at e'; cases e'
 exact d' vs d
theorem XAt.noimp (x : XAt X pins H s a cls cx B ph) : ¬ Imp X pins H a := fun i => by
 obtain ⟨oe, vs, e, _, d, _⟩ := x.tr.there
 have := x.cov a oe e i x.nofr
 rw [x.fresh] at this; cases this
theorem Inv.track (I : Inv X pins σ H s) (x : XAt X pins H s a cls cx B ph) : Inv X pins σ (upd H a (ExcO a cls cx)) s := by
 obtain ⟨oe, vs, e, hc, d, d2⟩ := x.tr.there
 have ni := x.noimp
 refine ⟨I.ok, I.os, I.bare, ⟨I.base.keep, I.base.slot, fun b o e1 n hx => ?_, I.base.there, fun b xs q => ?_, fun b o u q => ?_, fun b ps q => ?_⟩, I.loc, I.cell, ?_, fun y c q => ?_, fun p hp => ?_, fun b u q => ?_, I.len⟩
 ·rw [upd_ne (fun z => ni (.inr (.inl ⟨by rw [← z]; exact hx, o, by rw [← z]; exact e1⟩)))]
  exact I.base.free b o e1 n hx
 ·have q1 := I.base.tups b xs q
  rw [upd_ne (ne_of_none q1 x.free)]; exact q1
 ·have q1 := I.base.frzs b o u q
  rw [upd_ne (ne_of_none q1 x.free)]; exact q1
 ·obtain ⟨more, q1⟩ := I.base.tbls b ps q
  exact ⟨more, by rw [upd_ne (ne_of_none q1 x.free)]; exact q1⟩
 ·rw [upd_ne fun z => ?_]
  ·exact I.free
  ·obtain ⟨m, ⟨o, es, ep, ho, hd, _⟩, _⟩ := I.loc
   rw [z, e] at ho; cases ho
   rw [d] at hd; cases hd
 ·rw [upd_ne fun z => ?_]
  ·exact I.freeC y c q
  ·obtain ⟨v, o, ho, hd⟩ := I.cell y c q
   rw [z, e] at ho; cases ho
   rw [d] at hd; cases hd
 ·obtain ⟨h1, h2, h3, h4, h5⟩ := I.pin p hp
  exact ⟨h1, by rw [upd_ne (fun z => ni (.inr (.inr ⟨p, hp, z⟩)))]; exact h2, h3, h4, h5⟩
 ·by_cases hb : b = a
  ·subst hb
   rw [upd_same] at q; cases q
   exact ⟨⟨oe, vs, e, hc, d, d2⟩, ⟨oe, e⟩, fun h1 h2 ⟨o, ws, z1, z2, z3⟩ k => ⟨o, ws, k o z1, z2, z3⟩⟩
  ·rw [upd_ne hb] at q
   refine (I.hok b u q).stay (fun _ _ _ z => z) (fun c z => ?_) fun c xs z => ?_
   ·rw [upd_ne (ne_of_none z x.free)]; exact z
   ·rw [upd_ne (ne_of_none z x.free)]; exact z
end
abbrev Cx.tryCx (X : Cx) (E2 : Value → Shared → Prop) (pins : List (Addr × Obj)) : Cx := { X with xe := E2, pn := X.pn ++ pins }
abbrev Cx.inExc (X : Cx) (a : Addr) : Cx := { X with A := X.A.mark (some (.ref a)), calm := false }
def blank (n : Nat) : St := List.replicate n none
section
variable {X : Cx} {pins : List (Addr × Obj)} {σ : St} {H : Hp} {s : Shared} {a : Addr} {E2 : Value → Shared → Prop}
theorem Cx.Ok.tryCx (ok : X.Ok) : (X.tryCx E2 pins).Ok := ⟨ok.mod, ok.kind, ok.glob, ok.blt, ok.above, ok.inj, ok.has, ok.cab, ok.hd, ok.frames, ok.stk, ok.exf, ok.bs, ok.bsz, ok.noex, ok.exfs, ok.funs, ok.frf⟩
theorem Cx.Ok.inExc (ok : X.Ok) : (X.inExc a).Ok := ⟨ok.mod, ok.kind, ok.glob, ok.blt, ok.above, ok.inj, ok.has, ok.cab, (fun z => nomatch z), ok.frames, ok.stk, ok.exf, ok.bs, ok.bsz, ok.noex, ok.exfs, ok.funs, ok.frf⟩
theorem Inv.toTry (I : Inv X pins σ H s) : Inv (X.tryCx E2 pins) [] σ H s :=
 ⟨I.ok.tryCx, I.os, I.bare, I.base, I.loc, I.cell, I.free, I.freeC, fun p hp => I.pin p (by rw [List.append_nil] at hp; exact hp), I.hok, I.len⟩
theorem Inv.ofTry {pins' : List (Addr × Obj)} (ok : X.Ok) (I : Inv (X.tryCx E2 pins) pins' σ H s) : Inv X pins σ H s :=
 ⟨ok, I.os, I.bare, I.base, I.loc, I.cell, I.free, I.freeC, fun p hp => I.pin p (List.mem_append_left _ hp), I.hok, I.len⟩
theorem Inv.toExc (I : Inv X pins σ H s) : Inv (X.inExc a) pins σ H s :=
 ⟨I.ok.inExc, I.os, I.bare, I.base, I.loc, I.cell, I.free, I.freeC, I.pin, I.hok, I.len⟩
theorem Inv.ofExc (ok : X.Ok) (I : Inv (X.inExc a) pins σ H s) : Inv X pins σ H s :=
 ⟨ok, I.os, I.bare, I.base, I.loc, I.cell, I.free, I.freeC, I.pin, I.hok, I.len⟩
theorem Inv.forget (I : Inv X pins σ H s) : Inv X pins (blank X.N.length) H s := I.weak (by unfold blank; rw [List.length_replicate, I.len]) fun i v q => by
 unfold blank at q
 rw [List.getElem?_replicate] at q
 split at q <;> cases q
theorem SP.ofTry {pins' : List (Addr × Obj)} {D : Ends} {f : Flow} {s' : Shared} (ok : X.Ok) (h : SP (X.tryCx E2 pins) pins' D f s') : SP X pins D f s' := by
 cases f with
 | next => obtain ⟨σ', H', I, q⟩ := h; exact ⟨σ', H', I.ofTry ok, q⟩
 | brk => obtain ⟨σ', H', I, q⟩ := h; exact ⟨σ', H', I.ofTry ok, q⟩
 | cont => obtain ⟨σ', H', I, q⟩ := h; exact ⟨σ', H', I.ofTry ok, q⟩
 | ret u => obtain ⟨v, σ', H', I, r, q⟩ := h; exact ⟨v, σ', H', I.ofTry ok, r, q⟩
theorem SP.ofExc {D : Ends} {f : Flow} {s' : Shared} (ok : X.Ok) (h : SP (X.inExc a) pins D f s') : SP X pins D f s' := by
 cases f with
 | next => obtain ⟨σ', H', I, q⟩ := h; exact ⟨σ', H', I.ofExc ok, q⟩
 | brk => obtain ⟨σ', H', I, q⟩ := h; exact ⟨σ', H', I.ofExc ok, q⟩
 | cont => obtain ⟨σ', H', I, q⟩ := h; exact ⟨σ', H', I.ofExc ok, q⟩
 | ret u => obtain ⟨v, σ', H', I, r, q⟩ := h; exact ⟨v, σ', H', I.ofExc ok, r, q⟩
theorem XAcc.inExc {E : XK} {a : Addr} (acc : XAcc X E) (ok : X.Ok) : XAcc (X.inExc a) E := fun pins σ H s b cls cx B ph I x e => acc pins σ H s b cls cx B ph (I.ofExc ok) ⟨x.free, x.stays, x.fresh, x.frames, x.cov, x.tr⟩ e
end
section
variable {X : Cx} {pins : List (Addr × Obj)} {σ : St} {H : Hp} {s : Shared} {a : Addr} {E2 : Value → Shared → Prop}
theorem Inv.nameGoes {M : Model} {A : Around} {E : Value → Shared → Prop} {n : Str} {i : Nat} {pos : Pos} {Q : Unit → Shared → Prop} (I : Inv X pins σ H s) (hN : X.N.Nodup) (hi : X.N[i]? = some n) (hl : X.env.scope.names.lookup n = some .local)
  (h : ∀ h', Inv X pins (σ.set i none) H { s with heap := h', toks := s.toks + 1 } → Q () { s with heap := h', toks := s.toks + 1 }) : wpAny M A (do bindName X.env n .none; unbindBehindTheSuite X.env n pos) Q E s := by
 obtain ⟨m, hn, hlo⟩ := id I.loc
 have hcls : (X.env.scope.kind == .class || (X.env.scope.kind == .module && X.env.locals != X.env.globals)) = false := by rw [I.ok.kind]; rfl
 refine wpAny_nameGoes_keeps hl hn hcls fun h' v hn' hs => h h' ?_
 obtain ⟨oL, _, _, hoL, _⟩ := id hn
 have cne := I.cne
 have neL : ∀ b o, X.s₀.heap.get? b = some o → b ≠ X.env.locals := fun b o e => Nat.ne_of_lt (Nat.lt_of_lt_of_le (Heap.lt_size e) I.ok.above)
 refine ⟨I.ok, I.os, I.bare, ⟨fun b o e k hb hx => (hs.2 b (neL b o e)).trans (I.base.keep b o e k hb hx), fun b o e k hb hx => ?_, I.base.free, fun b o e hx => ?_, I.base.tups, I.base.frzs, I.base.tbls⟩, ⟨_, hn', fun j y v' e1 e2 e3 => ?_⟩, fun y c e => ?_, I.free, I.freeC, fun p hp => ?_, ?_, by simpa using I.len⟩
 ·obtain ⟨sl, e1⟩ := I.base.slot b o e k hb hx
  exact ⟨sl, (hs.2 b (neL b o e)).trans e1⟩
 ·obtain ⟨o', e1⟩ := I.base.there b o e hx
  exact ⟨o', (hs.2 b (neL b o e)).trans e1⟩
 ·by_cases hj : j = i
  ·subst hj
   by_cases hlt : j < σ.length
   ·rw [List.getElem?_set_self hlt] at e2; cases e2
   ·rw [List.getElem?_eq_none (by rw [List.length_set]; omega)] at e2; cases e2
  ·rw [List.getElem?_set_ne (Ne.symm hj)] at e2
   obtain ⟨u', r', q⟩ := hlo j y v' e1 e2 e3
   refine ⟨u', r', ?_⟩
   rcases q with ⟨k, e⟩ | ⟨k, c, e, z⟩
   ·refine .inl ⟨k, ?_⟩
    have : y ≠ n := fun e => hj (nodup_ix hN e1 (e ▸ hi))
    simp [this, e]
   ·exact .inr ⟨k, c, e, z.sameBut hs (cne y c e)⟩
 ·obtain ⟨w', z⟩ := I.cell y c e
  exact ⟨w', z.sameBut hs (cne y c e)⟩
 ·obtain ⟨e, n', ne, nf, d⟩ := I.pin p hp
  exact ⟨(hs.2 p.1 ne).trans e, n', ne, nf, d⟩
 ·intro b ob e
  refine (I.hok b ob e).stay (fun c w' hc q => (hs.2 c ?_).trans q) (fun _ q => q) fun _ _ q => q
  rintro rfl
  rcases hc with rfl | hc
  ·rw [I.free] at e; cases e
  ·rw [I.free] at hc; cases hc
end
theorem pass0e {X : Cx} {P : Program} {w : World} : Passes (CXe P w) X E0 := fun _ _ _ _ _ _ _ h => by
 obtain ⟨_, _, _, _, _, _, _, _, _, _, _, _, _, _, _, _, hE⟩ := h
 exact hE.elim
section
variable {P : Program} {w : World} {K : W.Frag} {mg : Str → Option Value} {base : Heap}
theorem Fun.okE {x qual : Str} {st : Stmt} {f : Addr} {fd : FuncData} {N ps : List Str} {k : Nat} {sp : Sp} (F : Fun K x qual st f fd) (S : FnScope N ps (defScope st)) (len : ∀ vs H Q E, sp vs H Q E → vs.length = ps.length)
  (hbody : ∀ (cdv : Value) (A : Around) (outer : List Env) (s : Shared) (H : Hp) (vs : List V) (Q : VK) (E : XK), Room k (A.deeper (envOfC qual (defScope st) s.heap.objs.size f cdv)) → sp vs H Q E →
   ∃ t, PSs (cxOf (CXe P w) P w K mg base N qual (defScope st) f cdv A outer s H E) (defBody st) t ∧ t { nx := fun _ H' => Q .non H', rt := Q } (start N vs) H) : FnOk P w K mg base (CXe P w) (k + 1) f fd ps sp := by
 obtain ⟨oc, od, kV, doc, pm, an, cdv, ct, osl, rfl, lk, hcd⟩ := F.ex
 exact fn_of lk hcd S len fun A outer s H vs Q E hr hsp => hbody cdv A outer s H vs Q E hr hsp
structure FunD (K : W.Frag) (x qual : Str) (st : Stmt) (dT : Addr) (f : Addr) (fd : FuncData) : Prop where
 ex : ∃ (oc : Value) (od : Option Addr) (kV doc pm : Value) (an : Option Addr) (cdv ct : Value) (osl : Array (Option Value)),
  fd = W.fnOf x qual (defArgs st) (defBody st) (defScope st) (.ref dT) kV doc pm an cdv ct ∧ K.lookup f = some ⟨oc, od, .func fd, osl⟩ ∧ W.codeIn K cdv qual = true
 kp : W.keepIn K (.ref f) = true
theorem FunD.okE {x qual : Str} {st : Stmt} {dT f : Addr} {fd : FuncData} {N ps : List Str} {k : Nat} {sp : Sp} (F : FunD K x qual st dT f fd) (S : FnScope N ps (defScope st)) (len : ∀ vs H Q E, sp vs H Q E → vs.length = ps.length)
  (hbody : ∀ (cdv : Value) (A : Around) (outer : List Env) (s : Shared) (H : Hp) (vs : List V) (Q : VK) (E : XK), Room k (A.deeper (envOfC qual (defScope st) s.heap.objs.size f cdv)) → sp vs H Q E →
   ∃ t, PSs (cxOf (CXe P w) P w K mg base N qual (defScope st) f cdv A outer s H E) (defBody st) t ∧ t { nx := fun _ H' => Q .non H', rt := Q } (start N vs) H) : FnOk P w K mg base (CXe P w) (k + 1) f fd ps sp := by
 obtain ⟨oc, od, kV, doc, pm, an, cdv, ct, osl, rfl, lk, hcd⟩ := F.ex
 exact fn_of lk hcd S len fun A outer s H vs Q E hr hsp => hbody cdv A outer s H vs Q E hr hsp
theorem FunD.binds {x qual : Str} {st : Stmt} {dT f : Addr} {fd : FuncData} {ps : List Str} {ds : List Value} {items : List Value} {o : Obj} {nn : Nat} (F : FunD K x qual st dT f fd) (ho : K.lookup dT = some o) (hs : o.data = .seq items.toArray nn)
  (h : ∀ (kV doc pm : Value) (an : Option Addr) (cdv ct : Value) (us : List Value), (us ++ ds).length = ps.length → ∃ k : Option (Array Value) → Sem (List (Str × Value)),
   bindArgs (W.fnOf x qual (defArgs st) (defBody st) (defScope st) (.ref dT) kV doc pm an cdv ct) ⟨us, []⟩ = seqItems? (.ref dT) >>= k ∧ k (some items.toArray) = pure (ps.zip (us ++ ds))) : Binds K fd ps ds := by
 obtain ⟨oc, od, kV, doc, pm, an, cdv, ct, osl, rfl, lk, hcd⟩ := F.ex
 intro s us KX hl
 obtain ⟨k, h1, h2⟩ := h kV doc pm an cdv ct us hl
 exact W.binds_K KX rfl ho hs h1 h2
end
structure RoomW (k : Nat) (A : Around) : Prop where
 dp : A.depth + 3 * k + 5 < recursionLimit
 un : A.units + 16 * k + 200 < cLine
theorem Room.w {k : Nat} {A : Around} (r : Room k A) (h : Option Value) : RoomW k (A.mark h) := ⟨r.dp, r.un⟩
theorem RoomW.deeper {k : Nat} {A : Around} (r : RoomW (k + 1) A) (env : Env) : RoomW k (A.deeper env) :=
 ⟨by have := r.dp; show A.depth + 1 + 3 * k + 5 < _; omega, by have := r.un; show A.units + 3 + 16 * k + 200 < _; omega⟩
structure FnOkW (P : Program) (w : World) (K : W.Frag) (mg : Str → Option Value) (base : Heap) (k : Nat) (f : Addr) (fd : FuncData) (ps : List Str) (sp : Sp) : Prop where
 len : ∀ vs H Q E, sp vs H Q E → vs.length = ps.length
 run : ∀ (A : Around) (outer : List Env) (s : Shared) (H : Hp) (args : Args) (us : List Value) (vs : List V) (Q : VK), RoomW k A → Env0 P w K mg base A outer s H → BindsTo s fd args (ps.zip us) → Vals vs us → sp vs H Q E0 →
  codeAny (model P w) A (.call (.ref f) args) (CR CX0 outer P w H s Q E0) s
abbrev cxOfW (P : Program) (w : World) (K : W.Frag) (mg : Str → Option Value) (base : Heap) (N : List Str) (qual : Str) (scope : Scope) (f : Addr) (cd : Value) (A : Around) (outer : List Env) (s : Shared) (H : Hp) : Cx :=
 { cxOf CX0 P w K mg base N qual scope f cd A outer s H E0 with calm := false, xe := fun _ _ => False }
theorem inv_startW {P : Program} {w : World} {K : W.Frag} {mg : Str → Option Value} {base : Heap} {N ps : List Str} {qual : Str} {scope : Scope} {f : Addr} {cd : Value} {A : Around} {outer : List Env} {s s1 : Shared} {H : Hp} {us : List Value} {vs : List V}
  (S : FnScope N ps scope) (e0 : Env0 P w K mg base A outer s H) (hl : vs.length = ps.length) (r : Vals vs us)
  (x : InCallC s s.heap.objs.size (bindL (envOfC qual scope s.heap.objs.size f cd).kindOf (ps.zip us) fun _ => none) (cellsFrom (s.heap.objs.size + 1) scope.names []) (bindC (envOfC qual scope s.heap.objs.size f cd).kindOf (ps.zip us) fun _ => none) s1) :
  Inv (cxOfW P w K mg base N qual scope f cd A outer s H) [] (start N vs) H s1 := by
 have hpl : ps.length ≤ N.length := by have := congrArg List.length S.pre; rw [List.length_take] at this; omega
 obtain ⟨h1, tk, rfl, hk⟩ := x.done
 have noA : ∀ b : Addr, b ∉ (cxOfW P w K mg base N qual scope f cd A outer s H).ex := fun b z => absurd (show b ∈ ([] : List Addr) from z) (by simp)
 refine ⟨⟨e0.mod, S.kind, rfl, rfl, Nat.le_refl _, fun y z c h1 h2 => ?_, fun y hy => ?_, fun y c _ h => ?_, (fun z => nomatch z), Around.frames_deeper e0.frames, .inr ⟨rfl, rfl⟩, fun b z => absurd z (noA b), e0.bs, e0.bsz, fun b _ _ => noA b, fun b z => absurd z (noA b), e0.funs, e0.frf⟩,
  rfl, e0.bare, Un.kept hk, ⟨_, x.toInCall.ns, fun i y v h1 h2 h3 => ?_⟩, fun y c h => ⟨_, x.cell y c h⟩, e0.hok.fresh (Nat.le_refl _), fun y c h => ?_, fun p hp => absurd (show p ∈ ([] : List (Addr × Obj)) from hp) (by simp), e0.hok.kept hk, ?_⟩
 ·exact name_of_addr x.apart (PySem.mem_of_lookup h1) (PySem.mem_of_lookup h2)
 ·have hy : scope.names.lookup y = some .cell ∨ scope.names.lookup y = some .free := hy
  rcases hy with hy | hy
  ·exact cell_has hy
  ·exact absurd rfl (S.nofree _ (PySem.mem_of_lookup hy))
 ·exact Nat.le_of_lt (x.above y c (PySem.mem_of_lookup h))
 ·have hi : i < vs.length := by
   unfold start at h2
   by_cases hi : i < vs.length
   ·exact hi
   ·rw [List.getElem?_append_right (by simpa using hi)] at h2
    rw [List.getElem?_replicate] at h2
    split at h2 <;> cases h2
  have ha : vs[i]? = some v := by
   unfold start at h2
   rw [List.getElem?_append_left (by simpa using hi), List.getElem?_map] at h2
   cases e : vs[i]? with
   | none => rw [e] at h2; cases h2
   | some a => rw [e] at h2; cases h2; rfl
  obtain ⟨u, hu, rv⟩ := r.get ha
  have hp : ps[i]? = some y := by
   rw [← S.pre, List.getElem?_take_of_lt (by omega)]; exact h1
  have ndP : ps.Nodup := by rw [← S.pre]; exact S.nd.sublist (List.take_sublist _ _)
  refine ⟨u, rv, ?_⟩
  rcases S.par y (List.mem_of_getElem? hp) with k | k
  ·exact .inl ⟨k, bindL_get ndP hp hu k⟩
  ·obtain ⟨c, e⟩ := cell_has (n := s.heap.objs.size + 1) k
   refine .inr ⟨.inl k, c, e, ?_⟩
   have q := x.cell y c e
   rw [bindC_get ndP hp hu (by show scope.names.lookup y ≠ _; rw [k]; decide)] at q
   exact q
 ·exact e0.hok.fresh (Nat.le_of_lt (x.above y c (PySem.mem_of_lookup h)))
 ·unfold start
  show _ = N.length
  rw [List.length_append, List.length_map, List.length_replicate]
  omega
section
variable {P : Program} {w : World} {K : W.Frag} {mg : Str → Option Value} {base : Heap}
theorem Fun.okW {x qual : Str} {st : Stmt} {f : Addr} {fd : FuncData} {N ps : List Str} {k : Nat} {sp : Sp} (F : Fun K x qual st f fd) (S : FnScope N ps (defScope st)) (len : ∀ vs H Q E, sp vs H Q E → vs.length = ps.length)
  (hbody : ∀ (cdv : Value) (A : Around) (outer : List Env) (s : Shared) (H : Hp) (vs : List V) (Q : VK), RoomW k (A.deeper (envOfC qual (defScope st) s.heap.objs.size f cdv)) → sp vs H Q E0 →
   ∃ t, PSs (cxOfW P w K mg base N qual (defScope st) f cdv A outer s H) (defBody st) t ∧ t { nx := fun _ H' => Q .non H', rt := Q } (start N vs) H) : FnOkW P w K mg base (k + 1) f fd ps sp := by
 obtain ⟨oc, od, kV, doc, pm, an, cdv, ct, osl, rfl, lk, hcd⟩ := F.ex
 refine ⟨len, fun A outer s H args us vs Q hr e0 hb r hsp => ?_⟩
 have hl := len _ _ _ _ hsp
 have KX : K.In s.heap := e0.mod.kin.keeps fun b o e => (e0.bs b o e).1
 have lim : s.heap.NoLimit := e0.mod.nolimit.keeps fun b o e => (e0.bs b o e).1
 have hkind : ∀ y ∈ ps.zip us, (defScope st).names.lookup y.1 = some .local ∨ ((defScope st).names.lookup y.1 = some .cell ∧ ((cellsFrom (s.heap.objs.size + 1) (defScope st).names []).lookup y.1).isSome = true) := fun ⟨n, v⟩ hy => by
  rcases S.par n (List.of_mem_zip hy).1 with q | q
  ·exact .inl q
  ·exact .inr ⟨q, W.cellsFrom_some _ _ _ (.inl q)⟩
 refine codeAny_call_function (by have := hr.dp; omega) (KX _ _ lk) rfl S.co S.gen rfl (W.codeRec_of KX hcd) (hb _ _ _ _ ?_)
 refine wpAny_newFunctionEnv_cells S.kind hkind fun env he s1 x => ?_
 subst he
 refine ⟨lim.keeps x.toInCall.keep, codeAny_func ?_⟩
 obtain ⟨t, ht, hq⟩ := hbody cdv A outer s H vs Q (hr.deeper _) hsp
 have I := inv_startW S e0 hl r x
 refine wpAny_mono (ht [] s1 (start N vs) H _ I hq) (fun fl s' hs => ?_) fun e s' hs => hs.elim
 have fin : ∀ {σ' : St} {H' : Hp} {v : V} {u : Value}, Inv (cxOfW P w K mg base N qual (defScope st) f cdv A outer s H) [] σ' H' s' → RelV v u → Q v H' → CE outer P w H s Q u s' :=
  fun {σ' H' v u} J rv q => ⟨v, H', J.os, J.bare, J.base, J.hok, rv, q⟩
 cases fl with
 | ret u =>
  obtain ⟨v, σ', H', J, rv, q⟩ := hs
  exact fin J rv q
 | next =>
  obtain ⟨σ', H', J, q⟩ := hs
  exact fin (v := V.non) (u := Value.none) J rfl q
 | brk =>
  obtain ⟨_, _, _, q⟩ := hs
  exact False.elim q
 | cont =>
  obtain ⟨_, _, _, q⟩ := hs
  exact False.elim q
end
section
variable {X : Cx} {k : Nat} {f : Addr} {fd : FuncData} {ps : List Str} {sp : Sp} {x : Str} {p pos : Pos} {e : Expr} {es : List Expr} {t : TA}
def tCallW (sp : Sp) (t : TA) : TE := fun σ H Q => t σ H fun vs H1 => sp vs H1 Q E0
theorem pe_callW (F : FnOkW X.prog X.w X.K X.mg X.base k f fd ps sp) (hr : RoomW k X.A) (hg : Gl X x) (hm : X.mg x = some (.ref f)) (hk : W.keepIn X.K (.ref f) = true) (hb : Binds X.K fd ps [])
  (ha : PA X (e :: es) t) (hdb : (x == ("__debug__" : Str)) = false := by decide) (he : starEach (e :: es) X.env = (false, eval e X.env) :: starEach es X.env := by rfl) (hp : (backTo pos (starEach es X.env)).any (·.1) = false := by rfl) :
  PE X (.Call (.Name x p) (e :: es) [] pos) (tCallW sp t) := by
 intro pins s σ H Q I hq
 refine wpAny_Call_Name_kw (ld_glob I hg hm ?_ hdb)
 refine W.callWith_K (h₀ := X.base) I.ok.mod.kin hk (thn (ha pos pins s σ H _ I hq) fun us s1 ⟨vs, H1, I1, r, q⟩ => ⟨I1.kIn, ?_⟩) he hp
 have hl : us.length = ps.length := by rw [← r.length]; exact F.len _ _ _ _ q
 have hl' : (us ++ ([] : List Value)).length = ps.length := by rw [List.append_nil]; exact hl
 refine wpAny_call (codeAny_mono (F.run X.A X.stack s1 H1 ⟨us, []⟩ us vs Q hr I1.env0 (by have := hb s1 us I1.kIn hl'; rw [List.append_nil] at this; exact this) r q) fun r s' hq => ?_)
 cases r with
 | error e => exact False.elim hq
 | ok fl =>
  cases fl with
  | ret u => exact I1.after hq
  | next => exact False.elim hq
  | brk => exact False.elim hq
  | cont => exact False.elim hq
end
def clsV : V → Option Value
 | .ty n => some (.type n)
 | .ref a => some (.ref a)
 | _ => none
theorem clsV_of {y : V} {c u : Value} (e : clsV y = some c) (r : RelV y u) : u = c := by
 cases y with
 | ty n => cases e; exact r
 | ref a => cases e; exact r
 | _ => cases e
theorem clsVs_of : ∀ {ys : List V} {cs us : List Value}, ys.mapM clsV = some cs → Vals ys us → us = cs
 | [], cs, _, e, .nil => by cases e; rfl
 | y :: ys, cs, u :: us, e, .cons r t => by
  rw [List.mapM_cons] at e
  cases h1 : clsV y with
  | none => rw [h1] at e; cases e
  | some c =>
   cases h2 : ys.mapM clsV with
   | none => rw [h1, h2] at e; cases e
   | some cr =>
    rw [h1, h2] at e
    have e' : c :: cr = cs := Option.some.inj e
    subst e'
    rw [clsV_of h1 r, clsVs_of h2 t]
inductive TyX (K : W.Frag) (H : Hp) : V → Value → Prop where
 | of {x : V} {t : Value} (h : TyOf K H x t) : TyX K H x t
 | exc {a C : Addr} {cx : Option Addr} (h : H a = some (ExcO a (.ref C) cx)) (T : W.ExcT K C) : TyX K H (.ref a) (.ref C)
section
variable {X : Cx} {pins : List (Addr × Obj)} {σ : St} {H : Hp} {s : Shared} {A : Around} {E : Value → Shared → Prop} {Q : Value → Shared → Prop}
theorem TyX.kit {x : V} {u t : Value} (I : Inv X pins σ H s) (rx : RelV x u) (ty : TyX X.K H x t) : ∃ Φ : Heap → Prop, W.KitX X.K u t Φ ∧ Φ s.heap ∧ u ≠ .builtin "__main__.__loader__#opaque" := by
 cases ty with
 | @exc a C cx h T =>
  cases (show u = Value.ref a from rx)
  obtain ⟨⟨o, vs, h1, h2, h3, _⟩, _⟩ := (show ObjOk X.prog X.w H s.heap a (ExcO a (.ref C) cx) from I.hok a _ h)
  exact ⟨_, W.kitx_exc T, ⟨o, vs, h1, h2, h3⟩, fun z => nomatch z⟩
 | of h =>
 cases h with
 | non => cases (show u = Value.none from rx); exact ⟨_, W.kitx_none, True.intro, fun z => nomatch z⟩
 | bl y => cases (show u = Value.bool y from rx); exact ⟨_, W.kitx_bool, True.intro, fun z => nomatch z⟩
 | int i => obtain ⟨t, q⟩ := (show ∃ t, u = Value.int i t from rx); cases q; exact ⟨_, W.kitx_int, True.intro, fun z => nomatch z⟩
 | str y => obtain ⟨t, q⟩ := (show ∃ t, u = Value.str y t from rx); cases q; exact ⟨_, W.kitx_str, True.intro, fun z => nomatch z⟩
 | flt y => obtain ⟨t, q⟩ := (show ∃ t, u = Value.float y t from rx); cases q; exact ⟨_, W.kitx_float, True.intro, fun z => nomatch z⟩
 | @lst a xs ea =>
  cases (show u = Value.ref a from rx)
  obtain ⟨_, _, n, _, h1⟩ := (show ObjOk X.prog X.w H s.heap a (.lst xs) from I.hok a _ ea)
  exact ⟨_, W.kitx_list, ⟨_, h1, rfl⟩, fun z => nomatch z⟩
 | @frz a ob xs ea =>
  cases (show u = Value.ref a from rx)
  obtain ⟨_, _, _, n, _, h1⟩ := (show ObjOk X.prog X.w H s.heap a (.frz ob (.lst xs)) from I.hok a _ ea)
  exact ⟨_, W.kitx_list, ⟨_, h1, rfl⟩, fun z => nomatch z⟩
 | @tup a xs ea =>
  cases (show u = Value.ref a from rx)
  obtain ⟨_, _, _, p⟩ := (show ObjOk X.prog X.w H s.heap a (.tup xs) from I.hok a _ ea)
  obtain ⟨o, h1, h2, _⟩ := p
  exact ⟨_, W.kitx_tuple, ⟨o, h1, h2⟩, fun z => nomatch z⟩
 | @dK a kvs ea =>
  cases (show u = Value.ref a from rx)
  obtain ⟨_, _, vs, _, p⟩ := (show ObjOk X.prog X.w H s.heap a (.dK kvs) from I.hok a _ ea)
  obtain ⟨o, es, ep, h1, h2, _⟩ := p
  exact ⟨_, W.kitx_dict, ⟨o, h1, h2.1⟩, fun z => nomatch z⟩
 | @dT a kvs ea =>
  cases (show u = Value.ref a from rx)
  obtain ⟨_, _, xs, _, o, es, ep, h1, h2, _⟩ := (show ObjOk X.prog X.w H s.heap a (.dT kvs) from I.hok a _ ea)
  exact ⟨_, W.kitx_dict, ⟨o, h1, h2.1⟩, fun z => nomatch z⟩
 | @ins a C dx fs ea cl ha hn htk hm =>
  cases (show u = Value.ref a from rx)
  obtain ⟨mA, O, _⟩ := ins_get I.hok ea
  obtain ⟨od, J, _⟩ := O.look
  exact ⟨_, W.kitx_own (cl.get _) cl.hd ha hn htk hm, J, fun z => nomatch z⟩
def rIsi (K : W.Frag) : List V → Hp → VK → Prop := fun xs H Q => ∃ x y t c b, xs = [x, y] ∧ clsV y = some c ∧ TyX K H x t ∧ W.kitOne K t c = some b ∧ Q (.bl b) H
theorem call_isi : CallR X (.builtin "isinstance") (rIsi X.K) := by
 intro pins s σ H xs us Q I r h
 obtain ⟨x, y, t, c, b, rfl, e1, e2, e3, q⟩ := h
 obtain ⟨u, v, rfl, r1, r2⟩ := vals2 r
 obtain rfl := clsV_of e1 r2
 obtain ⟨Φ, Z, p, n⟩ := e2.kit I r1
 exact W.kia_one Z I.kIn p e3 n fun tk => ⟨.bl b, H, I.tok _, rfl, q⟩
def rIsiT (K : W.Frag) : List V → Hp → VK → Prop := fun xs H Q => ∃ x p ys t cs b, xs = [x, .ref p] ∧ H p = some (.tup ys) ∧ ys.mapM clsV = some cs ∧ TyX K H x t ∧ W.kitAny K t cs = some b ∧ Q (.bl b) H
theorem call_isiT : CallR X (.builtin "isinstance") (rIsiT X.K) := by
 intro pins s σ H xs us Q I r h
 obtain ⟨x, p, ys, t, cs, b, rfl, e0, e1, e2, e3, q⟩ := h
 obtain ⟨u, v, rfl, r1, r2⟩ := vals2 r
 cases (show v = Value.ref p from r2)
 obtain ⟨_, its, rv, o, ho, hc, n, hd⟩ := (show ObjOk X.prog X.w H s.heap p (.tup ys) from I.hok p _ e0)
 obtain rfl := clsVs_of e1 rv
 obtain ⟨Φ, Z, pp, nn⟩ := e2.kit I r1
 obtain ⟨oc, od, oda, osl⟩ := o
 dsimp only at hc hd
 subst hc hd
 exact W.kia_tup Z I.kIn pp ho e3 nn fun tk => ⟨.bl b, H, I.tok _, rfl, q⟩
end
def eqVs : List V → List V → Bool
 | [], [] => true
 | x :: xs, y :: ys => eqV x y && eqVs xs ys
 | _, _ => false
section
variable {X : Cx} {pins : List (Addr × Obj)} {σ : St} {H : Hp} {s : Shared}
theorem op_mulB : OpR X (binaryOp .Mult) (rI IntMulOk fun i j => .int (i * j)) := opI fun _ _ _ _ _ _ _ hc q => mul_int q hc
theorem op_fdivB : OpR X (binaryOp .FloorDiv) (rI (fun _ j => 0 < j ∧ j.natAbs.log2 < 9000) fun i j => .int (i / j)) := opI fun i j _ _ _ _ _ hc q => by
 have h0 : j ≠ 0 := by have := hc.1; omega
 refine floordiv_int h0 ?_ (.inl (PyProof.noPylong_of_log2 hc.2))
 rw [Int.fdiv_eq_ediv_of_nonneg _ (Int.le_of_lt hc.1)]
 exact q
end
open PySem.W PySem.Calls
theorem script_bits {ns : List Int} (h : WData.layableAll [WData.list (ns.map WData.int)] = true) : ∀ n ∈ ns, Builtin.Int.intBits n ≤ 2 ^ 20 := fun n hn => by
 have h1 : (WData.list (ns.map WData.int)).layable = true := layableW_arg h _ (List.mem_singleton.mpr rfl)
 have h2 := layableW_item h1 (WData.int n) (List.mem_map.mpr ⟨n, hn, rfl⟩)
 have h3 := (layableW_iff.mp h2).2.2
 simpa only [WData.weight, Builtin.Int.intBits] using h3
theorem walk_ofB {l : OpenLaw} {n k : Nat} {q : Program} {loose : List Str} {XP : (Str → Option Value) → Heap → Prop} {YP : World → Heap → Prop} {d : DefRec} {K : Params → Frag} {CX : World → CXT} {sp : World → Sp} {x : Str}
  (hn : l.most = some n) (hn2 : n ≤ sizeLine) (hdf : d.params.defaults = []) (hr : Room k callerA)
  (hY : ∀ (w : World) (h : Heap), YP w h → (K w.params).In h)
  (F : ∀ (w : World) (mg : Str → Option Value) (fa : Addr) (h : Heap), (K w.params).In h → h.Ns mainGlobals mg → mg d.name = some (.ref fa) →
   ∃ fd : FuncData, (∀ (s : Shared) (u : Value), BindsTo s fd ⟨[u], []⟩ [(x, u)]) ∧
    ∀ base : Heap, (K w.params).In base → base.Ns mainGlobals mg → FnOk l.prog w (K w.params) mg base (CX w) k fa fd [x] (sp w))
  (hsp : ∀ (w : World) (H : Hp) (a : Addr) (ns : List Int), ns.length ≤ n → (∀ m ∈ ns, Builtin.Int.intBits m ≤ 2 ^ 20) → Only H → SqL (K w.params) H a (ns.map V.int) → sp w [.ref a] H (fun v _ => v = .bl true) fun _ _ _ => False)
  (hCX : ∀ (w : World) (H : Hp) (s : Shared) (e : Value) (s' : Shared), CX w [] H s (fun _ _ _ => False) e s' → False) :
  WalkO q loose XP YP l.row.toRowW d [] (fun f vs => PySem.call f vs) := by
 intro w s₀ s₁ mg mb G Y fa o pm cd doc dV kV ho hd hcd hD hmg hg args vals as hpre hlay hrd hwl hlo
 obtain rfl : dV = .none := Dflts.none hD hdf
 obtain rfl : kV = .none := Dflts.noKw hD
 obtain ⟨a, vs, ns, rfl, rfl, hobj, hints, hlen⟩ := Att.script_of hn hpre hwl
 have KX := hY w _ Y
 obtain ⟨fd, hb, hF⟩ := F w mg fa _ KX G.T.g hmg
 refine enter_call (codeAny_mono (law_call KX G.T.g G.T.b G.T.builtins G.T.nolimit hg hobj hints (Nat.le_trans hlen hn2) hr hF hb (fun H hO hS => hsp w H a ns hlen (script_bits hlay) hO hS) fun H e s' => hCX w H s₁ e s') fun r s' hq => ?_)
 obtain ⟨rfl, h2, h3, h4⟩ := hq
 exact ⟨.inl ⟨.bool true, .bool true, [], rfl, fun _ => rfl, .bool true, Att.post_true l _, fun _ => ⟨List.Pairwise.nil, fun _ hm => (nomatch hm)⟩⟩, h2, h3, h4⟩
theorem noCXe {P : Program} {w : World} {outer : List Env} (H : Hp) (s : Shared) (e : Value) (s' : Shared) (h : CXe P w outer H s (fun _ _ _ => False) e s') : False := by
 obtain ⟨_, _, _, _, _, _, _, _, _, _, _, _, _, _, _, _, hE⟩ := h
 exact hE
structure Own (P : Program) (w : World) (K : W.Frag) (mg : Str → Option Value) (base : Heap) (k : Nat) (x : Str) (ps : List Str) (sp : Sp) : Prop where
 ex : ∃ f fd, FnOk P w K mg base (CXe P w) k f fd ps sp ∧ Binds K fd ps [] ∧ W.keepIn K (.ref f) = true ∧ mg x = some (.ref f)
structure OwnW (P : Program) (w : World) (K : W.Frag) (mg : Str → Option Value) (base : Heap) (k : Nat) (x : Str) (ps : List Str) (sp : Sp) : Prop where
 ex : ∃ f fd, FnOkW P w K mg base k f fd ps sp ∧ Binds K fd ps [] ∧ W.keepIn K (.ref f) = true ∧ mg x = some (.ref f)
section
variable {X : Cx} {k k' : Nat} {ps : List Str} {sp : Sp} {x : Str} {p pos : Pos} {e : Expr} {es : List Expr} {t : TA} {E : XK} {d : V}
theorem pe_own (G : Own X.prog X.w X.K X.mg X.base k x ps sp) (hr : Room k' X.A) (hk : k ≤ k') (hx : Passes (CXe X.prog X.w) X E) (ha : PA X (e :: es) t) (hg : Gl X x := by rfl)
  (hdb : (x == ("__debug__" : Str)) = false := by decide) (he : starEach (e :: es) X.env = (false, eval e X.env) :: starEach es X.env := by rfl) (hpl : (backTo pos (starEach es X.env)).any (·.1) = false := by rfl) :
  PE X (.Call (.Name x p) (e :: es) [] pos) (tCall sp [] E t) := by
 obtain ⟨f, fd, F, b, kp, m⟩ := G.ex
 exact pe_call F (hr.mono hk) hg m kp b .nil hx ha hdb he hpl
theorem pe_ownW (G : OwnW X.prog X.w X.K X.mg X.base k x ps sp) (hr : RoomW k' X.A) (ha : PA X (e :: es) t) (hk : k ≤ k' := by decide) (hg : Gl X x := by rfl)
  (hdb : (x == ("__debug__" : Str)) = false := by decide) (he : starEach (e :: es) X.env = (false, eval e X.env) :: starEach es X.env := by rfl) (hpl : (backTo pos (starEach es X.env)).any (·.1) = false := by rfl) :
  PE X (.Call (.Name x p) (e :: es) [] pos) (tCallW sp t) := by
 obtain ⟨f, fd, F, b, kp, m⟩ := G.ex
 exact pe_callW F ⟨by have := hr.dp; omega, by have := hr.un; omega⟩ hg m kp b ha hdb he hpl
end
theorem bt_int : bootBuiltins "int" = some (.type "int") := by decide +kernel
theorem bt_bool : bootBuiltins "bool" = some (.type "bool") := by decide +kernel
theorem bt_tuple : bootBuiltins "tuple" = some (.type "tuple") := by decide +kernel
theorem bt_ValueError : bootBuiltins "ValueError" = some (.type "ValueError") := by decide +kernel
theorem bt_isinstance : bootBuiltins "isinstance" = some (.builtin "isinstance") := by decide +kernel
theorem bt_len : bootBuiltins "len" = some (.builtin "len") := by decide +kernel
theorem same_new {H : Hp} {p : Addr} (h : H p = none) (o : HO) : Same H (upd H p o) := fun b u q => by rw [upd_ne (ne_of_none q h)]; exact q
def Scr (K : W.Frag) (H : Hp) (a : Addr) (xs : List V) : Prop := (∃ o, H a = some (.frz o (.lst xs))) ∨
  ∃ (o : Obj) (its : Array Value) (n : Nat), K.lookup a = some o ∧ o.cls = .type "list" ∧ o.dict = none ∧ o.data = .seq its n ∧ its.size ≤ sizeLine ∧ Vals xs its.toList
theorem Scr.seq {K : W.Frag} {H : Hp} {a : Addr} {xs : List V} (h : Scr K H a xs) : SqL K H a xs := h.elim (fun z => .inl (.inr z)) .inr
theorem Scr.of {K : W.Frag} {H : Hp} {a : Addr} {xs : List V} (h : SqL K H a xs) (o : Only H) : Scr K H a xs := by
 rcases h with (h | h) | h
 ·rcases o a with z | ⟨o, ys, z⟩
  ·rw [h] at z; cases z
  ·rw [h] at z; cases z
 ·exact .inl h
 ·exact .inr h
theorem Scr.same {K : W.Frag} {H H' : Hp} {a : Addr} {xs : List V} (g : Same H H') (h : Scr K H a xs) : Scr K H' a xs := h.elim (fun ⟨o, z⟩ => .inl ⟨o, g _ _ z⟩) .inr
theorem Scr.upd {K : W.Frag} {H : Hp} {a l : Addr} {xs ys : List V} {o : HO} (hl : H l = some (.lst ys)) (h : Scr K H a xs) : Scr K (L2.upd H l o) a xs := h.elim (fun ⟨ob, z⟩ => .inl ⟨ob, by rw [upd_ne (ne_of z hl (by intro q; cases q))]; exact z⟩) .inr
section
variable {X : Cx} {K : W.Frag}
theorem ixK_list (hK : X.K = K := by rfl) : IxR X (rIxL K) := hK ▸ ix_list
theorem ixK_tup (hK : X.K = K := by rfl) : IxR X (rIxT K) := hK ▸ ix_tup
theorem opK_in (hK : X.K = K := by rfl) : OpR X (compareOp .In) (rIn K false) := hK ▸ op_in_seq
def rLenSeq (K : W.Frag) : List V → Hp → VK → Prop := fun xs H Q => ∃ p ys, xs = [.ref p] ∧ (SqL K H p ys ∨ SqT K H p ys) ∧ Q (.int ys.length) H
theorem callK_len_seq (hK : X.K = K := by rfl) : CallR X (.builtin "len") (rLenSeq K) := hK ▸ call_len_seq
theorem callK_isi (hK : X.K = K := by rfl) : CallR X (.builtin "isinstance") (rIsi K) := hK ▸ call_isi
theorem callK_isiT (hK : X.K = K := by rfl) : CallR X (.builtin "isinstance") (rIsiT K) := hK ▸ call_isiT
theorem pgK_tup {es : List Expr} {k : Nat} {t : TGs} {n : Nat} {pos : Pos} (hc : X.calm = true) (h : PGs X es t) (hK : X.K = K := by rfl) (hn : (assignEach es X.env).length = n := by rfl) (hst : (assignEach es X.env).findIdx? (·.1) = none := by rfl) :
  PG X (.Tuple es k pos) (gTup K n t) := hK ▸ pg_tup hc h hn hst
variable {o e : Expr} {es : List Expr} {to : TE} {t : TA} {name : Str} {apos cpos : Pos} {T id : String} {r : V → List V → Hp → VK → Prop}
end
theorem pe_gconst {X : Cx} {x : Str} {v : V} {pos : Pos} (hg : Gl X x) (hm : ∃ u, X.mg x = some u ∧ RelV v u) (hd : (x == ("__debug__" : Str)) = false := by decide) : PE X (.Name x pos) (tC v) := by
 obtain ⟨u, h1, h2⟩ := hm
 exact pe_glob hg h1 h2 hd
theorem pa_str {X : Cx} {x : Str} {j : Nat} {pos : Pos} {es : List Expr} {t : TA} (hr : PA X es t) : PA X (.Constant (.str x) j pos :: es) (tCons (tC (.str x)) t) := pa_cons pe_str hr
def Gd (n : Nat) (lt : Nat → Nat → Bool) {α : Type} : KasT α → (α → Prop) → Prop
 | .ret a, P => P a
 | .ask i j k, P => i < n ∧ j < n ∧ Gd n lt (k (lt i j)) P
theorem Gd.mono {n : Nat} {lt : Nat → Nat → Bool} {α : Type} {P P' : α → Prop} (h : ∀ a, P a → P' a) : ∀ {t : KasT α}, Gd n lt t P → Gd n lt t P'
 | .ret a, g => h a g
 | .ask i j k, g => ⟨g.1, g.2.1, Gd.mono h g.2.2⟩
theorem Gd.bind {n : Nat} {lt : Nat → Nat → Bool} {α β : Type} {P : β → Prop} {f : α → KasT β} : ∀ {t : KasT α}, Gd n lt t (fun a => Gd n lt (f a) P) → Gd n lt (t.bind f) P
 | .ret a, g => g
 | .ask i j k, g => ⟨g.1, g.2.1, Gd.bind (t := k (lt i j)) g.2.2⟩
def ga (p : Array Nat) (k : Nat) : Nat := p.getD k 0
section
variable {n : Nat} {lt : Nat → Nat → Bool}
def Pmn (n : Nat) (p : Array Nat) : Prop := p.toList.Perm (List.range n)
theorem Pmn.size {p : Array Nat} (h : Pmn n p) : p.size = n := by have := h.length_eq; simpa using this
end
section
variable {prog : Program} {w : World} {A : Around} {E : Value → Shared → Prop} {s : Shared} {b fin : Bool} {Q : Bool → Shared → Prop}
theorem katlex_ints : ∀ {vs ws : List Value} {ns ms : List Int} (i : Nat), IntsAre vs ns → IntsAre ws ms → fin = decide (ns.length < ms.length) → Q (HT.lexLt ns ms) s → KatLex prog w A true fin Q (vs.zip ws) i s
 | _, _, _, _, i, .nil, .nil, hf, h => by rw [List.zip_nil_left]; refine kat_nil ?_; rw [hf]; exact h
 | _, _, _, _, i, .nil, .cons c u t, hf, h => by
  rw [List.zip_nil_left]; refine kat_nil ?_; rw [hf, decide_eq_true (by simp)]; exact h
 | _, _, _, _, i, .cons a t r, .nil, hf, h => by
  rw [List.zip_nil_right]; refine kat_nil ?_; rw [hf, decide_eq_false (by simp)]; exact h
 | _, _, _, _, i, .cons (ns := ns) a t r, .cons (ns := ms) c u r', hf, h => by
  rw [List.zip_cons_cons]
  rw [HT.lexLt_cons] at h
  refine kat_cons (wpAny_eqBool_int (kat_go (fun e => ?_) fun e => ?_))
  ·rw [if_pos (by simpa using e)] at h
   exact kat_yes (katlex_ints (i + 1) r r' (by rw [hf]; simp) h)
  ·rw [if_neg (by simpa using e)] at h
   refine kat_no ?_
   by_cases hi : i = 0
   ·subst hi
    show wpAny _ _ (oneLt' true _ _) _ _ _
    exact oneLt_int h
   ·have e0 : (true && i == 0) = false := by simpa using hi
    rw [e0]
    exact kat_one _ _ (PyProof.Rows.lt_int h)
def TupKey (h : Heap) (v : Value) (k : List Int) : Prop := ∃ a o xs m, v = .ref a ∧ h.get? a = some o ∧ o.cls = .type "tuple" ∧ o.data = .seq xs m ∧ IntsAre xs.toList k ∧ k ≠ []
theorem TupKey.keeps {h h' : Heap} {v : Value} {k : List Int} (t : TupKey h v k) (kp : ∀ a o, h.get? a = some o → h'.get? a = some o) : TupKey h' v k := by
 obtain ⟨a, o, xs, m, e, ho, r⟩ := t
 exact ⟨a, o, xs, m, e, kp _ _ ho, r⟩
theorem TupKey.lt {v u : Value} {k l : List Int} {C : Bool → Shared → Prop} {E : Value → Shared → Prop} (t : TupKey s.heap v k) (t' : TupKey s.heap u l) (h : C (HT.lexLt k l) s) : wpAny (model prog w) A (keyLt' (tuples' true) v u) C E s := by
 obtain ⟨a, o, xs, m, rfl, ho, _, hd, hi, _⟩ := t
 obtain ⟨a', o', xs', m', rfl, ho', _, hd', hi', _⟩ := t'
 have z1 : xs.size = k.length := by rw [← hi.length]; simp
 have z2 : xs'.size = l.length := by rw [← hi'.length]; simp
 exact kat_lt ho hd ho' hd' (katlex_ints 0 hi hi' (by rw [z1, z2]) h)
def TKs (h : Heap) : List Value → List (List Int) → Prop
 | [], [] => True
 | v :: vs, k :: ks => TupKey h v k ∧ TKs h vs ks
 | _, _ => False
theorem TKs.keeps {h h' : Heap} (kp : ∀ a o, h.get? a = some o → h'.get? a = some o) : ∀ {vs : List Value} {ks : List (List Int)}, TKs h vs ks → TKs h' vs ks
 | [], [], _ => trivial
 | [], _ :: _, t => t.elim
 | _ :: _, [], t => t.elim
 | v :: vs, k :: ks, t => ⟨t.1.keeps kp, TKs.keeps kp t.2⟩
theorem TKs.len {h : Heap} : ∀ {vs : List Value} {ks : List (List Int)}, TKs h vs ks → vs.length = ks.length
 | [], [], _ => rfl
 | [], _ :: _, t => t.elim
 | _ :: _, [], t => t.elim
 | v :: vs, k :: ks, t => by simp [t.2.len]
theorem TKs.at {h : Heap} : ∀ {vs : List Value} {ks : List (List Int)} (i : Nat), TKs h vs ks → i < vs.length → TupKey h (vs.getD i Value.none) (ks.getD i [])
 | [], _, i, _, hi => absurd hi (Nat.not_lt_zero _)
 | _ :: _, [], _, t, _ => t.elim
 | v :: vs, k :: ks, 0, t, _ => t.1
 | v :: vs, k :: ks, i + 1, t, hi => TKs.at (vs := vs) (ks := ks) i t.2 (by simpa using hi)
end
namespace F'
end F'
open PySem PySem.Spec PyProof.Rows PySem.W
abbrev TH := Value → Option Addr → Addr → Ends → St → Hp → Prop
def PH (X : Cx) (hs : List ExceptHandler) (th : TH) : Prop :=
 ∀ (pins : List (Addr × Obj)) (s : Shared) (σ : St) (H : Hp) (a : Addr) (cls : Value) (cx : Option Addr) (B : Heap) (D : Ends), Inv X pins σ H s → XAt X pins H s a cls cx B .fly → th cls cx a D σ H → wpAny (model X.prog X.w) X.A (handleBy (.ref a) X.env hs) (SP X pins D) X.xe s
def thNil : TH := fun _ _ _ _ _ _ => False
def thC (K : W.Frag) (C : Addr) (ts : Addr → TS) (rest : TH) : TH := fun cls cx a D σ H =>
 (W.exmOne K cls (.ref C) = some true ∧ ts a D σ (upd H a (ExcO a cls cx))) ∨ (W.exmOne K cls (.ref C) = some false ∧ rest cls cx a D σ H)
def thAs (K : W.Frag) (C : Addr) (i : Nat) (ts : Addr → TS) (rest : TH) : TH := fun cls cx a D σ H =>
 (W.exmOne K cls (.ref C) = some true ∧ ts a { nx := fun σ' H2 => D.nx (σ'.set i none) H2, rt := D.rt, bk := fun σ' H2 => D.bk (σ'.set i none) H2, ct := fun σ' H2 => D.ct (σ'.set i none) H2 } (σ.set i (some (.ref a))) (upd H a (ExcO a cls cx))) ∨ (W.exmOne K cls (.ref C) = some false ∧ rest cls cx a D σ H)
section
variable {X : Cx}
theorem ph_nil : PH X [] thNil := fun _ _ _ _ _ _ _ _ _ _ _ h => h.elim
theorem ph_c {x : Str} {C : Addr} {suite : List Stmt} {b₀ : Stmt} {np hpos : Pos} {hs : List ExceptHandler} {ts : Addr → TS} {rest : TH} (hg : Gl X x) (hm : X.mg x = some (.ref C)) (hh : ∀ a, PSs (X.inExc a).nox (b₀ :: suite) (ts a)) (hr : PH X hs rest)
  (hd : (x == ("__debug__" : Str)) = false := by decide) : PH X (.ExceptHandler (some (.Name x np)) none (b₀ :: suite) hpos :: hs) (thC X.K C ts rest) := by
 intro pins s σ H a cls cx B D I x4 h
 have ok := I.ok
 refine wpAny_handleBy_cons (codeAny_handlers_test (ld_glob (I.toExc (a := a)) hg hm ?_ hd)) (by intro q; cases q)
 obtain ⟨oe, vs, e, hc, d, _⟩ := x4.tr.there
 have LT : W.Looks (model X.prog X.w) s.heap (typeOf (.ref a)) cls := hc ▸ (W.Looks.ld e).andThen .now
 rcases h with ⟨hx, hsu⟩ | ⟨hx, hn⟩
 ·refine (W.exm_one I.kIn LT hx).here ?_
  refine codeAny_handlers_suite ?_
  refine land_ok I x4 (fun z => nomatch z) fun h5 I5 x5 => ?_
  refine wpAny_mono (hh a pins _ _ _ D ((I5.track x5).toExc.wish _) hsu) (fun f s6 q => q.unwish.ofExc ok) fun _ _ z => z.elim
 ·refine (W.exm_one I.kIn LT hx).here ?_
  exact hr pins s σ H a cls cx B D I x4 hn
theorem ph_as {x n : Str} {i : Nat} {C : Addr} {suite : List Stmt} {b₀ : Stmt} {np hpos : Pos} {hs : List ExceptHandler} {ts : Addr → TS} {rest : TH} (hg : Gl X x) (hm : X.mg x = some (.ref C)) (hN : X.N.Nodup) (hi : X.N[i]? = some n) (hh : ∀ a, PSs (X.inExc a).nox (b₀ :: suite) (ts a)) (hr : PH X hs rest)
  (hl : X.env.scope.names.lookup n = some .local := by rfl) (hd : (x == ("__debug__" : Str)) = false := by decide) : PH X (.ExceptHandler (some (.Name x np)) (some n) (b₀ :: suite) hpos :: hs) (thAs X.K C i ts rest) := by
 intro pins s σ H a cls cx B D I x4 h
 have ok := I.ok
 refine wpAny_handleBy_cons (codeAny_handlers_test (ld_glob (I.toExc (a := a)) hg hm ?_ hd)) (by intro q; cases q)
 obtain ⟨oe, vs, e, hc, d, _⟩ := x4.tr.there
 have LT : W.Looks (model X.prog X.w) s.heap (typeOf (.ref a)) cls := hc ▸ (W.Looks.ld e).andThen .now
 rcases h with ⟨hx, hsu⟩ | ⟨hx, hn⟩
 ·refine (W.exm_one I.kIn LT hx).here ?_
  refine codeAny_handlers_suite_as ?_
  refine land_ok I x4 (fun z => nomatch z) fun h5 I5 x5 => ?_
  have I6 := (I5.track x5).toExc (a := a)
  refine store_ok (X := X.inExc a) (v := .ref a) I6 hN hi (.inl hl) rfl (fun s6 I7 => ?_) (.inr hl)
  refine wpAny_mono (hh a pins s6 _ _ _ (I7.wish _) hsu) (fun f s7 q => ?_) fun _ _ z => z.elim
  have q := (q.unwish).ofExc ok
  cases f with
  | next =>
   obtain ⟨σ7, H7, I8, q⟩ := q
   exact I8.nameGoes hN hi hl fun h8 I9 => ⟨_, H7, I9, q⟩
  | brk =>
   obtain ⟨σ7, H7, I8, q⟩ := q
   exact I8.nameGoes hN hi hl fun h8 I9 => ⟨_, H7, I9, q⟩
  | cont =>
   obtain ⟨σ7, H7, I8, q⟩ := q
   exact I8.nameGoes hN hi hl fun h8 I9 => ⟨_, H7, I9, q⟩
  | ret u =>
   obtain ⟨v7, σ7, H7, I8, r, q⟩ := q
   exact I8.nameGoes hN hi hl fun h8 I9 => ⟨v7, _, H7, I9, r, q⟩
 ·refine (W.exm_one I.kIn LT hx).here ?_
  exact hr pins s σ H a cls cx B D I x4 hn
def tTryH (n : Nat) (tb : XK → TS) (th : TH) : TS := fun D σ H => ∃ Eh : XK, tb Eh D σ H ∧ ∀ cls cx H', Eh cls cx H' → ∀ a, H' a = none → th cls cx a D (blank n) H'
theorem ps_tryH {body : List Stmt} {h₀ : ExceptHandler} {hs : List ExceptHandler} {pos : Pos} {tb : XK → TS} {th : TH}
  (hb : ∀ (Eh : XK) (E2 : Value → Shared → Prop) (pins : List (Addr × Obj)), XAcc (X.tryCx E2 pins) Eh → PassesOwn (model X.prog X.w) X.A X.env E2 → PSs (X.tryCx E2 pins) body (tb Eh))
  (hh : PH X (h₀ :: hs) th)
  (hst : X.stack = X.env :: X.outer := by rfl) (hf : X.env.frame = some X.env.locals := by rfl) (hex : X.ex = [] := by rfl) :
  PS X (.Try body (h₀ :: hs) [] [] pos) (tTryH X.N.length tb th) := by
 intro pins s σ H D I h
 obtain ⟨Eh, h1, h2⟩ := h
 refine wpAny_Try_except ?_
 have ok := I.ok
 have acc : XAcc (X.tryCx (fun e s₁ => wpAny (model X.prog X.w) X.A (noteFrame e X.env) (fun _ s₂ => wpAny (model X.prog X.w) X.A (setFlight e none) (fun _ s₃ =>
   wpAny (model X.prog X.w) X.A (handleBy e X.env (h₀ :: hs)) (SP X pins D) X.xe s₃) X.xe s₂) X.xe s₁) pins) Eh := by
  intro pins' σ' H' s1 a cls cx B ph I1 x1 hE
  have I2 : Inv X pins (blank X.N.length) H' s1 := (I1.ofTry ok).forget
  have x2 : XAt X pins H' s1 a cls cx B ph := ⟨x1.free, x1.stays, x1.fresh, x1.frames, fun b o e i n => x1.cov b o e (i.elim .inl fun z => .inr (z.elim .inl fun ⟨p, hp, q⟩ => .inr ⟨p, List.mem_append_left _ hp, q⟩)) n, x1.tr⟩
  refine note_ok ok.frames hst rfl hf I2 x2 fun h3 I3 x3 => ?_
  refine land_ok I3 x3 (fun z => nomatch z) fun h4 I4 x4 => ?_
  exact hh pins _ _ _ a cls cx B D I4 x4 (h2 cls cx H' hE a x4.free)
 refine wpAny_mono (hb Eh _ pins acc PassesOwn.looking [] s σ H D I.toTry h1) (fun f s1 q => ?_) fun e s1 q => q
 have q' := q.ofTry ok
 cases f with
 | next => exact wpAny_execs_nil q'
 | brk => exact q'
 | cont => exact q'
 | ret u => exact q'
def XAccAt (X : Cx) (σ : St) (E : XK) : Prop := ∀ (pins : List (Addr × Obj)) (H : Hp) (s : Shared) (a : Addr) (cls : Value) (cx : Option Addr) (B : Heap) (ph : Ph), Inv X pins σ H s → XAt X pins H s a cls cx B ph → E cls cx H → X.xe (.ref a) s
theorem XAccAt.passes {σ : St} {E : XK} (acc : XAccAt X σ E) : ∀ (pins : List (Addr × Obj)) (H : Hp) (s : Shared) (e : Value) (s' : Shared), Inv X pins σ H s → CXe X.prog X.w X.stack H s E e s' → X.xe e s' := by
 intro pins H s e s' I h
 obtain ⟨a, cls, cx, H', B, rfl, os, bare, un, hok, st, fr, ff, tr, free, cov, hE⟩ := h
 have I' : Inv X pins σ H' s' := I.call' (ch := []) os un hok bare (fun b z => absurd z (by simp))
 refine acc pins H' s' a cls cx B .fly I' ⟨free, st, fr, ff, fun b o e i n => cov b o e ?_ n, tr⟩ hE
 rcases i with i | ⟨hx, o', i⟩ | ⟨p, hp, q⟩
 ·exact .inl i
 ·exact .inr (I.base.there b o' i hx)
 ·exact .inr ⟨p.2, by rw [← q]; exact (I.pin p hp).1⟩
theorem call_at {k k' : Nat} {ps : List Str} {sp : Sp} {x : Str} {p pos : Pos} {e : Expr} {es : List Expr} {t : TA} {E : XK} {σ : St} (G : Own X.prog X.w X.K X.mg X.base k x ps sp) (hr : Room k' X.A) (hk : k ≤ k') (acc : XAccAt X σ E) (ha : PA X (e :: es) t) (hg : Gl X x)
  (hdb : (x == ("__debug__" : Str)) = false := by decide) (he : starEach (e :: es) X.env = (false, eval e X.env) :: starEach es X.env := by rfl) (hpl : (backTo pos (starEach es X.env)).any (·.1) = false := by rfl)
  {pins : List (Addr × Obj)} {s : Shared} {H : Hp} {Q : VK} (I : Inv X pins σ H s) (h : tCall sp [] E t σ H Q) : wpAny (model X.prog X.w) X.A (eval (.Call (.Name x p) (e :: es) [] pos) X.env) (EP X pins σ Q) X.xe s := by
 obtain ⟨f, fd, F, b, kp, m⟩ := G.ex
 refine wpAny_Call_Name_kw (ld_glob I hg m ?_ hdb)
 refine W.callWith_K (h₀ := X.base) I.ok.mod.kin kp (thn (ha pos pins s σ H _ I h) fun us s1 ⟨vs, H1, I1, r, q⟩ => ⟨I1.kIn, ?_⟩) he hpl
 have q : sp (vs ++ []) H1 Q E := q
 rw [List.append_nil] at q
 have hl : us.length = ps.length := by rw [← r.length]; exact F.len _ _ _ _ q
 have hb := b s1 us I1.kIn (by rw [List.append_nil]; exact hl)
 rw [List.append_nil] at hb
 refine wpAny_call (codeAny_mono (F.run X.A X.stack s1 H1 ⟨us, []⟩ us vs Q E (hr.mono hk) I1.env0 hb r q) fun r s' hq => ?_)
 cases r with
 | error e => exact acc.passes pins H1 s1 e s' I1 hq
 | ok fl =>
  cases fl with
  | ret u => exact I1.after hq
  | next => exact False.elim hq
  | brk => exact False.elim hq
  | cont => exact False.elim hq
def tTryC (sp : Sp) (t : TA) (th : TH) : TS := fun D σ H => ∃ Eh : XK, tCall sp [] Eh t σ H (fun _ H2 => D.nx σ H2) ∧ ∀ cls cx H', Eh cls cx H' → ∀ a, H' a = none → th cls cx a D σ H'
theorem ps_tryC {k k' : Nat} {ps : List Str} {sp : Sp} {x : Str} {p cpos epos : Pos} {e : Expr} {es : List Expr} {t : TA} {h₀ : ExceptHandler} {hs : List ExceptHandler} {pos : Pos} {th : TH}
  (G : Own X.prog X.w X.K X.mg X.base k x ps sp) (hr : Room k' X.A) (hk : k ≤ k') (ha : ∀ (E2 : Value → Shared → Prop) (pins : List (Addr × Obj)), PA (X.tryCx E2 pins) (e :: es) t) (hh : PH X (h₀ :: hs) th) (hg : Gl X x := by rfl)
  (hdb : (x == ("__debug__" : Str)) = false := by decide) (he : starEach (e :: es) X.env = (false, eval e X.env) :: starEach es X.env := by rfl) (hpl : (backTo cpos (starEach es X.env)).any (·.1) = false := by rfl)
  (hsw : swapsWith (.Call (.Name x p) (e :: es) [] cpos) none epos.line X.env = pure false := by rfl)
  (hst : X.stack = X.env :: X.outer := by rfl) (hf : X.env.frame = some X.env.locals := by rfl) (hex : X.ex = [] := by rfl) :
  PS X (.Try [.Expr (.Call (.Name x p) (e :: es) [] cpos) epos] (h₀ :: hs) [] [] pos) (tTryC sp t th) := by
 intro pins s σ H D I h
 obtain ⟨Eh, h1, h2⟩ := h
 refine wpAny_Try_except ?_
 have ok := I.ok
 have acc : XAccAt (X.tryCx (fun e s₁ => wpAny (model X.prog X.w) X.A (noteFrame e X.env) (fun _ s₂ => wpAny (model X.prog X.w) X.A (setFlight e none) (fun _ s₃ =>
   wpAny (model X.prog X.w) X.A (handleBy e X.env (h₀ :: hs)) (SP X pins D) X.xe s₃) X.xe s₂) X.xe s₁) pins) σ Eh := by
  intro pins' H' s1 a cls cx B ph I1 x1 hE
  have I2 : Inv X pins σ H' s1 := I1.ofTry ok
  have x2 : XAt X pins H' s1 a cls cx B ph := ⟨x1.free, x1.stays, x1.fresh, x1.frames, fun b o e i n => x1.cov b o e (i.elim .inl fun z => .inr (z.elim .inl fun ⟨p, hp, q⟩ => .inr ⟨p, List.mem_append_left _ hp, q⟩)) n, x1.tr⟩
  refine note_ok ok.frames hst rfl hf I2 x2 fun h3 I3 x3 => ?_
  refine land_ok I3 x3 (fun z => nomatch z) fun h4 I4 x4 => ?_
  exact hh pins _ _ _ a cls cx B D I4 x4 (h2 cls cx H' hE a x4.free)
 have It := I.toTry (pins := pins) (E2 := fun e s₁ => wpAny (model X.prog X.w) X.A (noteFrame e X.env) (fun _ s₂ => wpAny (model X.prog X.w) X.A (setFlight e none) (fun _ s₃ =>
   wpAny (model X.prog X.w) X.A (handleBy e X.env (h₀ :: hs)) (SP X pins D) X.xe s₃) X.xe s₂) X.xe s₁)
 refine wpAny_mono (wpAny_execs_cons (Q := fun f s1 => f = .next ∧ ∃ H', Inv X pins σ H' s1 ∧ D.nx σ H') (wpAny_Expr_any (thn (call_at (X := X.tryCx _ pins) G hr hk acc (ha _ pins) hg hdb he hpl It h1) fun v s1 ⟨x, H1, I1, r1, q1⟩ => ?_) It.quiet hsw)) (fun f s1 q => ?_) fun e s1 q => q
 ·exact wpAny_execs_nil ⟨rfl, H1, I1.ofTry ok, q1⟩
 ·obtain ⟨rfl, H', I', q⟩ := q
  exact wpAny_execs_nil ⟨σ, H', I', q⟩
end
section
variable {X : Cx} {CX : CXT} {k : Nat} {f C : Addr} {fd : FuncData} {ps : List Str} {sp : Sp} {dvs : List V} {ds : List Value} {E : XK} {x m : Str} {p pos apos : Pos} {e o : Expr} {es : List Expr} {ta : TE} {t : TA}
structure CMeth (K : W.Frag) (C : Addr) (m : Str) (f : Addr) : Prop where
 ga : W.specialIn K (.ref C) "__getattribute__" = some (some (.builtin "type.__getattribute__"))
 rd : W.readsIn K C (.type "type") = true
 fd : W.findCls K (.ref C) (.type "type") m = some (.val (.ref f))
 hh : W.handedIn (.ref f) = true
 kp : W.keepIn K (.ref f) = true
theorem Inv.tick {pins : List (Addr × Obj)} {σ : St} {H : Hp} {s : Shared} (I : Inv X pins σ H s) : Inv X pins σ H { s with toks := s.toks + 1 } := I.tok _
theorem pe_cmeth {pl : Sem Bool} (M : CMeth X.K C m f) (F : FnOk X.prog X.w X.K X.mg X.base CX k f fd ps sp) (hr : Room k X.A) (hg : Gl X x) (hm : X.mg x = some (.ref C)) (hb : Binds X.K fd ps ds) (hd : Vals dvs ds) (hx : Passes CX X E) (ha : PA X (e :: es) t)
  (hdb : (x == ("__debug__" : Str)) = false := by decide) (hst : starEach (e :: es) X.env = (false, eval e X.env) :: starEach es X.env := by rfl) (hpl : (backTo pos (starEach es X.env)).any (·.1) = false := by rfl)
  (ht : eval (.Call (.Attribute (.Name x p) m apos) (e :: es) [] pos) X.env = (do
   let ov ← eval (.Name x p) X.env
   standAt apos.atName
   let (f, first) ← holding [ov] (getMethod ov m pl)
   callWith pos f first (backTo pos (starEach (e :: es) X.env)) (backToKw pos (keywordEach [] X.env))) := by rfl) :
  PE X (.Call (.Attribute (.Name x p) m apos) (e :: es) [] pos) (tCall sp dvs E t) := by
 intro pins s σ H Q I h
 refine W.methodCall_KW (pl := pl) (ld_glob I hg hm ?_ hdb) ht
 refine W.method_cls I.kIn M.ga (W.cls_value I.kIn M.rd M.fd M.hh ?_)
 refine W.callWith_K (first := []) (h₀ := X.base) I.ok.mod.kin M.kp (thn (ha pos pins _ σ H _ I.tick h) fun us s2 ⟨vs, H2, I2, r, q2⟩ => ⟨I2.kIn, ?_⟩) hst hpl
 exact run_fn F hr hb hd hx I2 r q2
def tMethD (T : Addr → Sp → Prop) (m : Str) (E : XK) (ta : TE) (t : TA) : TE := fun σ H Q => ta σ H fun x H1 => ∃ a C dx fs sp, x = .ref a ∧ H1 a = some (.ins C dx fs) ∧ fs.lookup m = none ∧ T C sp ∧ t σ H1 fun vs H2 => sp (x :: vs) H2 Q E
def MethOk (X : Cx) (T : Addr → Sp → Prop) (m : Str) (E : XK) : Prop := ∀ C sp, T C sp → Cls X.K C ∧ ∃ (CX : CXT) (k : Nat) (f : Addr) (fd : FuncData) (ps : List Str), Meth X.K C m f ∧ FnOk X.prog X.w X.K X.mg X.base CX k f fd ps sp ∧ Room k X.A ∧ Binds X.K fd ps [] ∧ Passes CX X E
theorem pe_methD {T : Addr → Sp → Prop} {pl : Sem Bool} (he : PE X o ta) (hT : MethOk X T m E) (ha : PA X (e :: es) t)
  (hst : starEach (e :: es) X.env = (false, eval e X.env) :: starEach es X.env := by rfl) (hpl : (backTo pos (starEach es X.env)).any (·.1) = false := by rfl)
  (ht : eval (.Call (.Attribute o m apos) (e :: es) [] pos) X.env = (do
   let ov ← eval o X.env
   standAt apos.atName
   let (f, first) ← holding [ov] (getMethod ov m pl)
   callWith pos f first (backTo pos (starEach (e :: es) X.env)) (backToKw pos (keywordEach [] X.env))) := by rfl) :
  PE X (.Call (.Attribute o m apos) (e :: es) [] pos) (tMethD T m E ta t) := by
 intro pins s σ H Q I h
 refine W.methodCall_KW (pl := pl) (thn (he pins s σ H _ I h) fun u s1 ⟨x, H1, I1, rx, a, C, dx, fs, sp, ex, ea, l, hC, q⟩ => ?_) ht
 subst ex
 obtain rfl : u = Value.ref a := rx
 obtain ⟨c, CX, k, f, fd, ps, hm, F, hr, hb, hx⟩ := hT C sp hC
 refine getmeth_ok I1 ea c hm l ?_
 refine W.callWith_K (first := [.ref a]) (h₀ := X.base) I.ok.mod.kin hm.kp (thn (ha pos pins s1 σ H1 _ I1 q) fun us s2 ⟨vs, H2, I2, r, q2⟩ => ⟨I2.kIn, ?_⟩) hst hpl
 exact run_fn (us := .ref a :: us) (vs := .ref a :: vs) (dvs := []) F hr hb .nil hx I2 (.cons rfl r) (by rw [List.append_nil]; exact q2)
theorem pe_methD0 {T : Addr → Sp → Prop} {pl : Sem Bool} (he : PE X o ta) (hT : MethOk X T m E)
  (ht : eval (.Call (.Attribute o m apos) [] [] pos) X.env = (do
   let ov ← eval o X.env
   standAt apos.atName
   let (f, first) ← holding [ov] (getMethod ov m pl)
   callWith pos f first (backTo pos (starEach [] X.env)) (backToKw pos (keywordEach [] X.env))) := by rfl) :
  PE X (.Call (.Attribute o m apos) [] [] pos) (tMethD T m E ta tNil) := by
 intro pins s σ H Q I h
 refine W.methodCall_KW (pl := pl) (thn (he pins s σ H _ I h) fun u s1 ⟨x, H1, I1, rx, a, C, dx, fs, sp, ex, ea, l, hC, q⟩ => ?_) ht
 subst ex
 obtain rfl : u = Value.ref a := rx
 obtain ⟨c, CX, k, f, fd, ps, hm, F, hr, hb, hx⟩ := hT C sp hC
 refine getmeth_ok I1 ea c hm l ?_
 exact W.callWith_K0 (first := [.ref a]) I1.kIn hm.kp (run_fn (us := [.ref a]) (vs := [.ref a]) (dvs := []) F hr hb .nil hx I1 (.cons rfl .nil) q)
structure OwnC (P : Program) (w : World) (K : W.Frag) (mg : Str → Option Value) (base : Heap) (k : Nat) (x : Str) (m : Str) (ps : List Str) (sp : Sp) : Prop where
 ex : ∃ C f fd, FnOk P w K mg base (CXe P w) k f fd ps sp ∧ Binds K fd ps [] ∧ CMeth K C m f ∧ mg x = some (.ref C)
theorem pe_ownC {pl : Sem Bool} {k' : Nat} (G : OwnC X.prog X.w X.K X.mg X.base k x m ps sp) (hr : Room k' X.A) (hk : k ≤ k') (hx : Passes (CXe X.prog X.w) X E) (ha : PA X (e :: es) t) (hg : Gl X x := by rfl)
  (hdb : (x == ("__debug__" : Str)) = false := by decide) (hst : starEach (e :: es) X.env = (false, eval e X.env) :: starEach es X.env := by rfl) (hpl : (backTo pos (starEach es X.env)).any (·.1) = false := by rfl)
  (ht : eval (.Call (.Attribute (.Name x p) m apos) (e :: es) [] pos) X.env = (do
   let ov ← eval (.Name x p) X.env
   standAt apos.atName
   let (f, first) ← holding [ov] (getMethod ov m pl)
   callWith pos f first (backTo pos (starEach (e :: es) X.env)) (backToKw pos (keywordEach [] X.env))) := by rfl) :
  PE X (.Call (.Attribute (.Name x p) m apos) (e :: es) [] pos) (tCall sp [] E t) := by
 obtain ⟨C, f, fd, F, b, M, hm⟩ := G.ex
 exact pe_cmeth M F (hr.mono hk) hg hm b .nil hx ha hdb hst hpl ht
structure OwnM (P : Program) (w : World) (K : W.Frag) (mg : Str → Option Value) (base : Heap) (k : Nat) (C : Addr) (m : Str) (ps : List Str) (sp : Sp) : Prop where
 ex : ∃ f fd, FnOk P w K mg base (CXe P w) k f fd ps sp ∧ Binds K fd ps [] ∧ Meth K C m f
 cls : Cls K C
theorem methOk_of {k : Nat} {T : Addr → Sp → Prop} (hr : Room k X.A) (hx : Passes (CXe X.prog X.w) X E) (h : ∀ C sp, T C sp → ∃ k' ps, k' ≤ k ∧ OwnM X.prog X.w X.K X.mg X.base k' C m ps sp) : MethOk X T m E := fun C sp hC => by
 obtain ⟨k', ps, hk, G⟩ := h C sp hC
 obtain ⟨f, fd, F, b, M⟩ := G.ex
 exact ⟨G.cls, _, k', f, fd, ps, M, F, hr.mono hk, b, hx⟩
structure OwnN (P : Program) (w : World) (K : W.Frag) (mg : Str → Option Value) (base : Heap) (k : Nat) (x : Str) (C : Addr) (ps : List Str) (sp : Sp) : Prop where
 ex : ∃ f fd, FnOk P w K mg base (CXe P w) k f fd ps sp ∧ Binds K fd ps [] ∧ Mk K C f ∧ mg x = some (.ref C)
theorem pe_ownN {k' : Nat} (G : OwnN X.prog X.w X.K X.mg X.base k x C ps sp) (hr : Room k' X.A) (hk : k + 1 ≤ k') (hx : Passes (CXe X.prog X.w) X E) (ha : PA X (e :: es) t) (hg : Gl X x := by rfl)
  (hdb : (x == ("__debug__" : Str)) = false := by decide) (hst : starEach (e :: es) X.env = (false, eval e X.env) :: starEach es X.env := by rfl) (hpl : (backTo pos (starEach es X.env)).any (·.1) = false := by rfl) :
  PE X (.Call (.Name x p) (e :: es) [] pos) (tMake C sp [] E t) := by
 obtain ⟨f, fd, F, b, M, hm⟩ := G.ex
 exact pe_make M F (hr.mono hk) hg hm b .nil hx ha hdb hst hpl
end
section
variable {X : Cx} {C : Addr} {x : Str} {p pos : Pos}
def rDivmod : List V → Hp → VK → Prop := fun xs H Q => ∃ i j : Int, xs = [.int i, .int j] ∧ 0 < j ∧ j.natAbs.log2 < 9000 ∧ ∀ p, H p = none → Q (.ref p) (upd H p (.tup [.int (i / j), .int (i % j)]))
theorem callK_divmod : CallR X (.builtin "divmod") rDivmod := by
 intro pins s σ H xs us Q I r h
 obtain ⟨i, j, rfl, hj, hl, q⟩ := h
 obtain ⟨u, us', e1, ru, r'⟩ : ∃ u us', us = u :: us' ∧ RelV (.int i) u ∧ Vals [.int j] us' := by
  cases r with
  | cons a b => exact ⟨_, _, rfl, a, b⟩
 obtain ⟨v, e2, rv⟩ := r'.one
 subst e1 e2
 obtain ⟨t1, rfl⟩ := (show ∃ t, u = Value.int i t from ru)
 obtain ⟨t2, rfl⟩ := (show ∃ t, v = Value.int j t from rv)
 have h0 : j ≠ 0 := by omega
 refine divmod_int h0 ?_ (.inl (PyProof.noPylong_of_log2 hl))
 rw [Int.fdiv_eq_ediv_of_nonneg _ (Int.le_of_lt hj), Int.fmod_eq_emod_of_nonneg _ (Int.le_of_lt hj)]
 have hf : H s.heap.objs.size = none := I.hok.fresh (Nat.le_refl _)
 refine ⟨.ref s.heap.objs.size, upd H s.heap.objs.size (.tup [.int (i / j), .int (i % j)]), I.laid (t' := s.toks + 1 + 1) (fun b u e => Heap.get?_push_of_some _ e) (Nat.le_refl _) ?_, rfl, q _ hf⟩
 exact ⟨by show 2 ≤ 2 ^ 24; omega, [_, _], .cons ⟨_, rfl⟩ (.cons ⟨_, rfl⟩ .nil), ⟨_, Heap.get?_push_size _ rfl, rfl, _, rfl⟩⟩
end
inductive D where
 | non | bl (b : Bool) | int (i : Int) | str (x : Str) | ty (n : String) | cls (n : Str) | tup (ds : List D) | lst (ds : List D) | scr (ns : List Int) | exc (c : Str) | obj (c : Str) (ns : List Str) (ds : List D)
mutual
def Rp (K : W.Frag) (cl : Str → Addr) (F : Hp) : D → V → Prop
 | .non, v => v = .non
 | .bl b, v => v = .bl b
 | .int i, v => v = .int i
 | .str x, v => v = .str x
 | .ty n, v => v = .ty n
 | .cls n, v => v = .ref (cl n)
 | .tup ds, v => ∃ a xs, v = .ref a ∧ F a = some (.tup xs) ∧ Rps K cl F ds xs
 | .lst ds, v => ∃ a xs, v = .ref a ∧ F a = some (.lst xs) ∧ Rps K cl F ds xs
 | .scr ns, v => ∃ a, v = .ref a ∧ Scr K F a (ns.map V.int)
 | .exc c, v => ∃ a cx, v = .ref a ∧ F a = some (ExcO a (.ref (cl c)) cx)
 | .obj c ns ds, v => ∃ a dx xs, v = .ref a ∧ F a = some (.ins (cl c) dx (ns.zip xs)) ∧ ns.length = xs.length ∧ Rps K cl F ds xs
def Rps (K : W.Frag) (cl : Str → Addr) (F : Hp) : List D → List V → Prop
 | [], vs => vs = []
 | d :: ds, vs => ∃ v r, vs = v :: r ∧ Rp K cl F d v ∧ Rps K cl F ds r
end
section
variable {K : W.Frag} {cl : Str → Addr} {F F' H H' : Hp}
mutual
theorem Rp.mono (g : Same F F') : ∀ (d : D) (v : V), Rp K cl F d v → Rp K cl F' d v
 | .non, _, h => by simpa only [Rp] using h
 | .bl _, _, h => by simpa only [Rp] using h
 | .int _, _, h => by simpa only [Rp] using h
 | .str _, _, h => by simpa only [Rp] using h
 | .ty _, _, h => by simpa only [Rp] using h
 | .cls _, _, h => by simpa only [Rp] using h
 | .tup ds, v, h => by
  simp only [Rp] at h ⊢
  obtain ⟨a, xs, e, h1, h2⟩ := h
  exact ⟨a, xs, e, g _ _ h1, Rps.mono g ds xs h2⟩
 | .lst ds, v, h => by
  simp only [Rp] at h ⊢
  obtain ⟨a, xs, e, h1, h2⟩ := h
  exact ⟨a, xs, e, g _ _ h1, Rps.mono g ds xs h2⟩
 | .scr ns, v, h => by
  simp only [Rp] at h ⊢
  obtain ⟨a, e, h1⟩ := h
  exact ⟨a, e, h1.same g⟩
 | .exc c, v, h => by
  simp only [Rp] at h ⊢
  obtain ⟨a, cx, e, h1⟩ := h
  exact ⟨a, cx, e, g _ _ h1⟩
 | .obj c ns ds, v, h => by
  simp only [Rp] at h ⊢
  obtain ⟨a, dx, xs, e, h1, hl, h2⟩ := h
  exact ⟨a, dx, xs, e, g _ _ h1, hl, Rps.mono g ds xs h2⟩
theorem Rps.mono (g : Same F F') : ∀ (ds : List D) (vs : List V), Rps K cl F ds vs → Rps K cl F' ds vs
 | [], _, h => by simpa only [Rps] using h
 | d :: ds, vs, h => by
  simp only [Rps] at h ⊢
  obtain ⟨v, r, e, h1, h2⟩ := h
  exact ⟨v, r, e, Rp.mono g d v h1, Rps.mono g ds r h2⟩
end
theorem Rps.nil : Rps K cl F [] [] := by simp only [Rps]
theorem Rps.cons {d : D} {v : V} {ds : List D} {vs : List V} (h : Rp K cl F d v) (t : Rps K cl F ds vs) : Rps K cl F (d :: ds) (v :: vs) := by simp only [Rps]; exact ⟨v, vs, rfl, h, t⟩
theorem Rps.inv {d : D} {ds : List D} {vs : List V} (h : Rps K cl F (d :: ds) vs) : ∃ v r, vs = v :: r ∧ Rp K cl F d v ∧ Rps K cl F ds r := by simpa only [Rps] using h
theorem Rps.inv0 {vs : List V} (h : Rps K cl F [] vs) : vs = [] := by simpa only [Rps] using h
theorem Rps.length : ∀ {ds : List D} {vs : List V}, Rps K cl F ds vs → ds.length = vs.length
 | [], vs, h => by rw [h.inv0]; rfl
 | d :: ds, vs, h => by obtain ⟨v, r, rfl, _, t⟩ := h.inv; simp [t.length]
theorem Rps.get : ∀ {ds : List D} {vs : List V} {i : Nat} {d : D}, Rps K cl F ds vs → ds[i]? = some d → ∃ v, vs[i]? = some v ∧ Rp K cl F d v
 | [], _, _, _, _, e => by simp at e
 | d :: ds, vs, 0, x, h, e => by
  obtain ⟨v, r, rfl, h1, _⟩ := h.inv
  simp at e; subst e
  exact ⟨v, rfl, h1⟩
 | d :: ds, vs, i + 1, x, h, e => by
  obtain ⟨v, r, rfl, _, t⟩ := h.inv
  obtain ⟨u, h1, h2⟩ := t.get (i := i) (d := x) (by simpa using e)
  exact ⟨u, by simpa using h1, h2⟩
theorem Rps.append : ∀ {ds es : List D} {vs us : List V}, Rps K cl F ds vs → Rps K cl F es us → Rps K cl F (ds ++ es) (vs ++ us)
 | [], _, _, _, h, t => by rw [h.inv0]; exact t
 | d :: ds, _, _, _, h, t => by obtain ⟨v, r, rfl, h1, h2⟩ := h.inv; exact .cons h1 (h2.append t)
theorem Rps.one {d : D} {v : V} (h : Rp K cl F d v) : Rps K cl F [d] [v] := .cons h .nil
theorem Rps.set {d : D} {v : V} (r : Rp K cl F d v) : ∀ {ds : List D} {vs : List V} (i : Nat), Rps K cl F ds vs → Rps K cl F (ds.set i d) (vs.set i v)
 | [], _, _, h => by rw [h.inv0]; exact .nil
 | _ :: _, _, 0, h => by obtain ⟨_, _, rfl, _, h2⟩ := h.inv; exact .cons r h2
 | _ :: _, _, i + 1, h => by obtain ⟨_, _, rfl, h1, h2⟩ := h.inv; exact .cons h1 (h2.set r i)
theorem Rps.drop : ∀ {ds : List D} {vs : List V} (n : Nat), Rps K cl F ds vs → Rps K cl F (ds.drop n) (vs.drop n)
 | _, _, 0, h => h
 | [], _, _ + 1, h => by rw [h.inv0]; exact .nil
 | _ :: _, _, n + 1, h => by obtain ⟨_, _, rfl, _, h2⟩ := h.inv; exact h2.drop n
theorem Rps.take : ∀ {ds : List D} {vs : List V} (n : Nat), Rps K cl F ds vs → Rps K cl F (ds.take n) (vs.take n)
 | _, _, 0, h => .nil
 | [], _, _ + 1, h => by rw [h.inv0]; exact .nil
 | _ :: _, _, n + 1, h => by obtain ⟨_, _, rfl, h1, h2⟩ := h.inv; exact .cons h1 (h2.take n)
theorem Rps.ints : ∀ {ns : List Int} {vs : List V}, Rps K cl F (ns.map D.int) vs → vs = ns.map V.int
 | [], _, h => h.inv0
 | n :: ns, _, h => by
  obtain ⟨v, r, rfl, h1, h2⟩ := h.inv
  rw [h2.ints]
  simp only [Rp] at h1
  rw [h1]; rfl
theorem Rps.ofInts : ∀ {ns : List Int}, Rps K cl F (ns.map D.int) (ns.map V.int)
 | [] => .nil
 | _ :: _ => .cons (by simp only [Rp]) Rps.ofInts
theorem Rps.strs : ∀ {bs : List Str} {vs : List V}, Rps K cl F (bs.map D.str) vs → vs = bs.map V.str
 | [], _, h => h.inv0
 | n :: ns, _, h => by
  obtain ⟨v, r, rfl, h1, h2⟩ := h.inv
  rw [h2.strs]
  simp only [Rp] at h1
  rw [h1]; rfl
end
inductive Sl where | no | fz (d : D) | ow (ds : List D) | hd (ds : List D)
abbrev DE := List Sl
def Mu (env : DE) (i : Nat) : Prop := ∃ ds : List D, env[i]? = some (.ow ds) ∨ env[i]? = some (.hd ds)
def Ow (σ : St) (env : DE) (a : Addr) : Prop := ∃ (i : Nat) (ds : List D), env[i]? = some (Sl.ow ds) ∧ σ[i]? = some (some (V.ref a))
structure Rel (K : W.Frag) (cl : Str → Addr) (σ : St) (H F : Hp) (env : DE) : Prop where
 sub : Same F H
 len : σ.length = env.length
 fz : ∀ (i : Nat) (d : D), env[i]? = some (.fz d) → ∃ v, σ[i]? = some (some v) ∧ Rp K cl F d v
 mu : ∀ (i : Nat) (ds : List D), (env[i]? = some (.ow ds) ∨ env[i]? = some (.hd ds)) → ∃ a xs, σ[i]? = some (some (.ref a)) ∧ H a = some (.lst xs) ∧ F a = none ∧ Rps K cl F ds xs
 inj : ∀ (i j : Nat) (a : Addr), Mu env i → Mu env j → σ[i]? = some (some (.ref a)) → σ[j]? = some (some (.ref a)) → i = j
structure Frm (σ : St) (H F : Hp) (env : DE) (σ' : St) (H' F' : Hp) (env' : DE) : Prop where
 fz : Same F F'
 hid : ∀ a o, H a = some o → F a = none → ¬ Ow σ env a → H' a = some o ∧ F' a = none ∧ ¬ Ow σ' env' a
 keep : ∀ (i : Nat) (ds : List D), env[i]? = some (.hd ds) → env'[i]? = some (.hd ds) ∧ σ'[i]? = σ[i]?
 dom : ∀ a, H' a = none → H a = none
structure Gr (H F H' F' : Hp) : Prop where
 fz : Same F F'
 sub : Same F' H'
 hid : ∀ a o, H a = some o → F a = none → H' a = some o ∧ F' a = none
section
variable {K : W.Frag} {cl : Str → Addr} {σ σ' σ'' : St} {H H' H'' F F' F'' : Hp} {env env' env'' : DE}
theorem Frm.refl : Frm σ H F env σ H F env := ⟨Same.refl _, fun _ _ h f o => ⟨h, f, o⟩, fun _ _ h => ⟨h, rfl⟩, fun _ h => h⟩
theorem Frm.trans (a : Frm σ H F env σ' H' F' env') (b : Frm σ' H' F' env' σ'' H'' F'' env'') : Frm σ H F env σ'' H'' F'' env'' :=
 ⟨a.fz.trans b.fz, fun x o h f w => by obtain ⟨h1, f1, w1⟩ := a.hid x o h f w; exact b.hid x o h1 f1 w1,
  fun i ds h => by obtain ⟨h1, e1⟩ := a.keep i ds h; obtain ⟨h2, e2⟩ := b.keep i ds h1; exact ⟨h2, e2.trans e1⟩, fun x h => a.dom x (b.dom x h)⟩
theorem Gr.dom (g : Gr H F H' F') (a : Addr) (h : H' a = none) : H a = none := by
 cases e : H a with
 | none => rfl
 | some o =>
  cases f : F a with
  | none => rw [(g.hid a o e f).1] at h; cases h
  | some u => rw [g.sub _ _ (g.fz _ _ f)] at h; cases h
theorem Rel.gr (R : Rel K cl σ H F env) (g : Gr H F H' F') : Rel K cl σ H' F' env :=
 ⟨g.sub, R.len, fun i d h => by obtain ⟨v, e, r⟩ := R.fz i d h; exact ⟨v, e, r.mono g.fz⟩,
  fun i ds h => by obtain ⟨a, xs, e, hH, hF, r⟩ := R.mu i ds h; obtain ⟨h1, f1⟩ := g.hid a _ hH hF; exact ⟨a, xs, e, h1, f1, r.mono g.fz⟩, R.inj⟩
theorem Rel.frm (R : Rel K cl σ H F env) (g : Gr H F H' F') : Frm σ H F env σ H' F' env :=
 ⟨g.fz, fun a o h f w => by obtain ⟨h1, f1⟩ := g.hid a o h f; exact ⟨h1, f1, w⟩, fun _ _ h => ⟨h, rfl⟩, g.dom⟩
theorem Gr.refl (s : Same F H) : Gr H F H F := ⟨Same.refl _, s, fun _ _ h f => ⟨h, f⟩⟩
theorem Gr.trans (a : Gr H F H' F') (b : Gr H' F' H'' F'') : Gr H F H'' F'' := ⟨a.fz.trans b.fz, b.sub, fun x o h f => by obtain ⟨h1, f1⟩ := a.hid x o h f; exact b.hid x o h1 f1⟩
theorem Gr.new {p : Addr} {o : HO} (s : Same F H) (hp : H p = none) : Gr H F (upd H p o) (upd F p o) := by
 have fp : F p = none := s.free hp
 refine ⟨same_new fp o, fun b u e => ?_, fun a u e f => ?_⟩
 ·by_cases z : b = p
  ·subst z; rw [upd_same] at e ⊢; exact e
  ·rw [upd_ne z] at e ⊢; exact s _ _ e
 ·have z : a ≠ p := fun z => by rw [z, hp] at e; cases e
  rw [upd_ne z, upd_ne z]; exact ⟨e, f⟩
theorem Rel.freeze {i : Nat} {ds : List D} (R : Rel K cl σ H F env) (h : env[i]? = some (.ow ds)) : ∃ a F', σ[i]? = some (some (.ref a)) ∧ Frm σ H F env σ H F' (env.set i (.fz (.lst ds))) ∧ Rel K cl σ H F' (env.set i (.fz (.lst ds))) ∧ Rp K cl F' (.lst ds) (.ref a) := by
 obtain ⟨a, xs, e, hH, hF, r⟩ := R.mu i ds (.inl h)
 have hi : i < env.length := (List.getElem?_eq_some_iff.mp h).1
 have sF : Same F (upd F a (.lst xs)) := same_new hF _
 have oth : ∀ j, j ≠ i → (env.set i (.fz (.lst ds)))[j]? = env[j]? := fun j hj => List.getElem?_set_ne (Ne.symm hj)
 have self : (env.set i (.fz (.lst ds)))[i]? = some (.fz (.lst ds)) := List.getElem?_set_self hi
 have mui : ∀ j, Mu (env.set i (.fz (.lst ds))) j → j ≠ i ∧ Mu env j := fun j ⟨es, q⟩ => by
  by_cases z : j = i
  ·subst z; rw [self] at q; rcases q with q | q <;> cases q
  ·rw [oth j z] at q; exact ⟨z, es, q⟩
 have rl : Rp K cl (upd F a (.lst xs)) (.lst ds) (.ref a) := by simp only [Rp]; exact ⟨a, xs, rfl, upd_same, r.mono sF⟩
 refine ⟨a, upd F a (.lst xs), e, ⟨sF, fun b o hb fb w => ?_, fun j es q => ?_, fun _ h => h⟩, ⟨fun b o q => ?_, by rw [List.length_set]; exact R.len, fun j d q => ?_, fun j es q => ?_, fun j k b hj hk e1 e2 => R.inj j k b (mui j hj).2 (mui k hk).2 e1 e2⟩, rl⟩
 ·have z : b ≠ a := fun z => w ⟨i, ds, h, by rw [z]; exact e⟩
  refine ⟨hb, by rw [upd_ne z]; exact fb, fun ⟨j, es, q, e1⟩ => ?_⟩
  by_cases y : j = i
  ·subst y; rw [self] at q; cases q
  ·rw [oth j y] at q; exact w ⟨j, es, q, e1⟩
 ·have z : j ≠ i := fun z => by subst z; rw [h] at q; cases q
  exact ⟨by rw [oth j z]; exact q, rfl⟩
 ·by_cases z : b = a
  ·subst z; rw [upd_same] at q; cases q; exact hH
  ·rw [upd_ne z] at q; exact R.sub _ _ q
 ·by_cases z : j = i
  ·subst z; rw [self] at q; cases q; exact ⟨_, e, rl⟩
  ·rw [oth j z] at q; obtain ⟨v, e1, r1⟩ := R.fz j d q; exact ⟨v, e1, r1.mono sF⟩
 ·have z : j ≠ i := (mui j ⟨es, q⟩).1
  rw [oth j z] at q
  obtain ⟨b, ys, e1, h1, f1, r1⟩ := R.mu j es q
  have nb : b ≠ a := fun y => z (R.inj j i b ⟨es, q⟩ ⟨ds, .inl h⟩ e1 (by rw [y]; exact e))
  exact ⟨b, ys, e1, h1, by rw [upd_ne nb]; exact f1, r1.mono sF⟩
theorem Rel.put {i : Nat} {d : D} {v : V} (R : Rel K cl σ H F env) (hi : i < env.length) (nh : ∀ ds, env[i]? ≠ some (.hd ds)) (r : Rp K cl F d v) : Rel K cl (σ.set i (some v)) H F (env.set i (.fz d)) := by
 refine ⟨R.sub, by rw [List.length_set, List.length_set]; exact R.len, fun j e q => ?_, fun j es q => ?_, fun j k b hj hk e1 e2 => ?_⟩
 ·by_cases z : j = i
  ·subst z
   rw [List.getElem?_set_self hi] at q; cases q
   exact ⟨v, List.getElem?_set_self (by rw [R.len]; exact hi), r⟩
  ·rw [List.getElem?_set_ne (Ne.symm z)] at q
   obtain ⟨u, e1, r1⟩ := R.fz j e q
   exact ⟨u, by rw [List.getElem?_set_ne (Ne.symm z)]; exact e1, r1⟩
 ·have z : j ≠ i := fun z => by
   subst z
   rw [List.getElem?_set_self hi] at q
   rcases q with q | q <;> cases q
  rw [List.getElem?_set_ne (Ne.symm z)] at q
  obtain ⟨a, xs, e1, h1, f1, r1⟩ := R.mu j es q
  exact ⟨a, xs, by rw [List.getElem?_set_ne (Ne.symm z)]; exact e1, h1, f1, r1⟩
 ·have nz : ∀ j, Mu (env.set i (.fz d)) j → j ≠ i ∧ Mu env j := fun j ⟨es, q⟩ => by
   by_cases z : j = i
   ·subst z
    rw [List.getElem?_set_self hi] at q
    rcases q with q | q <;> cases q
   ·rw [List.getElem?_set_ne (Ne.symm z)] at q; exact ⟨z, es, q⟩
  obtain ⟨zj, mj⟩ := nz j hj
  obtain ⟨zk, mk⟩ := nz k hk
  rw [List.getElem?_set_ne (Ne.symm zj)] at e1
  rw [List.getElem?_set_ne (Ne.symm zk)] at e2
  exact R.inj j k b mj mk e1 e2
theorem Rel.putO {i : Nat} {ds : List D} {a : Addr} {xs : List V} (R : Rel K cl σ H F env) (hi : i < env.length) (hH : H a = some (.lst xs)) (hF : F a = none) (na : ∀ j, Mu env j → σ[j]? ≠ some (some (.ref a))) (r : Rps K cl F ds xs) : Rel K cl (σ.set i (some (.ref a))) H F (env.set i (.ow ds)) := by
 have his : i < σ.length := by rw [R.len]; exact hi
 have nz : ∀ j, j ≠ i → Mu (env.set i (.ow ds)) j → Mu env j := fun j z ⟨es, q⟩ => by
  rw [List.getElem?_set_ne (Ne.symm z)] at q; exact ⟨es, q⟩
 refine ⟨R.sub, by rw [List.length_set, List.length_set]; exact R.len, fun j e q => ?_, fun j es q => ?_, fun j k b hj hk e1 e2 => ?_⟩
 ·have z : j ≠ i := fun z => by subst z; rw [List.getElem?_set_self hi] at q; cases q
  rw [List.getElem?_set_ne (Ne.symm z)] at q
  obtain ⟨u, e1, r1⟩ := R.fz j e q
  exact ⟨u, by rw [List.getElem?_set_ne (Ne.symm z)]; exact e1, r1⟩
 ·by_cases z : j = i
  ·subst z
   rw [List.getElem?_set_self hi] at q
   rcases q with q | q
   ·cases q; exact ⟨a, xs, List.getElem?_set_self his, hH, hF, r⟩
   ·cases q
  ·rw [List.getElem?_set_ne (Ne.symm z)] at q
   obtain ⟨b, ys, e1, h1, f1, r1⟩ := R.mu j es q
   exact ⟨b, ys, by rw [List.getElem?_set_ne (Ne.symm z)]; exact e1, h1, f1, r1⟩
 ·by_cases zj : j = i
  ·by_cases zk : k = i
   ·rw [zj, zk]
   ·subst zj
    rw [List.getElem?_set_self his] at e1
    rw [List.getElem?_set_ne (Ne.symm zk)] at e2
    cases e1
    exact absurd e2 (na k (nz k zk hk))
  ·rw [List.getElem?_set_ne (Ne.symm zj)] at e1
   by_cases zk : k = i
   ·subst zk
    rw [List.getElem?_set_self his] at e2
    cases e2
    exact absurd e1 (na j (nz j zj hj))
   ·rw [List.getElem?_set_ne (Ne.symm zk)] at e2
    exact R.inj j k b (nz j zj hj) (nz k zk hk) e1 e2
theorem Frm.put {i : Nat} {d : D} {x : Option V} (nh : ∀ ds, env[i]? ≠ some (.hd ds)) : Frm σ H F env (σ.set i x) H F (env.set i (.fz d)) := by
 refine ⟨Same.refl _, fun a o h f w => ⟨h, f, fun ⟨j, ds, q, e⟩ => ?_⟩, fun j ds q => ?_, fun _ h => h⟩
 ·by_cases z : j = i
  ·subst z
   have hj : j < env.length := by have := (List.getElem?_eq_some_iff.mp q).1; rwa [List.length_set] at this
   rw [List.getElem?_set_self hj] at q
   cases q
  ·rw [List.getElem?_set_ne (Ne.symm z)] at q e
   exact w ⟨j, ds, q, e⟩
 ·have z : j ≠ i := fun z => by subst z; exact nh ds q
  rw [List.getElem?_set_ne (Ne.symm z), List.getElem?_set_ne (Ne.symm z)]
  exact ⟨q, rfl⟩
theorem Frm.putO {i : Nat} {es : List D} {a : Addr} (f : Frm σ H F env σ' H' F' env') (ha : H a = none) (nh : ∀ ds, env'[i]? ≠ some (.hd ds)) : Frm σ H F env (σ'.set i (some (.ref a))) H' F' (env'.set i (.ow es)) := by
 refine ⟨f.fz, fun b o h g w => ?_, fun j ds q => ?_, f.dom⟩
 ·obtain ⟨h1, f1, w1⟩ := f.hid b o h g w
  refine ⟨h1, f1, fun ⟨j, ds, q, e⟩ => ?_⟩
  by_cases z : j = i
  ·subst z
   have hj : j < σ'.length := by have := (List.getElem?_eq_some_iff.mp e).1; rwa [List.length_set] at this
   rw [List.getElem?_set_self hj] at e
   cases e
   rw [ha] at h; cases h
  ·rw [List.getElem?_set_ne (Ne.symm z)] at q e
   exact w1 ⟨j, ds, q, e⟩
 ·obtain ⟨q1, e1⟩ := f.keep j ds q
  have z : j ≠ i := fun z => by subst z; exact nh ds q1
  rw [List.getElem?_set_ne (Ne.symm z), List.getElem?_set_ne (Ne.symm z)]
  exact ⟨q1, e1⟩
end
inductive R (α : Type) where | ok (a : α) (e : DE) | ex (c : Str)
inductive RS where | nx (e : DE) | rt (d : D) | ro (ds : List D) | rz (dss : List (List D)) | bk (e : DE) | ct (e : DE) | ex (c : Str)
def bnd {α β : Type} (x : Option (R α)) (k : α → DE → Option (R β)) : Option (R β) := match x with
 | none => none
 | some (.ok a e) => k a e
 | some (.ex c) => some (.ex c)
def sbn {α : Type} (x : Option (R α)) (k : α → DE → Option RS) : Option RS := match x with
 | none => none
 | some (.ok a e) => k a e
 | some (.ex c) => some (.ex c)
def opt {α : Type} (x : Option α) (e : DE) : Option (R α) := match x with
 | none => none
 | some a => some (.ok a e)
@[simp] theorem bnd_ok {α β : Type} (a : α) (e : DE) (k : α → DE → Option (R β)) : bnd (some (.ok a e)) k = k a e := rfl
@[simp] theorem bnd_ex {α β : Type} (c : Str) (k : α → DE → Option (R β)) : bnd (some (.ex c)) k = some (.ex c) := rfl
@[simp] theorem bnd_no {α β : Type} (k : α → DE → Option (R β)) : bnd (none : Option (R α)) k = none := rfl
@[simp] theorem sbn_ok {α : Type} (a : α) (e : DE) (k : α → DE → Option RS) : sbn (some (.ok a e)) k = k a e := rfl
@[simp] theorem sbn_ex {α : Type} (c : Str) (k : α → DE → Option RS) : sbn (some (.ex c)) k = some (.ex c) := rfl
@[simp] theorem sbn_no {α : Type} (k : α → DE → Option RS) : sbn (none : Option (R α)) k = none := rfl
@[simp] theorem opt_some {α : Type} (a : α) (e : DE) : opt (some a) e = some (.ok a e) := rfl
@[simp] theorem opt_none {α : Type} (e : DE) : opt (none : Option α) e = none := rfl
structure FX (σ : St) (H F : Hp) (env : DE) (H' F' : Hp) : Prop where
 fz : Same F F'
 sub : Same F' H'
 hid : ∀ a o, H a = some o → F a = none → ¬ Ow σ env a → H' a = some o ∧ F' a = none
 dom : ∀ a, H' a = none → H a = none
section
variable {K : W.Frag} {cl : Str → Addr} {E : XK} {σ σ' : St} {H H' H1 F F' F1 : Hp} {env env' env1 : DE} {α β γ δ : Type}
theorem Frm.fx {H2 F2 : Hp} (a : Frm σ H F env σ' H1 F1 env1) (b : FX σ' H1 F1 env1 H2 F2) : FX σ H F env H2 F2 :=
 ⟨a.fz.trans b.fz, b.sub, fun x o h f w => by obtain ⟨h1, f1, w1⟩ := a.hid x o h f w; exact b.hid x o h1 f1 w1, fun x h => a.dom x (b.dom x h)⟩
theorem Frm.toFX (a : Frm σ H F env σ' H1 F1 env1) (s : Same F1 H1) : FX σ H F env H1 F1 := ⟨a.fz, s, fun x o h f w => by obtain ⟨h1, f1, _⟩ := a.hid x o h f w; exact ⟨h1, f1⟩, a.dom⟩
abbrev Py (α β : Type) := α → St → Hp → Hp → Hp → DE → β → Prop
def PM (P : Py α β) : Prop := ∀ a σ H0 H1 H' F' e b, (∀ x : Addr, H1 x = none → H0 x = none) → P a σ H1 H' F' e b → P a σ H0 H' F' e b
def Ct (K : W.Frag) (cl : Str → Addr) (E : XK) (P : Py α β) (r : Option (R α)) (σ : St) (H F : Hp) (env : DE) (Q : β → Hp → Prop) : Prop := match r with
 | none => False
 | some (.ok a e) => ∀ b H' F', Frm σ H F env σ H' F' e → Rel K cl σ H' F' e → P a σ H H' F' e b → Q b H'
 | some (.ex c) => ∀ H' F', FX σ H F env H' F' → E (.ref (cl c)) none H'
def Rz (K : W.Frag) (cl : Str → Addr) (F' H' : Hp) (nw : Addr → Prop) (dss : List (List D)) (as : List Addr) : Prop := as.Nodup ∧ as.length = dss.length ∧ ∀ (k : Nat) (a : Addr) (ds : List D), as[k]? = some a → dss[k]? = some ds → ∃ xs, H' a = some (.lst xs) ∧ F' a = none ∧ nw a ∧ Rps K cl F' ds xs
theorem Rz.imp {nw nw' : Addr → Prop} {dss : List (List D)} {as : List Addr} (h : Rz K cl F' H' nw dss as) (i : ∀ a xs, H' a = some (.lst xs) → F' a = none → nw a → nw' a) : Rz K cl F' H' nw' dss as :=
 ⟨h.1, h.2.1, fun k a ds e1 e2 => by obtain ⟨xs, h1, h2, h3, h4⟩ := h.2.2 k a ds e1 e2; exact ⟨xs, h1, h2, i a xs h1 h2 h3, h4⟩⟩
def Cs (K : W.Frag) (cl : Str → Addr) (E : XK) (r : Option RS) (σ : St) (H F : Hp) (env : DE) (N : Ends) : Prop := match r with
 | none => False
 | some (.nx e) => ∀ σ' H' F', Frm σ H F env σ' H' F' e → Rel K cl σ' H' F' e → N.nx σ' H'
 | some (.bk e) => ∀ σ' H' F', Frm σ H F env σ' H' F' e → Rel K cl σ' H' F' e → N.bk σ' H'
 | some (.ct e) => ∀ σ' H' F', Frm σ H F env σ' H' F' e → Rel K cl σ' H' F' e → N.ct σ' H'
 | some (.rt d) => ∀ v H' F', FX σ H F env H' F' → Rp K cl F' d v → N.rt v H'
 | some (.ro ds) => ∀ a xs H' F', FX σ H F env H' F' → H' a = some (.lst xs) → F' a = none → (∀ o, H a = some o → Ow σ env a) → Rps K cl F' ds xs → N.rt (.ref a) H'
 | some (.rz dss) => ∀ p as H' F', FX σ H F env H' F' → H p = none → H' p = some (.tup (as.map V.ref)) → F' p = none → Rz K cl F' H' (fun a => ∀ o, H a = some o → Ow σ env a) dss as → N.rt (.ref p) H'
 | some (.ex c) => ∀ H' F', FX σ H F env H' F' → E (.ref (cl c)) none H'
theorem Ct.mono {P : Py α β} {r : Option (R α)} {Q Q' : β → Hp → Prop} (h : Ct K cl E P r σ H F env Q) (q : ∀ b H', Q b H' → Q' b H') : Ct K cl E P r σ H F env Q' := by
 unfold Ct at h ⊢
 split at h
 ·exact h
 ·exact fun b H' F' f R p => q _ _ (h b H' F' f R p)
 ·exact h
theorem Ct.from {P2 : Py γ δ} {r : Option (R γ)} {Q : δ → Hp → Prop} (f : Frm σ H F env σ H1 F1 env1) (pm : PM P2) (h : Ct K cl E P2 r σ H F env Q) : Ct K cl E P2 r σ H1 F1 env1 Q := by
 unfold Ct at h ⊢
 split at h
 ·exact h
 ·exact fun b H' F' f2 R2 p2 => h b H' F' (f.trans f2) R2 (pm _ _ _ _ _ _ _ _ f.dom p2)
 ·exact fun H' F' x => h H' F' (f.fx x)
theorem Ct.bnd {P1 : Py α β} {P2 : Py γ δ} {r : Option (R α)} {k : α → DE → Option (R γ)} {Q : δ → Hp → Prop} (h : Ct K cl E P2 (bnd r k) σ H F env Q) (pm : PM P2) :
  Ct K cl E P1 r σ H F env fun b H1 => ∃ F1 env1 a, Same F F1 ∧ Rel K cl σ H1 F1 env1 ∧ P1 a σ H H1 F1 env1 b ∧ Ct K cl E P2 (k a env1) σ H1 F1 env1 Q := by
 unfold Ct
 rcases r with _ | ⟨a, e⟩ | c
 ·exact h
 ·intro b H1 F1 f R p
  refine ⟨F1, e, a, f.fz, R, p, ?_⟩
  have h : Ct K cl E P2 (k a e) σ H F env Q := h
  exact Ct.from f pm h
 ·exact h
theorem Cs.from {r : Option RS} {N : Ends} (f : Frm σ H F env σ' H1 F1 env1) (h : Cs K cl E r σ H F env N) : Cs K cl E r σ' H1 F1 env1 N := by
 unfold Cs at h ⊢
 split at h
 ·exact h
 ·exact fun σ' H' F' f2 R2 => h σ' H' F' (f.trans f2) R2
 ·exact fun σ' H' F' f2 R2 => h σ' H' F' (f.trans f2) R2
 ·exact fun σ' H' F' f2 R2 => h σ' H' F' (f.trans f2) R2
 ·exact fun v H' F' x p => h v H' F' (f.fx x) p
 ·refine fun a xs H' F' x ha fa nw p => h a xs H' F' (f.fx x) ha fa (fun o e => ?_) p
  refine Classical.byContradiction fun w => ?_
  cases q : F a with
  | none =>
   obtain ⟨h1, f1, w1⟩ := f.hid a o e q w
   exact w1 (nw o h1)
  | some u => rw [x.fz _ _ (f.fz _ _ q)] at fa; cases fa
 ·refine fun p as H' F' x hp ht fp rz => h p as H' F' (f.fx x) (f.dom p hp) ht fp (rz.imp fun a xs ha fa nw o e => ?_)
  refine Classical.byContradiction fun w => ?_
  cases q : F a with
  | none =>
   obtain ⟨h1, f1, w1⟩ := f.hid a o e q w
   exact w1 (nw o h1)
  | some u => rw [x.fz _ _ (f.fz _ _ q)] at fa; cases fa
 ·exact fun H' F' x => h H' F' (f.fx x)
theorem Cs.bnd {P1 : Py α β} {r : Option (R α)} {k : α → DE → Option RS} {N : Ends} (h : Cs K cl E (sbn r k) σ H F env N) :
  Ct K cl E P1 r σ H F env fun b H1 => ∃ F1 env1 a, Frm σ H F env σ H1 F1 env1 ∧ Rel K cl σ H1 F1 env1 ∧ P1 a σ H H1 F1 env1 b ∧ Cs K cl E (k a env1) σ H F env N := by
 unfold Ct
 rcases r with _ | ⟨a, e⟩ | c
 ·exact h
 ·intro b H1 F1 f R p
  exact ⟨F1, e, a, f, R, p, h⟩
 ·exact h
end
def PZ (K : W.Frag) (cl : Str → Addr) : Py D V := fun d _ _ _ F' _ v => Rp K cl F' d v
def PAs (K : W.Frag) (cl : Str → Addr) : Py (List D) (List V) := fun ds _ _ _ F' _ vs => Rps K cl F' ds vs
def PB : Py Bool Bool := fun b _ _ _ _ _ c => c = b
def PN (K : W.Frag) (cl : Str → Addr) : Py (List D) V := fun ds σ H H' F' e v => ∃ a xs, v = .ref a ∧ H a = none ∧ H' a = some (.lst xs) ∧ F' a = none ∧ (∀ j, Mu e j → σ[j]? ≠ some (some (.ref a))) ∧ Rps K cl F' ds xs
theorem pm_Z {K cl} : PM (PZ K cl) := fun _ _ _ _ _ _ _ _ _ h => h
theorem pm_A {K cl} : PM (PAs K cl) := fun _ _ _ _ _ _ _ _ _ h => h
theorem pm_B : PM PB := fun _ _ _ _ _ _ _ _ _ h => h
theorem pm_N {K cl} : PM (PN K cl) := fun _ _ _ _ _ _ _ _ g ⟨a, xs, e, h, r⟩ => ⟨a, xs, e, g a h, r⟩
abbrev ZF := DE → Option (R D)
abbrev NF := DE → Option (R (List D))
abbrev AF := DE → Option (R (List D))
abbrev BF := DE → Option (R Bool)
abbrev SF := DE → Option RS
section
variable (K : W.Frag) (cl : Str → Addr) (E : XK)
def RfZ (t : TE) (f : ZF) : Prop := ∀ σ H Q env F, Rel K cl σ H F env → Ct K cl E (PZ K cl) (f env) σ H F env Q → t σ H Q
def RfN (t : TE) (f : NF) : Prop := ∀ σ H Q env F, Rel K cl σ H F env → Ct K cl E (PN K cl) (f env) σ H F env Q → t σ H Q
def RfA (t : TA) (f : AF) : Prop := ∀ σ H Q env F, Rel K cl σ H F env → Ct K cl E (PAs K cl) (f env) σ H F env Q → t σ H Q
def RfB (t : TT) (f : BF) : Prop := ∀ σ H Q env F, Rel K cl σ H F env → Ct K cl E PB (f env) σ H F env Q → t σ H Q
def RfS (t : TS) (f : SF) : Prop := ∀ (N : Ends) σ H env F, Rel K cl σ H F env → Cs K cl E (f env) σ H F env N → t N σ H
end
def eC (d : D) : ZF := fun e => some (.ok d e)
def eV (i : Nat) : ZF := fun e => match e[i]? with
 | some (.fz d) => some (.ok d e)
 | some (.ow ds) => some (.ok (.lst ds) (e.set i (.fz (.lst ds))))
 | _ => none
def look (e : DE) (i : Nat) : Option D := match e[i]? with
 | some (.fz d) => some d
 | some (.ow ds) => some (.lst ds)
 | some (.hd ds) => some (.lst ds)
 | _ => none
def Rb (K : W.Frag) (cl : Str → Addr) (F H : Hp) (d : D) (v : V) : Prop := Rp K cl F d v ∨ ∃ a xs ds, v = .ref a ∧ d = .lst ds ∧ H a = some (.lst xs) ∧ Rps K cl F ds xs
section
variable {K : W.Frag} {cl : Str → Addr} {E : XK} {σ : St} {H F : Hp} {env : DE}
theorem Rel.look {i : Nat} {d : D} (R : Rel K cl σ H F env) (h : look env i = some d) : ∃ v, σ[i]? = some (some v) ∧ Rb K cl F H d v := by
 unfold L2.look at h
 split at h
 ·rename_i q; cases h; obtain ⟨v, e, r⟩ := R.fz i d q; exact ⟨v, e, .inl r⟩
 ·rename_i ds q; cases h; obtain ⟨a, xs, e, hH, _, r⟩ := R.mu i ds (.inl q); exact ⟨_, e, .inr ⟨a, xs, ds, rfl, rfl, hH, r⟩⟩
 ·rename_i ds q; cases h; obtain ⟨a, xs, e, hH, _, r⟩ := R.mu i ds (.inr q); exact ⟨_, e, .inr ⟨a, xs, ds, rfl, rfl, hH, r⟩⟩
 ·cases h
theorem rf_c {v : V} {d : D} (h : ∀ F, Rp K cl F d v := by intro F; simp only [Rp]) : RfZ K cl E (tC v) (eC d) := fun σ H Q env F R h' => h' v H F Frm.refl R (h F)
theorem rf_v {i : Nat} : RfZ K cl E (tVar i) (eV i) := by
 intro σ H Q env F R h
 unfold eV at h
 split at h
 ·rename_i d q
  obtain ⟨v, e, r⟩ := R.fz i d q
  exact ⟨v, e, h v H F Frm.refl R r⟩
 ·rename_i ds q
  obtain ⟨a, F', e, fr, R', r⟩ := R.freeze q
  exact ⟨_, e, h _ H F' fr R' r⟩
 ·exact h.elim
end
def OpOk (K : W.Frag) (cl : Str → Addr) (r : R2) (g : D → D → Option D) : Prop := ∀ x y d e z H F Q, Same F H → Rb K cl F H d x → Rb K cl F H e y → g d e = some z → (∀ v H' F', Gr H F H' F' → Rp K cl F' z v → Q v H') → r x y H Q
def eB (g : D → D → Option D) (f k : ZF) : ZF := fun e => bnd (f e) fun d e1 => bnd (k e1) fun d' e2 => opt (g d d') e2
def eBV (g : D → D → Option D) (i : Nat) (k : ZF) : ZF := fun e => match look e i with
 | none => none
 | some _ => bnd (k e) fun d' e2 => match look e2 i with
  | some d => opt (g d d') e2
  | none => none
section
variable {K : W.Frag} {cl : Str → Addr} {E : XK} {r : R2} {g : D → D → Option D} {ta tb : TE} {f k : ZF} {i j : Nat}
theorem OpOk.fin {σ : St} {H F : Hp} {env : DE} {x y : V} {d e : D} {Q : VK} (ok : OpOk K cl r g) (R : Rel K cl σ H F env) (hx : Rb K cl F H d x) (hy : Rb K cl F H e y) (h : Ct K cl E (PZ K cl) (opt (g d e) env) σ H F env Q) : r x y H Q := by
 cases hz : g d e with
 | none => rw [hz] at h; exact h.elim
 | some z =>
  rw [hz] at h
  exact ok x y d e z H F Q R.sub hx hy hz fun v H' F' gr p => h v H' F' (R.frm gr) (R.gr gr) p
theorem rf_op (ok : OpOk K cl r g) (ha : RfZ K cl E ta f) (hb : RfZ K cl E tb k) : RfZ K cl E (tOp r ta tb) (eB g f k) := by
 intro σ H Q env F R h
 refine ha σ H _ env F R ((Ct.bnd h pm_Z).mono fun x H1 ⟨F1, e1, d, s1, R1, p1, h1⟩ => ?_)
 refine hb σ H1 _ e1 F1 R1 ((Ct.bnd h1 pm_Z).mono fun y H2 ⟨F2, e2, e, s2, R2, p2, h2⟩ => ?_)
 exact ok.fin R2 (.inl (Rp.mono s2 _ _ p1)) (.inl p2) h2
theorem rf_opV (ok : OpOk K cl r g) (hb : RfZ K cl E tb k) : RfZ K cl E (tOp r (tVar i) tb) (eBV g i k) := by
 intro σ H Q env F R h
 unfold eBV at h
 cases q : look env i with
 | none => rw [q] at h; exact h.elim
 | some d0 =>
  rw [q] at h
  obtain ⟨x, e0, _⟩ := R.look q
  refine ⟨x, e0, hb σ H _ env F R ((Ct.bnd h pm_Z).mono fun y H2 ⟨F2, e2, e, s2, R2, p2, h2⟩ => ?_)⟩
  cases q2 : look e2 i with
  | none => rw [q2] at h2; exact h2.elim
  | some d =>
   rw [q2] at h2
   obtain ⟨x', e', rb⟩ := R2.look q2
   rw [e0] at e'; cases e'
   exact ok.fin R2 rb (.inl p2) h2
end
section
variable {K : W.Frag} {cl : Str → Addr} {E : XK}
theorem Rb.int {F H : Hp} {i : Int} {v : V} (h : Rb K cl F H (.int i) v) : v = .int i := by
 rcases h with h | ⟨_, _, _, _, z, _⟩
 ·simpa only [Rp] using h
 ·cases z
theorem Rb.bl {F H : Hp} {i : Bool} {v : V} (h : Rb K cl F H (.bl i) v) : v = .bl i := by
 rcases h with h | ⟨_, _, _, _, z, _⟩
 ·simpa only [Rp] using h
 ·cases z
theorem Rb.str {F H : Hp} {i : Str} {v : V} (h : Rb K cl F H (.str i) v) : v = .str i := by
 rcases h with h | ⟨_, _, _, _, z, _⟩
 ·simpa only [Rp] using h
 ·cases z
theorem Rb.non {F H : Hp} {v : V} (h : Rb K cl F H .non v) : v = .non := by
 rcases h with h | ⟨_, _, _, _, z, _⟩
 ·simpa only [Rp] using h
 ·cases z
theorem Rb.lst {F H : Hp} {ds : List D} {v : V} (s : Same F H) (h : Rb K cl F H (.lst ds) v) : ∃ a xs, v = .ref a ∧ H a = some (.lst xs) ∧ Rps K cl F ds xs := by
 rcases h with h | ⟨a, xs, ds', e, z, h, r⟩
 ·simp only [Rp] at h
  obtain ⟨a, xs, e, h, r⟩ := h
  exact ⟨a, xs, e, s _ _ h, r⟩
 ·cases z; exact ⟨a, xs, e, h, r⟩
theorem Rb.tup {F H : Hp} {ds : List D} {v : V} (s : Same F H) (h : Rb K cl F H (.tup ds) v) : ∃ a xs, v = .ref a ∧ H a = some (.tup xs) ∧ Rps K cl F ds xs := by
 rcases h with h | ⟨_, _, _, _, z, _⟩
 ·simp only [Rp] at h
  obtain ⟨a, xs, e, h, r⟩ := h
  exact ⟨a, xs, e, s _ _ h, r⟩
 ·cases z
theorem Rb.scr {F H : Hp} {ns : List Int} {v : V} (s : Same F H) (h : Rb K cl F H (.scr ns) v) : ∃ a, v = .ref a ∧ Scr K H a (ns.map V.int) := by
 rcases h with h | ⟨_, _, _, _, z, _⟩
 ·simp only [Rp] at h
  obtain ⟨a, e, h⟩ := h
  exact ⟨a, e, h.same s⟩
 ·cases z
def gI (C : Int → Int → Prop) [∀ i j, Decidable (C i j)] (g : Int → Int → D) : D → D → Option D
 | .int i, .int j => if C i j then some (g i j) else none
 | _, _ => none
def gI0 (g : Int → Int → D) : D → D → Option D
 | .int i, .int j => some (g i j)
 | _, _ => none
theorem ok_I {C : Int → Int → Prop} [∀ i j, Decidable (C i j)] {g : Int → Int → V} {g' : Int → Int → D} (hg : ∀ F i j, Rp K cl F (g' i j) (g i j)) : OpOk K cl (rI C g) (gI C g') := by
 intro x y d e z H F Q s hx hy h q
 unfold gI at h
 split at h
 ·rename_i i j
  split at h
  ·rename_i c; cases h
   exact ⟨i, j, hx.int, hy.int, c, q _ H F (.refl s) (hg F i j)⟩
  ·cases h
 ·cases h
theorem ok_I0 {g : Int → Int → V} {g' : Int → Int → D} (hg : ∀ F i j, Rp K cl F (g' i j) (g i j)) : OpOk K cl (rI0 g) (gI0 g') := by
 intro x y d e z H F Q s hx hy h q
 unfold gI0 at h
 split at h
 ·rename_i i j
  cases h
  exact ⟨i, j, hx.int, hy.int, q _ H F (.refl s) (hg F i j)⟩
 ·cases h
end
section
variable {K : W.Frag} {cl : Str → Addr} {E : XK} {σ : St} {H F : Hp} {env : DE}
theorem Rel.newN {p : Addr} {o : HO} (R : Rel K cl σ H F env) (hp : H p = none) : Rel K cl σ (upd H p o) F env ∧ Frm σ H F env σ (upd H p o) F env := by
 have fp : F p = none := R.sub.free hp
 have ne : ∀ a u, H a = some u → a ≠ p := fun a u h z => by rw [z, hp] at h; cases h
 refine ⟨⟨R.sub.trans (same_new hp _), R.len, R.fz, fun i ds h => ?_, R.inj⟩, ⟨Same.refl _, fun a u h f w => ?_, fun _ _ h => ⟨h, rfl⟩, fun a h => ?_⟩⟩
 ·obtain ⟨a, xs, e, hH, hF, r⟩ := R.mu i ds h
  exact ⟨a, xs, e, by rw [upd_ne (ne _ _ hH)]; exact hH, hF, r⟩
 ·exact ⟨by rw [upd_ne (ne _ _ h)]; exact h, f, w⟩
 ·by_cases z : a = p
  ·rw [z]; exact hp
  ·rw [upd_ne z] at h; exact h
theorem Ct.newN {p : Addr} {xs : List V} {ds : List D} {Q : VK} (R : Rel K cl σ H F env) (hp : H p = none) (r : Rps K cl F ds xs) (h : Ct K cl E (PN K cl) (some (.ok ds env)) σ H F env Q) : Q (.ref p) (upd H p (.lst xs)) := by
 obtain ⟨R', f⟩ := R.newN (o := .lst xs) hp
 refine h _ _ F f R' ⟨p, xs, rfl, hp, upd_same, R.sub.free hp, fun j mj e => ?_, r⟩
 obtain ⟨ds', q⟩ := mj
 obtain ⟨a, ys, e1, hH, _⟩ := R.mu j ds' q
 rw [e] at e1; cases e1
 rw [hp] at hH; cases hH
def zN (f : NF) : ZF := fun e => bnd (f e) fun ds e1 => some (.ok (.lst ds) e1)
theorem rf_zN {t : TE} {f : NF} (h : RfN K cl E t f) : RfZ K cl E t (zN f) := by
 intro σ H Q env F R q
 refine h σ H Q env F R ?_
 unfold zN at q
 rcases hf : f env with _ | ⟨ds, e1⟩ | c
 ·rw [hf] at q; exact q
 ·rw [hf] at q
  rintro b H' F' fr R' ⟨a, xs, rfl, hn, hH, hF, nm, r⟩
  have sF : Same F' (upd F' a (.lst xs)) := same_new hF _
  refine q _ H' (upd F' a (.lst xs)) ⟨fr.fz.trans sF, fun b o hb fb w => ?_, fr.keep, fr.dom⟩ ⟨fun b o z => ?_, R'.len, fun i d z => ?_, fun i es z => ?_, R'.inj⟩ (by show Rp K cl _ (.lst ds) _; simp only [Rp]; exact ⟨a, xs, rfl, upd_same, r.mono sF⟩)
  ·obtain ⟨h1, f1, w1⟩ := fr.hid b o hb fb w
   have nb : b ≠ a := fun z => by rw [z, hn] at hb; cases hb
   exact ⟨h1, by rw [upd_ne nb]; exact f1, w1⟩
  ·by_cases y : b = a
   ·subst y; rw [upd_same] at z; cases z; exact hH
   ·rw [upd_ne y] at z; exact R'.sub _ _ z
  ·obtain ⟨v, e, r1⟩ := R'.fz i d z
   exact ⟨v, e, r1.mono sF⟩
  ·obtain ⟨b, ys, e, h1, f1, r1⟩ := R'.mu i es z
   have nb : b ≠ a := fun y => nm i ⟨es, z⟩ (by rw [e, y])
   exact ⟨b, ys, e, h1, by rw [upd_ne nb]; exact f1, r1.mono sF⟩
 ·rw [hf] at q; exact q
def aN : AF := fun e => some (.ok [] e)
def aC (f : ZF) (k : AF) : AF := fun e => bnd (f e) fun d e1 => bnd (k e1) fun ds e2 => some (.ok (d :: ds) e2)
theorem rf_aN : RfA K cl E tNil aN := fun σ H Q env F R h => h [] H F Frm.refl R .nil
theorem rf_aC {te : TE} {ta : TA} {f : ZF} {k : AF} (hf : RfZ K cl E te f) (hk : RfA K cl E ta k) : RfA K cl E (tCons te ta) (aC f k) := by
 intro σ H Q env F R h
 refine hf σ H _ env F R ((Ct.bnd h pm_A).mono fun x H1 ⟨F1, e1, d, s1, R1, p1, h1⟩ => ?_)
 refine hk σ H1 _ e1 F1 R1 ((Ct.bnd h1 pm_A).mono fun xs H2 ⟨F2, e2, ds, s2, R2, p2, h2⟩ => ?_)
 exact h2 (x :: xs) H2 F2 Frm.refl R2 (.cons (Rp.mono s2 _ _ p1) p2)
def eT (f : AF) : ZF := fun e => bnd (f e) fun ds e1 => if ds.length ≤ sizeLine then some (.ok (.tup ds) e1) else none
def eL (f : AF) : NF := fun e => bnd (f e) fun ds e1 => if ds.length ≤ sizeLine then some (.ok ds e1) else none
theorem rf_T {ta : TA} {f : AF} (hf : RfA K cl E ta f) : RfZ K cl E (tTup ta) (eT f) := by
 intro σ H Q env F R h
 refine hf σ H _ env F R ((Ct.bnd h pm_Z).mono fun xs H1 ⟨F1, e1, ds, s1, R1, p1, h1⟩ => ?_)
 have hl : ds.length = xs.length := Rps.length p1
 split at h1
 ·rename_i z
  refine ⟨by rw [← hl]; exact z, fun p hp => ?_⟩
  have g : Gr H1 F1 (upd H1 p (.tup xs)) (upd F1 p (.tup xs)) := .new R1.sub hp
  exact h1 _ _ _ (R1.frm g) (R1.gr g) (by show Rp K cl _ (.tup ds) _; simp only [Rp]; exact ⟨p, xs, rfl, upd_same, Rps.mono g.fz _ _ p1⟩)
 ·exact h1.elim
theorem rf_L {ta : TA} {f : AF} (hf : RfA K cl E ta f) : RfN K cl E (tLst ta) (eL f) := by
 intro σ H Q env F R h
 refine hf σ H _ env F R ((Ct.bnd h pm_N).mono fun xs H1 ⟨F1, e1, ds, s1, R1, p1, h1⟩ => ?_)
 have hl : ds.length = xs.length := Rps.length p1
 split at h1
 ·rename_i z
  exact ⟨by rw [← hl]; exact z, fun p hp => Ct.newN R1 hp p1 h1⟩
 ·exact h1.elim
def bZ (f : ZF) : BF := fun e => bnd (f e) fun d e1 => match d with
 | .bl b => some (.ok b e1)
 | _ => none
theorem rf_bZ {t : TE} {f : ZF} (hf : RfZ K cl E t f) : RfB K cl E (tB t) (bZ f) := by
 intro σ H Q env F R h
 refine hf σ H _ env F R ((Ct.bnd h pm_B).mono fun x H1 ⟨F1, e1, d, s1, R1, p1, h1⟩ => ?_)
 split at h1
 ·rename_i b
  have : x = .bl b := by have := (show Rp K cl F1 (.bl b) x from p1); simpa only [Rp] using this
  exact ⟨b, this, h1 b H1 F1 Frm.refl R1 rfl⟩
 ·exact h1.elim
theorem rf_bT {t : TE} {f : ZF} (hf : RfZ K cl E t f) : RfB K cl E (tTest t) (bZ f) := rf_bZ hf
def bNot (f : BF) : BF := fun e => bnd (f e) fun b e1 => some (.ok (!b) e1)
def bAnd (f k : BF) : BF := fun e => bnd (f e) fun b e1 => if b = true then k e1 else some (.ok false e1)
def bOr (f k : BF) : BF := fun e => bnd (f e) fun b e1 => if b = true then some (.ok true e1) else k e1
theorem rf_bNot {t : TT} {f : BF} (hf : RfB K cl E t f) : RfB K cl E (tNot t) (bNot f) := by
 intro σ H Q env F R h
 refine hf σ H _ env F R ((Ct.bnd h pm_B).mono fun x H1 ⟨F1, e1, d, s1, R1, p1, h1⟩ => ?_)
 cases (show x = d from p1)
 exact h1 _ H1 F1 Frm.refl R1 rfl
theorem rf_bAnd {t u : TT} {f k : BF} (hf : RfB K cl E t f) (hk : RfB K cl E u k) : RfB K cl E (tAnd t u) (bAnd f k) := by
 intro σ H Q env F R h
 refine hf σ H _ env F R ((Ct.bnd h pm_B).mono fun x H1 ⟨F1, e1, d, s1, R1, p1, h1⟩ => ?_)
 cases (show x = d from p1)
 by_cases z : x = true
 ·rw [if_pos z] at h1 ⊢; exact hk σ H1 Q e1 F1 R1 h1
 ·rw [if_neg z] at h1 ⊢; exact h1 _ H1 F1 Frm.refl R1 rfl
theorem rf_bOr {t u : TT} {f k : BF} (hf : RfB K cl E t f) (hk : RfB K cl E u k) : RfB K cl E (tOr t u) (bOr f k) := by
 intro σ H Q env F R h
 refine hf σ H _ env F R ((Ct.bnd h pm_B).mono fun x H1 ⟨F1, e1, d, s1, R1, p1, h1⟩ => ?_)
 cases (show x = d from p1)
 by_cases z : x = true
 ·rw [if_pos z] at h1 ⊢; exact h1 _ H1 F1 Frm.refl R1 rfl
 ·rw [if_neg z] at h1 ⊢; exact hk σ H1 Q e1 F1 R1 h1
def eNot (f : ZF) : ZF := fun e => bnd (f e) fun d e1 => match d with
 | .bl b => some (.ok (.bl (!b)) e1)
 | _ => none
def eAnd (f k : ZF) : ZF := fun e => bnd (f e) fun d e1 => match d with
 | .bl b => if b = true then k e1 else some (.ok (.bl false) e1)
 | _ => none
def eOr (f k : ZF) : ZF := fun e => bnd (f e) fun d e1 => match d with
 | .bl b => if b = true then some (.ok (.bl true) e1) else k e1
 | _ => none
def eIf (c : BF) (f k : ZF) : ZF := fun e => bnd (c e) fun b e1 => if b = true then f e1 else k e1
theorem rf_Not {t : TE} {f : ZF} (hf : RfZ K cl E t f) : RfZ K cl E (tNotV t) (eNot f) := by
 intro σ H Q env F R h
 refine hf σ H _ env F R ((Ct.bnd h pm_Z).mono fun x H1 ⟨F1, e1, d, s1, R1, p1, h1⟩ => ?_)
 split at h1
 ·rename_i b
  have : x = .bl b := by have := (show Rp K cl F1 (.bl b) x from p1); simpa only [Rp] using this
  exact ⟨b, this, h1 _ H1 F1 Frm.refl R1 (by show Rp K cl F1 (.bl _) _; simp only [Rp])⟩
 ·exact h1.elim
theorem rf_And {t u : TE} {f k : ZF} (hf : RfZ K cl E t f) (hk : RfZ K cl E u k) : RfZ K cl E (tAndV t u) (eAnd f k) := by
 intro σ H Q env F R h
 refine hf σ H _ env F R ((Ct.bnd h pm_Z).mono fun x H1 ⟨F1, e1, d, s1, R1, p1, h1⟩ => ?_)
 split at h1
 ·rename_i b
  have : x = .bl b := by have := (show Rp K cl F1 (.bl b) x from p1); simpa only [Rp] using this
  refine ⟨b, this, ?_⟩
  by_cases z : b = true
  ·rw [if_pos z] at h1 ⊢; exact hk σ H1 Q e1 F1 R1 h1
  ·rw [if_neg z] at h1 ⊢; exact h1 _ H1 F1 Frm.refl R1 (by show Rp K cl F1 (.bl _) _; simp only [Rp])
 ·exact h1.elim
theorem rf_Or {t u : TE} {f k : ZF} (hf : RfZ K cl E t f) (hk : RfZ K cl E u k) : RfZ K cl E (tOrV t u) (eOr f k) := by
 intro σ H Q env F R h
 refine hf σ H _ env F R ((Ct.bnd h pm_Z).mono fun x H1 ⟨F1, e1, d, s1, R1, p1, h1⟩ => ?_)
 split at h1
 ·rename_i b
  have : x = .bl b := by have := (show Rp K cl F1 (.bl b) x from p1); simpa only [Rp] using this
  refine ⟨b, this, ?_⟩
  by_cases z : b = true
  ·rw [if_pos z] at h1 ⊢; exact h1 _ H1 F1 Frm.refl R1 (by show Rp K cl F1 (.bl _) _; simp only [Rp])
  ·rw [if_neg z] at h1 ⊢; exact hk σ H1 Q e1 F1 R1 h1
 ·exact h1.elim
theorem rf_If {c : TT} {t u : TE} {b : BF} {f k : ZF} (hc : RfB K cl E c b) (hf : RfZ K cl E t f) (hk : RfZ K cl E u k) : RfZ K cl E (tIf c t u) (eIf b f k) := by
 intro σ H Q env F R h
 refine hc σ H _ env F R ((Ct.bnd h pm_Z).mono fun x H1 ⟨F1, e1, d, s1, R1, p1, h1⟩ => ?_)
 cases (show x = d from p1)
 by_cases z : x = true
 ·rw [if_pos z] at h1 ⊢; exact hf σ H1 Q e1 F1 R1 h1
 ·rw [if_neg z] at h1 ⊢; exact hk σ H1 Q e1 F1 R1 h1
def UnOk (K : W.Frag) (cl : Str → Addr) (r : V → Hp → VK → Prop) (g : D → Option D) : Prop := ∀ x d z H F Q, Same F H → Rb K cl F H d x → g d = some z → (∀ v H' F', Gr H F H' F' → Rp K cl F' z v → Q v H') → r x H Q
def eU (g : D → Option D) (f : ZF) : ZF := fun e => bnd (f e) fun d e1 => opt (g d) e1
theorem rf_U {r : V → Hp → VK → Prop} {g : D → Option D} {t : TE} {f : ZF} (ok : UnOk K cl r g) (hf : RfZ K cl E t f) : RfZ K cl E (tUn r t) (eU g f) := by
 intro σ H Q env F R h
 refine hf σ H _ env F R ((Ct.bnd h pm_Z).mono fun x H1 ⟨F1, e1, d, s1, R1, p1, h1⟩ => ?_)
 cases hz : g d with
 | none => rw [hz] at h1; exact h1.elim
 | some z =>
  rw [hz] at h1
  exact ok x d z H1 F1 Q R1.sub (.inl p1) hz fun v H' F' gr p => h1 v H' F' (R1.frm gr) (R1.gr gr) p
def gNeg : D → Option D
 | .int i => some (.int (-i))
 | _ => none
theorem ok_neg : UnOk K cl (rU fun i => .int (-i)) gNeg := by
 intro x d z H F Q s hx h q
 unfold gNeg at h
 split at h
 ·rename_i i; cases h
  exact ⟨i, hx.int, q _ H F (.refl s) (by simp only [Rp])⟩
 ·cases h
def CbOk (K : W.Frag) (cl : Str → Addr) (r : List V → Hp → VK → Prop) (g : List D → Option D) : Prop := ∀ xs ds z H F Q, Same F H → Rps K cl F ds xs → g ds = some z → (∀ v H' F', Gr H F H' F' → Rp K cl F' z v → Q v H') → r xs H Q
def CbOk1 (K : W.Frag) (cl : Str → Addr) (r : List V → Hp → VK → Prop) (g : D → Option D) : Prop := ∀ x d z H F Q, Same F H → Rb K cl F H d x → g d = some z → (∀ v H' F', Gr H F H' F' → Rp K cl F' z v → Q v H') → r [x] H Q
def eCB (g : List D → Option D) (f : AF) : ZF := fun e => bnd (f e) fun ds e1 => opt (g ds) e1
def eCV (g : D → Option D) (i : Nat) : ZF := fun e => match look e i with
 | some d => opt (g d) e
 | none => none
theorem rf_CB {r : List V → Hp → VK → Prop} {g : List D → Option D} {t : TA} {f : AF} (ok : CbOk K cl r g) (hf : RfA K cl E t f) : RfZ K cl E (tCB r t) (eCB g f) := by
 intro σ H Q env F R h
 refine hf σ H _ env F R ((Ct.bnd h pm_Z).mono fun x H1 ⟨F1, e1, d, s1, R1, p1, h1⟩ => ?_)
 cases hz : g d with
 | none => rw [hz] at h1; exact h1.elim
 | some z =>
  rw [hz] at h1
  exact ok x d z H1 F1 Q R1.sub p1 hz fun v H' F' gr p => h1 v H' F' (R1.frm gr) (R1.gr gr) p
theorem rf_CV {r : List V → Hp → VK → Prop} {g : D → Option D} {i : Nat} (ok : CbOk1 K cl r g) : RfZ K cl E (tCB r (tCons (tVar i) tNil)) (eCV g i) := by
 intro σ H Q env F R h
 unfold eCV at h
 cases q : look env i with
 | none => rw [q] at h; exact h.elim
 | some d =>
  rw [q] at h
  obtain ⟨x, e, rb⟩ := R.look q
  refine ⟨x, e, ?_⟩
  cases hz : g d with
  | none => simp only [hz, opt_none] at h; exact h.elim
  | some z =>
   simp only [hz, opt_some] at h
   exact ok x d z H F Q R.sub rb hz fun v H' F' gr p => h v H' F' (R.frm gr) (R.gr gr) p
end
section
variable {K : W.Frag} {cl : Str → Addr} {E : XK} {σ : St} {H F : Hp} {env : DE}
instance decMul (i j : Int) : Decidable (IntMulOk i j) := by unfold IntMulOk; infer_instance
instance decPow (i j : Int) : Decidable (CPow i j) := by unfold CPow; infer_instance
abbrev gAdd := gI0 fun i j => .int (i + j)
abbrev gSub' := gI0 fun i j => .int (i - j)
abbrev gMul := gI IntMulOk fun i j => .int (i * j)
abbrev gDiv := gI (fun _ j => 0 < j ∧ j.natAbs.log2 < 9000) fun i j => .int (i / j)
abbrev gMod := gI (fun _ j => 0 < j) fun i j => .int (i % j)
abbrev gPow := gI CPow fun i j => .int (i ^ j.toNat)
abbrev gLt := gI0 fun i j => .bl (decide (i < j))
abbrev gGt := gI0 fun i j => .bl (decide (j < i))
theorem ok_add : OpOk K cl (rI0 fun i j => .int (i + j)) gAdd := ok_I0 fun F i j => by simp only [Rp]
theorem ok_sub : OpOk K cl (rI0 fun i j => .int (i - j)) gSub' := ok_I0 fun F i j => by simp only [Rp]
theorem ok_mul : OpOk K cl (rI IntMulOk fun i j => .int (i * j)) gMul := ok_I fun F i j => by simp only [Rp]
theorem ok_div : OpOk K cl (rI (fun _ j => 0 < j ∧ j.natAbs.log2 < 9000) fun i j => .int (i / j)) gDiv := ok_I fun F i j => by simp only [Rp]
theorem ok_mod : OpOk K cl (rI (fun _ j => 0 < j) fun i j => .int (i % j)) gMod := ok_I fun F i j => by simp only [Rp]
theorem ok_pow : OpOk K cl (rI CPow fun i j => .int (i ^ j.toNat)) gPow := ok_I fun F i j => by simp only [Rp]
theorem ok_lt : OpOk K cl (rI0 fun i j => .bl (decide (i < j))) gLt := ok_I0 fun F i j => by simp only [Rp]
theorem ok_gt : OpOk K cl (rI0 fun i j => .bl (decide (j < i))) gGt := ok_I0 fun F i j => by simp only [Rp]
def toV : D → Option V
 | .non => some .non
 | .bl b => some (.bl b)
 | .int i => some (.int i)
 | .str x => some (.str x)
 | _ => none
theorem Rb.toV {d : D} {v u : V} (h : Rb K cl F H d v) (e : toV d = some u) : v = u := by
 cases d with
 | non => cases e; exact h.non
 | bl b => cases e; exact h.bl
 | int i => cases e; exact h.int
 | str x => cases e; exact h.str
 | _ => cases e
def gEq (neg : Bool) (d e : D) : Option D := match toV d, toV e with
 | some x, some y => if scal x y = true then some (.bl (if neg then !decide (x = y) else decide (x = y))) else none
 | _, _ => none
theorem ok_eq : OpOk K cl rEq (gEq false) := by
 intro x y d e z H F Q s hx hy h q
 unfold gEq at h
 split at h
 ·rename_i u w hu hw
  split at h
  ·rename_i c; cases h
   rw [hx.toV hu, hy.toV hw]
   exact ⟨c, q _ H F (.refl s) (by simp only [Rp]; rfl)⟩
  ·cases h
 ·cases h
@[simp] theorem gEq_int (neg : Bool) (a b : Int) : gEq neg (.int a) (.int b) = some (.bl (if neg then !decide (a = b) else decide (a = b))) := by
 unfold gEq toV
 simp only [scal, if_true, V.int.injEq]
@[simp] theorem gEq_str (neg : Bool) (a b : Str) : gEq neg (.str a) (.str b) = some (.bl (if neg then !decide (a = b) else decide (a = b))) := by
 unfold gEq toV
 simp only [scal, if_true, V.str.injEq]
def gIsN (neg : Bool) (d e : D) : Option D := match d, e with
 | .non, .non => some (.bl (!neg))
 | _, .non => some (.bl neg)
 | _, _ => none
theorem Rb.notNon {d : D} {v : V} (h : Rb K cl F H d v) (n : d ≠ .non) : v ≠ .non := by
 rcases h with h | ⟨_, _, _, rfl, _⟩
 ·cases d <;> simp only [Rp] at h
  ·exact absurd rfl n
  all_goals first | (rw [h]; intro z; cases z) | (obtain ⟨_, _, rfl, _⟩ := h; intro z; cases z) | (obtain ⟨_, rfl, _⟩ := h; intro z; cases z) | (obtain ⟨_, _, _, rfl, _⟩ := h; intro z; cases z)
 ·intro z; cases z
theorem ok_isN : OpOk K cl (fun x y H Q => y = .non ∧ Q (.bl (decide (x = .non))) H) (gIsN false) := by
 intro x y d e z H F Q s hx hy h q
 unfold gIsN at h
 split at h
 ·cases h; rw [hx.non]; exact ⟨hy.non, q _ H F (.refl s) (by simp [Rp])⟩
 ·rename_i n; cases h
  exact ⟨hy.non, q _ H F (.refl s) (by simp only [Rp]; rw [decide_eq_false (hx.notNon n)])⟩
 ·cases h
theorem Rps.atI {ds : List D} {xs : List V} {i : Int} {d : D} (h : Rps K cl F ds xs) (e : atI ds i = some d) : ∃ v, L2.atI xs i = some v ∧ Rp K cl F d v := by
 unfold L2.atI at e ⊢
 rw [← h.length]
 cases q : ixN ds.length i with
 | none => rw [q] at e; cases e
 | some j => rw [q] at e; exact h.get e
def gIxL (d e : D) : Option D := match d, e with
 | .lst ds, .int i => atI ds i
 | .scr ns, .int i => (atI ns i).map .int
 | _, _ => none
def gIxT (d e : D) : Option D := match d, e with
 | .tup ds, .int i => atI ds i
 | _, _ => none
theorem atI_map {α β : Type} (f : α → β) (xs : List α) (i : Int) : atI (xs.map f) i = (atI xs i).map f := by
 unfold L2.atI
 rw [List.length_map]
 cases ixN xs.length i with
 | none => rfl
 | some j => simp
theorem ok_ixL : OpOk K cl (rIxL K) gIxL := by
 intro x y d e z H F Q s hx hy h q
 unfold gIxL at h
 split at h
 ·obtain ⟨a, xs, rfl, hH, r⟩ := hx.lst s
  obtain ⟨v, e, p⟩ := r.atI h
  exact ⟨a, xs, _, v, rfl, hy.int, .of hH, e, q v H F (.refl s) p⟩
 ·rename_i ns i
  obtain ⟨a, rfl, hS⟩ := hx.scr s
  cases hz : atI ns i with
  | none => rw [hz] at h; cases h
  | some n =>
   rw [hz] at h; cases h
   exact ⟨a, _, _, .int n, rfl, hy.int, hS.seq, by rw [atI_map, hz]; rfl, q _ H F (.refl s) (by simp only [Rp])⟩
 ·cases h
theorem ok_ixT : OpOk K cl (rIxT K) gIxT := by
 intro x y d e z H F Q s hx hy h q
 unfold gIxT at h
 split at h
 ·obtain ⟨a, xs, rfl, hH, r⟩ := hx.tup s
  obtain ⟨v, e, p⟩ := r.atI h
  exact ⟨a, xs, _, v, rfl, hy.int, .of hH, e, q v H F (.refl s) p⟩
 ·cases h
def eqD : D → D → Bool
 | .non, .non => true
 | .bl a, .bl b => a == b
 | .bl a, .int b => (if a then 1 else 0) == b
 | .int a, .bl b => a == (if b then 1 else 0)
 | .int a, .int b => a == b
 | .str a, .str b => a == b
 | _, _ => false
def eqDs : List D → List D → Bool
 | [], [] => true
 | x :: xs, y :: ys => eqD x y && eqDs xs ys
 | _, _ => false
def flatD : D → Bool
 | .non => true
 | .bl _ => true
 | .int _ => true
 | .str _ => true
 | _ => false
theorem Rp.flat {d : D} {v : V} (h : Rp K cl F d v) (f : flatD d = true) : toV d = some v ∧ flatV v = true := by
 cases d <;> simp only [Rp] at h <;> first | (subst h; exact ⟨rfl, rfl⟩) | cases f
theorem Rps.flat : ∀ {ds : List D} {vs : List V}, Rps K cl F ds vs → ds.all flatD = true → vs.all flatV = true
 | [], _, h, _ => by rw [h.inv0]; rfl
 | d :: ds, _, h, f => by
  obtain ⟨v, r, rfl, h1, h2⟩ := h.inv
  rw [List.all_cons, Bool.and_eq_true] at f
  rw [List.all_cons, (h1.flat f.1).2, h2.flat f.2]; rfl
theorem Rp.eq {d e : D} {v u : V} (h : Rp K cl F d v) (g : Rp K cl F e u) (fd : flatD d = true) (fe : flatD e = true) : eqV v u = eqD d e := by
 have h1 := (h.flat fd).1
 have h2 := (g.flat fe).1
 cases d <;> cases e <;> first | (cases h1; cases h2; rfl) | (cases fd; done) | (cases fe; done)
theorem Rps.eq : ∀ {ds es : List D} {vs us : List V}, Rps K cl F ds vs → Rps K cl F es us → ds.all flatD = true → es.all flatD = true → eqVs vs us = eqDs ds es
 | [], [], _, _, h, g, _, _ => by rw [h.inv0, g.inv0]; rfl
 | [], _ :: _, _, _, h, g, _, _ => by rw [h.inv0]; obtain ⟨_, _, rfl, _, _⟩ := g.inv; rfl
 | _ :: _, [], _, _, h, g, _, _ => by rw [g.inv0]; obtain ⟨_, _, rfl, _, _⟩ := h.inv; rfl
 | d :: ds, e :: es, _, _, h, g, fd, fe => by
  obtain ⟨v, r, rfl, h1, h2⟩ := h.inv
  obtain ⟨u, r', rfl, g1, g2⟩ := g.inv
  rw [List.all_cons, Bool.and_eq_true] at fd fe
  unfold eqVs eqDs
  rw [h1.eq g1 fd.1 fe.1, h2.eq g2 fd.2 fe.2]
def gLen : D → Option D
 | .lst ds => some (.int ds.length)
 | .tup ds => some (.int ds.length)
 | .scr ns => some (.int ns.length)
 | _ => none
theorem ok_len : CbOk1 K cl (rLenSeq K) gLen := by
 intro x d z H F Q s hx h q
 unfold gLen at h
 split at h
 ·cases h
  obtain ⟨a, xs, rfl, hH, r⟩ := hx.lst s
  exact ⟨a, xs, rfl, .inl (.of hH), q _ H F (.refl s) (by simp only [Rp]; rw [r.length])⟩
 ·cases h
  obtain ⟨a, xs, rfl, hH, r⟩ := hx.tup s
  exact ⟨a, xs, rfl, .inr (.of hH), q _ H F (.refl s) (by simp only [Rp]; rw [r.length])⟩
 ·cases h
  obtain ⟨a, rfl, hS⟩ := hx.scr s
  exact ⟨a, _, rfl, .inl hS.seq, q _ H F (.refl s) (by simp only [Rp]; rw [List.length_map])⟩
 ·cases h
end
inductive R1 where | ret (d : D) | own (ds : List D) | owz (dss : List (List D)) | ex (c : Str)
def spD (K : W.Frag) (cl : Str → Addr) (g : List D → Option R1) : Sp := fun vs H Q E => ∃ ds F, Same F H ∧ Rps K cl F ds vs ∧ match g ds with
 | none => False
 | some (.ret d) => ∀ v H' F', Gr H F H' F' → Rp K cl F' d v → Q v H'
 | some (.own es) => ∀ a xs H' F', Gr H F H' F' → H a = none → H' a = some (.lst xs) → F' a = none → Rps K cl F' es xs → Q (.ref a) H'
 | some (.owz dss) => ∀ p as H' F', Gr H F H' F' → H p = none → H' p = some (.tup (as.map V.ref)) → F' p = none → Rz K cl F' H' (fun a => H a = none) dss as → Q (.ref p) H'
 | some (.ex c) => ∀ H' F', Gr H F H' F' → E (.ref (cl c)) none H'
def toZ (r : Option R1) (e : DE) : Option (R D) := match r with
 | none => none
 | some (.ret d) => some (.ok d e)
 | some (.own ds) => some (.ok (.lst ds) e)
 | some (.owz _) => none
 | some (.ex c) => some (.ex c)
def toZ0 (r : Option R1) (e : DE) : Option (R D) := match r with
 | some (.ret d) => some (.ok d e)
 | some (.own ds) => some (.ok (.lst ds) e)
 | _ => none
def eCall (g : List D → Option R1) (f : AF) : ZF := fun e => bnd (f e) fun ds e1 => toZ (g ds) e1
def eCall0 (g : List D → Option R1) (f : AF) : ZF := fun e => bnd (f e) fun ds e1 => toZ0 (g ds) e1
def put (i : Nat) (s : Sl) (e : DE) : Option RS := match e[i]? with
 | none => none
 | some (.hd _) => none
 | some _ => some (.nx (e.set i s))
def toSet (i : Nat) (r : Option R1) (e : DE) : Option RS := match r with
 | none => none
 | some (.ret d) => put i (.fz d) e
 | some (.own ds) => put i (.ow ds) e
 | some (.owz _) => none
 | some (.ex c) => some (.ex c)
def toSet0 (i : Nat) (r : Option R1) (e : DE) : Option RS := match r with
 | some (.ret d) => put i (.fz d) e
 | some (.own ds) => put i (.ow ds) e
 | _ => none
def toRet (r : Option R1) : Option RS := match r with
 | none => none
 | some (.ret d) => some (.rt d)
 | some (.own ds) => some (.ro ds)
 | some (.owz dss) => some (.rz dss)
 | some (.ex c) => some (.ex c)
def toRet0 (r : Option R1) : Option RS := match r with
 | some (.ret d) => some (.rt d)
 | some (.own ds) => some (.ro ds)
 | _ => none
def sNx : SF := fun e => some (.nx e)
def sSeq (f k : SF) : SF := fun e => match f e with
 | some (.nx e1) => k e1
 | r => r
def sSet (i : Nat) (f : ZF) : SF := fun e => sbn (f e) fun d e1 => put i (.fz d) e1
def sSetN (i : Nat) (f : NF) : SF := fun e => sbn (f e) fun ds e1 => put i (.ow ds) e1
def sSetC (i : Nat) (g : List D → Option R1) (f : AF) : SF := fun e => sbn (f e) fun ds e1 => toSet i (g ds) e1
def sSetC0 (i : Nat) (g : List D → Option R1) (f : AF) : SF := fun e => sbn (f e) fun ds e1 => toSet0 i (g ds) e1
def sRet (f : ZF) : SF := fun e => sbn (f e) fun d _ => some (.rt d)
def sRetC (g : List D → Option R1) (f : AF) : SF := fun e => sbn (f e) fun ds _ => toRet (g ds)
def sRetV (i : Nat) : SF := fun e => match e[i]? with
 | some (.fz d) => some (.rt d)
 | some (.ow ds) => some (.ro ds)
 | _ => none
def sIf (c : BF) (f k : SF) : SF := fun e => sbn (c e) fun b e1 => if b = true then f e1 else k e1
def sEx (f : ZF) : SF := fun e => sbn (f e) fun _ e1 => some (.nx e1)
def sRaise (c : Str) (f : AF) : SF := fun e => sbn (f e) fun ds _ => if ds.length ≤ sizeLine then some (.ex c) else none
section
variable {K : W.Frag} {cl : Str → Addr} {E : XK} {σ : St} {H F : Hp} {env : DE}
theorem Gr.fx {H' F' : Hp} (g : Gr H F H' F') : FX σ H F env H' F' := ⟨g.fz, g.sub, fun a o h f _ => g.hid a o h f, g.dom⟩
theorem call_z {g : List D → Option R1} {ds : List D} {vs : List V} {Q : VK} (R : Rel K cl σ H F env) (p : Rps K cl F ds vs) (h : Ct K cl E (PZ K cl) (toZ (g ds) env) σ H F env Q) : spD K cl g (vs ++ []) H Q E := by
 rw [List.append_nil]
 refine ⟨ds, F, R.sub, p, ?_⟩
 unfold toZ at h
 split at h
 ·exact h.elim
 ·exact fun v H' F' gr r => h v H' F' (R.frm gr) (R.gr gr) r
 ·rename_i es _
  intro a xs H' F' gr ha hH hF r
  have sF : Same F' (upd F' a (.lst xs)) := same_new hF _
  have gr' : Gr H F H' (upd F' a (.lst xs)) := by
   refine ⟨gr.fz.trans sF, fun b o z => ?_, fun b o hb fb => ?_⟩
   ·by_cases y : b = a
    ·subst y; rw [upd_same] at z; cases z; exact hH
    ·rw [upd_ne y] at z; exact gr.sub _ _ z
   ·obtain ⟨h1, f1⟩ := gr.hid b o hb fb
    have nb : b ≠ a := fun z => by rw [z, ha] at hb; cases hb
    exact ⟨h1, by rw [upd_ne nb]; exact f1⟩
  exact h _ H' _ (R.frm gr') (R.gr gr') (by show Rp K cl _ (.lst es) _; simp only [Rp]; exact ⟨a, xs, rfl, upd_same, r.mono sF⟩)
 ·exact h.elim
 ·exact fun H' F' gr => h H' F' gr.fx
theorem toZ_of0 {r : Option R1} {e : DE} {P : Py D V} {Q : VK} (h : Ct K cl E P (toZ0 r e) σ H F env Q) : toZ r e = toZ0 r e ∧ ∀ c, r ≠ some (.ex c) := by
 unfold toZ0 at h
 split at h
 ·exact ⟨rfl, fun c z => by cases z⟩
 ·exact ⟨rfl, fun c z => by cases z⟩
 ·exact h.elim
theorem rf_Call {g : List D → Option R1} {t : TA} {f : AF} (hf : RfA K cl E t f) : RfZ K cl E (tCall (spD K cl g) [] E t) (eCall g f) := by
 intro σ H Q env F R h
 refine hf σ H _ env F R ((Ct.bnd h pm_Z).mono fun vs H1 ⟨F1, e1, ds, s1, R1, p1, h1⟩ => call_z R1 p1 h1)
theorem rf_Call0 {g : List D → Option R1} {t : TA} {f : AF} (hf : RfA K cl E t f) : RfZ K cl E (tCall (spD K cl g) [] E0 t) (eCall0 g f) := by
 intro σ H Q env F R h
 refine hf σ H _ env F R ((Ct.bnd h pm_Z).mono fun vs H1 ⟨F1, e1, ds, s1, R1, p1, h1⟩ => ?_)
 refine call_z R1 p1 ?_
 obtain ⟨z, n⟩ := toZ_of0 h1
 rw [z]
 unfold Ct at h1 ⊢
 split at h1
 ·exact h1
 ·exact h1
 ·rename_i c q
  exact absurd q (by unfold toZ0; split <;> intro y <;> cases y)
theorem rf_Nx : RfS K cl E tNext sNx := fun N σ H env F R h => h σ H F Frm.refl R
theorem rf_Seq {t u : TS} {f k : SF} (hf : RfS K cl E t f) (hk : RfS K cl E u k) : RfS K cl E (tSeq t u) (sSeq f k) := by
 intro N σ H env F R h
 refine hf _ σ H env F R ?_
 unfold sSeq at h
 split at h
 ·rename_i e1 q
  rw [q]
  intro σ' H' F' fr R'
  exact hk N σ' H' e1 F' R' (h.from fr)
 ·rename_i n
  unfold Cs at h ⊢
  split at h
  ·exact h
  ·rename_i e q; exact absurd q (n e)
  all_goals exact h
theorem putS {i : Nat} {s : Sl} {e : DE} {N : Ends} {σ0 : St} {H0 F0 : Hp} {env0 : DE} (h : Cs K cl E (put i s e) σ0 H0 F0 env0 N) : i < e.length ∧ (∀ ds, e[i]? ≠ some (.hd ds)) ∧ Cs K cl E (some (.nx (e.set i s))) σ0 H0 F0 env0 N := by
 unfold put at h
 split at h
 ·exact h.elim
 ·exact h.elim
 ·rename_i z n q
  exact ⟨(List.getElem?_eq_some_iff.mp q).1, fun ds y => by rw [q] at y; cases y; exact n ds rfl, h⟩
theorem rf_Set {i : Nat} {t : TE} {f : ZF} (hf : RfZ K cl E t f) : RfS K cl E (tAsg t (gName i)) (sSet i f) := by
 intro N σ H env F R h
 refine hf σ H _ env F R ((Cs.bnd h).mono fun x H1 ⟨F1, e1, d, fr, R1, p1, h1⟩ => ?_)
 obtain ⟨hi, nh, h2⟩ := putS h1
 exact h2 _ H1 F1 (fr.trans (Frm.put nh)) (R1.put hi nh p1)
theorem rf_SetN {i : Nat} {t : TE} {f : NF} (hf : RfN K cl E t f) : RfS K cl E (tAsg t (gName i)) (sSetN i f) := by
 intro N σ H env F R h
 refine hf σ H _ env F R ((Cs.bnd h).mono fun x H1 ⟨F1, e1, ds, fr, R1, p1, h1⟩ => ?_)
 obtain ⟨a, xs, rfl, hn, hH, hF, nm, r⟩ := p1
 obtain ⟨hi, nh, h2⟩ := putS h1
 exact h2 _ H1 F1 (fr.putO hn nh) (R1.putO hi hH hF nm r)
theorem rf_Ret {t : TE} {f : ZF} (hf : RfZ K cl E t f) : RfS K cl E (tRet t) (sRet f) := by
 intro N σ H env F R h
 exact hf σ H _ env F R ((Cs.bnd h).mono fun x H1 ⟨F1, e1, d, fr, R1, p1, h1⟩ => h1 x H1 F1 (fr.toFX R1.sub) p1)
theorem rf_RetV {i : Nat} : RfS K cl E (tRet (tVar i)) (sRetV i) := by
 intro N σ H env F R h
 unfold sRetV at h
 split at h
 ·rename_i d q
  obtain ⟨v, e, r⟩ := R.fz i d q
  exact ⟨v, e, h v H F (Frm.refl.toFX R.sub) r⟩
 ·rename_i ds q
  obtain ⟨a, xs, e, hH, hF, r⟩ := R.mu i ds (.inl q)
  exact ⟨_, e, h a xs H F (Frm.refl.toFX R.sub) hH hF (fun o _ => ⟨i, ds, q, e⟩) r⟩
 ·exact h.elim
theorem rf_If' {c : TT} {t u : TS} {b : BF} {f k : SF} (hc : RfB K cl E c b) (hf : RfS K cl E t f) (hk : RfS K cl E u k) : RfS K cl E (tIfS c t u) (sIf b f k) := by
 intro N σ H env F R h
 refine hc σ H _ env F R ((Cs.bnd h).mono fun x H1 ⟨F1, e1, d, fr, R1, p1, h1⟩ => ?_)
 cases (show x = d from p1)
 by_cases z : x = true
 ·rw [if_pos z] at h1 ⊢; exact hf N σ H1 e1 F1 R1 (h1.from fr)
 ·rw [if_neg z] at h1 ⊢; exact hk N σ H1 e1 F1 R1 (h1.from fr)
theorem rf_Ex {t : TE} {f : ZF} (hf : RfZ K cl E t f) : RfS K cl E (tDrop t) (sEx f) := by
 intro N σ H env F R h
 exact hf σ H _ env F R ((Cs.bnd h).mono fun x H1 ⟨F1, e1, d, fr, R1, p1, h1⟩ => h1 σ H1 F1 fr R1)
theorem rf_Raise {c : Str} {t : TA} {f : AF} (hf : RfA K cl E t f) : RfS K cl E (tRaise (cl c) E t) (sRaise c f) := by
 intro N σ H env F R h
 refine hf σ H _ env F R ((Cs.bnd h).mono fun xs H1 ⟨F1, e1, ds, fr, R1, p1, h1⟩ => ?_)
 have hl : ds.length = xs.length := Rps.length p1
 split at h1
 ·rename_i z
  exact ⟨by rw [← hl]; exact z, h1 H1 F1 (fr.toFX R1.sub)⟩
 ·exact h1.elim
theorem rf_SetC {i : Nat} {g : List D → Option R1} {t : TA} {f : AF} (hf : RfA K cl E t f) : RfS K cl E (tAsg (tCall (spD K cl g) [] E t) (gName i)) (sSetC i g f) := by
 intro N σ H env F R h
 refine hf σ H _ env F R ((Cs.bnd h).mono fun vs H1 ⟨F1, e1, ds, fr, R1, p1, h1⟩ => ?_)
 show spD K cl g (vs ++ []) H1 _ E
 rw [List.append_nil]
 refine ⟨ds, F1, R1.sub, p1, ?_⟩
 unfold toSet at h1
 split at h1
 ·exact h1.elim
 ·obtain ⟨hi, nh, h2⟩ := putS h1
  exact fun v H' F' gr r => h2 _ H' F' ((fr.trans (R1.frm gr)).trans (Frm.put nh)) ((R1.gr gr).put hi nh r)
 ·obtain ⟨hi, nh, h2⟩ := putS h1
  intro a xs H' F' gr ha hH hF r
  refine h2 _ H' F' ((fr.trans (R1.frm gr)).putO (fr.dom a ha) nh) ((R1.gr gr).putO hi hH hF (fun j mj e => ?_) r)
  obtain ⟨es, q⟩ := mj
  obtain ⟨b, ys, e', hb, _⟩ := R1.mu j es q
  rw [e] at e'; cases e'
  rw [ha] at hb; cases hb
 ·exact h1.elim
 ·exact fun H' F' gr => h1 H' F' (fr.fx gr.fx)
theorem rf_SetC0 {i : Nat} {g : List D → Option R1} {t : TA} {f : AF} (hf : RfA K cl E t f) : RfS K cl E (tAsg (tCall (spD K cl g) [] E0 t) (gName i)) (sSetC0 i g f) := by
 intro N σ H env F R h
 refine hf σ H _ env F R ((Cs.bnd h).mono fun vs H1 ⟨F1, e1, ds, fr, R1, p1, h1⟩ => ?_)
 show spD K cl g (vs ++ []) H1 _ E0
 rw [List.append_nil]
 refine ⟨ds, F1, R1.sub, p1, ?_⟩
 unfold toSet0 at h1
 split at h1
 ·rename_i q; rw [q]
  obtain ⟨hi, nh, h2⟩ := putS h1
  exact fun v H' F' gr r => h2 _ H' F' ((fr.trans (R1.frm gr)).trans (Frm.put nh)) ((R1.gr gr).put hi nh r)
 ·rename_i q; rw [q]
  obtain ⟨hi, nh, h2⟩ := putS h1
  intro a xs H' F' gr ha hH hF r
  refine h2 _ H' F' ((fr.trans (R1.frm gr)).putO (fr.dom a ha) nh) ((R1.gr gr).putO hi hH hF (fun j mj e => ?_) r)
  obtain ⟨es, q⟩ := mj
  obtain ⟨b, ys, e', hb, _⟩ := R1.mu j es q
  rw [e] at e'; cases e'
  rw [ha] at hb; cases hb
 ·exact h1.elim
theorem rf_RetC {g : List D → Option R1} {t : TA} {f : AF} (hf : RfA K cl E t f) : RfS K cl E (tRet (tCall (spD K cl g) [] E t)) (sRetC g f) := by
 intro N σ H env F R h
 refine hf σ H _ env F R ((Cs.bnd h).mono fun vs H1 ⟨F1, e1, ds, fr, R1, p1, h1⟩ => ?_)
 show spD K cl g (vs ++ []) H1 _ E
 rw [List.append_nil]
 refine ⟨ds, F1, R1.sub, p1, ?_⟩
 unfold toRet at h1
 split at h1
 ·exact h1.elim
 ·exact fun v H' F' gr r => h1 v H' F' (fr.fx gr.fx) r
 ·exact fun a xs H' F' gr ha hH hF r => h1 a xs H' F' (fr.fx gr.fx) hH hF (fun o e => by rw [fr.dom a ha] at e; cases e) r
 ·exact fun p as H' F' gr hp ht fp rz => h1 p as H' F' (fr.fx gr.fx) (fr.dom p hp) ht fp (rz.imp fun a xs _ _ ha o e => by rw [fr.dom a ha] at e; cases e)
 ·exact fun H' F' gr => h1 H' F' (fr.fx gr.fx)
end
abbrev GF := D → DE → Option DE
def bName (i : Nat) : GF := fun d e => match e[i]? with
 | none => none
 | some (.hd _) => none
 | some _ => some (e.set i (.fz d))
def bEach : List GF → List D → DE → Option DE
 | [], [], e => some e
 | b :: bs, d :: ds, e => match b d e with
  | none => none
  | some e1 => bEach bs ds e1
 | _, _, _ => none
def bTup (bs : List GF) : GF := fun d e => match d with
 | .tup ds => bEach bs ds e
 | _ => none
section
variable (K : W.Frag) (cl : Str → Addr)
def RfG (k : Nat) (g : TG) (b : GF) : Prop := ∀ v σ H Q d env env' F, Rel K cl σ H F env → Rp K cl F d v → b d env = some env' → (∀ σ', σ'.drop k = σ.drop k → σ'.length = σ.length → Frm σ H F env σ' H F env' → Rel K cl σ' H F env' → Q σ' H) → g v σ H Q
def RfGs (k : Nat) (t : TGs) (bs : List GF) : Prop := ∀ vs σ H Q ds env env' F, Rel K cl σ H F env → Rps K cl F ds vs → bEach bs ds env = some env' → (∀ σ', σ'.drop k = σ.drop k → σ'.length = σ.length → Frm σ H F env σ' H F env' → Rel K cl σ' H F env' → Q σ' H) → t vs σ H Q
end
section
variable {K : W.Frag} {cl : Str → Addr} {E : XK} {σ : St} {H F : Hp} {env : DE} {k : Nat}
theorem drop_set {α : Type} {l : List α} {i k : Nat} {x : α} (h : i < k) : (l.set i x).drop k = l.drop k := by
 apply List.ext_getElem?
 intro j
 rw [List.getElem?_drop, List.getElem?_drop, List.getElem?_set_ne (by omega)]
theorem rf_gName {i : Nat} (hi : i < k) : RfG K cl k (gName i) (bName i) := by
 intro v σ H Q d env env' F R p h q
 unfold bName at h
 split at h
 ·cases h
 ·cases h
 ·rename_i z n e
  cases h
  have nh : ∀ ds, env[i]? ≠ some (.hd ds) := fun ds y => by rw [e] at y; cases y; exact n ds rfl
  exact q _ (drop_set hi) List.length_set (Frm.put nh) (R.put (List.getElem?_eq_some_iff.mp e).1 nh p)
theorem rf_gNil : RfGs K cl k gNil [] := by
 intro vs σ H Q ds env env' F R p h q
 cases ds with
 | nil => cases h; exact ⟨p.inv0, q σ rfl rfl Frm.refl R⟩
 | cons _ _ => cases h
theorem rf_gCons {t : TG} {u : TGs} {b : GF} {bs : List GF} (h1 : RfG K cl k t b) (h2 : RfGs K cl k u bs) : RfGs K cl k (gCons t u) (b :: bs) := by
 intro vs σ H Q ds env env' F R p h q
 cases ds with
 | nil => cases h
 | cons d ds =>
  obtain ⟨v, r, rfl, p1, p2⟩ := p.inv
  unfold bEach at h
  split at h
  ·cases h
  ·rename_i e1 hb
   refine ⟨v, r, rfl, h1 v σ H _ d env e1 F R p1 hb fun σ1 d1 l1 f1 R1 => ?_⟩
   exact h2 r σ1 H _ ds e1 env' F R1 p2 h fun σ2 d2 l2 f2 R2 => q σ2 (d2.trans d1) (l2.trans l1) (f1.trans f2) R2
theorem bEach_len : ∀ {bs : List GF} {ds : List D} {e e' : DE}, bEach bs ds e = some e' → ds.length = bs.length
 | [], [], _, _, _ => rfl
 | [], _ :: _, _, _, h => by cases h
 | _ :: _, [], _, _, h => by cases h
 | b :: bs, d :: ds, e, e', h => by
  unfold bEach at h
  split at h
  ·cases h
  ·simp [bEach_len h]
theorem rf_gTup {t : TGs} {bs : List GF} {n : Nat} (h : RfGs K cl k t bs) (hn : bs.length = n) : RfG K cl k (gTup K n t) (bTup bs) := by
 intro v σ H Q d env env' F R p e q
 unfold bTup at e
 split at e
 ·rename_i ds
  simp only [Rp] at p
  obtain ⟨a, xs, rfl, hF, r⟩ := p
  exact ⟨a, xs, rfl, .of (R.sub _ _ hF), by rw [← r.length, bEach_len e, hn], h xs σ H Q ds env env' F R r e q⟩
 ·cases e
def sAsg (f : ZF) (b : GF) : SF := fun e => sbn (f e) fun d e1 => match b d e1 with
 | none => none
 | some e2 => some (.nx e2)
theorem rf_Asg {t : TE} {g : TG} {f : ZF} {b : GF} (hf : RfZ K cl E t f) (hg : RfG K cl k g b) : RfS K cl E (tAsg t g) (sAsg f b) := by
 intro N σ H env F R h
 refine hf σ H _ env F R ((Cs.bnd h).mono fun x H1 ⟨F1, e1, d, fr, R1, p1, h1⟩ => ?_)
 split at h1
 ·exact h1.elim
 ·rename_i e2 hb
  exact hg x σ H1 _ d e1 e2 F1 R1 p1 hb fun σ' _ _ f2 R2 => h1 σ' H1 F1 (fr.trans f2) R2
def forD (b : GF) (body : SF) : List D → DE → Option RS
 | [], e => some (.nx e)
 | d :: ds, e => match b d e with
  | none => none
  | some e1 => match body e1 with
   | some (.nx e2) => forD b body ds e2
   | some (.ct e2) => forD b body ds e2
   | some (.bk e2) => some (.nx e2)
   | r => r
end
section
variable {K : W.Frag} {cl : Str → Addr} {E : XK} {σ : St} {H F : Hp} {env : DE} {k : Nat}
def noHd (e : DE) : Bool := e.all fun s => match s with
 | .hd _ => false
 | _ => true
def sTryAs (n i : Nat) (exm : Str → Bool) (body suite : SF) : SF := fun e => match body e with
 | some (.ex c) => if (exm c && noHd e) = true then (match suite ((List.replicate n Sl.no).set i (.fz (.exc c))) with
   | some (.nx e2) => put i .no e2
   | some (.rt d) => some (.rt d)
   | some (.ro ds) => some (.ro ds)
   | _ => none) else none
 | r => r
theorem noHd_of {e : DE} (h : noHd e = true) (i : Nat) (ds : List D) : e[i]? ≠ some (.hd ds) := fun q => by
 have := List.all_eq_true.mp h _ (List.mem_of_getElem? q)
 cases this
theorem Rel.drop {i : Nat} (R : Rel K cl σ H F env) (nh : ∀ ds, env[i]? ≠ some (.hd ds)) : Rel K cl (σ.set i none) H F (env.set i .no) ∧ Frm σ H F env (σ.set i none) H F (env.set i .no) := by
 have key : ∀ (j : Nat) (s : Sl), (env.set i .no)[j]? = some s → s ≠ .no → j ≠ i ∧ env[j]? = some s := fun j s q ns => by
  by_cases z : j = i
  ·subst z
   have hj : j < env.length := by have := (List.getElem?_eq_some_iff.mp q).1; rwa [List.length_set] at this
   rw [List.getElem?_set_self hj] at q; cases q; exact absurd rfl ns
  ·rw [List.getElem?_set_ne (Ne.symm z)] at q; exact ⟨z, q⟩
 have muk : ∀ j, Mu (env.set i .no) j → j ≠ i ∧ Mu env j := fun j ⟨ds, q⟩ => by
  rcases q with q | q
  ·obtain ⟨z, q⟩ := key j _ q (fun z => by cases z); exact ⟨z, ds, .inl q⟩
  ·obtain ⟨z, q⟩ := key j _ q (fun z => by cases z); exact ⟨z, ds, .inr q⟩
 refine ⟨⟨R.sub, by rw [List.length_set, List.length_set]; exact R.len, fun j d q => ?_, fun j ds q => ?_, fun j l b hj hl e1 e2 => ?_⟩, ⟨Same.refl _, fun a o h f w => ⟨h, f, fun ⟨j, ds, q, e⟩ => ?_⟩, fun j ds q => ?_, fun _ h => h⟩⟩
 ·obtain ⟨z, q⟩ := key j _ q (fun z => by cases z)
  obtain ⟨v, e, p⟩ := R.fz j d q
  exact ⟨v, by rw [List.getElem?_set_ne (Ne.symm z)]; exact e, p⟩
 ·have : j ≠ i ∧ (env[j]? = some (.ow ds) ∨ env[j]? = some (.hd ds)) := by
   rcases q with q | q
   ·obtain ⟨z, q⟩ := key j _ q (fun z => by cases z); exact ⟨z, .inl q⟩
   ·obtain ⟨z, q⟩ := key j _ q (fun z => by cases z); exact ⟨z, .inr q⟩
  obtain ⟨z, q⟩ := this
  obtain ⟨a, xs, e, r⟩ := R.mu j ds q
  exact ⟨a, xs, by rw [List.getElem?_set_ne (Ne.symm z)]; exact e, r⟩
 ·obtain ⟨zj, mj⟩ := muk j hj
  obtain ⟨zl, ml⟩ := muk l hl
  rw [List.getElem?_set_ne (Ne.symm zj)] at e1
  rw [List.getElem?_set_ne (Ne.symm zl)] at e2
  exact R.inj j l b mj ml e1 e2
 ·obtain ⟨z, q⟩ := key j _ q (fun z => by cases z)
  rw [List.getElem?_set_ne (Ne.symm z)] at e
  exact w ⟨j, ds, q, e⟩
 ·have z : j ≠ i := fun z => by subst z; exact nh ds q
  rw [List.getElem?_set_ne (Ne.symm z), List.getElem?_set_ne (Ne.symm z)]
  exact ⟨q, rfl⟩
end
section
variable {K : W.Frag} {cl : Str → Addr} {E : XK} {σ : St} {H F : Hp} {env : DE} {k : Nat}
def compD (b : GF) (c : BF) (el : ZF) (ec : DE) (eo : DE) : List D → List D → Option (R (List D))
 | [], acc => some (.ok acc eo)
 | d :: ds, acc => match b d ec with
  | none => none
  | some e1 => bnd (c e1) fun t e2 => if t = true then bnd (el e2) fun y _ => if acc.length < sizeLine then compD b c el ec eo ds (acc ++ [y]) else none
   else compD b c el ec eo ds acc
def NoOw (e : DE) : Prop := ∀ (i : Nat) (ds : List D), e[i]? ≠ some (.ow ds)
theorem NoOw.not {e : DE} (n : NoOw e) {σ : St} {a : Addr} : ¬ Ow σ e a := fun ⟨i, ds, q, _⟩ => n i ds q
theorem Frm.gr {σ' : St} {H' F' : Hp} {env' : DE} (f : Frm σ H F env σ' H' F' env') (n : NoOw env) (s : Same F' H') : Gr H F H' F' := ⟨f.fz, s, fun a o h g => by obtain ⟨h1, f1, _⟩ := f.hid a o h g n.not; exact ⟨h1, f1⟩⟩
theorem FX.gr {H' F' : Hp} (f : FX σ H F env H' F') (n : NoOw env) : Gr H F H' F' := ⟨f.fz, f.sub, fun a o h g => f.hid a o h g n.not⟩
structure Grow (K : W.Frag) (cl : Str → Addr) (σ : St) (H0 F0 : Hp) (env : DE) (B : Addr) (acc : List D) (ys : List V) (H F : Hp) : Prop where
 rel : Rel K cl σ H F env
 frm : Frm σ H0 F0 env σ H F env
 new : H0 B = none
 at_ : H B = some (.lst ys)
 un : F B = none
 far : ∀ j, Mu env j → σ[j]? ≠ some (some (.ref B))
 rps : Rps K cl F acc ys
 stay : ∀ a o, H0 a = some o → F0 a = none → H a = some o ∧ F a = none
theorem Grow.start {B : Addr} (R : Rel K cl σ H F env) (hB : H B = none) : Grow K cl σ H F env B [] [] (upd H B (.lst [])) F := by
 obtain ⟨R', f⟩ := R.newN (o := .lst []) hB
 refine ⟨R', f, hB, upd_same, R.sub.free hB, fun j ⟨ds, q⟩ e => ?_, .nil, fun a o h f => ⟨by rw [upd_ne (fun z => by rw [z, hB] at h; cases h)]; exact h, f⟩⟩
 obtain ⟨a, ys, e1, hH, _⟩ := R.mu j ds q
 rw [e] at e1; cases e1
 rw [hB] at hH; cases hH
theorem Grow.gr {B : Addr} {acc : List D} {ys : List V} {H0 F0 H' F' : Hp} (g : Grow K cl σ H0 F0 env B acc ys H F) (r : Gr H F H' F') : Grow K cl σ H0 F0 env B acc ys H' F' :=
 ⟨g.rel.gr r, g.frm.trans (g.rel.frm r), g.new, (r.hid B _ g.at_ g.un).1, (r.hid B _ g.at_ g.un).2, g.far, g.rps.mono r.fz, fun a o h f => by obtain ⟨h1, f1⟩ := g.stay a o h f; exact r.hid a o h1 f1⟩
theorem Grow.push {B : Addr} {acc : List D} {ys : List V} {H0 F0 : Hp} {d : D} {y : V} (g : Grow K cl σ H0 F0 env B acc ys H F) (p : Rp K cl F d y) : Grow K cl σ H0 F0 env B (acc ++ [d]) (ys ++ [y]) (upd H B (.lst (ys ++ [y]))) F := by
 have ne : ∀ a o, F a = some o → a ≠ B := fun a o h z => by rw [z, g.un] at h; cases h
 refine ⟨⟨fun a o h => by rw [upd_ne (ne a o h)]; exact g.rel.sub _ _ h, g.rel.len, g.rel.fz, fun j ds q => ?_, g.rel.inj⟩, ⟨g.frm.fz, fun a o h f w => ?_, g.frm.keep, fun a h => ?_⟩, g.new, upd_same, g.un, g.far, g.rps.append (.one p), fun a o h f => by rw [upd_ne (fun z => by rw [z, g.new] at h; cases h)]; exact g.stay a o h f⟩
 ·obtain ⟨a, xs, e, hH, r⟩ := g.rel.mu j ds q
  have z : a ≠ B := fun z => g.far j ⟨ds, q⟩ (by rw [e, z])
  exact ⟨a, xs, e, by rw [upd_ne z]; exact hH, r⟩
 ·have z : a ≠ B := fun z => by rw [z, g.new] at h; cases h
  rw [upd_ne z]; exact g.frm.hid a o h f w
 ·by_cases z : a = B
  ·rw [z, upd_same] at h; cases h
  ·rw [upd_ne z] at h; exact g.frm.dom a h
end
def fD (n m : Nat) (body : SF) (ds : List D) : Option R1 := if ds.length = m then (match body (ds.map .fz ++ List.replicate (n - ds.length) .no) with
 | some (.nx _) => some (.ret .non)
 | some (.rt d) => some (.ret d)
 | some (.ro es) => some (.own es)
 | some (.rz dss) => some (.owz dss)
 | some (.ex c) => some (.ex c)
 | _ => none) else none
section
variable {P : Program} {w : World} {K : W.Frag} {mg : Str → Option Value} {base : Heap} {cl : Str → Addr}
theorem start_rel {N : List Str} {vs : List V} {ds : List D} {H F : Hp} (s : Same F H) (p : Rps K cl F ds vs) : Rel K cl (start N vs) H F (ds.map .fz ++ List.replicate (N.length - ds.length) .no) ∧ NoOw (ds.map .fz ++ List.replicate (N.length - ds.length) .no) := by
 have key : ∀ (i : Nat) (t : Sl), (ds.map Sl.fz ++ List.replicate (N.length - ds.length) .no)[i]? = some t → t ≠ .no → ∃ d, ds[i]? = some d ∧ t = .fz d := fun i t q n => by
  by_cases z : i < ds.length
  ·rw [List.getElem?_append_left (by rw [List.length_map]; exact z), List.getElem?_map] at q
   cases hd : ds[i]? with
   | none => rw [hd] at q; cases q
   | some d => rw [hd] at q; cases q; exact ⟨d, rfl, rfl⟩
  ·rw [List.getElem?_append_right (by rw [List.length_map]; omega), List.getElem?_replicate] at q
   split at q
   ·cases q; exact absurd rfl n
   ·cases q
 have no : NoOw (ds.map .fz ++ List.replicate (N.length - ds.length) .no) := fun i es q => by
  obtain ⟨d, _, z⟩ := key i _ q (fun z => by cases z); cases z
 refine ⟨⟨s, ?_, fun i d q => ?_, fun i es q => ?_, fun i j b ⟨es, q⟩ _ _ _ => ?_⟩, no⟩
 ·unfold start
  rw [List.length_append, List.length_append, List.length_map, List.length_map, List.length_replicate, List.length_replicate, p.length]
 ·obtain ⟨d', hd, z⟩ := key i _ q (fun z => by cases z)
  cases z
  obtain ⟨v, hv, r⟩ := p.get hd
  refine ⟨v, ?_, r⟩
  unfold start
  rw [List.getElem?_append_left (by rw [List.length_map]; exact (List.getElem?_eq_some_iff.mp hv).1), List.getElem?_map, hv]; rfl
 ·rcases q with q | q
  ·obtain ⟨d, _, z⟩ := key i _ q (fun z => by cases z); cases z
  ·obtain ⟨d, _, z⟩ := key i _ q (fun z => by cases z); cases z
 ·rcases q with q | q
  ·obtain ⟨d, _, z⟩ := key i _ q (fun z => by cases z); cases z
  ·obtain ⟨d, _, z⟩ := key i _ q (fun z => by cases z); cases z
theorem spD_len {n m : Nat} {body : SF} {vs : List V} {H : Hp} {Q : VK} {E : XK} (h : spD K cl (fD n m body) vs H Q E) : vs.length = m := by
 obtain ⟨ds, F, s, p, h⟩ := h
 unfold fD at h
 by_cases z : ds.length = m
 ·rw [← p.length]; exact z
 ·rw [if_neg z] at h; exact h.elim
theorem body_reads {N : List Str} {m : Nat} {body : SF} {t : TS} {vs : List V} {H : Hp} {Q : VK} {E : XK} (hb : RfS K cl E t body) (h : spD K cl (fD N.length m body) vs H Q E) : t { nx := fun _ H' => Q .non H', rt := Q } (start N vs) H := by
 obtain ⟨ds, F, s, p, h⟩ := h
 obtain ⟨R, no⟩ := start_rel (N := N) s p
 refine hb _ _ H _ F R ?_
 unfold fD at h
 by_cases z : ds.length = m
 ·rw [if_pos z] at h
  cases r : body (ds.map .fz ++ List.replicate (N.length - ds.length) .no) with
  | none => rw [r] at h; exact h.elim
  | some rs =>
   rw [r] at h
   cases rs with
   | nx e => exact fun σ' H' F' f R' => h .non H' F' (f.gr no R'.sub) (by simp only [Rp])
   | rt d => exact fun v H' F' x q => h v H' F' (x.gr no) q
   | ro es =>
    refine fun a xs H' F' x ha fa nw q => h a xs H' F' (x.gr no) ?_ ha fa q
    cases e : H a with
    | none => rfl
    | some o => exact absurd (nw o e) no.not
   | rz dss =>
    refine fun p as H' F' x hp ht fp rz => h p as H' F' (x.gr no) hp ht fp (rz.imp fun a xs ha fa nw => ?_)
    cases e : H a with
    | none => rfl
    | some o => exact absurd (nw o e) no.not
   | bk e => exact h.elim
   | ct e => exact h.elim
   | ex c => exact fun H' F' x => h H' F' (x.gr no)
 ·rw [if_neg z] at h; exact h.elim
theorem Fun.okD {x qual : Str} {st : Stmt} {f : Addr} {fd : FuncData} {N ps : List Str} {k : Nat} {body : SF} (F : Fun K x qual st f fd) (S : FnScope N ps (defScope st))
  (hbody : ∀ (cdv : Value) (A : Around) (outer : List Env) (s : Shared) (H : Hp) (E : XK), Room k (A.deeper (envOfC qual (defScope st) s.heap.objs.size f cdv)) →
   ∃ t, PSs (cxOf (CXe P w) P w K mg base N qual (defScope st) f cdv A outer s H E) (defBody st) t ∧ RfS K cl E t body) : FnOk P w K mg base (CXe P w) (k + 1) f fd ps (spD K cl (fD N.length ps.length body)) :=
 F.okE S (fun vs H Q E h => spD_len h) fun cdv A outer s H vs Q E hr h => by
  obtain ⟨t, h1, h2⟩ := hbody cdv A outer s H E hr
  exact ⟨t, h1, body_reads h2 h⟩
theorem FunD.okD {x qual : Str} {st : Stmt} {dT f : Addr} {fd : FuncData} {N ps : List Str} {k : Nat} {body : SF} (F : FunD K x qual st dT f fd) (S : FnScope N ps (defScope st))
  (hbody : ∀ (cdv : Value) (A : Around) (outer : List Env) (s : Shared) (H : Hp) (E : XK), Room k (A.deeper (envOfC qual (defScope st) s.heap.objs.size f cdv)) →
   ∃ t, PSs (cxOf (CXe P w) P w K mg base N qual (defScope st) f cdv A outer s H E) (defBody st) t ∧ RfS K cl E t body) : FnOk P w K mg base (CXe P w) (k + 1) f fd ps (spD K cl (fD N.length ps.length body)) :=
 F.okE S (fun vs H Q E h => spD_len h) fun cdv A outer s H vs Q E hr h => by
  obtain ⟨t, h1, h2⟩ := hbody cdv A outer s H E hr
  exact ⟨t, h1, body_reads h2 h⟩
theorem spD_law {g : List D → Option R1} {vs : List V} {H : Hp} {Q : VK} {E : XK} {a : Addr} {ns : List Int} (e : vs = [.ref a]) (h : Scr K H a (ns.map V.int)) (q : ∀ H', Q (.bl true) H') (m : g [.scr ns] = some (.ret (.bl true))) : spD K cl g vs H Q E := by
 refine ⟨[.scr ns], H, Same.refl _, ?_, ?_⟩
 ·rw [e]; exact .one (by simp only [Rp]; exact ⟨a, rfl, h⟩)
 ·rw [m]
  intro v H' F' _ p
  have p : Rp K cl F' (.bl true) v := p
  simp only [Rp] at p
  rw [p]; exact q H'
def tyN : D → Option String
 | .non => some "NoneType"
 | .bl _ => some "bool"
 | .int _ => some "int"
 | .str _ => some "str"
 | .lst _ => some "list"
 | .tup _ => some "tuple"
 | _ => none
theorem kit_tab {K : W.Frag} (t n : String) (ht : t ∈ ["NoneType", "bool", "int", "str", "list", "tuple"]) (hn : n ∈ ["bool", "int", "str", "list", "tuple"]) : W.kitOne K (.type t) (.type n) = some (t == n || (t == "bool" && n == "int")) := by
 simp only [List.mem_cons, List.not_mem_nil, or_false] at ht hn
 rcases ht with rfl | rfl | rfl | rfl | rfl | rfl <;> rcases hn with rfl | rfl | rfl | rfl | rfl <;> first | rfl | with_unfolding_all rfl
def gIsi : List D → Option D
 | [d, .ty n] => match tyN d with
  | some t => if n ∈ ["bool", "int", "str", "list", "tuple"] then some (.bl (t == n || (t == "bool" && n == "int"))) else none
  | none => none
 | _ => none
theorem tyN_mem {d : D} {t : String} (h : tyN d = some t) : t ∈ ["NoneType", "bool", "int", "str", "list", "tuple"] := by
 cases d <;> cases h <;> decide
theorem tyN_of {F H : Hp} {d : D} {t : String} {v : V} (s : Same F H) (p : Rp K cl F d v) (h : tyN d = some t) : TyX K H v (.type t) := by
 cases d <;> cases h <;> simp only [Rp] at p
 ·subst p; exact .of .non
 ·subst p; exact .of (.bl _)
 ·subst p; exact .of (.int _)
 ·subst p; exact .of (.str _)
 ·obtain ⟨a, xs, rfl, h, _⟩ := p; exact .of (.tup (s _ _ h))
 ·obtain ⟨a, xs, rfl, h, _⟩ := p; exact .of (.lst (s _ _ h))
theorem ok_isi : CbOk K cl (rIsi K) gIsi := by
 intro xs ds z H F Q s hx h q
 unfold gIsi at h
 split at h
 ·rename_i d n
  split at h
  ·rename_i t ht
   split at h
   ·rename_i hn; cases h
    obtain ⟨v, r, rfl, p1, p2⟩ := hx.inv
    obtain ⟨u, r', rfl, p3, p4⟩ := p2.inv
    rw [p4.inv0]
    simp only [Rp] at p3
    subst p3
    exact ⟨v, _, _, _, _, rfl, rfl, tyN_of s p1 ht, kit_tab t n (tyN_mem ht) hn, q _ H F (.refl s) (by simp only [Rp])⟩
   ·cases h
  ·cases h
 ·cases h
def gIsiV (n : String) (d : D) : Option D := match tyN d with
 | some t => if n ∈ ["bool", "int", "str", "list", "tuple"] then some (.bl (t == n || (t == "bool" && n == "int"))) else none
 | none => none
def eIsiV (i : Nat) (n : String) : ZF := fun e => match look e i with
 | some d => opt (gIsiV n d) e
 | none => none
theorem rf_IsiV {E : XK} {i : Nat} {n : String} {t : TE} (ht : t = tC (.ty n) := by rfl) : RfZ K cl E (tCB (rIsi K) (tCons (tVar i) (tCons t tNil))) (eIsiV i n) := by
 subst ht
 intro σ H Q env F R h
 unfold eIsiV at h
 cases q : look env i with
 | none => rw [q] at h; exact h.elim
 | some d =>
  rw [q] at h
  obtain ⟨x, e, rb⟩ := R.look q
  refine ⟨x, e, ?_⟩
  cases hz : gIsiV n d with
  | none => simp only [hz, opt_none] at h; exact h.elim
  | some z =>
   simp only [hz, opt_some] at h
   unfold gIsiV at hz
   split at hz
   ·rename_i t ht
    split at hz
    ·rename_i hn; cases hz
     refine ⟨x, _, _, _, _, rfl, rfl, ?_, kit_tab t n (tyN_mem ht) hn, h _ H F Frm.refl R (by show Rp K cl F (.bl _) _; simp only [Rp])⟩
     rcases rb with p | ⟨a, xs, ds, rfl, rfl, hH, _⟩
     ·exact tyN_of R.sub p ht
     ·cases ht; exact .of (.lst hH)
    ·cases hz
   ·cases hz
end
section
variable {P : Program} {w : World} {mg : Str → Option Value} {base : Heap} {K : W.Frag} {cl : Str → Addr} {E : XK}
theorem rf_SetW {i : Nat} {g : List D → Option R1} {t : TA} {f : AF} (hf : RfA K cl E t f) : RfS K cl E (tAsg (tCallW (spD K cl g) t) (gName i)) (sSetC0 i g f) := by
 intro N σ H env F R h
 refine hf σ H _ env F R ((Cs.bnd h).mono fun vs H1 ⟨F1, e1, ds, fr, R1, p1, h1⟩ => ?_)
 refine ⟨ds, F1, R1.sub, p1, ?_⟩
 unfold toSet0 at h1
 split at h1
 ·rename_i q; rw [q]
  obtain ⟨hi, nh, h2⟩ := putS h1
  exact fun v H' F' gr r => h2 _ H' F' ((fr.trans (R1.frm gr)).trans (Frm.put nh)) ((R1.gr gr).put hi nh r)
 ·rename_i q; rw [q]
  obtain ⟨hi, nh, h2⟩ := putS h1
  intro a xs H' F' gr ha hH hF r
  refine h2 _ H' F' ((fr.trans (R1.frm gr)).putO (fr.dom a ha) nh) ((R1.gr gr).putO hi hH hF (fun j mj e => ?_) r)
  obtain ⟨es, q⟩ := mj
  obtain ⟨b, ys, e', hb, _⟩ := R1.mu j es q
  rw [e] at e'; cases e'
  rw [ha] at hb; cases hb
 ·exact h1.elim
theorem Fun.okWD {x qual : Str} {st : Stmt} {f : Addr} {fd : FuncData} {N ps : List Str} {k : Nat} {body : SF} (F : Fun K x qual st f fd) (S : FnScope N ps (defScope st))
  (hbody : ∀ (cdv : Value) (A : Around) (outer : List Env) (s : Shared) (H : Hp), RoomW k (A.deeper (envOfC qual (defScope st) s.heap.objs.size f cdv)) →
   ∃ t, PSs (cxOfW P w K mg base N qual (defScope st) f cdv A outer s H) (defBody st) t ∧ RfS K cl E0 t body) : FnOkW P w K mg base (k + 1) f fd ps (spD K cl (fD N.length ps.length body)) :=
 F.okW S (fun vs H Q E h => spD_len h) fun cdv A outer s H vs Q hr h => by
  obtain ⟨t, h1, h2⟩ := hbody cdv A outer s H hr
  exact ⟨t, h1, body_reads h2 h⟩
def clsN : D → Option Str
 | .cls n => some n
 | _ => none
def gIsiT (xT : Str → List Str → Option Bool) : List D → Option D
 | [.exc c, .tup cs] => match cs.mapM clsN with
  | some ns => (xT c ns).map .bl
  | none => none
 | _ => none
def gIsiX (x1 : Str → Str → Option Bool) (x2 : Str → String → Option Bool) : List D → Option D
 | [.exc c, .cls n] => (x1 c n).map .bl
 | [.exc c, .ty n] => (x2 c n).map .bl
 | _ => none
theorem cls_vals : ∀ {cs : List D} {ns : List Str} {F : Hp} {ys : List V}, cs.mapM clsN = some ns → Rps K cl F cs ys → ys.mapM clsV = some (ns.map fun m => Value.ref (cl m))
 | [], _, _, _, h, p => by cases h; rw [p.inv0]; rfl
 | c :: cs, _, _, _, h, p => by
  obtain ⟨v, r, rfl, p1, p2⟩ := p.inv
  rw [List.mapM_cons] at h ⊢
  cases hc : clsN c with
  | none => rw [hc] at h; cases h
  | some n =>
   rw [hc] at h
   cases hcs : cs.mapM clsN with
   | none => rw [hcs] at h; cases h
   | some ns =>
    rw [hcs] at h; cases h
    have hv : v = .ref (cl n) := by
     cases c <;> cases hc
     simpa only [Rp] using p1
    rw [hv, cls_vals hcs p2]; rfl
theorem ok_isiT {xT : Str → List Str → Option Bool} (hx : ∀ c ns b, xT c ns = some b → W.ExcT K (cl c) ∧ W.kitAny K (.ref (cl c)) (ns.map fun m => .ref (cl m)) = some b) : CbOk K cl (rIsiT K) (gIsiT xT) := by
 intro xs ds z H F Q s p h q
 unfold gIsiT at h
 split at h
 ·rename_i c cs
  split at h
  ·rename_i ns hn
   cases hb : xT c ns with
   | none => rw [hb] at h; cases h
   | some b =>
    rw [hb] at h; cases h
    obtain ⟨v, r, rfl, p1, p2⟩ := p.inv
    obtain ⟨u, r', rfl, p3, p4⟩ := p2.inv
    rw [p4.inv0]
    simp only [Rp] at p1 p3
    obtain ⟨a, cx, rfl, ha⟩ := p1
    obtain ⟨t, ys, rfl, ht, r⟩ := p3
    obtain ⟨hT, hk⟩ := hx c ns b hb
    exact ⟨_, t, ys, _, _, b, rfl, s _ _ ht, cls_vals hn r, .exc (s _ _ ha) hT, hk, q _ H F (.refl s) (by simp only [Rp])⟩
  ·cases h
 ·cases h
theorem ok_isiX {x1 : Str → Str → Option Bool} {x2 : Str → String → Option Bool} (h1 : ∀ c n b, x1 c n = some b → W.ExcT K (cl c) ∧ W.kitOne K (.ref (cl c)) (.ref (cl n)) = some b)
  (h2 : ∀ c n b, x2 c n = some b → W.ExcT K (cl c) ∧ W.kitOne K (.ref (cl c)) (.type n) = some b) : CbOk K cl (rIsi K) (gIsiX x1 x2) := by
 intro xs ds z H F Q s p h q
 unfold gIsiX at h
 split at h
 ·rename_i c n
  cases hb : x1 c n with
  | none => rw [hb] at h; cases h
  | some b =>
   rw [hb] at h; cases h
   obtain ⟨v, r, rfl, p1, p2⟩ := p.inv
   obtain ⟨u, r', rfl, p3, p4⟩ := p2.inv
   rw [p4.inv0]
   simp only [Rp] at p1 p3
   obtain ⟨a, cx, rfl, ha⟩ := p1
   subst p3
   obtain ⟨hT, hk⟩ := h1 c n b hb
   exact ⟨_, _, _, _, b, rfl, rfl, .exc (s _ _ ha) hT, hk, q _ H F (.refl s) (by simp only [Rp])⟩
 ·rename_i c n
  cases hb : x2 c n with
  | none => rw [hb] at h; cases h
  | some b =>
   rw [hb] at h; cases h
   obtain ⟨v, r, rfl, p1, p2⟩ := p.inv
   obtain ⟨u, r', rfl, p3, p4⟩ := p2.inv
   rw [p4.inv0]
   simp only [Rp] at p1 p3
   obtain ⟨a, cx, rfl, ha⟩ := p1
   subst p3
   obtain ⟨hT, hk⟩ := h2 c n b hb
   exact ⟨_, _, _, _, b, rfl, rfl, .exc (s _ _ ha) hT, hk, q _ H F (.refl s) (by simp only [Rp])⟩
 ·cases h
end
section
variable {α β : Type}
def seqR (r : Option RS) (k : SF) : Option RS := match r with
 | some (.nx e) => k e
 | r => r
theorem sSeq_eq {f k : SF} {e : DE} : sSeq f k e = seqR (f e) k := rfl
theorem seqR_nx {e : DE} {k : SF} : seqR (some (.nx e)) k = k e := rfl
theorem seqR_rt {d : D} {k : SF} : seqR (some (.rt d)) k = some (.rt d) := rfl
theorem seqR_ro {d : List D} {k : SF} : seqR (some (.ro d)) k = some (.ro d) := rfl
theorem seqR_ex {d : Str} {k : SF} : seqR (some (.ex d)) k = some (.ex d) := rfl
theorem seqR_bk {e : DE} {k : SF} : seqR (some (.bk e)) k = some (.bk e) := rfl
theorem seqR_ct {e : DE} {k : SF} : seqR (some (.ct e)) k = some (.ct e) := rfl
theorem seqR_no {k : SF} : seqR none k = none := rfl
theorem seqR_ite {c : Prop} [Decidable c] {a b : Option RS} {k : SF} : seqR (if c then a else b) k = if c then seqR a k else seqR b k := by split <;> rfl
theorem opt_ite {c : Prop} [Decidable c] {a b : Option α} {e : DE} : opt (if c then a else b) e = if c then opt a e else opt b e := by split <;> rfl
theorem toZ_ret {d : D} {e : DE} : toZ (some (.ret d)) e = some (.ok d e) := rfl
theorem toZ_own {d : List D} {e : DE} : toZ (some (.own d)) e = some (.ok (.lst d) e) := rfl
theorem toZ_ex {d : Str} {e : DE} : toZ (some (.ex d)) e = some (.ex d) := rfl
theorem toZ0_ret {d : D} {e : DE} : toZ0 (some (.ret d)) e = some (.ok d e) := rfl
theorem toZ0_own {d : List D} {e : DE} : toZ0 (some (.own d)) e = some (.ok (.lst d) e) := rfl
theorem toSet_ret {i : Nat} {d : D} {e : DE} : toSet i (some (.ret d)) e = put i (.fz d) e := rfl
theorem toSet_own {i : Nat} {d : List D} {e : DE} : toSet i (some (.own d)) e = put i (.ow d) e := rfl
theorem toSet_ex {i : Nat} {d : Str} {e : DE} : toSet i (some (.ex d)) e = some (.ex d) := rfl
theorem toSet0_ret {i : Nat} {d : D} {e : DE} : toSet0 i (some (.ret d)) e = put i (.fz d) e := rfl
theorem toSet0_own {i : Nat} {d : List D} {e : DE} : toSet0 i (some (.own d)) e = put i (.ow d) e := rfl
theorem toRet_ret {d : D} : toRet (some (.ret d)) = some (.rt d) := rfl
theorem toRet_own {d : List D} : toRet (some (.own d)) = some (.ro d) := rfl
theorem toRet_ex {d : Str} : toRet (some (.ex d)) = some (.ex d) := rfl
theorem toRet0_ret {d : D} : toRet0 (some (.ret d)) = some (.rt d) := rfl
theorem toRet0_own {d : List D} : toRet0 (some (.own d)) = some (.ro d) := rfl
def finR (r : Option RS) : Option R1 := match r with
 | some (.nx _) => some (.ret .non)
 | some (.rt d) => some (.ret d)
 | some (.ro es) => some (.own es)
 | some (.rz dss) => some (.owz dss)
 | some (.ex c) => some (.ex c)
 | _ => none
theorem fD_eq {n m : Nat} {body : SF} {ds : List D} (h : ds.length = m) : fD n m body ds = finR (body (ds.map .fz ++ List.replicate (n - m) .no)) := by
 unfold fD; rw [if_pos h, h]; rfl
theorem finR_nx {e : DE} : finR (some (.nx e)) = some (.ret .non) := rfl
theorem finR_rt {d : D} : finR (some (.rt d)) = some (.ret d) := rfl
theorem finR_rz {d : List (List D)} : finR (some (.rz d)) = some (.owz d) := rfl
theorem seqR_rz {d : List (List D)} {k : SF} : seqR (some (.rz d)) k = some (.rz d) := rfl
theorem toRet_owz {d : List (List D)} : toRet (some (.owz d)) = some (.rz d) := rfl
theorem finR_ro {d : List D} : finR (some (.ro d)) = some (.own d) := rfl
theorem finR_ex {d : Str} : finR (some (.ex d)) = some (.ex d) := rfl
theorem finR_ite {c : Prop} [Decidable c] {a b : Option RS} : finR (if c then a else b) = if c then finR a else finR b := by split <;> rfl
def forK (r : Option RS) (k : SF) : Option RS := match r with
 | some (.nx e) => k e
 | some (.ct e) => k e
 | some (.bk e) => some (.nx e)
 | r => r
theorem forK_nx {e : DE} {k : SF} : forK (some (.nx e)) k = k e := rfl
theorem forK_ct {e : DE} {k : SF} : forK (some (.ct e)) k = k e := rfl
theorem forK_bk {e : DE} {k : SF} : forK (some (.bk e)) k = some (.nx e) := rfl
theorem forK_rt {d : D} {k : SF} : forK (some (.rt d)) k = some (.rt d) := rfl
theorem forK_rz {d : List (List D)} {k : SF} : forK (some (.rz d)) k = some (.rz d) := rfl
theorem forK_ro {d : List D} {k : SF} : forK (some (.ro d)) k = some (.ro d) := rfl
theorem forK_ex {d : Str} {k : SF} : forK (some (.ex d)) k = some (.ex d) := rfl
theorem forD_nil {b : GF} {body : SF} {e : DE} : forD b body [] e = some (.nx e) := rfl
def optR (x : Option DE) (k : SF) : Option RS := match x with
 | none => none
 | some e => k e
theorem optR_some {e : DE} {k : SF} : optR (some e) k = k e := rfl
def tryR (n i : Nat) (exm : Str → Bool) (suite : SF) (e : DE) (r : Option RS) : Option RS := match r with
 | some (.ex c) => if (exm c && noHd e) = true then (match suite ((List.replicate n Sl.no).set i (.fz (.exc c))) with
   | some (.nx e2) => put i .no e2
   | some (.rt d) => some (.rt d)
   | some (.ro ds) => some (.ro ds)
   | _ => none) else none
 | r => r
theorem sTryAs_eq {n i : Nat} {exm : Str → Bool} {body suite : SF} {e : DE} : sTryAs n i exm body suite e = tryR n i exm suite e (body e) := rfl
def susR (i : Nat) (r : Option RS) : Option RS := match r with
 | some (.nx e2) => put i .no e2
 | some (.rt d) => some (.rt d)
 | some (.ro ds) => some (.ro ds)
 | _ => none
theorem susR_nx {i : Nat} {e : DE} : susR i (some (.nx e)) = put i .no e := rfl
theorem susR_rt {i : Nat} {d : D} : susR i (some (.rt d)) = some (.rt d) := rfl
theorem susR_ro {i : Nat} {d : List D} : susR i (some (.ro d)) = some (.ro d) := rfl
theorem tryR_ex {n i : Nat} {exm : Str → Bool} {suite : SF} {e : DE} {c : Str} : tryR n i exm suite e (some (.ex c)) = if (exm c && noHd e) = true then susR i (suite ((List.replicate n Sl.no).set i (.fz (.exc c)))) else none := rfl
theorem tryR_rt {n i : Nat} {exm : Str → Bool} {suite : SF} {e : DE} {d : D} : tryR n i exm suite e (some (.rt d)) = some (.rt d) := rfl
theorem tryR_ro {n i : Nat} {exm : Str → Bool} {suite : SF} {e : DE} {d : List D} : tryR n i exm suite e (some (.ro d)) = some (.ro d) := rfl
theorem tryR_nx {n i : Nat} {exm : Str → Bool} {suite : SF} {e e1 : DE} : tryR n i exm suite e (some (.nx e1)) = some (.nx e1) := rfl
theorem gAdd_eq (a b : Int) : gAdd (.int a) (.int b) = some (.int (a + b)) := rfl
theorem gSub_eq (a b : Int) : gSub' (.int a) (.int b) = some (.int (a - b)) := rfl
theorem gLt_eq (a b : Int) : gLt (.int a) (.int b) = some (.bl (decide (a < b))) := rfl
theorem gGt_eq (a b : Int) : gGt (.int a) (.int b) = some (.bl (decide (b < a))) := rfl
theorem gMul_eq {a b : Int} (h : IntMulOk a b) : gMul (.int a) (.int b) = some (.int (a * b)) := by show (if _ then _ else _) = _; rw [if_pos h]
theorem gDiv_eq {a b : Int} (h : 0 < b ∧ b.natAbs.log2 < 9000) : gDiv (.int a) (.int b) = some (.int (a / b)) := by show (if _ then _ else _) = _; rw [if_pos h]
theorem gMod_eq {a b : Int} (h : 0 < b) : gMod (.int a) (.int b) = some (.int (a % b)) := by show (if _ then _ else _) = _; rw [if_pos h]
theorem gPow_eq {a b : Int} (h : CPow a b) : gPow (.int a) (.int b) = some (.int (a ^ b.toNat)) := by show (if _ then _ else _) = _; rw [if_pos h]
end
def Fits (i : Int) : Prop := Builtin.Int.intBits i ≤ 2 ^ 20
theorem bits_le {a b : Int} (h : a.natAbs ≤ b.natAbs) : Builtin.Int.intBits a ≤ Builtin.Int.intBits b := by
 unfold Builtin.Int.intBits
 split
 ·exact Nat.zero_le _
 ·rename_i ha
  have ha' : a.natAbs ≠ 0 := by
   intro z; apply ha; first | exact Int.natAbs_eq_zero.mp z | (simpa using z)
  have hb' : b.natAbs ≠ 0 := by omega
  split
  ·rename_i hb
   exact absurd (by first | exact Int.natAbs_eq_zero.mpr hb | (simpa using hb)) hb'
  ·have h1 : b.natAbs < 2 ^ (b.natAbs.log2 + 1) := Nat.lt_log2_self
   have h2 : a.natAbs.log2 < b.natAbs.log2 + 1 := (Nat.log2_lt ha').mpr (by omega)
   omega
theorem Fits.le {a b : Int} (h : Fits b) (l : a.natAbs ≤ b.natAbs) : Fits a := Nat.le_trans (bits_le l) h
theorem Fits.mod {i n : Int} (hn : 0 < n) (h : Fits n) : Fits (i % n) := by
 refine h.le ?_
 have h1 := Int.emod_nonneg i (show n ≠ 0 by omega)
 have h2 := Int.emod_lt_of_pos i hn
 omega
theorem mul_small {a b : Int} (h : a.natAbs < 2 ^ 64) : IntMulOk a b := IntMulOk.of_left (intBits_le_64 (by omega) (by omega))
theorem mul_small' {a b : Int} (h : b.natAbs < 2 ^ 64) : IntMulOk a b := IntMulOk.of_right (intBits_le_64 (by omega) (by omega))
theorem gMul_l {a b : Int} (h : a.natAbs < 2 ^ 64) : gMul (.int a) (.int b) = some (.int (a * b)) := gMul_eq (mul_small h)
theorem gMul_r {a b : Int} (h : b.natAbs < 2 ^ 64) : gMul (.int a) (.int b) = some (.int (a * b)) := gMul_eq (mul_small' h)
section
variable {α : Type}
theorem atI_0 {a : α} {l : List α} : atI (a :: l) 0 = some a := by unfold atI ixN; simp
theorem atI_s {a : α} {l : List α} {n : Nat} : atI (a :: l) ((n : Int) + 1) = atI l n := by
 unfold atI ixN
 have h1 : (0 : Int) ≤ (n : Int) + 1 := by omega
 have h2 : (0 : Int) ≤ (n : Int) := by omega
 rw [if_pos h1, if_pos h2]
 by_cases z : (n : Int) < (l.length : Int)
 ·rw [if_pos z, if_pos (by rw [List.length_cons]; push_cast; omega)]
  show (a :: l)[((n : Int) + 1).toNat]? = l[((n : Int)).toNat]?
  rw [show ((n : Int) + 1).toNat = n + 1 by omega, show ((n : Int)).toNat = n by omega]
  rfl
 ·rw [if_neg z, if_neg (by rw [List.length_cons]; push_cast; omega)]
  rfl
theorem atI_1 {a b : α} {l : List α} : atI (a :: b :: l) 1 = some b := (atI_s (n := 0)).trans atI_0
theorem atI_2 {a b c : α} {l : List α} : atI (a :: b :: c :: l) 2 = some c := (atI_s (n := 1)).trans atI_1
theorem atI_3 {a b c d : α} {l : List α} : atI (a :: b :: c :: d :: l) 3 = some d := (atI_s (n := 2)).trans atI_2
theorem atI_4 {a b c d e : α} {l : List α} : atI (a :: b :: c :: d :: e :: l) 4 = some e := (atI_s (n := 3)).trans atI_3
theorem atI_5 {a b c d e f : α} {l : List α} : atI (a :: b :: c :: d :: e :: f :: l) 5 = some f := (atI_s (n := 4)).trans atI_4
theorem atI_6 {a b c d e f g : α} {l : List α} : atI (a :: b :: c :: d :: e :: f :: g :: l) 6 = some g := (atI_s (n := 5)).trans atI_5
end
def cellAt (ns : List Int) (k : Int) : Int := ns.getD k.toNat 0
theorem cell_eq {ns : List Int} {k : Int} (hk : 0 ≤ k) : (if k < (ns.length : Int) then (match atI ns k with
  | none => none
  | some n => some (R1.ret (D.int n))) else some (R1.ret (D.int 0))) = some (R1.ret (D.int (cellAt ns k))) := by
 unfold cellAt
 by_cases z : k < (ns.length : Int)
 ·rw [if_pos z]
  have h : k.toNat < ns.length := by omega
  have e : atI ns k = some ns[k.toNat] := by
   unfold atI ixN
   rw [if_pos hk, if_pos z]
   exact List.getElem?_eq_getElem h
  rw [e, List.getD_eq_getElem?_getD, List.getElem?_eq_getElem h]; rfl
 ·rw [if_neg z, List.getD_eq_getElem?_getD, List.getElem?_eq_none (by omega)]; rfl
section
variable {P : Program} {w : World} {mg : Str → Option Value} {base : Heap} {K : W.Frag} {cl : Str → Addr} {E : XK} {σ : St} {H F : Hp} {env : DE} {k : Nat}
theorem fnok_none {f : Addr} {fd : FuncData} {ps : List Str} {n : Nat} : FnOk P w K mg base (CXe P w) n f fd ps (spD K cl fun _ => none) :=
 ⟨fun vs H Q E ⟨_, _, _, _, h⟩ => h.elim, fun A outer s H args us vs Q E _ _ _ _ ⟨_, _, _, _, h⟩ => h.elim⟩
end
def optB (x : Option DE) (k : DE → Option (R (List D))) : Option (R (List D)) := match x with
 | none => none
 | some e => k e
theorem optB_some {e : DE} {k : DE → Option (R (List D))} : optB (some e) k = k e := rfl
theorem compD_nil {b : GF} {c : BF} {el : ZF} {ec eo : DE} {acc : List D} : compD b c el ec eo [] acc = some (.ok acc eo) := rfl
section
variable {K : W.Frag} {cl : Str → Addr} {E : XK} {σ : St} {H F : Hp} {env : DE} {k : Nat}
def inD (d : D) (es : List D) : Bool := es.any fun e => eqD e d
theorem Rps.inV {d : D} {v : V} (p : Rp K cl F d v) (f : flatD d = true) : ∀ {es : List D} {us : List V}, Rps K cl F es us → es.all flatD = true → L2.inV v us = inD d es
 | [], _, h, _ => by rw [h.inv0]; rfl
 | e :: es, _, h, fe => by
  obtain ⟨u, r, rfl, h1, h2⟩ := h.inv
  rw [List.all_cons, Bool.and_eq_true] at fe
  have := Rps.inV p f h2 fe.2
  unfold L2.inV inD at this ⊢
  rw [List.any_cons, List.any_cons, h1.eq p fe.1 f, this]
def gIn (neg : Bool) (d e : D) : Option D := match e with
 | .lst es => if (flatD d && es.all flatD) = true then some (.bl (if neg then !inD d es else inD d es)) else none
 | .tup es => if (flatD d && es.all flatD) = true then some (.bl (if neg then !inD d es else inD d es)) else none
 | _ => none
theorem Rb.flat {d : D} {v : V} (h : Rb K cl F H d v) (f : flatD d = true) : Rp K cl F d v := by
 rcases h with h | ⟨_, _, _, _, rfl, _⟩
 ·exact h
 ·cases f
theorem ok_in {neg : Bool} : OpOk K cl (rIn K neg) (gIn neg) := by
 intro x y d e z H F Q s hx hy h q
 unfold gIn at h
 split at h
 ·split at h
  ·rename_i c; cases h
   rw [Bool.and_eq_true] at c
   obtain ⟨a, xs, rfl, hH, r⟩ := hy.lst s
   have px := hx.flat c.1
   refine ⟨a, xs, rfl, .inl (.of hH), (px.flat c.1).2, r.flat c.2, q _ H F (.refl s) ?_⟩
   simp only [Rp]; rw [r.inV px c.1 c.2]
  ·cases h
 ·split at h
  ·rename_i c; cases h
   rw [Bool.and_eq_true] at c
   obtain ⟨a, xs, rfl, hH, r⟩ := hy.tup s
   have px := hx.flat c.1
   refine ⟨a, xs, rfl, .inr (.of hH), (px.flat c.1).2, r.flat c.2, q _ H F (.refl s) ?_⟩
   simp only [Rp]; rw [r.inV px c.1 c.2]
  ·cases h
 ·cases h
abbrev JF := DE → Str → Option (R Str)
def PJs : Py Str Str := fun b _ _ _ _ _ c => c = b
theorem pm_J : PM PJs := fun _ _ _ _ _ _ _ _ _ h => h
def RfJ (K : W.Frag) (cl : Str → Addr) (E : XK) (t : TJ) (f : JF) : Prop := ∀ σ H acc Q env F, Rel K cl σ H F env → Ct K cl E PJs (f env acc) σ H F env Q → t σ H acc Q
def jN : JF := fun e acc => if acc.length ≤ sizeLine then some (.ok acc e) else none
def jC (f : ZF) (k : JF) : JF := fun e acc => bnd (f e) fun d e1 => match d with
 | .str y => if (acc ++ y).length ≤ sizeLine then k e1 (acc ++ y) else none
 | _ => none
theorem rf_jN : RfJ K cl E tJNil jN := by
 intro σ H acc Q env F R h
 unfold jN at h
 split at h
 ·rename_i c; exact ⟨c, h acc H F Frm.refl R rfl⟩
 ·exact h.elim
theorem rf_jC {t : TE} {u : TJ} {f : ZF} {k : JF} (hf : RfZ K cl E t f) (hk : RfJ K cl E u k) : RfJ K cl E (tJCons t u) (jC f k) := by
 intro σ H acc Q env F R h
 refine hf σ H _ env F R ((Ct.bnd h pm_J).mono fun x H1 ⟨F1, e1, d, s1, R1, p1, h1⟩ => ?_)
 split at h1
 ·rename_i y
  split at h1
  ·rename_i c
   have hx : x = .str y := by have := (show Rp K cl F1 (.str y) x from p1); simpa only [Rp] using this
   exact ⟨y, hx, c, hk σ H1 _ Q e1 F1 R1 h1⟩
  ·exact h1.elim
 ·exact h1.elim
def eJ (f : JF) : ZF := fun e => bnd (f e Str.empty) fun y e1 => some (.ok (.str y) e1)
theorem rf_J {t : TJ} {f : JF} (hf : RfJ K cl E t f) : RfZ K cl E (tJoin t) (eJ f) := by
 intro σ H Q env F R h
 refine hf σ H _ _ env F R ((Ct.bnd h pm_Z).mono fun x H1 ⟨F1, e1, y, s1, R1, p1, h1⟩ => ?_)
 cases (show x = y from p1)
 exact h1 _ H1 F1 Frm.refl R1 (by show Rp K cl F1 (.str _) _; simp only [Rp])
def eFmt (f : ZF) : ZF := fun e => bnd (f e) fun d e1 => match d with
 | .int i => if i.natAbs.log2 < 1920 then some (.ok (.str (toString i)) e1) else none
 | .str y => if y.length ≤ sizeLine then some (.ok (.str y) e1) else none
 | _ => none
theorem rf_Fmt {t : TE} {f : ZF} (hf : RfZ K cl E t f) : RfZ K cl E (tFmt t) (eFmt f) := by
 intro σ H Q env F R h
 refine hf σ H _ env F R ((Ct.bnd h pm_Z).mono fun x H1 ⟨F1, e1, d, s1, R1, p1, h1⟩ => ?_)
 split at h1
 ·rename_i i
  split at h1
  ·rename_i c
   have hx : x = .int i := by have := (show Rp K cl F1 (.int i) x from p1); simpa only [Rp] using this
   exact .inl ⟨i, hx, c, h1 _ H1 F1 Frm.refl R1 (by show Rp K cl F1 (.str _) _; simp only [Rp])⟩
  ·exact h1.elim
 ·rename_i y
  split at h1
  ·rename_i c
   have hx : x = .str y := by have := (show Rp K cl F1 (.str y) x from p1); simpa only [Rp] using this
   exact .inr ⟨y, hx, c, h1 _ H1 F1 Frm.refl R1 (by show Rp K cl F1 (.str _) _; simp only [Rp])⟩
  ·exact h1.elim
 ·exact h1.elim
end
mutual
def eqB : D → D → Bool
 | .tup ds, e => (match e with
  | .tup es => eqBs ds es
  | _ => false)
 | .lst ds, e => (match e with
  | .lst es => eqBs ds es
  | _ => false)
 | d, e => eqD d e
def eqBs : List D → List D → Bool
 | [], es => es.isEmpty
 | d :: ds, es => (match es with
  | [] => false
  | e :: es => eqB d e && eqBs ds es)
end
mutual
def plainD : D → Bool
 | .tup ds => plainDs ds
 | .lst ds => plainDs ds
 | d => flatD d
def plainDs : List D → Bool
 | [] => true
 | d :: ds => plainD d && plainDs ds
end
mutual
def depD : D → Nat
 | .tup ds => depDs ds + 1
 | .lst ds => depDs ds + 1
 | _ => 0
def depDs : List D → Nat
 | [] => 0
 | d :: ds => max (depD d) (depDs ds)
end
def eAtD (ds es : List D) (j : Nat) : Bool := match ds[j]?, es[j]? with
 | some d, some e => eqB d e
 | _, _ => true
theorem eqBs_range : ∀ {ds es : List D}, ds.length = es.length → (List.range ds.length).all (eAtD ds es) = eqBs ds es
 | [], [], _ => by simp [eqBs]
 | d :: ds, e :: es, h => by
  have h' : ds.length = es.length := by simpa using h
  simp only [eqBs]
  show (List.range (ds.length + 1)).all _ = (eqB d e && eqBs ds es)
  rw [List.range_succ_eq_map, List.all_cons, List.all_map, ← eqBs_range h']
  rfl
theorem eqBs_len : ∀ {ds es : List D}, ds.length ≠ es.length → eqBs ds es = false
 | [], [], h => absurd rfl h
 | _ :: _, [], _ => by simp [eqBs]
 | [], _ :: _, _ => by simp [eqBs]
 | d :: ds, e :: es, h => by
  simp only [eqBs]
  rw [eqBs_len (fun q => h (by simp [q])), Bool.and_false]
section
variable {K : W.Frag} {cl : Str → Addr} {F : Hp}
theorem eqD_flat {d e : D} {v : V} (fd : flatD d = true) (p : Rp K cl F d v) (q : Rp K cl F e v) (pe : plainD e = true) : eqD d e = true := by
 cases d <;> first | (cases fd; done) | skip
 all_goals simp only [Rp] at p; subst p
 all_goals cases e <;> simp only [Rp] at q <;> first | (cases q; done) | (cases q; simp [eqD]; done) | (obtain ⟨_, _, z, _⟩ := q; cases z; done) | (obtain ⟨_, z, _⟩ := q; cases z; done) | (simp [plainD, flatD] at pe; done)
mutual
theorem same_eq : ∀ (d e : D) (v : V), Rp K cl F d v → Rp K cl F e v → plainD d = true → plainD e = true → eqB d e = true
 | .tup ds, e, v, p, q, pd, pe => by
  simp only [Rp] at p
  obtain ⟨a, xs, rfl, ha, r⟩ := p
  cases e <;> simp only [Rp] at q
  case tup es =>
   obtain ⟨a', ys, z, ha', r'⟩ := q
   cases z; rw [ha] at ha'; cases ha'
   simp only [plainD] at pd pe
   simp only [eqB]
   exact sames_eq ds es xs r r' pd pe
  case lst es =>
   obtain ⟨a', ys, z, ha', r'⟩ := q
   cases z; rw [ha] at ha'; cases ha'
  all_goals first | (cases q; done) | (simp [plainD, flatD] at pe; done)
 | .lst ds, e, v, p, q, pd, pe => by
  simp only [Rp] at p
  obtain ⟨a, xs, rfl, ha, r⟩ := p
  cases e <;> simp only [Rp] at q
  case lst es =>
   obtain ⟨a', ys, z, ha', r'⟩ := q
   cases z; rw [ha] at ha'; cases ha'
   simp only [plainD] at pd pe
   simp only [eqB]
   exact sames_eq ds es xs r r' pd pe
  case tup es =>
   obtain ⟨a', ys, z, ha', r'⟩ := q
   cases z; rw [ha] at ha'; cases ha'
  all_goals first | (cases q; done) | (simp [plainD, flatD] at pe; done)
 | .non, e, v, p, q, pd, pe => by simp only [eqB]; exact eqD_flat rfl p q pe
 | .bl _, e, v, p, q, pd, pe => by simp only [eqB]; exact eqD_flat rfl p q pe
 | .int _, e, v, p, q, pd, pe => by simp only [eqB]; exact eqD_flat rfl p q pe
 | .str _, e, v, p, q, pd, pe => by simp only [eqB]; exact eqD_flat rfl p q pe
 | .ty _, e, v, p, q, pd, pe => by simp [plainD, flatD] at pd
 | .cls _, e, v, p, q, pd, pe => by simp [plainD, flatD] at pd
 | .scr _, e, v, p, q, pd, pe => by simp [plainD, flatD] at pd
 | .exc _, e, v, p, q, pd, pe => by simp [plainD, flatD] at pd
 | .obj _ _ _, e, v, p, q, pd, pe => by simp [plainD, flatD] at pd
theorem sames_eq : ∀ (ds es : List D) (vs : List V), Rps K cl F ds vs → Rps K cl F es vs → plainDs ds = true → plainDs es = true → eqBs ds es = true
 | [], es, vs, p, q, _, _ => by
  rw [p.inv0] at q
  cases es with
  | nil => simp [eqBs]
  | cons e es => obtain ⟨_, _, z, _⟩ := q.inv; cases z
 | d :: ds, es, vs, p, q, pd, pe => by
  obtain ⟨v, r, rfl, p1, p2⟩ := p.inv
  cases es with
  | nil => have := q.inv0; cases this
  | cons e es =>
   obtain ⟨v', r', z, q1, q2⟩ := q.inv
   cases z
   simp only [plainDs, Bool.and_eq_true] at pd pe
   simp only [eqBs]
   rw [same_eq d e v p1 q1 pd.1 pe.1, sames_eq ds es r p2 q2 pd.2 pe.2]; rfl
end
end
section
variable {X : Cx} {cl : Str → Addr} {F : Hp} {pins : List (Addr × Obj)} {σ : St} {H : Hp} {s : Shared}
theorem ref_flat {a : Addr} {d : D} {v : V} {u : Value} {A : Around} (hu : A.units < cLine) (hl : (∃ xs, SqL X.K H a xs) ∨ ∃ xs, SqT X.K H a xs) (I : Inv X pins σ H s) (f : flatD d = true) (p : Rp X.K cl F d v) (r : RelV v u) : SeqAt.EqAt A s (.ref a) u false ∧ SeqAt.EqAt A s u (.ref a) false := by
 rcases hl with ⟨xs, h⟩ | ⟨xs, h⟩
 ·obtain ⟨us, r1, p1, z1⟩ := I.list h
  have q := p1.isList
  cases d <;> first | (cases f; done) | skip
  all_goals simp only [Rp] at p; subst p
  ·cases r; exact ⟨.list_none q hu, .none_list q hu⟩
  ·cases r; exact ⟨.list_bool _ q hu, .bool_list _ q hu⟩
  ·obtain ⟨t, rfl⟩ := r; exact ⟨.list_int _ _ q hu, .int_list _ _ q hu⟩
  ·obtain ⟨t, rfl⟩ := r; exact ⟨.list_str _ _ q hu, .str_list _ _ q hu⟩
 ·obtain ⟨us, r1, q, z1⟩ := I.tuple h
  cases d <;> first | (cases f; done) | skip
  all_goals simp only [Rp] at p; subst p
  ·cases r; exact ⟨.tuple_none q hu, .none_tuple q hu⟩
  ·cases r; exact ⟨.tuple_bool _ q hu, .bool_tuple _ q hu⟩
  ·obtain ⟨t, rfl⟩ := r; exact ⟨.tuple_int _ _ q hu, .int_tuple _ _ q hu⟩
  ·obtain ⟨t, rfl⟩ := r; exact ⟨.tuple_str _ _ q hu, .str_tuple _ _ q hu⟩
theorem flat_plain {d : D} (p : plainD d = true) : flatD d = true ∨ (∃ ds, d = .tup ds) ∨ ∃ ds, d = .lst ds := by
 cases d <;> first | exact .inl rfl | exact .inr (.inl ⟨_, rfl⟩) | exact .inr (.inr ⟨_, rfl⟩) | (simp [plainD, flatD] at p; done)
theorem eqB_flat {d e : D} (f : flatD d = true) : eqB d e = eqD d e := by cases d <;> first | (cases f; done) | simp only [eqB]
theorem flat_deep {d e : D} {v u : V} {a b : Value} {A : Around} (I : Inv X pins σ H s) (sF : Same F H) (hu : A.units < cLine) (f : flatD d = true) (p : Rp X.K cl F d v) (q : Rp X.K cl F e u) (rv : RelV v a) (ru : RelV u b) (pe : plainD e = true) : SeqAt.EqAt A s a b (eqB d e) := by
 rw [eqB_flat f]
 rcases flat_plain pe with fe | ⟨es, rfl⟩ | ⟨es, rfl⟩
 ·rw [← p.eq q f fe]
  exact eqAt_V rv ru (p.flat f).2 (q.flat fe).2
 ·simp only [Rp] at q
  obtain ⟨c, ys, rfl, hb, r'⟩ := q
  cases ru
  have := (ref_flat (A := A) hu (.inr ⟨ys, .of (sF _ _ hb)⟩) I f p rv).2
  have z : eqD d (.tup es) = false := by cases d <;> first | (cases f; done) | rfl
  rw [z]; exact this
 ·simp only [Rp] at q
  obtain ⟨c, ys, rfl, hb, r'⟩ := q
  cases ru
  have := (ref_flat (A := A) hu (.inl ⟨ys, .of (sF _ _ hb)⟩) I f p rv).2
  have z : eqD d (.lst es) = false := by cases d <;> first | (cases f; done) | rfl
  rw [z]; exact this
mutual
theorem deep_eq (I : Inv X pins σ H s) (sF : Same F H) : ∀ (d e : D) (v u : V) (a b : Value) (A : Around), A.units + depD d < cLine → Rp X.K cl F d v → Rp X.K cl F e u → RelV v a → RelV u b → plainD d = true → plainD e = true → SeqAt.EqAt A s a b (eqB d e)
 | .tup ds, e, v, u, va, ua, A, hu, p, q, rv, ru, pd, pe => by
  have p0 := p
  have hu' : A.units < cLine := by omega
  simp only [depD] at hu
  simp only [Rp] at p
  obtain ⟨a, xs, rfl, ha, r⟩ := p
  cases rv
  have ha' := sF _ _ ha
  rcases flat_plain pe with f | ⟨es, rfl⟩ | ⟨es, rfl⟩
  ·have := (ref_flat (A := A) hu' (.inr ⟨xs, .of ha'⟩) I f q ru).1
   have z : eqB (.tup ds) e = false := by cases e <;> first | (cases f; done) | simp only [eqB]
   rw [z]; exact this
  ·have q0 := q
   simp only [Rp] at q
   obtain ⟨b, ys, rfl, hb, r'⟩ := q
   cases ru
   have hb' := sF _ _ hb
   by_cases z : a = b
   ·subst z
    rw [same_eq _ _ _ p0 q0 pd pe]
    exact .same _
   ·obtain ⟨us, r1, p1, _⟩ := I.tuple (.of ha')
    obtain ⟨ws, r2, p2, _⟩ := I.tuple (.of hb')
    simp only [plainD] at pd pe
    have he : ∀ j (h1 : j < us.toArray.size) (h2 : j < ws.toArray.size), SeqAt.EqAt A.in1 s us.toArray[j] ws.toArray[j] (eAtD ds es j) := deep_eqs I sF ds es xs ys us ws A.in1 (by show A.units + 1 + depDs ds < cLine; omega) r r' r1 r2 pd pe
    have := SeqAt.EqAt.of_refs z (SeqAt.RcAt.tuples p1 p2 hu' he)
    have e1 : us.toArray.size = ds.length := by simp [← r1.length, r.length]
    have e2 : ws.toArray.size = es.length := by simp [← r2.length, r'.length]
    rw [e1, e2] at this
    simp only [eqB]
    by_cases hl : ds.length = es.length
    ·rw [← hl, Nat.min_self, eqBs_range hl, beq_self_eq_true, Bool.and_true] at this
     exact this
    ·rw [eqBs_len hl]
     rw [beq_eq_false_iff_ne.mpr hl, Bool.and_false] at this
     exact this
  ·simp only [Rp] at q
   obtain ⟨b, ys, rfl, hb, r'⟩ := q
   cases ru
   obtain ⟨us, r1, p1, _⟩ := I.tuple (.of ha')
   obtain ⟨ws, r2, p2, _⟩ := I.list (.of (sF _ _ hb))
   simp only [eqB]
   exact .tuple_list p1 p2.isList hu'
 | .lst ds, e, v, u, va, ua, A, hu, p, q, rv, ru, pd, pe => by
  have p0 := p
  have hu' : A.units < cLine := by omega
  simp only [depD] at hu
  simp only [Rp] at p
  obtain ⟨a, xs, rfl, ha, r⟩ := p
  cases rv
  have ha' := sF _ _ ha
  rcases flat_plain pe with f | ⟨es, rfl⟩ | ⟨es, rfl⟩
  ·have := (ref_flat (A := A) hu' (.inl ⟨xs, .of ha'⟩) I f q ru).1
   have z : eqB (.lst ds) e = false := by cases e <;> first | (cases f; done) | simp only [eqB]
   rw [z]; exact this
  ·simp only [Rp] at q
   obtain ⟨b, ys, rfl, hb, r'⟩ := q
   cases ru
   obtain ⟨us, r1, p1, _⟩ := I.list (.of ha')
   obtain ⟨ws, r2, p2, _⟩ := I.tuple (.of (sF _ _ hb))
   simp only [eqB]
   exact .list_tuple p1.isList p2 hu'
  ·have q0 := q
   simp only [Rp] at q
   obtain ⟨b, ys, rfl, hb, r'⟩ := q
   cases ru
   have hb' := sF _ _ hb
   by_cases z : a = b
   ·subst z
    rw [same_eq _ _ _ p0 q0 pd pe]
    exact .same _
   ·obtain ⟨us, r1, p1, _⟩ := I.list (.of ha')
    obtain ⟨ws, r2, p2, _⟩ := I.list (.of hb')
    simp only [plainD] at pd pe
    have he : ∀ j (h1 : j < us.toArray.size) (h2 : j < ws.toArray.size), SeqAt.EqAt A.in1 s us.toArray[j] ws.toArray[j] (eAtD ds es j) := deep_eqs I sF ds es xs ys us ws A.in1 (by show A.units + 1 + depDs ds < cLine; omega) r r' r1 r2 pd pe
    have e1 : us.toArray.size = ds.length := by simp [← r1.length, r.length]
    have e2 : ws.toArray.size = es.length := by simp [← r2.length, r'.length]
    simp only [eqB]
    by_cases hl : ds.length = es.length
    ·have := SeqAt.EqAt.of_refs z (SeqAt.RcAt.lists p1.isList p2.isList (by rw [e1, e2, hl]) hu' he)
     rw [e1, eqBs_range hl] at this
     exact this
    ·rw [eqBs_len hl]
     exact SeqAt.EqAt.of_refs z (SeqAt.RcAt.lists_lengths p1.isList p2.isList (by rw [e1, e2]; simp [hl]) hu')
 | .non, e, v, u, va, ua, A, hu, p, q, rv, ru, pd, pe => flat_deep I sF (by omega) rfl p q rv ru pe
 | .bl _, e, v, u, va, ua, A, hu, p, q, rv, ru, pd, pe => flat_deep I sF (by omega) rfl p q rv ru pe
 | .int _, e, v, u, va, ua, A, hu, p, q, rv, ru, pd, pe => flat_deep I sF (by omega) rfl p q rv ru pe
 | .str _, e, v, u, va, ua, A, hu, p, q, rv, ru, pd, pe => flat_deep I sF (by omega) rfl p q rv ru pe
 | .ty _, e, v, u, va, ua, A, hu, p, q, rv, ru, pd, pe => by simp [plainD, flatD] at pd
 | .cls _, e, v, u, va, ua, A, hu, p, q, rv, ru, pd, pe => by simp [plainD, flatD] at pd
 | .scr _, e, v, u, va, ua, A, hu, p, q, rv, ru, pd, pe => by simp [plainD, flatD] at pd
 | .exc _, e, v, u, va, ua, A, hu, p, q, rv, ru, pd, pe => by simp [plainD, flatD] at pd
 | .obj _ _ _, e, v, u, va, ua, A, hu, p, q, rv, ru, pd, pe => by simp [plainD, flatD] at pd
theorem deep_eqs (I : Inv X pins σ H s) (sF : Same F H) : ∀ (ds es : List D) (xs ys : List V) (us ws : List Value) (A : Around), A.units + depDs ds < cLine → Rps X.K cl F ds xs → Rps X.K cl F es ys → Vals xs us → Vals ys ws → plainDs ds = true → plainDs es = true → ∀ j (h1 : j < us.toArray.size) (h2 : j < ws.toArray.size), SeqAt.EqAt A s us.toArray[j] ws.toArray[j] (eAtD ds es j)
 | [], es, xs, ys, us, ws, A, hu, p, q, rv, rw', pd, pe => fun j h1 h2 => by
  rw [p.inv0] at rv; cases rv; simp at h1
 | d :: ds, es, xs, ys, us, ws, A, hu, p, q, rv, rw', pd, pe => fun j h1 h2 => by
  obtain ⟨x, xs', rfl, p1, p2⟩ := p.inv
  cases rv with
  | cons r1 t1 =>
   cases es with
   | nil => rw [q.inv0] at rw'; cases rw'; simp at h2
   | cons e es =>
    obtain ⟨y, ys', rfl, q1, q2⟩ := q.inv
    cases rw' with
    | cons r2 t2 =>
     simp only [plainDs, Bool.and_eq_true] at pd pe
     simp only [depDs] at hu
     cases j with
     | zero => exact deep_eq I sF d e x y _ _ A (by omega) p1 q1 r1 r2 pd.1 pe.1
     | succ j =>
      have := deep_eqs I sF ds es xs' ys' _ _ A (by omega) p2 q2 t1 t2 pd.2 pe.2 j (by simpa using h1) (by simpa using h2)
      simpa [eAtD] using this
end
end
theorem hu40 {A : Around} {k : Nat} (hr : Room k A) : A.units + 41 < cLine := Nat.lt_of_le_of_lt (Nat.add_le_add_left (by decide : 41 ≤ 64) _) hr.units
def seqD? : D → Bool
 | .tup _ => true
 | .lst _ => true
 | _ => false
theorem Rb.toRp {K : W.Frag} {cl : Str → Addr} {F H : Hp} {d : D} {v : V} (s : Same F H) (h : Rb K cl F H d v) : ∃ F', Same F F' ∧ Same F' H ∧ Rp K cl F' d v := by
 rcases h with h | ⟨a, xs, ds, rfl, rfl, ha, r⟩
 ·exact ⟨F, Same.refl _, s, h⟩
 ·have g : Same F (upd F a (.lst xs)) := fun b o q => by
   by_cases z : b = a
   ·subst z; have := s _ _ q; rw [ha] at this; cases this; exact upd_same
   ·rw [upd_ne z]; exact q
  refine ⟨upd F a (.lst xs), g, fun b o q => ?_, ?_⟩
  ·by_cases z : b = a
   ·subst z; rw [upd_same] at q; cases q; exact ha
   ·rw [upd_ne z] at q; exact s _ _ q
  ·simp only [Rp]; exact ⟨a, xs, rfl, upd_same, r.mono g⟩
section
variable {X : Cx} {cl : Str → Addr} {F : Hp} {pins : List (Addr × Obj)} {σ : St} {H : Hp} {s : Shared}
theorem rc_flat {a : Addr} {d : D} {v : V} {u : Value} {A : Around} (hu : A.units < cLine) (hl : (∃ xs, SqL X.K H a xs) ∨ ∃ xs, SqT X.K H a xs) (I : Inv X pins σ H s) (f : flatD d = true) (p : Rp X.K cl F d v) (r : RelV v u) :
  (SeqAt.RcAt A s (.ref a) u false ∧ SeqAt.RcAt A s u (.ref a) false) ∧ SeqAt.RcNeAt A s (.ref a) u true ∧ SeqAt.RcNeAt A s u (.ref a) true := by
 rcases hl with ⟨xs, h⟩ | ⟨xs, h⟩
 ·obtain ⟨us, r1, p1, z1⟩ := I.list h
  have q := p1.isList
  cases d <;> first | (cases f; done) | skip
  all_goals simp only [Rp] at p; subst p
  ·cases r; exact ⟨⟨.list_none q hu, .none_list q hu⟩, .list_none q hu, .none_list q hu⟩
  ·cases r; exact ⟨⟨.list_bool _ q hu, .bool_list _ q hu⟩, .list_bool _ q hu, .bool_list _ q hu⟩
  ·obtain ⟨t, rfl⟩ := r; exact ⟨⟨.list_int _ _ q hu, .int_list _ _ q hu⟩, .list_int _ _ q hu, .int_list _ _ q hu⟩
  ·obtain ⟨t, rfl⟩ := r; exact ⟨⟨.list_str _ _ q hu, .str_list _ _ q hu⟩, .list_str _ _ q hu, .str_list _ _ q hu⟩
 ·obtain ⟨us, r1, q, z1⟩ := I.tuple h
  cases d <;> first | (cases f; done) | skip
  all_goals simp only [Rp] at p; subst p
  ·cases r; exact ⟨⟨.tuple_none q hu, .none_tuple q hu⟩, .tuple_none q hu, .none_tuple q hu⟩
  ·cases r; exact ⟨⟨.tuple_bool _ q hu, .bool_tuple _ q hu⟩, .tuple_bool _ q hu, .bool_tuple _ q hu⟩
  ·obtain ⟨t, rfl⟩ := r; exact ⟨⟨.tuple_int _ _ q hu, .int_tuple _ _ q hu⟩, .tuple_int _ _ q hu, .int_tuple _ _ q hu⟩
  ·obtain ⟨t, rfl⟩ := r; exact ⟨⟨.tuple_str _ _ q hu, .str_tuple _ _ q hu⟩, .tuple_str _ _ q hu, .str_tuple _ _ q hu⟩
theorem rc_deep {d e : D} {v u : V} {a b : Value} {A : Around} (I : Inv X pins σ H s) (sF : Same F H) (hu : A.units + depD d < cLine) (p : Rp X.K cl F d v) (q : Rp X.K cl F e u) (rv : RelV v a) (ru : RelV u b) (pd : plainD d = true) (pe : plainD e = true) (hs : seqD? d = true ∨ seqD? e = true) :
  SeqAt.RcAt A s a b (eqB d e) ∧ SeqAt.RcNeAt A s a b (!eqB d e) := by
 have hu' : A.units < cLine := by omega
 rcases flat_plain pd with fd | ⟨ds, rfl⟩ | ⟨ds, rfl⟩
 ·have se : seqD? e = true := hs.resolve_left (by cases d <;> first | (cases fd; done) | simp [seqD?])
  rcases flat_plain pe with fe | ⟨es, rfl⟩ | ⟨es, rfl⟩
  ·cases e <;> first | (cases fe; done) | (cases se; done)
  ·simp only [Rp] at q
   obtain ⟨c, ys, rfl, hb, r'⟩ := q
   cases ru
   have := rc_flat (A := A) hu' (.inr ⟨ys, .of (sF _ _ hb)⟩) I fd p rv
   have z : eqB d (.tup es) = false := by cases d <;> first | (cases fd; done) | simp [eqB, eqD]
   rw [z]; exact ⟨this.1.2, this.2.2⟩
  ·simp only [Rp] at q
   obtain ⟨c, ys, rfl, hb, r'⟩ := q
   cases ru
   have := rc_flat (A := A) hu' (.inl ⟨ys, .of (sF _ _ hb)⟩) I fd p rv
   have z : eqB d (.lst es) = false := by cases d <;> first | (cases fd; done) | simp [eqB, eqD]
   rw [z]; exact ⟨this.1.2, this.2.2⟩
 ·simp only [depD] at hu
  simp only [Rp] at p
  obtain ⟨l, xs, rfl, ha, r⟩ := p
  cases rv
  have ha' := sF _ _ ha
  obtain ⟨us, r1, p1, _⟩ := I.tuple (.of ha')
  rcases flat_plain pe with fe | ⟨es, rfl⟩ | ⟨es, rfl⟩
  ·have := rc_flat (A := A) hu' (.inr ⟨xs, .of ha'⟩) I fe q ru
   have z : eqB (.tup ds) e = false := by cases e <;> first | (cases fe; done) | simp only [eqB]
   rw [z]; exact ⟨this.1.1, this.2.1⟩
  ·simp only [Rp] at q
   obtain ⟨c, ys, rfl, hb, r'⟩ := q
   cases ru
   obtain ⟨ws, r2, p2, _⟩ := I.tuple (.of (sF _ _ hb))
   simp only [plainD] at pd pe
   have he := deep_eqs I sF ds es xs ys us ws A.in1 (by show A.units + 1 + depDs ds < cLine; omega) r r' r1 r2 pd pe
   have h1 := SeqAt.RcAt.tuples p1 p2 hu' he
   have h2 := SeqAt.RcNeAt.tuples p1 p2 hu' he
   have e1 : us.toArray.size = ds.length := by simp [← r1.length, r.length]
   have e2 : ws.toArray.size = es.length := by simp [← r2.length, r'.length]
   rw [e1, e2] at h1 h2
   simp only [eqB]
   by_cases hl : ds.length = es.length
   ·rw [← hl, Nat.min_self, eqBs_range hl, beq_self_eq_true, Bool.and_true] at h1 h2
    exact ⟨h1, h2⟩
   ·rw [eqBs_len hl]
    rw [beq_eq_false_iff_ne.mpr hl, Bool.and_false] at h1 h2
    exact ⟨h1, h2⟩
  ·simp only [Rp] at q
   obtain ⟨c, ys, rfl, hb, r'⟩ := q
   cases ru
   obtain ⟨ws, r2, p2, _⟩ := I.list (.of (sF _ _ hb))
   simp only [eqB]
   exact ⟨.tuple_list p1 p2.isList hu', .tuple_list p1 p2.isList hu'⟩
 ·simp only [depD] at hu
  simp only [Rp] at p
  obtain ⟨l, xs, rfl, ha, r⟩ := p
  cases rv
  have ha' := sF _ _ ha
  obtain ⟨us, r1, p1, _⟩ := I.list (.of ha')
  rcases flat_plain pe with fe | ⟨es, rfl⟩ | ⟨es, rfl⟩
  ·have := rc_flat (A := A) hu' (.inl ⟨xs, .of ha'⟩) I fe q ru
   have z : eqB (.lst ds) e = false := by cases e <;> first | (cases fe; done) | simp only [eqB]
   rw [z]; exact ⟨this.1.1, this.2.1⟩
  ·simp only [Rp] at q
   obtain ⟨c, ys, rfl, hb, r'⟩ := q
   cases ru
   obtain ⟨ws, r2, p2, _⟩ := I.tuple (.of (sF _ _ hb))
   simp only [eqB]
   exact ⟨.list_tuple p1.isList p2 hu', .list_tuple p1.isList p2 hu'⟩
  ·simp only [Rp] at q
   obtain ⟨c, ys, rfl, hb, r'⟩ := q
   cases ru
   obtain ⟨ws, r2, p2, _⟩ := I.list (.of (sF _ _ hb))
   simp only [plainD] at pd pe
   have he := deep_eqs I sF ds es xs ys us ws A.in1 (by show A.units + 1 + depDs ds < cLine; omega) r r' r1 r2 pd pe
   have e1 : us.toArray.size = ds.length := by simp [← r1.length, r.length]
   have e2 : ws.toArray.size = es.length := by simp [← r2.length, r'.length]
   simp only [eqB]
   by_cases hl : ds.length = es.length
   ·have h1 := SeqAt.RcAt.lists p1.isList p2.isList (by rw [e1, e2, hl]) hu' he
    have h2 := SeqAt.RcNeAt.lists p1.isList p2.isList (by rw [e1, e2, hl]) hu' he
    rw [e1, eqBs_range hl] at h1 h2
    exact ⟨h1, h2⟩
   ·rw [eqBs_len hl]
    exact ⟨SeqAt.RcAt.lists_lengths p1.isList p2.isList (by rw [e1, e2]; simp [hl]) hu', SeqAt.RcNeAt.lists_lengths p1.isList p2.isList (by rw [e1, e2]; simp [hl]) hu'⟩
end
def rEqT (K : W.Frag) (cl : Str → Addr) (neg : Bool) : R2 := fun x y H Q => ∃ F d e, Same F H ∧ Rp K cl F d x ∧ Rp K cl F e y ∧ plainD d = true ∧ plainD e = true ∧ depD d ≤ 40 ∧ (seqD? d = true ∨ seqD? e = true) ∧ Q (.bl (if neg then !eqB d e else eqB d e)) H
theorem opK_eqT {X : Cx} {K : W.Frag} {cl : Str → Addr} (hu : X.A.units + 41 < cLine) (hK : X.K = K := by rfl) : OpR X (compareOp .Eq) (rEqT K cl false) := by
 subst hK
 intro pins s σ H x y v u Q I rx ry h
 obtain ⟨F, d, e, sF, p, q, pd, pe, hd, hs, hQ⟩ := h
 exact (rc_deep I sF (by omega) p q rx ry pd pe hs).1 X.prog X.w _ _ ⟨.bl _, H, I, rfl, hQ⟩
def gEqT (neg : Bool) (d e : D) : Option D := if (plainD d && plainD e && decide (depD d ≤ 40) && (seqD? d || seqD? e)) = true then some (.bl (if neg then !eqB d e else eqB d e)) else none
theorem ok_eqT {K : W.Frag} {cl : Str → Addr} {neg : Bool} : OpOk K cl (rEqT K cl neg) (gEqT neg) := by
 intro x y d e z H F Q s hx hy h q
 unfold gEqT at h
 split at h
 ·rename_i c; cases h
  simp only [Bool.and_eq_true, Bool.or_eq_true, decide_eq_true_eq] at c
  obtain ⟨F1, g1, s1, p1⟩ := hx.toRp s
  have hy1 : Rb K cl F1 H e y := by
   rcases hy with hy | ⟨a, xs, ds, e1, e2, ha, r⟩
   ·exact .inl (hy.mono g1)
   ·exact .inr ⟨a, xs, ds, e1, e2, ha, r.mono g1⟩
  obtain ⟨F2, g2, s2, p2⟩ := hy1.toRp s1
  exact ⟨F2, d, e, s2, p1.mono g2, p2, c.1.1.1, c.1.1.2, c.1.2, c.2, q _ H F (.refl s) (by simp only [Rp])⟩
 ·cases h
mutual
theorem eqB_refl : ∀ (d : D), plainD d = true → eqB d d = true
 | .tup ds, h => by simp only [plainD] at h; simp only [eqB]; exact eqBs_refl ds h
 | .lst ds, h => by simp only [plainD] at h; simp only [eqB]; exact eqBs_refl ds h
 | .non, _ => by simp [eqB, eqD]
 | .bl _, _ => by simp [eqB, eqD]
 | .int _, _ => by simp [eqB, eqD]
 | .str _, _ => by simp [eqB, eqD]
 | .ty _, h => by simp [plainD, flatD] at h
 | .cls _, h => by simp [plainD, flatD] at h
 | .scr _, h => by simp [plainD, flatD] at h
 | .exc _, h => by simp [plainD, flatD] at h
 | .obj _ _ _, h => by simp [plainD, flatD] at h
theorem eqBs_refl : ∀ (ds : List D), plainDs ds = true → eqBs ds ds = true
 | [], _ => by simp [eqBs]
 | d :: ds, h => by
  simp only [plainDs, Bool.and_eq_true] at h
  simp only [eqBs]
  rw [eqB_refl d h.1, eqBs_refl ds h.2]; rfl
end
theorem gEqT_refl {d : D} (neg : Bool) (h1 : plainD d = true) (h2 : depD d ≤ 40) (h3 : seqD? d = true) : gEqT neg d d = some (.bl (!neg)) := by
 unfold gEqT
 rw [if_pos (by simp [h1, h2, h3]), eqB_refl d h1]
 cases neg <;> rfl
section
variable {K : W.Frag} {cl : Str → Addr} {E : XK} {σ : St} {H F : Hp} {env : DE} {k : Nat}
def RfSx (K : W.Frag) (cl : Str → Addr) (E : XK) (a : Addr) (t : TS) (f : SF) : Prop := ∀ (N : Ends) σ H env F, Rel K cl σ H F env → (∃ cls, F a = some (ExcO a cls none)) → Cs K cl E (f env) σ H F env N → t N σ H
theorem RfS.x {a : Addr} {t : TS} {f : SF} (h : RfS K cl E t f) : RfSx K cl E a t f := fun N σ H env F R _ c => h N σ H env F R c
theorem rel_blank {n : Nat} (sub : Same F H) : Rel K cl (blank n) H F (List.replicate n Sl.no) := by
 have no : ∀ (j : Nat) (s : Sl), (List.replicate n Sl.no)[j]? = some s → s = .no := fun j s q => by
  rw [List.getElem?_replicate] at q
  split at q <;> cases q; rfl
 refine ⟨sub, by unfold blank; rw [List.length_replicate, List.length_replicate], fun j e q => ?_, fun j ds q => ?_, fun j l b ⟨ds, q⟩ _ _ _ => ?_⟩
 ·cases no j _ q
 ·rcases q with q | q <;> cases no j _ q
 ·rcases q with q | q <;> cases no j _ q
theorem not_ow_blank {n : Nat} {σ : St} {a : Addr} : ¬ Ow σ (List.replicate n Sl.no) a := fun ⟨j, ds, q, _⟩ => by
 rw [List.getElem?_replicate] at q
 split at q <;> cases q
end
def frzS : Sl → Sl
 | .ow ds => .fz (.lst ds)
 | .hd ds => .fz (.lst ds)
 | s => s
def frzE : DE → DE
 | [] => []
 | s :: e => frzS s :: frzE e
mutual
def noL : D → Bool
 | .lst _ => false
 | .scr _ => false
 | .exc _ => false
 | .obj _ _ _ => false
 | .tup ds => noLs ds
 | _ => true
def noLs : List D → Bool
 | [] => true
 | d :: ds => noL d && noLs ds
end
section
variable {K : W.Frag} {cl : Str → Addr} {E : XK} {σ : St} {H F F1 H' F' F2 : Hp} {env : DE}
mutual
theorem Rp.noL (g : ∀ b o, F' b = some o → (∀ xs, o ≠ .lst xs) → F2 b = some o) : ∀ (d : D) (v : V), L2.noL d = true → Rp K cl F' d v → Rp K cl F2 d v
 | .non, _, _, h => by simpa only [Rp] using h
 | .bl _, _, _, h => by simpa only [Rp] using h
 | .int _, _, _, h => by simpa only [Rp] using h
 | .str _, _, _, h => by simpa only [Rp] using h
 | .ty _, _, _, h => by simpa only [Rp] using h
 | .cls _, _, _, h => by simpa only [Rp] using h
 | .tup ds, v, n, h => by
  simp only [Rp] at h ⊢
  obtain ⟨a, xs, e, h1, h2⟩ := h
  exact ⟨a, xs, e, g _ _ h1 (fun _ z => nomatch z), Rps.noL g ds xs (by simpa only [L2.noL] using n) h2⟩
 | .lst ds, v, n, h => by simp [L2.noL] at n
 | .scr ns, v, n, h => by simp [L2.noL] at n
 | .exc c, v, n, h => by simp [L2.noL] at n
 | .obj _ _ _, v, n, h => by simp [L2.noL] at n
theorem Rps.noL (g : ∀ b o, F' b = some o → (∀ xs, o ≠ .lst xs) → F2 b = some o) : ∀ (ds : List D) (vs : List V), L2.noLs ds = true → Rps K cl F' ds vs → Rps K cl F2 ds vs
 | [], _, _, h => by simpa only [Rps] using h
 | d :: ds, vs, n, h => by
  simp only [Rps] at h ⊢
  simp only [L2.noLs, Bool.and_eq_true] at n
  obtain ⟨v, r, e, h1, h2⟩ := h
  exact ⟨v, r, e, Rp.noL g d v n.1 h1, Rps.noL g ds r n.2 h2⟩
end
def zLend (f : ZF) : ZF := fun e => match f (frzE e) with
 | some (.ok d _) => if noL d = true then some (.ok d e) else none
 | some (.ex c) => some (.ex c)
 | none => none
def bLend (f : BF) : BF := fun e => match f (frzE e) with
 | some (.ok d _) => some (.ok d e)
 | some (.ex c) => some (.ex c)
 | none => none
def bLd (r : Option (R Bool)) (e : DE) : Option (R Bool) := match r with
 | some (.ok d _) => some (.ok d e)
 | some (.ex c) => some (.ex c)
 | none => none
def zLd (r : Option (R D)) (e : DE) : Option (R D) := match r with
 | some (.ok d _) => if noL d = true then some (.ok d e) else none
 | some (.ex c) => some (.ex c)
 | none => none
theorem bLend_eq (f : BF) (e : DE) : bLend f e = bLd (f (frzE e)) e := rfl
theorem zLend_eq (f : ZF) (e : DE) : zLend f e = zLd (f (frzE e)) e := rfl
theorem bLd_ok (d : Bool) (e e2 : DE) : bLd (some (.ok d e2)) e = some (.ok d e) := rfl
theorem bLd_ex (c : Str) (e : DE) : bLd (some (.ex c)) e = some (.ex c) := rfl
theorem zLd_ok (d : D) (e e2 : DE) : zLd (some (.ok d e2)) e = if noL d = true then some (.ok d e) else none := rfl
theorem zLd_ex (c : Str) (e : DE) : zLd (some (.ex c)) e = some (.ex c) := rfl
variable {k : Nat}
end
def un : Option D → Sl
 | none => .no
 | some d => .fz d
def notHd : Sl → Bool
 | .hd _ => false
 | _ => true
def okS : Option Sl → Bool
 | none => false
 | some s => notHd s
theorem notHd_un (o : Option D) : notHd (un o) = true := by cases o <;> rfl
theorem notHd_no : notHd .no = true := rfl
theorem notHd_fz (d : D) : notHd (.fz d) = true := rfl
theorem notHd_ow (d : List D) : notHd (.ow d) = true := rfl
theorem notHd_hd (d : List D) : notHd (.hd d) = false := rfl
theorem okS_some (s : Sl) : okS (some s) = notHd s := rfl
theorem okS_none : okS none = false := rfl
theorem frzS_no : frzS .no = .no := rfl
theorem frzS_fz (d : D) : frzS (.fz d) = .fz d := rfl
theorem frzS_ow (d : List D) : frzS (.ow d) = .fz (.lst d) := rfl
theorem frzS_hd (d : List D) : frzS (.hd d) = .fz (.lst d) := rfl
theorem put_eq (i : Nat) (s : Sl) (e : DE) : put i s e = if okS e[i]? = true then some (.nx (e.set i s)) else none := by
 unfold put okS
 cases e[i]? with
 | none => rfl
 | some t => cases t <;> rfl
theorem bName_eq (i : Nat) (d : D) (e : DE) : bName i d e = if okS e[i]? = true then some (e.set i (.fz d)) else none := by
 unfold bName okS
 cases e[i]? with
 | none => rfl
 | some t => cases t <;> rfl
theorem frzS_un (o : Option D) : frzS (un o) = un o := by cases o <;> rfl
theorem noHd_nil : noHd [] = true := rfl
theorem noHd_cons (s : Sl) (e : DE) : noHd (s :: e) = (notHd s && noHd e) := by cases s <;> rfl
def nxOf (r : Option RS) : Option RS := match r with
 | some (.ct e) => some (.nx e)
 | r => r
theorem nxOf_nx (e : DE) : nxOf (some (.nx e)) = some (.nx e) := rfl
theorem nxOf_ct (e : DE) : nxOf (some (.ct e)) = some (.nx e) := rfl
theorem nxOf_rt (d : D) : nxOf (some (.rt d)) = some (.rt d) := rfl
theorem nxOf_ex (c : Str) : nxOf (some (.ex c)) = some (.ex c) := rfl
theorem nxOf_rz (d : List (List D)) : nxOf (some (.rz d)) = some (.rz d) := rfl
theorem nxOf_ro (d : List D) : nxOf (some (.ro d)) = some (.ro d) := rfl
open Classical in
section
variable {K : W.Frag} {cl : Str → Addr} {E : XK} {σ : St} {H F : Hp} {env : DE}
abbrev HF := Str → SF
def RfH (K : W.Frag) (cl : Str → Addr) (E : XK) (th : TH) (f : HF) : Prop := ∀ (N : Ends) σ H env F a c, Rel K cl σ H F env → H a = none → Cs K cl E (f c env) σ H F env N → th (.ref (cl c)) none a N σ H
def hN : HF := fun _ _ => none
def hC (exm : Str → Option Bool) (suite : SF) (rest : HF) : HF := fun c e => match exm c with
 | some true => suite e
 | some false => rest c e
 | none => none
def goneR (i : Nat) (r : Option RS) : Option RS := match r with
 | some (.nx e2) => put i .no e2
 | some (.rt d) => some (.rt d)
 | some (.ro ds) => some (.ro ds)
 | _ => none
def hAs (i : Nat) (exm : Str → Option Bool) (suite : SF) (rest : HF) : HF := fun c e => match exm c with
 | some true => (match put i (.fz (.exc c)) e with
  | some (.nx e1) => goneR i (suite e1)
  | _ => none)
 | some false => rest c e
 | none => none
theorem rf_hN : RfH K cl E thNil hN := fun _ _ _ _ _ _ _ _ _ h => h
theorem rf_hC {C : Addr} {exm : Str → Option Bool} {ts : Addr → TS} {suite : SF} {rt : TH} {rest : HF} (hx : ∀ c b, exm c = some b → W.exmOne K (.ref (cl c)) (.ref C) = some b) (hs : ∀ a, RfS K cl E (ts a) suite) (hr : RfH K cl E rt rest) : RfH K cl E (thC K C ts rt) (hC exm suite rest) := by
 intro N σ H env F a c R ha h
 unfold hC at h
 split at h
 ·rename_i q
  have gr : Gr H F (upd H a (ExcO a (.ref (cl c)) none)) (upd F a (ExcO a (.ref (cl c)) none)) := .new R.sub ha
  exact .inl ⟨hx c true q, hs a N _ _ _ _ (R.gr gr) (h.from (R.frm gr))⟩
 ·rename_i q
  exact .inr ⟨hx c false q, hr N σ H env F a c R ha h⟩
 ·exact h.elim
theorem rf_hAs {C : Addr} {i : Nat} {exm : Str → Option Bool} {ts : Addr → TS} {suite : SF} {rt : TH} {rest : HF} (hx : ∀ c b, exm c = some b → W.exmOne K (.ref (cl c)) (.ref C) = some b) (hs : ∀ a, RfS K cl E (ts a) suite) (hr : RfH K cl E rt rest) : RfH K cl E (thAs K C i ts rt) (hAs i exm suite rest) := by
 intro N σ H env F a c R ha h
 unfold hAs at h
 split at h
 ·rename_i q
  have gr : Gr H F (upd H a (ExcO a (.ref (cl c)) none)) (upd F a (ExcO a (.ref (cl c)) none)) := .new R.sub ha
  refine .inl ⟨hx c true q, ?_⟩
  have p : Rp K cl (upd F a (ExcO a (.ref (cl c)) none)) (.exc c) (.ref a) := by simp only [Rp]; exact ⟨a, none, rfl, upd_same⟩
  have h := h.from (R.frm gr)
  have R0 := R.gr gr
  generalize upd H a (ExcO a (.ref (cl c)) none) = H1 at h R0 ⊢
  generalize upd F a (ExcO a (.ref (cl c)) none) = F1 at h R0 p
  cases hp : put i (.fz (.exc c)) env with
  | none => rw [hp] at h; exact h.elim
  | some r =>
   rw [hp] at h
   cases r with
   | nx e1 =>
    obtain ⟨hi, nh, ee⟩ : i < env.length ∧ (∀ ds, env[i]? ≠ some (.hd ds)) ∧ e1 = env.set i (.fz (.exc c)) := by
     have h0 : Cs K cl (fun _ _ _ => False) (put i (.fz (.exc c)) env) σ H1 F1 env ⟨fun _ _ => True, fun _ _ => True, fun _ _ => True, fun _ _ => True⟩ := by rw [hp]; exact fun _ _ _ _ _ => trivial
     obtain ⟨a1, a2, a3⟩ := putS h0
     refine ⟨a1, a2, ?_⟩
     rw [put_eq] at hp
     revert hp
     cases env[i]? with
     | none => simp [okS]
     | some sl => cases sl <;> simp [okS, notHd] <;> intro z <;> exact z.symm
    subst ee
    have R1 := R0.put (d := .exc c) hi nh p
    have f1 : Frm σ H1 F1 env (σ.set i (some (.ref a))) H1 F1 (env.set i (.fz (.exc c))) := Frm.put nh
    refine hs a _ _ _ _ _ R1 ?_
    have h2 := Cs.from f1 h
    cases r : suite (env.set i (.fz (.exc c))) with
    | none => simp only [r, goneR] at h2; exact h2.elim
    | some rs =>
     simp only [r, goneR] at h2
     cases rs with
     | nx e2 =>
      obtain ⟨hi, nh, h3⟩ := putS h2
      intro σ2 H2 F2 f2 R2
      obtain ⟨R3, f3⟩ := R2.drop nh
      exact h3 _ H2 F2 (f2.trans f3) R3
     | bk e2 => exact h2.elim
     | ct e2 => exact h2.elim
     | rt d => exact h2
     | ro ds => exact h2
     | rz dss => exact h2.elim
     | ex c2 => exact h2.elim
   | _ => exact h.elim
 ·rename_i q
  exact .inr ⟨hx c false q, hr N σ H env F a c R ha h⟩
 ·exact h.elim
def sTryH (n : Nat) (body : SF) (fh : HF) : SF := fun e => match body e with
 | some (.ex c) => if noHd e = true then fh c (List.replicate n Sl.no) else none
 | r => r
theorem rf_TryH {n : Nat} {tb : XK → TS} {th : TH} {body : SF} {fh : HF} (hb : ∀ Eh, RfS K cl Eh (tb Eh) body) (hh : RfH K cl E th fh) : RfS K cl E (tTryH n tb th) (sTryH n body fh) := by
 intro N σ H env F R h
 refine ⟨fun cls cx H' => ∃ c F', cls = .ref (cl c) ∧ cx = none ∧ body env = some (.ex c) ∧ FX σ H F env H' F', ?_, ?_⟩
 ·refine hb _ N σ H env F R ?_
  unfold sTryH at h
  split at h
  ·rename_i c q; rw [q]
   exact fun H' F' x => ⟨c, F', rfl, rfl, rfl, x⟩
  ·rename_i n1
   unfold Cs at h ⊢
   split at h
   ·exact h
   ·exact h
   ·exact h
   ·exact h
   ·exact h
   ·exact h
   ·exact h
   ·rename_i c q; exact absurd q (n1 c)
 ·rintro cls cx H' ⟨c, F', rfl, rfl, q, x⟩ a ha
  unfold sTryH at h
  rw [q] at h
  dsimp only at h
  split at h
  ·rename_i hc
   have f1 : Frm σ H F env (blank n) H' F' (List.replicate n Sl.no) :=
    ⟨x.fz, fun b o hb fb w => by obtain ⟨h1, f1⟩ := x.hid b o hb fb w; exact ⟨h1, f1, not_ow_blank⟩, fun j ds z => absurd z (noHd_of hc j ds), fun b z => x.dom b z⟩
   exact hh N _ _ _ _ a c (rel_blank x.sub) ha (h.from f1)
  ·exact h.elim
def sTryC (g : List D → Option R1) (f : AF) (fh : HF) : SF := fun e => match f e with
 | some (.ok ds e1) => (match g ds with
  | some (.ret _) => some (.nx e1)
  | some (.own _) => some (.nx e1)
  | some (.ex c) => fh c e1
  | _ => none)
 | _ => none
theorem rf_TryC {g : List D → Option R1} {t : TA} {f : AF} {th : TH} {fh : HF} (hf : RfA K cl E t f) (hh : RfH K cl E th fh) : RfS K cl E (tTryC (spD K cl g) t th) (sTryC g f fh) := by
 intro N σ H env F R h
 unfold sTryC at h
 split at h
 ·rename_i ds e1 q
  refine ⟨fun cls cx H' => ∃ c H1 F1 F', cls = .ref (cl c) ∧ cx = none ∧ g ds = some (.ex c) ∧ Frm σ H F env σ H1 F1 e1 ∧ Rel K cl σ H1 F1 e1 ∧ Gr H1 F1 H' F', ?_, ?_⟩
  ·refine hf σ H _ env F R ?_
   rw [q]
   intro vs H1 F1 fr R1 p1
   show spD K cl g (vs ++ []) H1 _ _
   rw [List.append_nil]
   refine ⟨ds, F1, R1.sub, p1, ?_⟩
   split at h
   ·rename_i d q1; rw [q1]
    exact fun v H' F' gr _ => h σ H' F' (fr.trans (R1.frm gr)) (R1.gr gr)
   ·rename_i d q1; rw [q1]
    exact fun a xs H' F' gr _ _ _ _ => h σ H' F' (fr.trans (R1.frm gr)) (R1.gr gr)
   ·rename_i c q1; rw [q1]
    exact fun H' F' gr => ⟨c, H1, F1, F', rfl, rfl, rfl, fr, R1, gr⟩
   ·exact h.elim
  ·rintro cls cx H' ⟨c, H1, F1, F', rfl, rfl, q1, fr, R1, gr⟩ a ha
   rw [q1] at h
   exact hh N σ H' e1 F' a c (R1.gr gr) ha (Cs.from (fr.trans (R1.frm gr)) h)
 ·exact h.elim
end
section
variable {K : W.Frag} {cl : Str → Addr} {E : XK} {σ : St} {H F : Hp} {env : DE}
theorem Rps.lookup {f : Str} : ∀ {ns : List Str} {ds : List D} {xs : List V} {z : D}, Rps K cl F ds xs → (ns.zip ds).lookup f = some z → ∃ v, (ns.zip xs).lookup f = some v ∧ Rp K cl F z v
 | [], ds, xs, z, _, h => by simp at h
 | n :: ns, [], xs, z, r, h => by simp at h
 | n :: ns, d :: ds, xs, z, r, h => by
  obtain ⟨v, ys, rfl, p, r'⟩ := r.inv
  rw [List.zip_cons_cons, List.lookup_cons] at h ⊢
  by_cases q : (f == n) = true
  ·rw [q] at h ⊢; cases h; exact ⟨v, rfl, p⟩
  ·rw [Bool.not_eq_true _ |>.mp q] at h ⊢; exact r'.lookup h
theorem lookup_none {α : Type} {m : Str} : ∀ {ns : List Str} {xs : List α}, ns.contains m = false → (ns.zip xs).lookup m = none
 | [], _, _ => by simp
 | n :: ns, [], _ => by simp
 | n :: ns, x :: xs, h => by
  rw [List.contains_cons, Bool.or_eq_false_iff] at h
  rw [List.zip_cons_cons, List.lookup_cons, h.1]
  exact lookup_none h.2
def rFld (K : W.Frag) (f : Str) : V → Hp → VK → Prop := fun x H1 Q => ∃ a C dx fs v, x = .ref a ∧ H1 a = some (.ins C dx fs) ∧ Cls K C ∧ NoAttr K C f ∧ fs.lookup f = some v ∧ Q v H1
def gFld (ft : Str → Bool) (f : Str) : D → Option D
 | .obj c ns ds => if ft c = true then (ns.zip ds).lookup f else none
 | _ => none
theorem ok_fld {ft : Str → Bool} {f : Str} (hf : ∀ c, ft c = true → Cls K (cl c) ∧ NoAttr K (cl c) f) : UnOk K cl (rFld K f) (gFld ft f) := by
 intro x d z H F Q s hx h q
 unfold gFld at h
 split at h
 ·rename_i c ns ds
  split at h
  ·rename_i hc
   obtain ⟨h1, h2⟩ := hf c hc
   rcases hx with hx | ⟨_, _, _, _, e, _⟩
   ·simp only [Rp] at hx
    obtain ⟨a, dx, xs, rfl, ha, hl, r⟩ := hx
    obtain ⟨v, hv, p⟩ := r.lookup h
    exact ⟨a, _, dx, _, v, rfl, s _ _ ha, h1, h2, hv, q v H F (.refl s) p⟩
   ·cases e
  ·cases h
 ·cases h
theorem rf_Fld {ft : Str → Bool} {f : Str} {t : TE} {o : ZF} (hf : ∀ c, ft c = true → Cls K (cl c) ∧ NoAttr K (cl c) f) (ho : RfZ K cl E t o) : RfZ K cl E (tFld K t f) (eU (gFld ft f) o) := rf_U (ok_fld hf) ho
def TR (K : W.Frag) (cl : Str → Addr) (tab : Str → Option (List D → Option R1)) (C : Addr) (sp : Sp) : Prop := ∃ c g, tab c = some g ∧ C = cl c ∧ sp = spD K cl g
def eMeth (tab : Str → Option (List D → Option R1)) (m : Str) (o : ZF) (f : AF) : ZF := fun e => bnd (o e) fun d e1 => match d with
 | .obj c ns ds0 => if ns.contains m = false then (match tab c with
  | some g => bnd (f e1) fun ds e2 => toZ (g (.obj c ns ds0 :: ds)) e2
  | none => none) else none
 | _ => none
theorem rf_Meth {tab : Str → Option (List D → Option R1)} {m : Str} {t : TE} {u : TA} {o : ZF} {f : AF} (ho : RfZ K cl E t o) (hf : RfA K cl E u f) : RfZ K cl E (tMethD (TR K cl tab) m E t u) (eMeth tab m o f) := by
 intro σ H Q env F R h
 refine ho σ H _ env F R ((Ct.bnd h pm_Z).mono fun x H1 ⟨F1, e1, d, s1, R1, p1, h1⟩ => ?_)
 split at h1
 ·rename_i c ns ds0
  split at h1
  ·rename_i hm
   split at h1
   ·rename_i g hg
    have p1' := p1
    simp only [PZ] at p1
    have p2 : Rp K cl F1 (.obj c ns ds0) x := p1
    have p3 := p2
    simp only [Rp] at p2
    obtain ⟨a, dx, xs, rfl, ha, hl, r⟩ := p2
    refine ⟨a, _, dx, _, _, rfl, R1.sub _ _ ha, lookup_none hm, ⟨c, g, hg, rfl, rfl⟩, ?_⟩
    refine hf σ H1 _ e1 F1 R1 ((Ct.bnd h1 pm_Z).mono fun vs H2 ⟨F2, e2, ds, s2, R2, p4, h2⟩ => ?_)
    have := call_z (g := g) (ds := .obj c ns ds0 :: ds) (vs := .ref a :: vs) R2 (.cons (p3.mono s2) p4) h2
    rw [List.append_nil] at this
    exact this
   ·exact h1.elim
  ·exact h1.elim
 ·exact h1.elim
end
def putAll : List Str → List V → List (Str × V) → List (Str × V)
 | n :: ns, y :: ys, fs => putAll ns ys (putF n y fs)
 | _, _, fs => fs
theorem putF_new {f : Str} {v : V} : ∀ {fs : List (Str × V)}, (∀ p ∈ fs, p.1 ≠ f) → putF f v fs = fs ++ [(f, v)]
 | [], _ => rfl
 | (g, x) :: r, h => by
  rw [putF, if_neg (h (g, x) List.mem_cons_self), putF_new fun p m => h p (List.mem_cons_of_mem _ m)]; rfl
theorem putAll_new : ∀ {ns : List Str} {ys : List V} {fs : List (Str × V)}, ns.Nodup → (∀ p ∈ fs, p.1 ∉ ns) → putAll ns ys fs = fs ++ ns.zip ys
 | [], ys, fs, _, _ => by simp [putAll]
 | n :: ns, [], fs, _, _ => by simp [putAll]
 | n :: ns, y :: ys, fs, nd, h => by
  rw [List.nodup_cons] at nd
  rw [putAll, putF_new fun p m e => h p m (e ▸ List.mem_cons_self), putAll_new nd.2 fun p m => ?_]
  ·rw [List.zip_cons_cons, List.append_assoc]; rfl
  ·rcases List.mem_append.mp m with m | m
   ·exact fun q => h p m (List.mem_cons_of_mem _ q)
   ·rw [List.mem_singleton.mp m]; exact nd.1
theorem putF_len (f : Str) (v : V) : ∀ fs : List (Str × V), (putF f v fs).length ≤ fs.length + 1
 | [] => by simp [putF]
 | (g, x) :: r => by
  rw [putF]; split
  ·simp
  ·have := putF_len f v r; simp only [List.length_cons]; omega
theorem putAll_len : ∀ (ns : List Str) (ys : List V) (fs : List (Str × V)), (putAll ns ys fs).length ≤ fs.length + ns.length
 | [], ys, fs => by simp [putAll]
 | n :: ns, [], fs => by simp [putAll]
 | n :: ns, y :: ys, fs => by
  rw [putAll]
  have h1 := putAll_len ns ys (putF n y fs)
  have h2 := putF_len n y fs
  simp only [List.length_cons]; omega
def spI (K : W.Frag) (m : Nat) (ns : List Str) (sel : List V → Hp → List V → Prop) : Sp := fun vs H Q _ => ∃ p C dx fs rest ys, vs = .ref p :: rest ∧ rest.length + 1 = m ∧ H p = some (.ins C dx fs) ∧ Cls K C ∧ (∀ n ∈ ns, NoAttr K C n) ∧ fs.length + ns.length < 1000 ∧ sel rest H ys ∧ ys.length = ns.length ∧ Q .non (upd H p (.ins C dx (putAll ns ys fs)))
theorem spI_len {K : W.Frag} {m : Nat} {ns : List Str} {sel : List V → Hp → List V → Prop} {vs : List V} {H : Hp} {Q : VK} {E : XK} (h : spI K m ns sel vs H Q E) : vs.length = m := by
 obtain ⟨p, C, dx, fs, rest, ys, rfl, hl, _⟩ := h
 rw [List.length_cons]; exact hl
section
variable {K : W.Frag} {cl : Str → Addr} {E : XK}
theorem initA_reads {N : List Str} {f : Str} {vs : List V} {H : Hp} {Q : VK} (h : spI K 2 [f] (fun r _ ys => ys = r) vs H Q E) : (sFld K (tVar 0) (tVar 1) f) { nx := fun _ H' => Q .non H', rt := Q } (start N vs) H := by
 obtain ⟨p, C, dx, fs, rest, ys, rfl, hl, hp, c, na, hlen, rfl, _, q⟩ := h
 obtain ⟨v, rfl⟩ : ∃ v, ys = [v] := by
  cases ys with
  | nil => simp at hl
  | cons v r => cases r with
   | nil => exact ⟨v, rfl⟩
   | cons _ _ => simp at hl
 refine ⟨v, rfl, .ref p, rfl, p, C, dx, fs, rfl, hp, c, na f List.mem_cons_self, ?_, q⟩
 simp only [List.length_cons, List.length_nil] at hlen
 omega
theorem initB_reads {N : List Str} {f g : Str} {vs : List V} {H : Hp} {Q : VK} {E' : XK} (h : spI K 3 [f, g] (fun r _ ys => ys = r) vs H Q E) : (tSeq (tDrop (tCall (spI K 2 [f] (fun r _ ys => ys = r)) [] E' (tCons (tVar 0) (tCons (tVar 1) tNil)))) (sFld K (tVar 0) (tVar 2) g)) { nx := fun _ H' => Q .non H', rt := Q } (start N vs) H := by
 obtain ⟨p, C, dx, fs, rest, ys, rfl, hl, hp, c, na, hlen, rfl, _, q⟩ := h
 obtain ⟨u, v, rfl⟩ : ∃ u v, ys = [u, v] := by
  cases ys with
  | nil => simp at hl
  | cons u r => cases r with
   | nil => simp at hl
   | cons v r => cases r with
    | nil => exact ⟨u, v, rfl⟩
    | cons _ _ => simp at hl
 simp only [List.length_cons, List.length_nil] at hlen
 refine ⟨.ref p, rfl, u, rfl, p, C, dx, fs, [u], [u], rfl, rfl, hp, c, fun n m => na n (by rw [List.mem_singleton.mp m]; exact List.mem_cons_self), by simp only [List.length_cons, List.length_nil]; omega, rfl, rfl, ?_⟩
 refine ⟨v, rfl, .ref p, rfl, p, C, dx, _, rfl, upd_same, c, na g (by simp), ?_, ?_⟩
 ·have := putAll_len [f] [u] fs
  simp only [List.length_cons, List.length_nil] at this
  omega
 ·rw [upd_upd]; exact q
theorem initC_reads {N : List Str} {f g k : Str} {vs : List V} {H : Hp} {Q : VK} {E' : XK} (h : spI K 3 [f, g, k] (fun r H ys => ∃ a b C dx fs v, r = [.ref a, b] ∧ H a = some (.ins C dx fs) ∧ Cls K C ∧ NoAttr K C f ∧ fs.lookup f = some v ∧ ys = [v, .ref a, b]) vs H Q E) :
  (tSeq (tDrop (tCall (spI K 2 [f] (fun r _ ys => ys = r)) [] E' (tCons (tVar 0) (tCons (tFld K (tVar 1) f) tNil)))) (tSeq (sFld K (tVar 0) (tVar 1) g) (sFld K (tVar 0) (tVar 2) k))) { nx := fun _ H' => Q .non H', rt := Q } (start N vs) H := by
 obtain ⟨p, C, dx, fs, rest, ys, rfl, hl, hp, c, na, hlen, ⟨a, b, C1, dx1, fs1, v, rfl, ha, c1, n1, l1, rfl⟩, _, q⟩ := h
 simp only [List.length_cons, List.length_nil] at hlen
 refine ⟨.ref p, rfl, .ref a, rfl, a, C1, dx1, fs1, v, rfl, ha, c1, n1, l1, p, C, dx, fs, [v], [v], rfl, rfl, hp, c, fun n m => na n (by rw [List.mem_singleton.mp m]; exact List.mem_cons_self), by simp only [List.length_cons, List.length_nil]; omega, rfl, rfl, ?_⟩
 have h1 := putAll_len [f] [v] fs
 have h2 := putF_len g (.ref a) (putAll [f] [v] fs)
 simp only [List.length_cons, List.length_nil] at h1
 refine ⟨.ref a, rfl, .ref p, rfl, p, C, dx, _, rfl, upd_same, c, na g (by simp), by omega, ?_⟩
 refine ⟨b, rfl, .ref p, rfl, p, C, dx, _, rfl, upd_same, c, na k (by simp), by omega, ?_⟩
 rw [upd_upd, upd_upd]; exact q
def eNew (c : Str) (ns : List Str) (selD : List D → Option (List D)) (f : AF) : ZF := fun e => bnd (f e) fun ds e1 => match selD ds with
 | some zs => some (.ok (.obj c ns zs) e1)
 | none => none
theorem rf_New {c : Str} {m : Nat} {ns : List Str} {sel : List V → Hp → List V → Prop} {selD : List D → Option (List D)} {t : TA} {f : AF} (hC : Cls K (cl c)) (hn : ∀ n ∈ ns, NoAttr K (cl c) n) (nd : ns.Nodup) (hlen : ns.length < 1000)
  (hsel : ∀ (H F : Hp) ds vs zs, Same F H → Rps K cl F ds vs → selD ds = some zs → vs.length + 1 = m ∧ ∃ ys, sel vs H ys ∧ ys.length = ns.length ∧ Rps K cl F zs ys) (hf : RfA K cl E t f) : RfZ K cl E (tMake (cl c) (spI K m ns sel) [] E t) (eNew c ns selD f) := by
 intro σ H Q env F R h
 refine hf σ H _ env F R ((Ct.bnd h pm_Z).mono fun vs H1 ⟨F1, e1, ds, s1, R1, p1, h1⟩ => ?_)
 split at h1
 ·rename_i zs hz
  intro x dx hx hd ne
  rw [List.append_nil]
  have g1 : Gr H1 F1 (upd H1 dx (.own x)) (upd F1 dx (.own x)) := .new R1.sub hd
  have hx' : upd H1 dx (.own x) x = none := by rw [upd_ne (Ne.symm ne)]; exact hx
  have s2 : Same (upd F1 dx (.own x)) (upd (upd H1 dx (.own x)) x (.ins (cl c) dx [])) := g1.sub.trans (same_new hx' _)
  obtain ⟨hm, ys, hs, hy, r⟩ := hsel _ _ ds vs zs s2 (Rps.mono g1.fz _ _ p1) hz
  refine ⟨x, cl c, dx, [], vs, ys, rfl, hm, upd_same, hC, hn, by simpa using hlen, hs, hy, rfl, ?_⟩
  rw [upd_upd, putAll_new nd (fun p m => absurd m List.not_mem_nil), List.nil_append]
  have g2 : Gr (upd H1 dx (.own x)) (upd F1 dx (.own x)) (upd (upd H1 dx (.own x)) x (.ins (cl c) dx (ns.zip ys))) (upd (upd F1 dx (.own x)) x (.ins (cl c) dx (ns.zip ys))) := .new g1.sub hx'
  have gr := g1.trans g2
  refine h1 (.ref x) _ _ (R1.frm gr) (R1.gr gr) ?_
  show Rp K cl _ (.obj c ns zs) (.ref x)
  simp only [Rp]
  exact ⟨x, dx, ys, rfl, upd_same, hy.symm, Rps.mono g2.fz _ _ r⟩
 ·exact h1.elim
end
section
variable {K : W.Frag} {cl : Str → Addr} {E : XK}
def gDivmod : List D → Option D
 | [.int i, .int j] => if 0 < j ∧ j.natAbs.log2 < 9000 then some (.tup [.int (i / j), .int (i % j)]) else none
 | _ => none
theorem ok_divmod : CbOk K cl rDivmod gDivmod := by
 intro xs ds z H F Q s p h q
 unfold gDivmod at h
 split at h
 ·rename_i i j
  split at h
  ·rename_i c; cases h
   have e := Rps.ints (ns := [i, j]) p
   refine ⟨i, j, e, c.1, c.2, fun a ha => ?_⟩
   refine q _ _ _ (.new s ha) ?_
   simp only [Rp]
   exact ⟨a, _, rfl, upd_same, Rps.ofInts (ns := [i / j, i % j])⟩
  ·cases h
 ·cases h
end
section
variable {K : W.Frag} {cl : Str → Addr} {E : XK}
def selA (k : Nat) (ds : List D) : Option (List D) := if ds.length = k then some ds else none
theorem selA_ok {k : Nat} (H F : Hp) (ds : List D) (vs : List V) (zs : List D) (_ : Same F H) (r : Rps K cl F ds vs) (h : selA k ds = some zs) : vs.length + 1 = k + 1 ∧ ∃ ys, (fun (r : List V) (_ : Hp) ys => ys = r) vs H ys ∧ ys.length = k ∧ Rps K cl F zs ys := by
 unfold selA at h
 split at h
 ·rename_i z; cases h
  exact ⟨by rw [← r.length, z], vs, rfl, by rw [← r.length, z], r⟩
 ·cases h
def selC (ft : Str → Bool) (f : Str) : List D → Option (List D)
 | [i, o] => match gFld ft f i with
  | some s => some [s, i, o]
  | none => none
 | _ => none
theorem selC_ok {ft : Str → Bool} {f : Str} (hf : ∀ c, ft c = true → Cls K (cl c) ∧ NoAttr K (cl c) f) (H F : Hp) (ds : List D) (vs : List V) (zs : List D) (s : Same F H) (r : Rps K cl F ds vs) (h : selC ft f ds = some zs) :
  vs.length + 1 = 3 ∧ ∃ ys, (fun (r : List V) (H : Hp) ys => ∃ a b C dx fs v, r = [.ref a, b] ∧ H a = some (.ins C dx fs) ∧ Cls K C ∧ NoAttr K C f ∧ fs.lookup f = some v ∧ ys = [v, .ref a, b]) vs H ys ∧ ys.length = 3 ∧ Rps K cl F zs ys := by
 unfold selC at h
 split at h
 ·rename_i i o
  split at h
  ·rename_i z hz; cases h
   obtain ⟨x, r1, rfl, p1, q1⟩ := r.inv
   obtain ⟨b, r2, rfl, p2, q2⟩ := q1.inv
   rw [q2.inv0]
   unfold gFld at hz
   split at hz
   ·rename_i c ns es
    split at hz
    ·rename_i hc
     obtain ⟨h1, h2⟩ := hf c hc
     have p3 := p1
     simp only [Rp] at p1
     obtain ⟨a, dx, xs, rfl, ha, hl, rr⟩ := p1
     obtain ⟨v, hv, p⟩ := rr.lookup hz
     exact ⟨rfl, _, ⟨a, b, _, dx, _, v, rfl, s _ _ ha, h1, h2, hv, rfl⟩, rfl, .cons p (.cons p3 (.one p2))⟩
    ·cases hz
   ·cases hz
  ·cases h
 ·cases h
theorem bt_divmod : bootBuiltins "divmod" = some (.builtin "divmod") := PyProof.Rows.boot_divmod
end
theorem pa_str4 {X : Cx} {x y z u : Str} {j1 j2 j3 j4 : Nat} {p1 p2 p3 p4 : Pos} {es : List Expr} {t : TA} (hr : PA X es t) : PA X (.Constant (.str x) j1 p1 :: .Constant (.str y) j2 p2 :: .Constant (.str z) j3 p3 :: .Constant (.str u) j4 p4 :: es) (tCons (tC (.str x)) (tCons (tC (.str y)) (tCons (tC (.str z)) (tCons (tC (.str u)) t)))) := pa_str (pa_str (pa_str (pa_str hr)))
end L2
namespace Law
open PySem L2 PyProof.Rows
def top (i : Nat) : Stmt := PySem.Challenge.pw_cratefit_k27_rows_refused.main.body.getD i (.Pass ⟨0, 0, 0, 0⟩)
abbrev s_is_whole : Stmt := top 20
abbrev s_check_side : Stmt := top 21
abbrev s_check_step : Stmt := top 30
abbrev s_Weighing_weight : Stmt := inClass (top 24) 2
abbrev s_Floors_weight : Stmt := inClass (top 25) 1
abbrev s_Heavy_weight : Stmt := inClass (top 26) 1
abbrev s_Parts_weight : Stmt := inClass (top 27) 1
abbrev s_Matched_weight : Stmt := inClass (top 28) 1
abbrev s_Weighing_weigh : Stmt := inClass (top 24) 1
abbrev s_Nested_weight : Stmt := inClass (top 29) 1
abbrev s_Weighing_whole : Stmt := inClass (top 24) 3
abbrev s_made_stepped : Stmt := top 32
abbrev s_made_nested : Stmt := top 31
abbrev s_made_weighing : Stmt := top 33
abbrev s_l_cell_at : Stmt := top 35
abbrev s_l_side : Stmt := top 36
abbrev s_l_most : Stmt := top 37
abbrev s_l_good : Stmt := top 38
abbrev s_l_bad : Stmt := top 39
abbrev s_l_set : Stmt := top 40
abbrev s_l_kinds : Stmt := top 41
abbrev s_l_refused : Stmt := top 42
abbrev s_Weighing_named : Stmt := inClass (top 24) 4
abbrev s_Floors_named : Stmt := inClass (top 25) 2
abbrev s_Heavy_named : Stmt := inClass (top 26) 2
abbrev s_Parts_named : Stmt := inClass (top 27) 2
abbrev s_Matched_named : Stmt := inClass (top 28) 2
abbrev s_Nested_named : Stmt := inClass (top 29) 2
abbrev s_l_taken : Stmt := top 43
abbrev s_law : Stmt := top 44
abbrev s_Weighing___init__ : Stmt := inClass (top 24) 0
abbrev s_Floors___init__ : Stmt := inClass (top 25) 0
abbrev s_Heavy___init__ : Stmt := inClass (top 26) 0
abbrev s_Matched___init__ : Stmt := inClass (top 28) 0
abbrev s_Nested___init__ : Stmt := inClass (top 29) 0
abbrev s_Parts___init__ : Stmt := inClass (top 27) 0
variable {P : Program} {w : World} {K : PySem.W.Frag} {mg : Str → Option Value} {base : Heap} {c : Str → Addr}
structure Txt (K : PySem.W.Frag) (mg : Str → Option Value) (c : Str → Addr) : Prop where
 z_ValueError : mg "ValueError" = none
 z_bool : mg "bool" = none
 z_divmod : mg "divmod" = none
 z_int : mg "int" = none
 z_isinstance : mg "isinstance" = none
 z_len : mg "len" = none
 z_tuple : mg "tuple" = none
 m_BadPacking : mg "BadPacking" = some (.ref (c "BadPacking"))
 m_BadPlan : mg "BadPlan" = some (.ref (c "BadPlan"))
 m_BadSide : mg "BadSide" = some (.ref (c "BadSide"))
 m_BadTurn : mg "BadTurn" = some (.ref (c "BadTurn"))
 m_CrateError : mg "CrateError" = some (.ref (c "CrateError"))
 m_Full : mg "Full" = some (.ref (c "Full"))
 m_Hangs : mg "Hangs" = some (.ref (c "Hangs"))
 m_NoDeed : mg "NoDeed" = some (.ref (c "NoDeed"))
 m_NoDrawing : mg "NoDrawing" = some (.ref (c "NoDrawing"))
 m_NoPicker : mg "NoPicker" = some (.ref (c "NoPicker"))
 m_NoSheet : mg "NoSheet" = some (.ref (c "NoSheet"))
 m_NoText : mg "NoText" = some (.ref (c "NoText"))
 m_NoWare : mg "NoWare" = some (.ref (c "NoWare"))
 m_NoWeighing : mg "NoWeighing" = some (.ref (c "NoWeighing"))
 m_NothingDone : mg "NothingDone" = some (.ref (c "NothingDone"))
 m_Ring : mg "Ring" = some (.ref (c "Ring"))
 m_TooMany : mg "TooMany" = some (.ref (c "TooMany"))
 m_TooWide : mg "TooWide" = some (.ref (c "TooWide"))
 x_BadSide : PySem.W.excIn K (c "BadSide") vErr "ValueError.__new__" = true
 x_NoWeighing : PySem.W.excIn K (c "NoWeighing") vErr "ValueError.__new__" = true
 v_MOST_PARTS : ∃ u, mg "MOST_PARTS" = some u ∧ RelV (.int 60) u
 t_exc_BadSide : PySem.W.ExcT K (c "BadSide")
 t_exc_NoWeighing : PySem.W.ExcT K (c "NoWeighing")
 t_any_BadSide_0 : PySem.W.kitAny K (.ref (c "BadSide")) [.ref (c "BadSide"), .ref (c "BadTurn"), .ref (c "NoText"), .ref (c "TooMany"), .ref (c "Ring"), .ref (c "NoPicker"), .ref (c "NoSheet"), .ref (c "NoDrawing")] = some true
 t_any_BadSide_1 : PySem.W.kitAny K (.ref (c "BadSide")) [.ref (c "NoDeed"), .ref (c "NoWare"), .ref (c "Full"), .ref (c "NothingDone"), .ref (c "TooWide"), .ref (c "Hangs"), .ref (c "BadPlan"), .ref (c "BadPacking")] = some false
 t_one_BadSide_ValueError : PySem.W.kitOne K (.ref (c "BadSide")) (.type "ValueError") = some true
 t_exo_BadSide_CrateError : PySem.W.exmOne K (.ref (c "BadSide")) (.ref (c "CrateError")) = some true
 t_exo_BadSide_NoWeighing : PySem.W.exmOne K (.ref (c "BadSide")) (.ref (c "NoWeighing")) = some false
 t_any_NoWeighing_0 : PySem.W.kitAny K (.ref (c "NoWeighing")) [.ref (c "BadSide"), .ref (c "BadTurn"), .ref (c "NoText"), .ref (c "TooMany"), .ref (c "Ring"), .ref (c "NoPicker"), .ref (c "NoSheet"), .ref (c "NoDrawing")] = some false
 t_any_NoWeighing_1 : PySem.W.kitAny K (.ref (c "NoWeighing")) [.ref (c "NoDeed"), .ref (c "NoWare"), .ref (c "Full"), .ref (c "NothingDone"), .ref (c "TooWide"), .ref (c "Hangs"), .ref (c "BadPlan"), .ref (c "BadPacking")] = some false
 t_one_NoWeighing_ValueError : PySem.W.kitOne K (.ref (c "NoWeighing")) (.type "ValueError") = some true
 t_exo_NoWeighing_CrateError : PySem.W.exmOne K (.ref (c "NoWeighing")) (.ref (c "CrateError")) = some true
 t_exo_NoWeighing_NoWeighing : PySem.W.exmOne K (.ref (c "NoWeighing")) (.ref (c "NoWeighing")) = some true
 cl_Weighing : Cls K (c "Weighing")
 n_Weighing_side : NoAttr K (c "Weighing") "side"
 cl_Floors : Cls K (c "Floors")
 n_Floors_side : NoAttr K (c "Floors") "side"
 n_Floors_step : NoAttr K (c "Floors") "step"
 cl_Heavy : Cls K (c "Heavy")
 n_Heavy_side : NoAttr K (c "Heavy") "side"
 n_Heavy_step : NoAttr K (c "Heavy") "step"
 cl_Parts : Cls K (c "Parts")
 n_Parts_side : NoAttr K (c "Parts") "side"
 n_Parts_step : NoAttr K (c "Parts") "step"
 cl_Matched : Cls K (c "Matched")
 n_Matched_side : NoAttr K (c "Matched") "side"
 n_Matched_step : NoAttr K (c "Matched") "step"
 cl_Nested : Cls K (c "Nested")
 n_Nested_side : NoAttr K (c "Nested") "side"
 n_Nested_inner : NoAttr K (c "Nested") "inner"
 n_Nested_outer : NoAttr K (c "Nested") "outer"
def xT (n : Str) (ns : List Str) : Option Bool := if n = "BadSide" ∧ ns = (["BadSide", "BadTurn", "NoText", "TooMany", "Ring", "NoPicker", "NoSheet", "NoDrawing"] : List Str) then some true else if n = "BadSide" ∧ ns = (["NoDeed", "NoWare", "Full", "NothingDone", "TooWide", "Hangs", "BadPlan", "BadPacking"] : List Str) then some false else if n = "NoWeighing" ∧ ns = (["BadSide", "BadTurn", "NoText", "TooMany", "Ring", "NoPicker", "NoSheet", "NoDrawing"] : List Str) then some false else if n = "NoWeighing" ∧ ns = (["NoDeed", "NoWare", "Full", "NothingDone", "TooWide", "Hangs", "BadPlan", "BadPacking"] : List Str) then some false else none
def x1 (n m : Str) : Option Bool := none
def x2 (n : Str) (m : String) : Option Bool := if n = "BadSide" ∧ m = "ValueError" then some true else if n = "NoWeighing" ∧ m = "ValueError" then some true else none
theorem xT_ok (T : Txt K mg c) : ∀ (n : Str) (m : List Str) (b : Bool), xT n m = some b → PySem.W.ExcT K (c n) ∧ PySem.W.kitAny K (.ref (c n)) (m.map fun m => .ref (c m)) = some b := by
 intro n m b h
 unfold xT at h
 split at h
 ·rename_i z; obtain ⟨rfl, rfl⟩ := z; cases h; exact ⟨T.t_exc_BadSide, T.t_any_BadSide_0⟩
 split at h
 ·rename_i z; obtain ⟨rfl, rfl⟩ := z; cases h; exact ⟨T.t_exc_BadSide, T.t_any_BadSide_1⟩
 split at h
 ·rename_i z; obtain ⟨rfl, rfl⟩ := z; cases h; exact ⟨T.t_exc_NoWeighing, T.t_any_NoWeighing_0⟩
 split at h
 ·rename_i z; obtain ⟨rfl, rfl⟩ := z; cases h; exact ⟨T.t_exc_NoWeighing, T.t_any_NoWeighing_1⟩
 cases h
theorem x1_ok (T : Txt K mg c) : ∀ (n : Str) (m : Str) (b : Bool), x1 n m = some b → PySem.W.ExcT K (c n) ∧ PySem.W.kitOne K (.ref (c n)) (.ref (c m)) = some b := by
 intro n m b h
 unfold x1 at h
 cases h
theorem x2_ok (T : Txt K mg c) : ∀ (n : Str) (m : String) (b : Bool), x2 n m = some b → PySem.W.ExcT K (c n) ∧ PySem.W.kitOne K (.ref (c n)) (.type m) = some b := by
 intro n m b h
 unfold x2 at h
 split at h
 ·rename_i z; obtain ⟨rfl, rfl⟩ := z; cases h; exact ⟨T.t_exc_BadSide, T.t_one_BadSide_ValueError⟩
 split at h
 ·rename_i z; obtain ⟨rfl, rfl⟩ := z; cases h; exact ⟨T.t_exc_NoWeighing, T.t_one_NoWeighing_ValueError⟩
 cases h
def xo_CrateError (n : Str) : Option Bool := if n = "BadSide" then some true else if n = "NoWeighing" then some true else none
theorem xo_CrateError_ok (T : Txt K mg c) : ∀ n b, xo_CrateError n = some b → PySem.W.exmOne K (.ref (c n)) (.ref (c "CrateError")) = some b := by
 intro n b h
 unfold xo_CrateError at h
 split at h
 ·rename_i z; subst z; cases h; exact T.t_exo_BadSide_CrateError
 split at h
 ·rename_i z; subst z; cases h; exact T.t_exo_NoWeighing_CrateError
 cases h
def xo_NoWeighing (n : Str) : Option Bool := if n = "BadSide" then some false else if n = "NoWeighing" then some true else none
theorem xo_NoWeighing_ok (T : Txt K mg c) : ∀ n b, xo_NoWeighing n = some b → PySem.W.exmOne K (.ref (c n)) (.ref (c "NoWeighing")) = some b := by
 intro n b h
 unfold xo_NoWeighing at h
 split at h
 ·rename_i z; subst z; cases h; exact T.t_exo_BadSide_NoWeighing
 split at h
 ·rename_i z; subst z; cases h; exact T.t_exo_NoWeighing_NoWeighing
 cases h
def ft_inner (n : Str) : Bool := decide (n = "Nested")
theorem ft_inner_ok (T : Txt K mg c) : ∀ n, ft_inner n = true → Cls K (c n) ∧ NoAttr K (c n) "inner" := by
 intro n h
 unfold ft_inner at h
 simp only [Bool.or_eq_true, decide_eq_true_eq] at h
 rcases h with rfl
 ·exact ⟨T.cl_Nested, T.n_Nested_inner⟩
def ft_outer (n : Str) : Bool := decide (n = "Nested")
theorem ft_outer_ok (T : Txt K mg c) : ∀ n, ft_outer n = true → Cls K (c n) ∧ NoAttr K (c n) "outer" := by
 intro n h
 unfold ft_outer at h
 simp only [Bool.or_eq_true, decide_eq_true_eq] at h
 rcases h with rfl
 ·exact ⟨T.cl_Nested, T.n_Nested_outer⟩
def ft_side (n : Str) : Bool := decide (n = "Weighing") || decide (n = "Floors") || decide (n = "Heavy") || decide (n = "Parts") || decide (n = "Matched") || decide (n = "Nested")
theorem ft_side_ok (T : Txt K mg c) : ∀ n, ft_side n = true → Cls K (c n) ∧ NoAttr K (c n) "side" := by
 intro n h
 unfold ft_side at h
 simp only [Bool.or_eq_true, decide_eq_true_eq] at h
 rcases h with ((((rfl | rfl) | rfl) | rfl) | rfl) | rfl
 ·exact ⟨T.cl_Weighing, T.n_Weighing_side⟩
 ·exact ⟨T.cl_Floors, T.n_Floors_side⟩
 ·exact ⟨T.cl_Heavy, T.n_Heavy_side⟩
 ·exact ⟨T.cl_Parts, T.n_Parts_side⟩
 ·exact ⟨T.cl_Matched, T.n_Matched_side⟩
 ·exact ⟨T.cl_Nested, T.n_Nested_side⟩
def ft_step (n : Str) : Bool := decide (n = "Floors") || decide (n = "Heavy") || decide (n = "Parts") || decide (n = "Matched")
theorem ft_step_ok (T : Txt K mg c) : ∀ n, ft_step n = true → Cls K (c n) ∧ NoAttr K (c n) "step" := by
 intro n h
 unfold ft_step at h
 simp only [Bool.or_eq_true, decide_eq_true_eq] at h
 rcases h with ((rfl | rfl) | rfl) | rfl
 ·exact ⟨T.cl_Floors, T.n_Floors_step⟩
 ·exact ⟨T.cl_Heavy, T.n_Heavy_step⟩
 ·exact ⟨T.cl_Parts, T.n_Parts_step⟩
 ·exact ⟨T.cl_Matched, T.n_Matched_step⟩
theorem na_Floors (T : Txt K mg c) : ∀ n ∈ (["side", "step"] : List Str), NoAttr K (c "Floors") n := by
 intro n h
 simp only [List.mem_cons, List.not_mem_nil, or_false] at h
 rcases h with rfl | rfl
 ·exact T.n_Floors_side
 ·exact T.n_Floors_step
theorem na_Heavy (T : Txt K mg c) : ∀ n ∈ (["side", "step"] : List Str), NoAttr K (c "Heavy") n := by
 intro n h
 simp only [List.mem_cons, List.not_mem_nil, or_false] at h
 rcases h with rfl | rfl
 ·exact T.n_Heavy_side
 ·exact T.n_Heavy_step
theorem na_Matched (T : Txt K mg c) : ∀ n ∈ (["side", "step"] : List Str), NoAttr K (c "Matched") n := by
 intro n h
 simp only [List.mem_cons, List.not_mem_nil, or_false] at h
 rcases h with rfl | rfl
 ·exact T.n_Matched_side
 ·exact T.n_Matched_step
theorem na_Nested (T : Txt K mg c) : ∀ n ∈ (["side", "inner", "outer"] : List Str), NoAttr K (c "Nested") n := by
 intro n h
 simp only [List.mem_cons, List.not_mem_nil, or_false] at h
 rcases h with rfl | rfl | rfl
 ·exact T.n_Nested_side
 ·exact T.n_Nested_inner
 ·exact T.n_Nested_outer
theorem na_Parts (T : Txt K mg c) : ∀ n ∈ (["side", "step"] : List Str), NoAttr K (c "Parts") n := by
 intro n h
 simp only [List.mem_cons, List.not_mem_nil, or_false] at h
 rcases h with rfl | rfl
 ·exact T.n_Parts_side
 ·exact T.n_Parts_step
theorem na_Weighing (T : Txt K mg c) : ∀ n ∈ (["side"] : List Str), NoAttr K (c "Weighing") n := by
 intro n h
 simp only [List.mem_cons, List.not_mem_nil, or_false] at h
 rcases h with rfl
 ·exact T.n_Weighing_side
def tab_named (g0 g1 g2 g3 g4 g5 : List D → Option R1) : Str → Option (List D → Option R1) := fun n => if n = "Weighing" then some g0 else if n = "Floors" then some g1 else if n = "Heavy" then some g2 else if n = "Parts" then some g3 else if n = "Matched" then some g4 else if n = "Nested" then some g5 else none
theorem mo_named {X : Cx} {E : XK} {k : Nat} {g0 g1 g2 g3 g4 g5 : List D → Option R1} (hr : Room k X.A) (hx : Passes (CXe X.prog X.w) X E) (h_Weighing : ∃ k' ps, k' ≤ k ∧ OwnM X.prog X.w X.K X.mg X.base k' (c "Weighing") "named" ps (spD X.K c g0)) (h_Floors : ∃ k' ps, k' ≤ k ∧ OwnM X.prog X.w X.K X.mg X.base k' (c "Floors") "named" ps (spD X.K c g1)) (h_Heavy : ∃ k' ps, k' ≤ k ∧ OwnM X.prog X.w X.K X.mg X.base k' (c "Heavy") "named" ps (spD X.K c g2)) (h_Parts : ∃ k' ps, k' ≤ k ∧ OwnM X.prog X.w X.K X.mg X.base k' (c "Parts") "named" ps (spD X.K c g3)) (h_Matched : ∃ k' ps, k' ≤ k ∧ OwnM X.prog X.w X.K X.mg X.base k' (c "Matched") "named" ps (spD X.K c g4)) (h_Nested : ∃ k' ps, k' ≤ k ∧ OwnM X.prog X.w X.K X.mg X.base k' (c "Nested") "named" ps (spD X.K c g5)) : MethOk X (TR X.K c (tab_named g0 g1 g2 g3 g4 g5)) "named" E := methOk_of hr hx (by
 rintro C sp ⟨n, g, h, rfl, rfl⟩
 unfold tab_named at h
 split at h
 ·rename_i z; subst z; cases h; exact h_Weighing
 split at h
 ·rename_i z; subst z; cases h; exact h_Floors
 split at h
 ·rename_i z; subst z; cases h; exact h_Heavy
 split at h
 ·rename_i z; subst z; cases h; exact h_Parts
 split at h
 ·rename_i z; subst z; cases h; exact h_Matched
 split at h
 ·rename_i z; subst z; cases h; exact h_Nested
 cases h)
def tab_weigh (g0 : List D → Option R1) : Str → Option (List D → Option R1) := fun n => if n = "Weighing" then some g0 else if n = "Floors" then some g0 else if n = "Heavy" then some g0 else if n = "Parts" then some g0 else if n = "Matched" then some g0 else if n = "Nested" then some g0 else none
theorem mo_weigh {X : Cx} {E : XK} {k : Nat} {g0 : List D → Option R1} (hr : Room k X.A) (hx : Passes (CXe X.prog X.w) X E) (h_Weighing : ∃ k' ps, k' ≤ k ∧ OwnM X.prog X.w X.K X.mg X.base k' (c "Weighing") "weigh" ps (spD X.K c g0)) (h_Floors : ∃ k' ps, k' ≤ k ∧ OwnM X.prog X.w X.K X.mg X.base k' (c "Floors") "weigh" ps (spD X.K c g0)) (h_Heavy : ∃ k' ps, k' ≤ k ∧ OwnM X.prog X.w X.K X.mg X.base k' (c "Heavy") "weigh" ps (spD X.K c g0)) (h_Parts : ∃ k' ps, k' ≤ k ∧ OwnM X.prog X.w X.K X.mg X.base k' (c "Parts") "weigh" ps (spD X.K c g0)) (h_Matched : ∃ k' ps, k' ≤ k ∧ OwnM X.prog X.w X.K X.mg X.base k' (c "Matched") "weigh" ps (spD X.K c g0)) (h_Nested : ∃ k' ps, k' ≤ k ∧ OwnM X.prog X.w X.K X.mg X.base k' (c "Nested") "weigh" ps (spD X.K c g0)) : MethOk X (TR X.K c (tab_weigh g0)) "weigh" E := methOk_of hr hx (by
 rintro C sp ⟨n, g, h, rfl, rfl⟩
 unfold tab_weigh at h
 split at h
 ·rename_i z; subst z; cases h; exact h_Weighing
 split at h
 ·rename_i z; subst z; cases h; exact h_Floors
 split at h
 ·rename_i z; subst z; cases h; exact h_Heavy
 split at h
 ·rename_i z; subst z; cases h; exact h_Parts
 split at h
 ·rename_i z; subst z; cases h; exact h_Matched
 split at h
 ·rename_i z; subst z; cases h; exact h_Nested
 cases h)
def tab_weight (g0 g1 g2 g3 g4 g5 : List D → Option R1) : Str → Option (List D → Option R1) := fun n => if n = "Weighing" then some g0 else if n = "Floors" then some g1 else if n = "Heavy" then some g2 else if n = "Parts" then some g3 else if n = "Matched" then some g4 else if n = "Nested" then some g5 else none
theorem mo_weight {X : Cx} {E : XK} {k : Nat} {g0 g1 g2 g3 g4 g5 : List D → Option R1} (hr : Room k X.A) (hx : Passes (CXe X.prog X.w) X E) (h_Weighing : ∃ k' ps, k' ≤ k ∧ OwnM X.prog X.w X.K X.mg X.base k' (c "Weighing") "weight" ps (spD X.K c g0)) (h_Floors : ∃ k' ps, k' ≤ k ∧ OwnM X.prog X.w X.K X.mg X.base k' (c "Floors") "weight" ps (spD X.K c g1)) (h_Heavy : ∃ k' ps, k' ≤ k ∧ OwnM X.prog X.w X.K X.mg X.base k' (c "Heavy") "weight" ps (spD X.K c g2)) (h_Parts : ∃ k' ps, k' ≤ k ∧ OwnM X.prog X.w X.K X.mg X.base k' (c "Parts") "weight" ps (spD X.K c g3)) (h_Matched : ∃ k' ps, k' ≤ k ∧ OwnM X.prog X.w X.K X.mg X.base k' (c "Matched") "weight" ps (spD X.K c g4)) (h_Nested : ∃ k' ps, k' ≤ k ∧ OwnM X.prog X.w X.K X.mg X.base k' (c "Nested") "weight" ps (spD X.K c g5)) : MethOk X (TR X.K c (tab_weight g0 g1 g2 g3 g4 g5)) "weight" E := methOk_of hr hx (by
 rintro C sp ⟨n, g, h, rfl, rfl⟩
 unfold tab_weight at h
 split at h
 ·rename_i z; subst z; cases h; exact h_Weighing
 split at h
 ·rename_i z; subst z; cases h; exact h_Floors
 split at h
 ·rename_i z; subst z; cases h; exact h_Heavy
 split at h
 ·rename_i z; subst z; cases h; exact h_Parts
 split at h
 ·rename_i z; subst z; cases h; exact h_Matched
 split at h
 ·rename_i z; subst z; cases h; exact h_Nested
 cases h)
def tab_whole (g0 : List D → Option R1) : Str → Option (List D → Option R1) := fun n => if n = "Weighing" then some g0 else if n = "Floors" then some g0 else if n = "Heavy" then some g0 else if n = "Parts" then some g0 else if n = "Matched" then some g0 else if n = "Nested" then some g0 else none
theorem mo_whole {X : Cx} {E : XK} {k : Nat} {g0 : List D → Option R1} (hr : Room k X.A) (hx : Passes (CXe X.prog X.w) X E) (h_Weighing : ∃ k' ps, k' ≤ k ∧ OwnM X.prog X.w X.K X.mg X.base k' (c "Weighing") "whole" ps (spD X.K c g0)) (h_Floors : ∃ k' ps, k' ≤ k ∧ OwnM X.prog X.w X.K X.mg X.base k' (c "Floors") "whole" ps (spD X.K c g0)) (h_Heavy : ∃ k' ps, k' ≤ k ∧ OwnM X.prog X.w X.K X.mg X.base k' (c "Heavy") "whole" ps (spD X.K c g0)) (h_Parts : ∃ k' ps, k' ≤ k ∧ OwnM X.prog X.w X.K X.mg X.base k' (c "Parts") "whole" ps (spD X.K c g0)) (h_Matched : ∃ k' ps, k' ≤ k ∧ OwnM X.prog X.w X.K X.mg X.base k' (c "Matched") "whole" ps (spD X.K c g0)) (h_Nested : ∃ k' ps, k' ≤ k ∧ OwnM X.prog X.w X.K X.mg X.base k' (c "Nested") "whole" ps (spD X.K c g0)) : MethOk X (TR X.K c (tab_whole g0)) "whole" E := methOk_of hr hx (by
 rintro C sp ⟨n, g, h, rfl, rfl⟩
 unfold tab_whole at h
 split at h
 ·rename_i z; subst z; cases h; exact h_Weighing
 split at h
 ·rename_i z; subst z; cases h; exact h_Floors
 split at h
 ·rename_i z; subst z; cases h; exact h_Heavy
 split at h
 ·rename_i z; subst z; cases h; exact h_Parts
 split at h
 ·rename_i z; subst z; cases h; exact h_Matched
 split at h
 ·rename_i z; subst z; cases h; exact h_Nested
 cases h)
theorem sc_Weighing___init__ : FnScope ["self", "side"] ["self", "side"] (defScope s_Weighing___init__) := ⟨rfl, rfl, rfl, by decide +kernel, rfl, by decide +kernel, by decide +kernel⟩
seal PSs PS PE PA PT
theorem ok_Weighing___init__ {f : Addr} {fd : FuncData} (F : Fun K "__init__" "Weighing.__init__" s_Weighing___init__ f fd)  : FnOk P w K mg base (CXe P w) 3 f fd ["self", "side"] (spI K 2 ["side"] (fun r _ ys => ys = r)) :=
 F.okE sc_Weighing___init__ (fun vs H Q E h => spI_len h) fun cdv A outer s H vs Q E hr h => ⟨_, pss_one (ps_fld (pv 0) (pv 1) rfl), initA_reads h⟩
theorem sc_Floors___init__ : FnScope ["self", "side", "step"] ["self", "side", "step"] (defScope s_Floors___init__) := ⟨rfl, rfl, rfl, by decide +kernel, rfl, by decide +kernel, by decide +kernel⟩
theorem ok_Floors___init__ {f : Addr} {fd : FuncData} (F : Fun K "__init__" "Floors.__init__" s_Floors___init__ f fd) (GC : OwnC P w K mg base 3 "Weighing" "__init__" ["self", "side"] (spI K 2 ["side"] (fun r _ ys => ys = r))) : FnOk P w K mg base (CXe P w) 5 f fd ["self", "side", "step"] (spI K 3 ["side", "step"] (fun r _ ys => ys = r)) :=
 F.okE sc_Floors___init__ (fun vs H Q E h => spI_len h) fun cdv A outer s H vs Q E hr h => ⟨_, pss_cons (ps_expr (pe_ownC GC hr (by decide) pass0e (pa_cons (pv 0) (pa_cons (pv 1) pa_nil)))) (pss_one (ps_fld (pv 0) (pv 2) rfl)), initB_reads h⟩
theorem sc_Heavy___init__ : FnScope ["self", "side", "step"] ["self", "side", "step"] (defScope s_Heavy___init__) := ⟨rfl, rfl, rfl, by decide +kernel, rfl, by decide +kernel, by decide +kernel⟩
theorem ok_Heavy___init__ {f : Addr} {fd : FuncData} (F : Fun K "__init__" "Heavy.__init__" s_Heavy___init__ f fd) (GC : OwnC P w K mg base 3 "Weighing" "__init__" ["self", "side"] (spI K 2 ["side"] (fun r _ ys => ys = r))) : FnOk P w K mg base (CXe P w) 5 f fd ["self", "side", "step"] (spI K 3 ["side", "step"] (fun r _ ys => ys = r)) :=
 F.okE sc_Heavy___init__ (fun vs H Q E h => spI_len h) fun cdv A outer s H vs Q E hr h => ⟨_, pss_cons (ps_expr (pe_ownC GC hr (by decide) pass0e (pa_cons (pv 0) (pa_cons (pv 1) pa_nil)))) (pss_one (ps_fld (pv 0) (pv 2) rfl)), initB_reads h⟩
theorem sc_Matched___init__ : FnScope ["self", "side", "step"] ["self", "side", "step"] (defScope s_Matched___init__) := ⟨rfl, rfl, rfl, by decide +kernel, rfl, by decide +kernel, by decide +kernel⟩
theorem ok_Matched___init__ {f : Addr} {fd : FuncData} (F : Fun K "__init__" "Matched.__init__" s_Matched___init__ f fd) (GC : OwnC P w K mg base 3 "Weighing" "__init__" ["self", "side"] (spI K 2 ["side"] (fun r _ ys => ys = r))) : FnOk P w K mg base (CXe P w) 5 f fd ["self", "side", "step"] (spI K 3 ["side", "step"] (fun r _ ys => ys = r)) :=
 F.okE sc_Matched___init__ (fun vs H Q E h => spI_len h) fun cdv A outer s H vs Q E hr h => ⟨_, pss_cons (ps_expr (pe_ownC GC hr (by decide) pass0e (pa_cons (pv 0) (pa_cons (pv 1) pa_nil)))) (pss_one (ps_fld (pv 0) (pv 2) rfl)), initB_reads h⟩
theorem sc_Nested___init__ : FnScope ["self", "inner", "outer"] ["self", "inner", "outer"] (defScope s_Nested___init__) := ⟨rfl, rfl, rfl, by decide +kernel, rfl, by decide +kernel, by decide +kernel⟩
theorem ok_Nested___init__ {f : Addr} {fd : FuncData} (F : Fun K "__init__" "Nested.__init__" s_Nested___init__ f fd) (GC : OwnC P w K mg base 3 "Weighing" "__init__" ["self", "side"] (spI K 2 ["side"] (fun r _ ys => ys = r))) : FnOk P w K mg base (CXe P w) 5 f fd ["self", "inner", "outer"] (spI K 3 ["side", "inner", "outer"] (fun r H ys => ∃ a b C dx fs v, r = [.ref a, b] ∧ H a = some (.ins C dx fs) ∧ Cls K C ∧ NoAttr K C "side" ∧ fs.lookup ("side" : Str) = some v ∧ ys = [v, .ref a, b])) :=
 F.okE sc_Nested___init__ (fun vs H Q E h => spI_len h) fun cdv A outer s H vs Q E hr h => ⟨_, pss_cons (ps_expr (pe_ownC GC hr (by decide) pass0e (pa_cons (pv 0) (pa_cons (pe_fld (pv 1) rfl) pa_nil)))) (pss_cons (ps_fld (pv 0) (pv 1) rfl) (pss_one (ps_fld (pv 0) (pv 2) rfl))), initC_reads h⟩
theorem sc_Parts___init__ : FnScope ["self", "side", "step"] ["self", "side", "step"] (defScope s_Parts___init__) := ⟨rfl, rfl, rfl, by decide +kernel, rfl, by decide +kernel, by decide +kernel⟩
theorem ok_Parts___init__ {f : Addr} {fd : FuncData} (F : Fun K "__init__" "Parts.__init__" s_Parts___init__ f fd) (GC : OwnC P w K mg base 3 "Weighing" "__init__" ["self", "side"] (spI K 2 ["side"] (fun r _ ys => ys = r))) : FnOk P w K mg base (CXe P w) 5 f fd ["self", "side", "step"] (spI K 3 ["side", "step"] (fun r _ ys => ys = r)) :=
 F.okE sc_Parts___init__ (fun vs H Q E h => spI_len h) fun cdv A outer s H vs Q E hr h => ⟨_, pss_cons (ps_expr (pe_ownC GC hr (by decide) pass0e (pa_cons (pv 0) (pa_cons (pv 1) pa_nil)))) (pss_one (ps_fld (pv 0) (pv 2) rfl)), initB_reads h⟩
def b_is_whole : SF := (sRet (eAnd (eIsiV 0 "int") (eNot (eIsiV 0 "bool"))))
def d_is_whole : List D → Option R1 := fD 1 1 b_is_whole
theorem sc_is_whole : FnScope ["value"] ["value"] (defScope s_is_whole) := ⟨rfl, rfl, rfl, by decide +kernel, rfl, by decide +kernel, by decide +kernel⟩
theorem ok_is_whole {f : Addr} {fd : FuncData} (F : Fun K "is_whole" "is_whole" s_is_whole f fd) (T : Txt K mg c)  : FnOk P w K mg base (CXe P w) 3 f fd ["value"] (spD K c d_is_whole) :=
 F.okD (k := 2) sc_is_whole fun cdv A outer s H E hr => ⟨_, (pss_one (ps_ret (pe_and (pe_callB (callK_isi (K := K)) rfl T.z_isinstance bt_isinstance (pa_cons (pv 0) (pa_cons (pe_bltn (v := .ty "int") rfl T.z_int bt_int rfl) pa_nil))) (pe_one (pe_not (pe_callB (callK_isi (K := K)) rfl T.z_isinstance bt_isinstance (pa_cons (pv 0) (pa_cons (pe_bltn (v := .ty "bool") rfl T.z_bool bt_bool rfl) pa_nil)))))))), (rf_Ret (rf_And rf_IsiV (rf_Not rf_IsiV)))⟩
def b_check_side : SF := (sIf (bOr (bNot (bZ (eCall0 d_is_whole (aC (eV 0) aN)))) (bOr (bZ (eB gLt (eV 0) (eV 1))) (bZ (eB gGt (eV 0) (eV 2))))) (sRaise "BadSide" (aC (eJ (jC (eC (.str "a side is a whole number from ")) (jC (eFmt (eV 1)) (jC (eC (.str " to ")) (jC (eFmt (eV 2)) jN))))) aN)) sNx)
def d_check_side : List D → Option R1 := fD 3 3 b_check_side
theorem sc_check_side : FnScope ["side", "least", "most"] ["side", "least", "most"] (defScope s_check_side) := ⟨rfl, rfl, rfl, by decide +kernel, rfl, by decide +kernel, by decide +kernel⟩
theorem ok_check_side {f : Addr} {fd : FuncData} (F : Fun K "check_side" "check_side" s_check_side f fd) (T : Txt K mg c) (G_is_whole : Own P w K mg base 3 "is_whole" ["value"] (spD K c d_is_whole)) : FnOk P w K mg base (CXe P w) 5 f fd ["side", "least", "most"] (spD K c d_check_side) :=
 F.okD (k := 4) sc_check_side fun cdv A outer s H E hr => ⟨_, (pss_one (ps_if (PW.pt (pw_or (pt_not (pt_val (pe_own G_is_whole hr (by decide) pass0e (pa_cons (pv 0) pa_nil)))) (pw_or (pt_cmpR op_lt (pv 0) (pv 1) (nomark _)) (pw_or1 (pt_cmpR op_gt (pv 0) (pv 2) (nomark _)))))) (pss_one (ps_raise acc_def T.x_BadSide rfl T.m_BadSide (pa_cons (pe_joined (pj_cons pe_str (pj_cons (pe_fmt (pv 1)) (pj_cons pe_str (pj_cons (pe_fmt (pv 2)) pj_nil))))) pa_nil))) pss_nil)), (rf_If' (rf_bOr (rf_bNot (rf_bZ (rf_Call0 (rf_aC rf_v rf_aN)))) (rf_bOr (rf_bT (rf_op ok_lt rf_v rf_v)) (rf_bT (rf_op ok_gt rf_v rf_v)))) (rf_Raise (rf_aC (rf_J (rf_jC rf_c (rf_jC (rf_Fmt rf_v) (rf_jC rf_c (rf_jC (rf_Fmt rf_v) rf_jN))))) rf_aN)) rf_Nx)⟩
def b_check_step : SF := (sIf (bOr (bNot (bZ (eCall0 d_is_whole (aC (eV 0) aN)))) (bOr (bZ (eB gLt (eV 0) (eC (.int 1)))) (bZ (eB gGt (eV 0) (eV 1))))) (sRaise "NoWeighing" (aC (eJ (jC (eC (.str "the number of a row is a whole number from 1 to ")) (jC (eFmt (eV 1)) jN))) aN)) sNx)
def d_check_step : List D → Option R1 := fD 2 2 b_check_step
theorem sc_check_step : FnScope ["step", "most"] ["step", "most"] (defScope s_check_step) := ⟨rfl, rfl, rfl, by decide +kernel, rfl, by decide +kernel, by decide +kernel⟩
theorem ok_check_step {f : Addr} {fd : FuncData} (F : Fun K "check_step" "check_step" s_check_step f fd) (T : Txt K mg c) (G_is_whole : Own P w K mg base 3 "is_whole" ["value"] (spD K c d_is_whole)) : FnOk P w K mg base (CXe P w) 5 f fd ["step", "most"] (spD K c d_check_step) :=
 F.okD (k := 4) sc_check_step fun cdv A outer s H E hr => ⟨_, (pss_one (ps_if (PW.pt (pw_or (pt_not (pt_val (pe_own G_is_whole hr (by decide) pass0e (pa_cons (pv 0) pa_nil)))) (pw_or (pt_cmpR op_lt (pv 0) pe_int (nomark _)) (pw_or1 (pt_cmpR op_gt (pv 0) (pv 1) (nomark _)))))) (pss_one (ps_raise acc_def T.x_NoWeighing rfl T.m_NoWeighing (pa_cons (pe_joined (pj_cons pe_str (pj_cons (pe_fmt (pv 1)) pj_nil))) pa_nil))) pss_nil)), (rf_If' (rf_bOr (rf_bNot (rf_bZ (rf_Call0 (rf_aC rf_v rf_aN)))) (rf_bOr (rf_bT (rf_op ok_lt rf_v rf_c)) (rf_bT (rf_op ok_gt rf_v rf_v)))) (rf_Raise (rf_aC (rf_J (rf_jC rf_c (rf_jC (rf_Fmt rf_v) rf_jN))) rf_aN)) rf_Nx)⟩
def b_Weighing_weight : SF := (sRetV 1)
def d_Weighing_weight : List D → Option R1 := fD 2 2 b_Weighing_weight
theorem sc_Weighing_weight : FnScope ["self", "x"] ["self", "x"] (defScope s_Weighing_weight) := ⟨rfl, rfl, rfl, by decide +kernel, rfl, by decide +kernel, by decide +kernel⟩
theorem ok_Weighing_weight {f : Addr} {fd : FuncData} (F : Fun K "weight" "Weighing.weight" s_Weighing_weight f fd) (T : Txt K mg c)  : FnOk P w K mg base (CXe P w) 3 f fd ["self", "x"] (spD K c d_Weighing_weight) :=
 F.okD (k := 2) sc_Weighing_weight fun cdv A outer s H E hr => ⟨_, (pss_one (ps_ret (pv 1))), rf_RetV⟩
def b_Floors_weight : SF := (sRet (eB gDiv (eV 1) (eU (gFld ft_step "step") (eV 0))))
def d_Floors_weight : List D → Option R1 := fD 2 2 b_Floors_weight
theorem sc_Floors_weight : FnScope ["self", "x"] ["self", "x"] (defScope s_Floors_weight) := ⟨rfl, rfl, rfl, by decide +kernel, rfl, by decide +kernel, by decide +kernel⟩
theorem ok_Floors_weight {f : Addr} {fd : FuncData} (F : Fun K "weight" "Floors.weight" s_Floors_weight f fd) (T : Txt K mg c)  : FnOk P w K mg base (CXe P w) 3 f fd ["self", "x"] (spD K c d_Floors_weight) :=
 F.okD (k := 2) sc_Floors_weight fun cdv A outer s H E hr => ⟨_, (pss_one (ps_ret (pe_op op_fdivB (pv 1) (pe_fld (pv 0) rfl)))), (rf_Ret (rf_op ok_div rf_v (rf_Fld (ft_step_ok T) rf_v)))⟩
def b_Heavy_weight : SF := (sSeq (sIf (bZ (eB gLt (eV 1) (eU (gFld ft_step "step") (eV 0)))) (sRet (eC (.int 0))) sNx) (sRet (eIf (bZ (eB gGt (eV 1) (eB gSub' (eU (gFld ft_side "side") (eV 0)) (eU (gFld ft_step "step") (eV 0))))) (eU (gFld ft_side "side") (eV 0)) (eV 1))))
def d_Heavy_weight : List D → Option R1 := fD 2 2 b_Heavy_weight
theorem sc_Heavy_weight : FnScope ["self", "x"] ["self", "x"] (defScope s_Heavy_weight) := ⟨rfl, rfl, rfl, by decide +kernel, rfl, by decide +kernel, by decide +kernel⟩
theorem ok_Heavy_weight {f : Addr} {fd : FuncData} (F : Fun K "weight" "Heavy.weight" s_Heavy_weight f fd) (T : Txt K mg c)  : FnOk P w K mg base (CXe P w) 3 f fd ["self", "x"] (spD K c d_Heavy_weight) :=
 F.okD (k := 2) sc_Heavy_weight fun cdv A outer s H E hr => ⟨_, (pss_cons (ps_if (pt_cmpR op_lt (pv 1) (pe_fld (pv 0) rfl) (nomark _)) (pss_one (ps_ret pe_int)) pss_nil) (pss_one (ps_ret (pe_ifExp (pt_cmpR op_gt (pv 1) (pe_op op_sub (pe_fld (pv 0) rfl) (pe_fld (pv 0) rfl)) (nomark _)) (pe_fld (pv 0) rfl) (pv 1))))), (rf_Seq (rf_If' (rf_bT (rf_op ok_lt rf_v (rf_Fld (ft_step_ok T) rf_v))) (rf_Ret rf_c) rf_Nx) (rf_Ret (rf_If (rf_bT (rf_op ok_gt rf_v (rf_op ok_sub (rf_Fld (ft_side_ok T) rf_v) (rf_Fld (ft_step_ok T) rf_v)))) (rf_Fld (ft_side_ok T) rf_v) rf_v)))⟩
def b_Parts_weight : SF := (sSeq (sAsg (eCB gDivmod (aC (eB gMul (eB gAdd (eU (gFld ft_step "step") (eV 0)) (eC (.int 1))) (eV 1)) (aC (eU (gFld ft_side "side") (eV 0)) aN))) (bTup [(bName 2), (bName 3)])) (sRet (eIf (bZ (eB (gEq false) (eV 3) (eC (.int 0)))) (eB gMul (eU (gFld ft_step "step") (eV 0)) (eV 1)) (eB gMul (eU (gFld ft_side "side") (eV 0)) (eV 2)))))
def d_Parts_weight : List D → Option R1 := fD 4 2 b_Parts_weight
theorem sc_Parts_weight : FnScope ["self", "x", "count", "rest"] ["self", "x"] (defScope s_Parts_weight) := ⟨rfl, rfl, rfl, by decide +kernel, rfl, by decide +kernel, by decide +kernel⟩
theorem ok_Parts_weight {f : Addr} {fd : FuncData} (F : Fun K "weight" "Parts.weight" s_Parts_weight f fd) (T : Txt K mg c)  : FnOk P w K mg base (CXe P w) 3 f fd ["self", "x"] (spD K c d_Parts_weight) :=
 F.okD (k := 2) sc_Parts_weight fun cdv A outer s H E hr => ⟨_, (pss_cons (ps_asg (pe_callB callK_divmod rfl T.z_divmod bt_divmod (pa_cons (pe_op op_mulB (pe_op op_add (pe_fld (pv 0) rfl) pe_int) (pv 1)) (pa_cons (pe_fld (pv 0) rfl) pa_nil))) (pgK_tup (K := K) (n := 2) rfl (pgs_cons (pg_name (i := 2) sc_Parts_weight.nd rfl (Or.inl rfl)) (pgs_cons (pg_name (i := 3) sc_Parts_weight.nd rfl (Or.inl rfl)) pgs_nil)))) (pss_one (ps_ret (pe_ifExp (pt_cmpR op_eq (pv 3) pe_int (nomark _)) (pe_op op_mulB (pe_fld (pv 0) rfl) (pv 1)) (pe_op op_mulB (pe_fld (pv 0) rfl) (pv 2)))))), (rf_Seq (rf_Asg (rf_CB ok_divmod (rf_aC (rf_op ok_mul (rf_op ok_add (rf_Fld (ft_step_ok T) rf_v) rf_c) rf_v) (rf_aC (rf_Fld (ft_side_ok T) rf_v) rf_aN))) (rf_gTup (rf_gCons (rf_gName (k := 4) (by decide)) (rf_gCons (rf_gName (k := 4) (by decide)) rf_gNil)) rfl)) (rf_Ret (rf_If (rf_bT (rf_op ok_eq rf_v rf_c)) (rf_op ok_mul (rf_Fld (ft_step_ok T) rf_v) rf_v) (rf_op ok_mul (rf_Fld (ft_side_ok T) rf_v) rf_v))))⟩
def b_Matched_weight : SF := (sSeq (sSet 2 (eB gDiv (eU (gFld ft_side "side") (eV 0)) (eU (gFld ft_step "step") (eV 0)))) (sSeq (sIf (bZ (eB gGt (eB gMul (eC (.int 2)) (eV 1)) (eU (gFld ft_side "side") (eV 0)))) (sRet (eB gMul (eC (.int 2)) (eB gSub' (eV 2) (eB gDiv (eB gSub' (eU (gFld ft_side "side") (eV 0)) (eV 1)) (eU (gFld ft_step "step") (eV 0)))))) sNx) (sRet (eIf (bZ (eB (gEq false) (eB gMul (eC (.int 2)) (eV 1)) (eU (gFld ft_side "side") (eV 0)))) (eV 2) (eB gMul (eC (.int 2)) (eB gDiv (eV 1) (eU (gFld ft_step "step") (eV 0))))))))
def d_Matched_weight : List D → Option R1 := fD 3 2 b_Matched_weight
theorem sc_Matched_weight : FnScope ["self", "x", "count"] ["self", "x"] (defScope s_Matched_weight) := ⟨rfl, rfl, rfl, by decide +kernel, rfl, by decide +kernel, by decide +kernel⟩
theorem ok_Matched_weight {f : Addr} {fd : FuncData} (F : Fun K "weight" "Matched.weight" s_Matched_weight f fd) (T : Txt K mg c)  : FnOk P w K mg base (CXe P w) 3 f fd ["self", "x"] (spD K c d_Matched_weight) :=
 F.okD (k := 2) sc_Matched_weight fun cdv A outer s H E hr => ⟨_, (pss_cons (ps_set (i := 2) sc_Matched_weight.nd rfl (Or.inl rfl) (pe_op op_fdivB (pe_fld (pv 0) rfl) (pe_fld (pv 0) rfl))) (pss_cons (ps_if (pt_cmpR op_gt (pe_op op_mulB pe_int (pv 1)) (pe_fld (pv 0) rfl) (nomark _)) (pss_one (ps_ret (pe_op op_mulB pe_int (pe_op op_sub (pv 2) (pe_op op_fdivB (pe_op op_sub (pe_fld (pv 0) rfl) (pv 1)) (pe_fld (pv 0) rfl)))))) pss_nil) (pss_one (ps_ret (pe_ifExp (pt_cmpR op_eq (pe_op op_mulB pe_int (pv 1)) (pe_fld (pv 0) rfl) (nomark _)) (pv 2) (pe_op op_mulB pe_int (pe_op op_fdivB (pv 1) (pe_fld (pv 0) rfl)))))))), (rf_Seq (rf_Set (rf_op ok_div (rf_Fld (ft_side_ok T) rf_v) (rf_Fld (ft_step_ok T) rf_v))) (rf_Seq (rf_If' (rf_bT (rf_op ok_gt (rf_op ok_mul rf_c rf_v) (rf_Fld (ft_side_ok T) rf_v))) (rf_Ret (rf_op ok_mul rf_c (rf_op ok_sub rf_v (rf_op ok_div (rf_op ok_sub (rf_Fld (ft_side_ok T) rf_v) rf_v) (rf_Fld (ft_step_ok T) rf_v))))) rf_Nx) (rf_Ret (rf_If (rf_bT (rf_op ok_eq (rf_op ok_mul rf_c rf_v) (rf_Fld (ft_side_ok T) rf_v))) rf_v (rf_op ok_mul rf_c (rf_op ok_div rf_v (rf_Fld (ft_step_ok T) rf_v)))))))⟩
def b_Weighing_weigh (self_Weighing_weigh self_Nested_weight : List D → Option R1) : SF := (sSeq (sEx (eCall d_check_side (aC (eV 1) (aC (eC (.int 0)) (aC (eU (gFld ft_side "side") (eV 0)) aN))))) (sRet (eMeth (tab_weight d_Weighing_weight d_Floors_weight d_Heavy_weight d_Parts_weight d_Matched_weight self_Nested_weight) "weight" (eV 0) (aC (eV 1) aN))))
def b_Nested_weight (self_Weighing_weigh self_Nested_weight : List D → Option R1) : SF := (sRet (eMeth (tab_weigh self_Weighing_weigh) "weigh" (eU (gFld ft_outer "outer") (eV 0)) (aC (eMeth (tab_weigh self_Weighing_weigh) "weigh" (eU (gFld ft_inner "inner") (eV 0)) (aC (eV 1) aN)) aN)))
mutual
def d_Weighing_weigh : Nat → List D → Option R1
 | 0 => fun _ => none
 | m + 1 => fD 2 2 (b_Weighing_weigh (d_Weighing_weigh m) (d_Nested_weight m))
def d_Nested_weight : Nat → List D → Option R1
 | 0 => fun _ => none
 | m + 1 => fD 2 2 (b_Nested_weight (d_Weighing_weigh m) (d_Nested_weight m))
end
theorem sc_Weighing_weigh : FnScope ["self", "x"] ["self", "x"] (defScope s_Weighing_weigh) := ⟨rfl, rfl, rfl, by decide +kernel, rfl, by decide +kernel, by decide +kernel⟩
theorem sc_Nested_weight : FnScope ["self", "x"] ["self", "x"] (defScope s_Nested_weight) := ⟨rfl, rfl, rfl, by decide +kernel, rfl, by decide +kernel, by decide +kernel⟩
theorem okr_Weighing_weigh_Nested_weight (T : Txt K mg c) {f_Weighing_weigh : Addr} {fd_Weighing_weigh : FuncData} (F_Weighing_weigh : Fun K "weigh" "Weighing.weigh" s_Weighing_weigh f_Weighing_weigh fd_Weighing_weigh) (B_Weighing_weigh : Binds K fd_Weighing_weigh ["self", "x"] []) {f_Nested_weight : Addr} {fd_Nested_weight : FuncData} (F_Nested_weight : Fun K "weight" "Nested.weight" s_Nested_weight f_Nested_weight fd_Nested_weight) (B_Nested_weight : Binds K fd_Nested_weight ["self", "x"] []) (ME_Weighing_weigh : Meth K (c "Weighing") "weigh" f_Weighing_weigh) (ME_Floors_weigh : Meth K (c "Floors") "weigh" f_Weighing_weigh) (ME_Heavy_weigh : Meth K (c "Heavy") "weigh" f_Weighing_weigh) (ME_Parts_weigh : Meth K (c "Parts") "weigh" f_Weighing_weigh) (ME_Matched_weigh : Meth K (c "Matched") "weigh" f_Weighing_weigh) (ME_Nested_weigh : Meth K (c "Nested") "weigh" f_Weighing_weigh) (ME_Nested_weight : Meth K (c "Nested") "weight" f_Nested_weight) (G_check_side : Own P w K mg base 5 "check_side" ["side", "least", "most"] (spD K c d_check_side)) (OM_Weighing_weight : OwnM P w K mg base 3 (c "Weighing") "weight" ["self", "x"] (spD K c d_Weighing_weight)) (OM_Floors_weight : OwnM P w K mg base 3 (c "Floors") "weight" ["self", "x"] (spD K c d_Floors_weight)) (OM_Heavy_weight : OwnM P w K mg base 3 (c "Heavy") "weight" ["self", "x"] (spD K c d_Heavy_weight)) (OM_Parts_weight : OwnM P w K mg base 3 (c "Parts") "weight" ["self", "x"] (spD K c d_Parts_weight)) (OM_Matched_weight : OwnM P w K mg base 3 (c "Matched") "weight" ["self", "x"] (spD K c d_Matched_weight)) : ∀ m : Nat, FnOk P w K mg base (CXe P w) (6 + 2 * m + 1) f_Weighing_weigh fd_Weighing_weigh ["self", "x"] (spD K c (d_Weighing_weigh m)) ∧ FnOk P w K mg base (CXe P w) (6 + 2 * m + 1) f_Nested_weight fd_Nested_weight ["self", "x"] (spD K c (d_Nested_weight m))
 | 0 => ⟨fnok_none, fnok_none⟩
 | m + 1 => by
  obtain ⟨h_Weighing_weigh, h_Nested_weight⟩ := okr_Weighing_weigh_Nested_weight T F_Weighing_weigh B_Weighing_weigh F_Nested_weight B_Nested_weight ME_Weighing_weigh ME_Floors_weigh ME_Heavy_weigh ME_Parts_weigh ME_Matched_weigh ME_Nested_weigh ME_Nested_weight G_check_side OM_Weighing_weight OM_Floors_weight OM_Heavy_weight OM_Parts_weight OM_Matched_weight m
  have OM_Weighing_weigh : OwnM P w K mg base (6 + 2 * m + 1) (c "Weighing") "weigh" ["self", "x"] (spD K c (d_Weighing_weigh m)) := ⟨⟨_, _, h_Weighing_weigh, B_Weighing_weigh, ME_Weighing_weigh⟩, T.cl_Weighing⟩
  have OM_Floors_weigh : OwnM P w K mg base (6 + 2 * m + 1) (c "Floors") "weigh" ["self", "x"] (spD K c (d_Weighing_weigh m)) := ⟨⟨_, _, h_Weighing_weigh, B_Weighing_weigh, ME_Floors_weigh⟩, T.cl_Floors⟩
  have OM_Heavy_weigh : OwnM P w K mg base (6 + 2 * m + 1) (c "Heavy") "weigh" ["self", "x"] (spD K c (d_Weighing_weigh m)) := ⟨⟨_, _, h_Weighing_weigh, B_Weighing_weigh, ME_Heavy_weigh⟩, T.cl_Heavy⟩
  have OM_Parts_weigh : OwnM P w K mg base (6 + 2 * m + 1) (c "Parts") "weigh" ["self", "x"] (spD K c (d_Weighing_weigh m)) := ⟨⟨_, _, h_Weighing_weigh, B_Weighing_weigh, ME_Parts_weigh⟩, T.cl_Parts⟩
  have OM_Matched_weigh : OwnM P w K mg base (6 + 2 * m + 1) (c "Matched") "weigh" ["self", "x"] (spD K c (d_Weighing_weigh m)) := ⟨⟨_, _, h_Weighing_weigh, B_Weighing_weigh, ME_Matched_weigh⟩, T.cl_Matched⟩
  have OM_Nested_weigh : OwnM P w K mg base (6 + 2 * m + 1) (c "Nested") "weigh" ["self", "x"] (spD K c (d_Weighing_weigh m)) := ⟨⟨_, _, h_Weighing_weigh, B_Weighing_weigh, ME_Nested_weigh⟩, T.cl_Nested⟩
  have OM_Nested_weight : OwnM P w K mg base (6 + 2 * m + 1) (c "Nested") "weight" ["self", "x"] (spD K c (d_Nested_weight m)) := ⟨⟨_, _, h_Nested_weight, B_Nested_weight, ME_Nested_weight⟩, T.cl_Nested⟩
  exact ⟨F_Weighing_weigh.okD (k := 6 + 2 * m + 2) sc_Weighing_weigh fun cdv A outer s H E hr => ⟨_, (pss_cons (ps_expr (pe_own G_check_side hr (by omega) (XAcc.passes acc_def) (pa_cons (pv 1) (pa_cons pe_int (pa_cons (pe_fld (pv 0) rfl) pa_nil))))) (pss_one (ps_ret (pe_methD (pv 0) (mo_weight hr (XAcc.passes acc_def) ⟨_, _, (by omega), OM_Weighing_weight⟩ ⟨_, _, (by omega), OM_Floors_weight⟩ ⟨_, _, (by omega), OM_Heavy_weight⟩ ⟨_, _, (by omega), OM_Parts_weight⟩ ⟨_, _, (by omega), OM_Matched_weight⟩ ⟨_, _, (by omega), OM_Nested_weight⟩) (pa_cons (pv 1) pa_nil))))), (rf_Seq (rf_Ex (rf_Call (rf_aC rf_v (rf_aC rf_c (rf_aC (rf_Fld (ft_side_ok T) rf_v) rf_aN))))) (rf_Ret (rf_Meth rf_v (rf_aC rf_v rf_aN))))⟩, F_Nested_weight.okD (k := 6 + 2 * m + 2) sc_Nested_weight fun cdv A outer s H E hr => ⟨_, (pss_one (ps_ret (pe_methD (pe_fld (pv 0) rfl) (mo_weigh hr (XAcc.passes acc_def) ⟨_, _, (by omega), OM_Weighing_weigh⟩ ⟨_, _, (by omega), OM_Floors_weigh⟩ ⟨_, _, (by omega), OM_Heavy_weigh⟩ ⟨_, _, (by omega), OM_Parts_weigh⟩ ⟨_, _, (by omega), OM_Matched_weigh⟩ ⟨_, _, (by omega), OM_Nested_weigh⟩) (pa_cons (pe_methD (pe_fld (pv 0) rfl) (mo_weigh hr (XAcc.passes acc_def) ⟨_, _, (by omega), OM_Weighing_weigh⟩ ⟨_, _, (by omega), OM_Floors_weigh⟩ ⟨_, _, (by omega), OM_Heavy_weigh⟩ ⟨_, _, (by omega), OM_Parts_weigh⟩ ⟨_, _, (by omega), OM_Matched_weigh⟩ ⟨_, _, (by omega), OM_Nested_weigh⟩) (pa_cons (pv 1) pa_nil)) pa_nil)))), (rf_Ret (rf_Meth (rf_Fld (ft_outer_ok T) rf_v) (rf_aC (rf_Meth (rf_Fld (ft_inner_ok T) rf_v) (rf_aC rf_v rf_aN)) rf_aN)))⟩⟩
def b_Weighing_whole : SF := (sRet (eMeth (tab_weigh (d_Weighing_weigh 8)) "weigh" (eV 0) (aC (eU (gFld ft_side "side") (eV 0)) aN)))
def d_Weighing_whole : List D → Option R1 := fD 1 1 b_Weighing_whole
theorem sc_Weighing_whole : FnScope ["self"] ["self"] (defScope s_Weighing_whole) := ⟨rfl, rfl, rfl, by decide +kernel, rfl, by decide +kernel, by decide +kernel⟩
theorem ok_Weighing_whole {f : Addr} {fd : FuncData} (F : Fun K "whole" "Weighing.whole" s_Weighing_whole f fd) (T : Txt K mg c) (OM_Weighing_weigh : OwnM P w K mg base 23 (c "Weighing") "weigh" ["self", "x"] (spD K c (d_Weighing_weigh 8))) (OM_Floors_weigh : OwnM P w K mg base 23 (c "Floors") "weigh" ["self", "x"] (spD K c (d_Weighing_weigh 8))) (OM_Heavy_weigh : OwnM P w K mg base 23 (c "Heavy") "weigh" ["self", "x"] (spD K c (d_Weighing_weigh 8))) (OM_Parts_weigh : OwnM P w K mg base 23 (c "Parts") "weigh" ["self", "x"] (spD K c (d_Weighing_weigh 8))) (OM_Matched_weigh : OwnM P w K mg base 23 (c "Matched") "weigh" ["self", "x"] (spD K c (d_Weighing_weigh 8))) (OM_Nested_weigh : OwnM P w K mg base 23 (c "Nested") "weigh" ["self", "x"] (spD K c (d_Weighing_weigh 8))) : FnOk P w K mg base (CXe P w) 25 f fd ["self"] (spD K c d_Weighing_whole) :=
 F.okD (k := 24) sc_Weighing_whole fun cdv A outer s H E hr => ⟨_, (pss_one (ps_ret (pe_methD (pv 0) (mo_weigh hr (XAcc.passes acc_def) ⟨_, _, (by decide), OM_Weighing_weigh⟩ ⟨_, _, (by decide), OM_Floors_weigh⟩ ⟨_, _, (by decide), OM_Heavy_weigh⟩ ⟨_, _, (by decide), OM_Parts_weigh⟩ ⟨_, _, (by decide), OM_Matched_weigh⟩ ⟨_, _, (by decide), OM_Nested_weigh⟩) (pa_cons (pe_fld (pv 0) rfl) pa_nil)))), (rf_Ret (rf_Meth rf_v (rf_aC (rf_Fld (ft_side_ok T) rf_v) rf_aN)))⟩
def b_made_stepped : SF := (sSeq (sEx (eCall d_check_step (aC (eV 2) (aC (eIf (bZ (eB (gEq false) (eV 1) (eC (.str "parts")))) (eC (.int 60)) (eV 0)) aN)))) (sSeq (sIf (bZ (eB (gEq false) (eV 1) (eC (.str "floors")))) (sRet (eNew "Floors" ["side", "step"] (selA 2) (aC (eV 0) (aC (eV 2) aN)))) sNx) (sSeq (sIf (bZ (eB (gEq false) (eV 1) (eC (.str "heavy")))) (sRet (eNew "Heavy" ["side", "step"] (selA 2) (aC (eV 0) (aC (eV 2) aN)))) sNx) (sSeq (sIf (bZ (eB (gEq false) (eV 1) (eC (.str "parts")))) (sRet (eNew "Parts" ["side", "step"] (selA 2) (aC (eV 0) (aC (eV 2) aN)))) sNx) (sRet (eNew "Matched" ["side", "step"] (selA 2) (aC (eV 0) (aC (eV 2) aN))))))))
def d_made_stepped : List D → Option R1 := fD 3 3 b_made_stepped
theorem sc_made_stepped : FnScope ["side", "word", "step"] ["side", "word", "step"] (defScope s_made_stepped) := ⟨rfl, rfl, rfl, by decide +kernel, rfl, by decide +kernel, by decide +kernel⟩
theorem ok_made_stepped {f : Addr} {fd : FuncData} (F : Fun K "made_stepped" "made_stepped" s_made_stepped f fd) (T : Txt K mg c) (G_check_step : Own P w K mg base 5 "check_step" ["step", "most"] (spD K c d_check_step)) (N_Floors : OwnN P w K mg base 5 "Floors" (c "Floors") ["self", "side", "step"] (spI K 3 ["side", "step"] (fun r _ ys => ys = r))) (N_Heavy : OwnN P w K mg base 5 "Heavy" (c "Heavy") ["self", "side", "step"] (spI K 3 ["side", "step"] (fun r _ ys => ys = r))) (N_Parts : OwnN P w K mg base 5 "Parts" (c "Parts") ["self", "side", "step"] (spI K 3 ["side", "step"] (fun r _ ys => ys = r))) (N_Matched : OwnN P w K mg base 5 "Matched" (c "Matched") ["self", "side", "step"] (spI K 3 ["side", "step"] (fun r _ ys => ys = r))) : FnOk P w K mg base (CXe P w) 7 f fd ["side", "word", "step"] (spD K c d_made_stepped) :=
 F.okD (k := 6) sc_made_stepped fun cdv A outer s H E hr => ⟨_, (pss_cons (ps_expr (pe_own G_check_step hr (by decide) (XAcc.passes acc_def) (pa_cons (pv 2) (pa_cons (pe_ifExp (pt_cmpR op_eq (pv 1) pe_str (nomark _)) (pe_gconst rfl T.v_MOST_PARTS) (pv 0)) pa_nil)))) (pss_cons (ps_if (pt_cmpR op_eq (pv 1) pe_str (nomark _)) (pss_one (ps_ret (pe_ownN N_Floors hr (by decide) pass0e (pa_cons (pv 0) (pa_cons (pv 2) pa_nil))))) pss_nil) (pss_cons (ps_if (pt_cmpR op_eq (pv 1) pe_str (nomark _)) (pss_one (ps_ret (pe_ownN N_Heavy hr (by decide) pass0e (pa_cons (pv 0) (pa_cons (pv 2) pa_nil))))) pss_nil) (pss_cons (ps_if (pt_cmpR op_eq (pv 1) pe_str (nomark _)) (pss_one (ps_ret (pe_ownN N_Parts hr (by decide) pass0e (pa_cons (pv 0) (pa_cons (pv 2) pa_nil))))) pss_nil) (pss_one (ps_ret (pe_ownN N_Matched hr (by decide) pass0e (pa_cons (pv 0) (pa_cons (pv 2) pa_nil))))))))), (rf_Seq (rf_Ex (rf_Call (rf_aC rf_v (rf_aC (rf_If (rf_bT (rf_op ok_eq rf_v rf_c)) rf_c rf_v) rf_aN)))) (rf_Seq (rf_If' (rf_bT (rf_op ok_eq rf_v rf_c)) (rf_Ret (rf_New T.cl_Floors (na_Floors T) (by decide +kernel) (by decide) selA_ok (rf_aC rf_v (rf_aC rf_v rf_aN)))) rf_Nx) (rf_Seq (rf_If' (rf_bT (rf_op ok_eq rf_v rf_c)) (rf_Ret (rf_New T.cl_Heavy (na_Heavy T) (by decide +kernel) (by decide) selA_ok (rf_aC rf_v (rf_aC rf_v rf_aN)))) rf_Nx) (rf_Seq (rf_If' (rf_bT (rf_op ok_eq rf_v rf_c)) (rf_Ret (rf_New T.cl_Parts (na_Parts T) (by decide +kernel) (by decide) selA_ok (rf_aC rf_v (rf_aC rf_v rf_aN)))) rf_Nx) (rf_Ret (rf_New T.cl_Matched (na_Matched T) (by decide +kernel) (by decide) selA_ok (rf_aC rf_v (rf_aC rf_v rf_aN))))))))⟩
def b_made_nested (self_made_nested self_made_weighing : List D → Option R1) : SF := (sSeq (sSetC 3 self_made_weighing (aC (eV 0) (aC (eV 1) aN))) (sRet (eNew "Nested" ["side", "inner", "outer"] (selC ft_side "side") (aC (eV 3) (aC (eCall self_made_weighing (aC (eMeth (tab_whole d_Weighing_whole) "whole" (eV 3) aN) (aC (eV 2) aN))) aN)))))
def b_made_weighing (self_made_nested self_made_weighing : List D → Option R1) : SF := (sSeq (sIf (bZ (eB gLt (eV 0) (eC (.int 1)))) (sRaise "NoWeighing" (aC (eC (.str "a side of nought has no weighing")) aN)) sNx) (sSeq (sIf (bZ (eB (gEqT false) (eV 1) (eT (aC (eC (.str "plain")) aN)))) (sRet (eNew "Weighing" ["side"] (selA 1) (aC (eV 0) aN))) sNx) (sSeq (sIf (bAnd (bZ (eIsiV 1 "tuple")) (bAnd (bZ (eB (gEq false) (eCV gLen 1) (eC (.int 3)))) (bZ (eB (gEq false) (eB gIxT (eV 1) (eC (.int 0))) (eC (.str "nested")))))) (sRetC self_made_nested (aC (eV 0) (aC (eB gIxT (eV 1) (eC (.int 1))) (aC (eB gIxT (eV 1) (eC (.int 2))) aN)))) sNx) (sSeq (sIf (bAnd (bZ (eIsiV 1 "tuple")) (bAnd (bZ (eB (gEq false) (eCV gLen 1) (eC (.int 2)))) (bZ (eB (gIn false) (eB gIxT (eV 1) (eC (.int 0))) (eT (aC (eC (.str "floors")) (aC (eC (.str "heavy")) (aC (eC (.str "parts")) (aC (eC (.str "matched")) aN))))))))) (sRetC d_made_stepped (aC (eV 0) (aC (eB gIxT (eV 1) (eC (.int 0))) (aC (eB gIxT (eV 1) (eC (.int 1))) aN)))) sNx) (sRaise "NoWeighing" (aC (eC (.str "a row is of one of the told forms")) aN))))))
mutual
def d_made_nested : Nat → List D → Option R1
 | 0 => fun _ => none
 | m + 1 => fD 4 3 (b_made_nested (d_made_nested m) (d_made_weighing m))
def d_made_weighing : Nat → List D → Option R1
 | 0 => fun _ => none
 | m + 1 => fD 2 2 (b_made_weighing (d_made_nested m) (d_made_weighing m))
end
theorem sc_made_nested : FnScope ["side", "row", "other", "inner"] ["side", "row", "other"] (defScope s_made_nested) := ⟨rfl, rfl, rfl, by decide +kernel, rfl, by decide +kernel, by decide +kernel⟩
theorem sc_made_weighing : FnScope ["side", "row"] ["side", "row"] (defScope s_made_weighing) := ⟨rfl, rfl, rfl, by decide +kernel, rfl, by decide +kernel, by decide +kernel⟩
theorem okr_made_nested_made_weighing (T : Txt K mg c) {f_made_nested : Addr} {fd_made_nested : FuncData} (F_made_nested : Fun K "made_nested" "made_nested" s_made_nested f_made_nested fd_made_nested) (B_made_nested : Binds K fd_made_nested ["side", "row", "other"] []) (kp_made_nested : PySem.W.keepIn K (.ref f_made_nested) = true) (hm_made_nested : mg "made_nested" = some (.ref f_made_nested)) {f_made_weighing : Addr} {fd_made_weighing : FuncData} (F_made_weighing : Fun K "made_weighing" "made_weighing" s_made_weighing f_made_weighing fd_made_weighing) (B_made_weighing : Binds K fd_made_weighing ["side", "row"] []) (kp_made_weighing : PySem.W.keepIn K (.ref f_made_weighing) = true) (hm_made_weighing : mg "made_weighing" = some (.ref f_made_weighing)) (OM_Weighing_whole : OwnM P w K mg base 25 (c "Weighing") "whole" ["self"] (spD K c d_Weighing_whole)) (OM_Floors_whole : OwnM P w K mg base 25 (c "Floors") "whole" ["self"] (spD K c d_Weighing_whole)) (OM_Heavy_whole : OwnM P w K mg base 25 (c "Heavy") "whole" ["self"] (spD K c d_Weighing_whole)) (OM_Parts_whole : OwnM P w K mg base 25 (c "Parts") "whole" ["self"] (spD K c d_Weighing_whole)) (OM_Matched_whole : OwnM P w K mg base 25 (c "Matched") "whole" ["self"] (spD K c d_Weighing_whole)) (OM_Nested_whole : OwnM P w K mg base 25 (c "Nested") "whole" ["self"] (spD K c d_Weighing_whole)) (N_Nested : OwnN P w K mg base 5 "Nested" (c "Nested") ["self", "inner", "outer"] (spI K 3 ["side", "inner", "outer"] (fun r H ys => ∃ a b C dx fs v, r = [.ref a, b] ∧ H a = some (.ins C dx fs) ∧ Cls K C ∧ NoAttr K C "side" ∧ fs.lookup ("side" : Str) = some v ∧ ys = [v, .ref a, b]))) (G_made_stepped : Own P w K mg base 7 "made_stepped" ["side", "word", "step"] (spD K c d_made_stepped)) (N_Weighing : OwnN P w K mg base 3 "Weighing" (c "Weighing") ["self", "side"] (spI K 2 ["side"] (fun r _ ys => ys = r))) : ∀ m : Nat, FnOk P w K mg base (CXe P w) (26 + 2 * m + 1) f_made_nested fd_made_nested ["side", "row", "other"] (spD K c (d_made_nested m)) ∧ FnOk P w K mg base (CXe P w) (26 + 2 * m + 1) f_made_weighing fd_made_weighing ["side", "row"] (spD K c (d_made_weighing m))
 | 0 => ⟨fnok_none, fnok_none⟩
 | m + 1 => by
  obtain ⟨h_made_nested, h_made_weighing⟩ := okr_made_nested_made_weighing T F_made_nested B_made_nested kp_made_nested hm_made_nested F_made_weighing B_made_weighing kp_made_weighing hm_made_weighing OM_Weighing_whole OM_Floors_whole OM_Heavy_whole OM_Parts_whole OM_Matched_whole OM_Nested_whole N_Nested G_made_stepped N_Weighing m
  have G_made_nested : Own P w K mg base (26 + 2 * m + 1) "made_nested" ["side", "row", "other"] (spD K c (d_made_nested m)) := ⟨_, _, h_made_nested, B_made_nested, kp_made_nested, hm_made_nested⟩
  have G_made_weighing : Own P w K mg base (26 + 2 * m + 1) "made_weighing" ["side", "row"] (spD K c (d_made_weighing m)) := ⟨_, _, h_made_weighing, B_made_weighing, kp_made_weighing, hm_made_weighing⟩
  exact ⟨F_made_nested.okD (k := 26 + 2 * m + 2) sc_made_nested fun cdv A outer s H E hr => ⟨_, (pss_cons (ps_set (i := 3) sc_made_nested.nd rfl (Or.inl rfl) (pe_own G_made_weighing hr (by omega) (XAcc.passes acc_def) (pa_cons (pv 0) (pa_cons (pv 1) pa_nil)))) (pss_one (ps_ret (pe_ownN N_Nested hr (by omega) pass0e (pa_cons (pv 3) (pa_cons (pe_own G_made_weighing hr (by omega) (XAcc.passes acc_def) (pa_cons (pe_methD0 (pv 3) (mo_whole hr (XAcc.passes acc_def) ⟨_, _, (by omega), OM_Weighing_whole⟩ ⟨_, _, (by omega), OM_Floors_whole⟩ ⟨_, _, (by omega), OM_Heavy_whole⟩ ⟨_, _, (by omega), OM_Parts_whole⟩ ⟨_, _, (by omega), OM_Matched_whole⟩ ⟨_, _, (by omega), OM_Nested_whole⟩)) (pa_cons (pv 2) pa_nil))) pa_nil)))))), (rf_Seq (rf_SetC (rf_aC rf_v (rf_aC rf_v rf_aN))) (rf_Ret (rf_New T.cl_Nested (na_Nested T) (by decide +kernel) (by decide) (selC_ok (ft_side_ok T)) (rf_aC rf_v (rf_aC (rf_Call (rf_aC (rf_Meth rf_v rf_aN) (rf_aC rf_v rf_aN))) rf_aN)))))⟩, F_made_weighing.okD (k := 26 + 2 * m + 2) sc_made_weighing fun cdv A outer s H E hr => ⟨_, (pss_cons (ps_if (pt_cmpR op_lt (pv 0) pe_int (nomark _)) (pss_one (ps_raise acc_def T.x_NoWeighing rfl T.m_NoWeighing (pa_cons pe_str pa_nil))) pss_nil) (pss_cons (ps_if (pt_cmpR (opK_eqT (K := K) (cl := c) (hu40 hr)) (pv 1) (pe_tup (pa_cons pe_str pa_nil)) (nomark _)) (pss_one (ps_ret (pe_ownN N_Weighing hr (by omega) pass0e (pa_cons (pv 0) pa_nil)))) pss_nil) (pss_cons (ps_if (PW.pt (pw_and (pt_val (pe_callB (callK_isi (K := K)) rfl T.z_isinstance bt_isinstance (pa_cons (pv 1) (pa_cons (pe_bltn (v := .ty "tuple") rfl T.z_tuple bt_tuple rfl) pa_nil)))) (pw_and (pt_cmpR op_eq (pe_callB (callK_len_seq (K := K)) rfl T.z_len bt_len (pa_cons (pv 1) pa_nil)) pe_int (nomark _)) (pw_and1 (pt_cmpR op_eq (pe_ix (ixK_tup (K := K)) (pv 1) pe_int (fun _ _ => rfl)) pe_str (nomark _)))))) (pss_one (ps_ret (pe_own G_made_nested hr (by omega) (XAcc.passes acc_def) (pa_cons (pv 0) (pa_cons (pe_ix (ixK_tup (K := K)) (pv 1) pe_int (fun _ _ => rfl)) (pa_cons (pe_ix (ixK_tup (K := K)) (pv 1) pe_int (fun _ _ => rfl)) pa_nil)))))) pss_nil) (pss_cons (ps_if (PW.pt (pw_and (pt_val (pe_callB (callK_isi (K := K)) rfl T.z_isinstance bt_isinstance (pa_cons (pv 1) (pa_cons (pe_bltn (v := .ty "tuple") rfl T.z_tuple bt_tuple rfl) pa_nil)))) (pw_and (pt_cmpR op_eq (pe_callB (callK_len_seq (K := K)) rfl T.z_len bt_len (pa_cons (pv 1) pa_nil)) pe_int (nomark _)) (pw_and1 (pt_cmpR (opK_in (K := K)) (pe_ix (ixK_tup (K := K)) (pv 1) pe_int (fun _ _ => rfl)) (pe_tup (pa_str (pa_str (pa_str (pa_str pa_nil))))) (by with_unfolding_all rfl)))))) (pss_one (ps_ret (pe_own G_made_stepped hr (by omega) (XAcc.passes acc_def) (pa_cons (pv 0) (pa_cons (pe_ix (ixK_tup (K := K)) (pv 1) pe_int (fun _ _ => rfl)) (pa_cons (pe_ix (ixK_tup (K := K)) (pv 1) pe_int (fun _ _ => rfl)) pa_nil)))))) pss_nil) (pss_one (ps_raise acc_def T.x_NoWeighing rfl T.m_NoWeighing (pa_cons pe_str pa_nil))))))), (rf_Seq (rf_If' (rf_bT (rf_op ok_lt rf_v rf_c)) (rf_Raise (rf_aC rf_c rf_aN)) rf_Nx) (rf_Seq (rf_If' (rf_bT (rf_op ok_eqT rf_v (rf_T (rf_aC rf_c rf_aN)))) (rf_Ret (rf_New T.cl_Weighing (na_Weighing T) (by decide +kernel) (by decide) selA_ok (rf_aC rf_v rf_aN))) rf_Nx) (rf_Seq (rf_If' (rf_bAnd (rf_bZ rf_IsiV) (rf_bAnd (rf_bT (rf_op ok_eq (rf_CV ok_len) rf_c)) (rf_bT (rf_op ok_eq (rf_op ok_ixT rf_v rf_c) rf_c)))) (rf_RetC (rf_aC rf_v (rf_aC (rf_op ok_ixT rf_v rf_c) (rf_aC (rf_op ok_ixT rf_v rf_c) rf_aN)))) rf_Nx) (rf_Seq (rf_If' (rf_bAnd (rf_bZ rf_IsiV) (rf_bAnd (rf_bT (rf_op ok_eq (rf_CV ok_len) rf_c)) (rf_bT (rf_op ok_in (rf_op ok_ixT rf_v rf_c) (rf_T (rf_aC rf_c (rf_aC rf_c (rf_aC rf_c (rf_aC rf_c rf_aN))))))))) (rf_RetC (rf_aC rf_v (rf_aC (rf_op ok_ixT rf_v rf_c) (rf_aC (rf_op ok_ixT rf_v rf_c) rf_aN)))) rf_Nx) (rf_Raise (rf_aC rf_c rf_aN))))))⟩⟩
def b_l_cell_at : SF := (sSeq (sIf (bZ (eB gLt (eV 1) (eCV gLen 0))) (sRet (eBV gIxL 0 (eV 1))) sNx) (sRet (eC (.int 0))))
def d_l_cell_at : List D → Option R1 := fD 2 2 b_l_cell_at
theorem sc_l_cell_at : FnScope ["_law_script", "_law_k"] ["_law_script", "_law_k"] (defScope s_l_cell_at) := ⟨rfl, rfl, rfl, by decide +kernel, rfl, by decide +kernel, by decide +kernel⟩
theorem ok_l_cell_at {f : Addr} {fd : FuncData} (F : Fun K "_law_cell_at" "_law_cell_at" s_l_cell_at f fd) (T : Txt K mg c)  : FnOk P w K mg base (CXe P w) 3 f fd ["_law_script", "_law_k"] (spD K c d_l_cell_at) :=
 F.okD (k := 2) sc_l_cell_at fun cdv A outer s H E hr => ⟨_, (pss_cons (ps_if (pt_cmpR op_lt (pv 1) (pe_callB (callK_len_seq (K := K)) rfl T.z_len bt_len (pa_cons (pv 0) pa_nil)) (nomark _)) (pss_one (ps_ret (pe_ix (ixK_list (K := K)) (pv 0) (pv 1) (fun _ _ => rfl)))) pss_nil) (pss_one (ps_ret pe_int))), (rf_Seq (rf_If' (rf_bT (rf_op ok_lt rf_v (rf_CV ok_len))) (rf_Ret (rf_opV ok_ixL rf_v)) rf_Nx) (rf_Ret rf_c))⟩
def b_l_side : SF := (sSeq (sIf (bZ (eB (gEq false) (eB gMod (eV 0) (eC (.int 4))) (eC (.int 3)))) (sRet (eB gAdd (eC (.int 1)) (eB gMod (eB gDiv (eV 0) (eC (.int 4))) (eB gPow (eC (.int 10)) (eC (.int 42)))))) sNx) (sRet (eB gAdd (eC (.int 1)) (eB gMod (eB gDiv (eV 0) (eC (.int 4))) (eB gIxL (zN (eL (aC (eC (.int 12)) (aC (eC (.int 60)) (aC (eC (.int 400)) aN))))) (eB gMod (eV 0) (eC (.int 4))))))))
def d_l_side : List D → Option R1 := fD 1 1 b_l_side
theorem sc_l_side : FnScope ["_law_cell"] ["_law_cell"] (defScope s_l_side) := ⟨rfl, rfl, rfl, by decide +kernel, rfl, by decide +kernel, by decide +kernel⟩
theorem ok_l_side {f : Addr} {fd : FuncData} (F : Fun K "_law_side" "_law_side" s_l_side f fd) (T : Txt K mg c)  : FnOk P w K mg base (CXe P w) 3 f fd ["_law_cell"] (spD K c d_l_side) :=
 F.okD (k := 2) sc_l_side fun cdv A outer s H E hr => ⟨_, (pss_cons (ps_if (pt_cmpR op_eq (pe_op op_mod (pv 0) pe_int) pe_int (nomark _)) (pss_one (ps_ret (pe_op op_add pe_int (pe_op op_mod (pe_op op_fdivB (pv 0) pe_int) (pe_op op_pow pe_int pe_int))))) pss_nil) (pss_one (ps_ret (pe_op op_add pe_int (pe_op op_mod (pe_op op_fdivB (pv 0) pe_int) (pe_ix (ixK_list (K := K)) (pe_lst (pa_cons pe_int (pa_cons pe_int (pa_cons pe_int pa_nil)))) (pe_op op_mod (pv 0) pe_int) (fun _ _ => rfl))))))), (rf_Seq (rf_If' (rf_bT (rf_op ok_eq (rf_op ok_mod rf_v rf_c) rf_c)) (rf_Ret (rf_op ok_add rf_c (rf_op ok_mod (rf_op ok_div rf_v rf_c) (rf_op ok_pow rf_c rf_c)))) rf_Nx) (rf_Ret (rf_op ok_add rf_c (rf_op ok_mod (rf_op ok_div rf_v rf_c) (rf_op ok_ixL (rf_zN (rf_L (rf_aC rf_c (rf_aC rf_c (rf_aC rf_c rf_aN))))) (rf_op ok_mod rf_v rf_c))))))⟩
def b_l_most : SF := (sSeq (sIf (bZ (eB (gEq false) (eV 0) (eC (.str "parts")))) (sRet (eC (.int 60))) sNx) (sRetV 1))
def d_l_most : List D → Option R1 := fD 2 2 b_l_most
theorem sc_l_most : FnScope ["_law_word", "_law_side_here"] ["_law_word", "_law_side_here"] (defScope s_l_most) := ⟨rfl, rfl, rfl, by decide +kernel, rfl, by decide +kernel, by decide +kernel⟩
theorem ok_l_most {f : Addr} {fd : FuncData} (F : Fun K "_law_most" "_law_most" s_l_most f fd) (T : Txt K mg c)  : FnOk P w K mg base (CXe P w) 3 f fd ["_law_word", "_law_side_here"] (spD K c d_l_most) :=
 F.okD (k := 2) sc_l_most fun cdv A outer s H E hr => ⟨_, (pss_cons (ps_if (pt_cmpR op_eq (pv 0) pe_str (nomark _)) (pss_one (ps_ret pe_int)) pss_nil) (pss_one (ps_ret (pv 1)))), (rf_Seq (rf_If' (rf_bT (rf_op ok_eq rf_v rf_c)) (rf_Ret rf_c) rf_Nx) rf_RetV)⟩
def b_l_good : SF := (sSeq (sSet 2 (eB gIxL (zN (eL (aC (eC (.str "floors")) (aC (eC (.str "heavy")) (aC (eC (.str "parts")) (aC (eC (.str "matched")) (aC (eC (.str "plain")) aN))))))) (eB gMod (eV 0) (eC (.int 5))))) (sSeq (sSetC0 3 d_l_most (aC (eV 2) (aC (eV 1) aN))) (sSeq (sIf (bZ (eB (gEq false) (eV 2) (eC (.str "plain")))) (sRet (eT (aC (eV 2) aN))) sNx) (sRet (eT (aC (eV 2) (aC (eB gIxL (zN (eL (aC (eC (.int 1)) (aC (eV 3) (aC (eB gAdd (eC (.int 1)) (eB gMod (eB gDiv (eV 0) (eC (.int 20))) (eV 3))) (aC (eV 3) aN)))))) (eB gMod (eB gDiv (eV 0) (eC (.int 5))) (eC (.int 4)))) aN)))))))
def d_l_good : List D → Option R1 := fD 4 2 b_l_good
theorem sc_l_good : FnScope ["_law_cell", "_law_side_here", "_law_word", "_law_most_here"] ["_law_cell", "_law_side_here"] (defScope s_l_good) := ⟨rfl, rfl, rfl, by decide +kernel, rfl, by decide +kernel, by decide +kernel⟩
theorem ok_l_good {f : Addr} {fd : FuncData} (F : Fun K "_law_good" "_law_good" s_l_good f fd) (T : Txt K mg c) (G_l_most : Own P w K mg base 3 "_law_most" ["_law_word", "_law_side_here"] (spD K c d_l_most)) : FnOk P w K mg base (CXe P w) 5 f fd ["_law_cell", "_law_side_here"] (spD K c d_l_good) :=
 F.okD (k := 4) sc_l_good fun cdv A outer s H E hr => ⟨_, (pss_cons (ps_set (i := 2) sc_l_good.nd rfl (Or.inl rfl) (pe_ix (ixK_list (K := K)) (pe_lst (pa_str (pa_str (pa_str (pa_str (pa_str pa_nil)))))) (pe_op op_mod (pv 0) pe_int) (fun _ _ => rfl))) (pss_cons (ps_set (i := 3) sc_l_good.nd rfl (Or.inl rfl) (pe_own G_l_most hr (by decide) pass0e (pa_cons (pv 2) (pa_cons (pv 1) pa_nil)))) (pss_cons (ps_if (pt_cmpR op_eq (pv 2) pe_str (nomark _)) (pss_one (ps_ret (pe_tup (pa_cons (pv 2) pa_nil)))) pss_nil) (pss_one (ps_ret (pe_tup (pa_cons (pv 2) (pa_cons (pe_ix (ixK_list (K := K)) (pe_lst (pa_cons pe_int (pa_cons (pv 3) (pa_cons (pe_op op_add pe_int (pe_op op_mod (pe_op op_fdivB (pv 0) pe_int) (pv 3))) (pa_cons (pv 3) pa_nil))))) (pe_op op_mod (pe_op op_fdivB (pv 0) pe_int) pe_int) (fun _ _ => rfl)) pa_nil)))))))), (rf_Seq (rf_Set (rf_op ok_ixL (rf_zN (rf_L (rf_aC rf_c (rf_aC rf_c (rf_aC rf_c (rf_aC rf_c (rf_aC rf_c rf_aN))))))) (rf_op ok_mod rf_v rf_c))) (rf_Seq (rf_SetC0 (rf_aC rf_v (rf_aC rf_v rf_aN))) (rf_Seq (rf_If' (rf_bT (rf_op ok_eq rf_v rf_c)) (rf_Ret (rf_T (rf_aC rf_v rf_aN))) rf_Nx) (rf_Ret (rf_T (rf_aC rf_v (rf_aC (rf_op ok_ixL (rf_zN (rf_L (rf_aC rf_c (rf_aC rf_v (rf_aC (rf_op ok_add rf_c (rf_op ok_mod (rf_op ok_div rf_v rf_c) rf_v)) (rf_aC rf_v rf_aN)))))) (rf_op ok_mod (rf_op ok_div rf_v rf_c) rf_c)) rf_aN)))))))⟩
def b_l_bad : SF := (sSeq (sSet 2 (eB gMod (eV 0) (eC (.int 3)))) (sSeq (sIf (bZ (eB (gEq false) (eV 2) (eC (.int 0)))) (sSeq (sSetN 3 (eL (aC (eC (.str "")) (aC (eC (.str "Plain")) (aC (eC (.str "plain ")) (aC (eC (.str "floor")) (aC (eC (.str "heavY")) (aC (eC (.str "part")) (aC (eC (.str "parts ")) (aC (eC (.str "match")) (aC (eC (.str "matched2")) (aC (eC (.str "nest")) (aC (eC (.str " ")) (aC (eC (.str "long")) aN)))))))))))))) (sRet (eT (aC (eBV gIxL 3 (eB gMod (eB gDiv (eV 0) (eC (.int 3))) (eC (.int 12)))) (aC (eC (.int 1)) aN))))) sNx) (sSeq (sSet 4 (eB gIxL (zN (eL (aC (eC (.str "floors")) (aC (eC (.str "heavy")) (aC (eC (.str "parts")) (aC (eC (.str "matched")) aN)))))) (eB gMod (eB gDiv (eV 0) (eC (.int 3))) (eC (.int 4))))) (sSeq (sSetC0 5 d_l_most (aC (eV 4) (aC (eV 1) aN))) (sSeq (sSet 6 (eB gMod (eB gDiv (eV 0) (eC (.int 60))) (eB gPow (eC (.int 10)) (eC (.int 42))))) (sSeq (sSetN 7 (eL (aC (eC (.int 0)) (aC (eB gAdd (eV 5) (eC (.int 1))) (aC (eB gSub' (eU gNeg (eC (.int 1))) (eV 6)) (aC (eB gAdd (eB gAdd (eV 5) (eC (.int 1))) (eV 6)) (aC (eU gNeg (eC (.int 1))) aN))))))) (sSeq (sIf (bZ (eB (gEq false) (eV 2) (eC (.int 2)))) (sSetN 7 (eL (aC (eC (.bl true)) (aC (eC (.str "1")) (aC (eC .non) (aC (eC (.str "")) (aC (eC (.bl false)) aN))))))) sNx) (sRet (eT (aC (eV 4) (aC (eBV gIxL 7 (eB gMod (eB gDiv (eV 0) (eC (.int 12))) (eC (.int 5)))) aN)))))))))))
def d_l_bad : List D → Option R1 := fD 8 2 b_l_bad
theorem sc_l_bad : FnScope ["_law_cell", "_law_side_here", "_law_way", "_law_words", "_law_word", "_law_most_here", "_law_far", "_law_odd"] ["_law_cell", "_law_side_here"] (defScope s_l_bad) := ⟨rfl, rfl, rfl, by decide +kernel, rfl, by decide +kernel, by decide +kernel⟩
theorem ok_l_bad {f : Addr} {fd : FuncData} (F : Fun K "_law_bad" "_law_bad" s_l_bad f fd) (T : Txt K mg c) (G_l_most : Own P w K mg base 3 "_law_most" ["_law_word", "_law_side_here"] (spD K c d_l_most)) : FnOk P w K mg base (CXe P w) 5 f fd ["_law_cell", "_law_side_here"] (spD K c d_l_bad) :=
 F.okD (k := 4) sc_l_bad fun cdv A outer s H E hr => ⟨_, (pss_cons (ps_set (i := 2) sc_l_bad.nd rfl (Or.inl rfl) (pe_op op_mod (pv 0) pe_int)) (pss_cons (ps_if (pt_cmpR op_eq (pv 2) pe_int (nomark _)) (pss_cons (ps_set (i := 3) sc_l_bad.nd rfl (Or.inl rfl) (pe_lst (pa_str4 (pa_str4 (pa_str4 pa_nil))))) (pss_one (ps_ret (pe_tup (pa_cons (pe_ix (ixK_list (K := K)) (pv 3) (pe_op op_mod (pe_op op_fdivB (pv 0) pe_int) pe_int) (fun _ _ => rfl)) (pa_cons pe_int pa_nil)))))) pss_nil) (pss_cons (ps_set (i := 4) sc_l_bad.nd rfl (Or.inl rfl) (pe_ix (ixK_list (K := K)) (pe_lst (pa_str (pa_str (pa_str (pa_str pa_nil))))) (pe_op op_mod (pe_op op_fdivB (pv 0) pe_int) pe_int) (fun _ _ => rfl))) (pss_cons (ps_set (i := 5) sc_l_bad.nd rfl (Or.inl rfl) (pe_own G_l_most hr (by decide) pass0e (pa_cons (pv 4) (pa_cons (pv 1) pa_nil)))) (pss_cons (ps_set (i := 6) sc_l_bad.nd rfl (Or.inl rfl) (pe_op op_mod (pe_op op_fdivB (pv 0) pe_int) (pe_op op_pow pe_int pe_int))) (pss_cons (ps_set (i := 7) sc_l_bad.nd rfl (Or.inl rfl) (pe_lst (pa_cons pe_int (pa_cons (pe_op op_add (pv 5) pe_int) (pa_cons (pe_op op_sub (pe_un un_neg pe_int) (pv 6)) (pa_cons (pe_op op_add (pe_op op_add (pv 5) pe_int) (pv 6)) (pa_cons (pe_un un_neg pe_int) pa_nil))))))) (pss_cons (ps_if (pt_cmpR op_eq (pv 2) pe_int (nomark _)) (pss_one (ps_set (i := 7) sc_l_bad.nd rfl (Or.inl rfl) (pe_lst (pa_cons pe_bl (pa_str (pa_cons pe_non (pa_str (pa_cons pe_bl pa_nil)))))))) pss_nil) (pss_one (ps_ret (pe_tup (pa_cons (pv 4) (pa_cons (pe_ix (ixK_list (K := K)) (pv 7) (pe_op op_mod (pe_op op_fdivB (pv 0) pe_int) pe_int) (fun _ _ => rfl)) pa_nil)))))))))))), (rf_Seq (rf_Set (rf_op ok_mod rf_v rf_c)) (rf_Seq (rf_If' (rf_bT (rf_op ok_eq rf_v rf_c)) (rf_Seq (rf_SetN (rf_L (rf_aC rf_c (rf_aC rf_c (rf_aC rf_c (rf_aC rf_c (rf_aC rf_c (rf_aC rf_c (rf_aC rf_c (rf_aC rf_c (rf_aC rf_c (rf_aC rf_c (rf_aC rf_c (rf_aC rf_c rf_aN)))))))))))))) (rf_Ret (rf_T (rf_aC (rf_opV ok_ixL (rf_op ok_mod (rf_op ok_div rf_v rf_c) rf_c)) (rf_aC rf_c rf_aN))))) rf_Nx) (rf_Seq (rf_Set (rf_op ok_ixL (rf_zN (rf_L (rf_aC rf_c (rf_aC rf_c (rf_aC rf_c (rf_aC rf_c rf_aN)))))) (rf_op ok_mod (rf_op ok_div rf_v rf_c) rf_c))) (rf_Seq (rf_SetC0 (rf_aC rf_v (rf_aC rf_v rf_aN))) (rf_Seq (rf_Set (rf_op ok_mod (rf_op ok_div rf_v rf_c) (rf_op ok_pow rf_c rf_c))) (rf_Seq (rf_SetN (rf_L (rf_aC rf_c (rf_aC (rf_op ok_add rf_v rf_c) (rf_aC (rf_op ok_sub (rf_U ok_neg rf_c) rf_v) (rf_aC (rf_op ok_add (rf_op ok_add rf_v rf_c) rf_v) (rf_aC (rf_U ok_neg rf_c) rf_aN))))))) (rf_Seq (rf_If' (rf_bT (rf_op ok_eq rf_v rf_c)) (rf_SetN (rf_L (rf_aC rf_c (rf_aC rf_c (rf_aC rf_c (rf_aC rf_c (rf_aC rf_c rf_aN))))))) rf_Nx) (rf_Ret (rf_T (rf_aC rf_v (rf_aC (rf_opV ok_ixL (rf_op ok_mod (rf_op ok_div rf_v rf_c) rf_c)) rf_aN)))))))))))⟩
def b_l_set : SF := (sSeq (sIf (bZ (eB (gEq false) (eV 2) (eC (.int 0)))) (sRetV 0) sNx) (sSeq (sIf (bZ (eV 3)) (sSet 4 (eT (aC (eC (.str "nested")) (aC (eV 0) (aC (eV 1) aN))))) (sSet 4 (eT (aC (eC (.str "nested")) (aC (eV 1) (aC (eV 0) aN)))))) (sSeq (sIf (bZ (eB (gEq false) (eV 2) (eC (.int 1)))) (sRetV 4) sNx) (sRet (eT (aC (eC (.str "nested")) (aC (eT (aC (eC (.str "plain")) aN)) (aC (eV 4) aN))))))))
def d_l_set : List D → Option R1 := fD 5 4 b_l_set
theorem sc_l_set : FnScope ["_law_row", "_law_other", "_law_way", "_law_first", "_law_nested"] ["_law_row", "_law_other", "_law_way", "_law_first"] (defScope s_l_set) := ⟨rfl, rfl, rfl, by decide +kernel, rfl, by decide +kernel, by decide +kernel⟩
theorem ok_l_set {f : Addr} {fd : FuncData} (F : Fun K "_law_set" "_law_set" s_l_set f fd) (T : Txt K mg c)  : FnOk P w K mg base (CXe P w) 3 f fd ["_law_row", "_law_other", "_law_way", "_law_first"] (spD K c d_l_set) :=
 F.okD (k := 2) sc_l_set fun cdv A outer s H E hr => ⟨_, (pss_cons (ps_if (pt_cmpR op_eq (pv 2) pe_int (nomark _)) (pss_one (ps_ret (pv 0))) pss_nil) (pss_cons (ps_if (pt_val (pv 3)) (pss_one (ps_set (i := 4) sc_l_set.nd rfl (Or.inl rfl) (pe_tup (pa_str (pa_cons (pv 0) (pa_cons (pv 1) pa_nil)))))) (pss_one (ps_set (i := 4) sc_l_set.nd rfl (Or.inl rfl) (pe_tup (pa_str (pa_cons (pv 1) (pa_cons (pv 0) pa_nil))))))) (pss_cons (ps_if (pt_cmpR op_eq (pv 2) pe_int (nomark _)) (pss_one (ps_ret (pv 4))) pss_nil) (pss_one (ps_ret (pe_tup (pa_str (pa_cons (pe_tup (pa_cons pe_str pa_nil)) (pa_cons (pv 4) pa_nil))))))))), (rf_Seq (rf_If' (rf_bT (rf_op ok_eq rf_v rf_c)) rf_RetV rf_Nx) (rf_Seq (rf_If' (rf_bZ rf_v) (rf_Set (rf_T (rf_aC rf_c (rf_aC rf_v (rf_aC rf_v rf_aN))))) (rf_Set (rf_T (rf_aC rf_c (rf_aC rf_v (rf_aC rf_v rf_aN)))))) (rf_Seq (rf_If' (rf_bT (rf_op ok_eq rf_v rf_c)) rf_RetV rf_Nx) (rf_Ret (rf_T (rf_aC rf_c (rf_aC (rf_T (rf_aC rf_c rf_aN)) (rf_aC rf_v rf_aN))))))))⟩
def b_l_kinds : SF := (sSeq (sSet 1 (eCB (gIsiT xT) (aC (eV 0) (aC (eT (aC (eC (.cls "BadSide")) (aC (eC (.cls "BadTurn")) (aC (eC (.cls "NoText")) (aC (eC (.cls "TooMany")) (aC (eC (.cls "Ring")) (aC (eC (.cls "NoPicker")) (aC (eC (.cls "NoSheet")) (aC (eC (.cls "NoDrawing")) aN))))))))) aN)))) (sSeq (sSet 2 (eCB (gIsiT xT) (aC (eV 0) (aC (eT (aC (eC (.cls "NoDeed")) (aC (eC (.cls "NoWare")) (aC (eC (.cls "Full")) (aC (eC (.cls "NothingDone")) (aC (eC (.cls "TooWide")) (aC (eC (.cls "Hangs")) (aC (eC (.cls "BadPlan")) (aC (eC (.cls "BadPacking")) aN))))))))) aN)))) (sRet (eT (aC (eCB (gIsiX x1 x2) (aC (eV 0) (aC (eC (.ty "ValueError")) aN))) (aC (eOr (eV 1) (eV 2)) aN))))))
def d_l_kinds : List D → Option R1 := fD 3 1 b_l_kinds
theorem sc_l_kinds : FnScope ["_law_e", "_law_one", "_law_two"] ["_law_e"] (defScope s_l_kinds) := ⟨rfl, rfl, rfl, by decide +kernel, rfl, by decide +kernel, by decide +kernel⟩
theorem ok_l_kinds {f : Addr} {fd : FuncData} (F : Fun K "_law_kinds" "_law_kinds" s_l_kinds f fd) (T : Txt K mg c)  : FnOkW P w K mg base 3 f fd ["_law_e"] (spD K c d_l_kinds) :=
 F.okWD (k := 2) sc_l_kinds fun cdv A outer s H hr => ⟨_, (pss_cons (ps_set (i := 1) sc_l_kinds.nd rfl (Or.inl rfl) (pe_callB (callK_isiT (K := K)) rfl T.z_isinstance bt_isinstance (pa_cons (pv 0) (pa_cons (pe_tup (pa_cons (pe_glob (v := .ref (c "BadSide")) rfl T.m_BadSide rfl) (pa_cons (pe_glob (v := .ref (c "BadTurn")) rfl T.m_BadTurn rfl) (pa_cons (pe_glob (v := .ref (c "NoText")) rfl T.m_NoText rfl) (pa_cons (pe_glob (v := .ref (c "TooMany")) rfl T.m_TooMany rfl) (pa_cons (pe_glob (v := .ref (c "Ring")) rfl T.m_Ring rfl) (pa_cons (pe_glob (v := .ref (c "NoPicker")) rfl T.m_NoPicker rfl) (pa_cons (pe_glob (v := .ref (c "NoSheet")) rfl T.m_NoSheet rfl) (pa_cons (pe_glob (v := .ref (c "NoDrawing")) rfl T.m_NoDrawing rfl) pa_nil))))))))) pa_nil)))) (pss_cons (ps_set (i := 2) sc_l_kinds.nd rfl (Or.inl rfl) (pe_callB (callK_isiT (K := K)) rfl T.z_isinstance bt_isinstance (pa_cons (pv 0) (pa_cons (pe_tup (pa_cons (pe_glob (v := .ref (c "NoDeed")) rfl T.m_NoDeed rfl) (pa_cons (pe_glob (v := .ref (c "NoWare")) rfl T.m_NoWare rfl) (pa_cons (pe_glob (v := .ref (c "Full")) rfl T.m_Full rfl) (pa_cons (pe_glob (v := .ref (c "NothingDone")) rfl T.m_NothingDone rfl) (pa_cons (pe_glob (v := .ref (c "TooWide")) rfl T.m_TooWide rfl) (pa_cons (pe_glob (v := .ref (c "Hangs")) rfl T.m_Hangs rfl) (pa_cons (pe_glob (v := .ref (c "BadPlan")) rfl T.m_BadPlan rfl) (pa_cons (pe_glob (v := .ref (c "BadPacking")) rfl T.m_BadPacking rfl) pa_nil))))))))) pa_nil)))) (pss_one (ps_ret (pe_tup (pa_cons (pe_callB (callK_isi (K := K)) rfl T.z_isinstance bt_isinstance (pa_cons (pv 0) (pa_cons (pe_bltn (v := .ty "ValueError") rfl T.z_ValueError bt_ValueError rfl) pa_nil))) (pa_cons (pe_or (pv 1) (pe_one (pv 2))) pa_nil))))))), (rf_Seq (rf_Set (rf_CB (ok_isiT (xT_ok T)) (rf_aC rf_v (rf_aC (rf_T (rf_aC rf_c (rf_aC rf_c (rf_aC rf_c (rf_aC rf_c (rf_aC rf_c (rf_aC rf_c (rf_aC rf_c (rf_aC rf_c rf_aN))))))))) rf_aN)))) (rf_Seq (rf_Set (rf_CB (ok_isiT (xT_ok T)) (rf_aC rf_v (rf_aC (rf_T (rf_aC rf_c (rf_aC rf_c (rf_aC rf_c (rf_aC rf_c (rf_aC rf_c (rf_aC rf_c (rf_aC rf_c (rf_aC rf_c rf_aN))))))))) rf_aN)))) (rf_Ret (rf_T (rf_aC (rf_CB (ok_isiX (x1_ok T) (x2_ok T)) (rf_aC rf_v (rf_aC rf_c rf_aN))) (rf_aC (rf_Or rf_v rf_v) rf_aN))))))⟩
def b_l_refused : SF := (sSeq (sSet 2 (eC (.str "no"))) (sSeq (sTryC (d_made_weighing 8) (aC (eV 0) (aC (eV 1) aN)) (hC xo_NoWeighing (sSet 2 (eC (.str "row"))) hN)) (sSeq (sSet 3 (eT (aC (eC (.bl false)) (aC (eC (.bl true)) aN)))) (sSeq (sTryC (d_made_weighing 8) (aC (eV 0) (aC (eV 1) aN)) (hAs 4 xo_CrateError (sSetC0 3 d_l_kinds (aC (eV 4) aN)) hN)) (sRet (eAnd (eB (gEq false) (eV 2) (eC (.str "row"))) (eB (gEqT false) (eV 3) (eT (aC (eC (.bl true)) (aC (eC (.bl false)) aN))))))))))
def d_l_refused : List D → Option R1 := fD 5 2 b_l_refused
theorem sc_l_refused : FnScope ["_law_side_here", "_law_row", "_law_told", "_law_kinds_here", "_law_e"] ["_law_side_here", "_law_row"] (defScope s_l_refused) := ⟨rfl, rfl, rfl, by decide +kernel, rfl, by decide +kernel, by decide +kernel⟩
theorem ok_l_refused {f : Addr} {fd : FuncData} (F : Fun K "_law_refused" "_law_refused" s_l_refused f fd) (T : Txt K mg c) (G_made_weighing : Own P w K mg base 43 "made_weighing" ["side", "row"] (spD K c (d_made_weighing 8))) (G_l_kinds : OwnW P w K mg base 3 "_law_kinds" ["_law_e"] (spD K c d_l_kinds)) : FnOk P w K mg base (CXe P w) 45 f fd ["_law_side_here", "_law_row"] (spD K c d_l_refused) :=
 F.okD (k := 44) sc_l_refused fun cdv A outer s H E hr => ⟨_, (pss_cons (ps_set (i := 2) sc_l_refused.nd rfl (Or.inl rfl) pe_str) (pss_cons (ps_tryC G_made_weighing hr (by decide) (fun E2 pins => (pa_cons (pv 0) (pa_cons (pv 1) pa_nil))) (ph_c rfl T.m_NoWeighing (fun a => (pss_one (ps_set (i := 2) sc_l_refused.nd rfl (Or.inl rfl) pe_str))) ph_nil)) (pss_cons (ps_set (i := 3) sc_l_refused.nd rfl (Or.inl rfl) (pe_tup (pa_cons pe_bl (pa_cons pe_bl pa_nil)))) (pss_cons (ps_tryC G_made_weighing hr (by decide) (fun E2 pins => (pa_cons (pv 0) (pa_cons (pv 1) pa_nil))) (ph_as rfl T.m_CrateError sc_l_refused.nd (i := 4) rfl (fun a => (pss_one (ps_set (i := 3) sc_l_refused.nd rfl (Or.inl rfl) (pe_ownW G_l_kinds (hr.w _) (pa_cons (pv 4) pa_nil))))) ph_nil)) (pss_one (ps_ret (pe_and (pe_cmpR op_eq (pv 2) pe_str (nomark _)) (pe_one (pe_cmpR (opK_eqT (K := K) (cl := c) (hu40 hr)) (pv 3) (pe_tup (pa_cons pe_bl (pa_cons pe_bl pa_nil))) (nomark _)))))))))), (rf_Seq (rf_Set rf_c) (rf_Seq (rf_TryC (rf_aC rf_v (rf_aC rf_v rf_aN)) (rf_hC (xo_NoWeighing_ok T) (fun a => (rf_Set rf_c)) rf_hN)) (rf_Seq (rf_Set (rf_T (rf_aC rf_c (rf_aC rf_c rf_aN)))) (rf_Seq (rf_TryC (rf_aC rf_v (rf_aC rf_v rf_aN)) (rf_hAs (xo_CrateError_ok T) (fun a => (rf_SetW (rf_aC rf_v rf_aN))) rf_hN)) (rf_Ret (rf_And (rf_op ok_eq rf_v rf_c) (rf_op ok_eqT rf_v (rf_T (rf_aC rf_c (rf_aC rf_c rf_aN))))))))))⟩
def b_Weighing_named : SF := (sRet (eT (aC (eC (.str "plain")) aN)))
def d_Weighing_named : List D → Option R1 := fD 1 1 b_Weighing_named
theorem sc_Weighing_named : FnScope ["self"] ["self"] (defScope s_Weighing_named) := ⟨rfl, rfl, rfl, by decide +kernel, rfl, by decide +kernel, by decide +kernel⟩
theorem ok_Weighing_named {f : Addr} {fd : FuncData} (F : Fun K "named" "Weighing.named" s_Weighing_named f fd) (T : Txt K mg c)  : FnOk P w K mg base (CXe P w) 3 f fd ["self"] (spD K c d_Weighing_named) :=
 F.okD (k := 2) sc_Weighing_named fun cdv A outer s H E hr => ⟨_, (pss_one (ps_ret (pe_tup (pa_cons pe_str pa_nil)))), (rf_Ret (rf_T (rf_aC rf_c rf_aN)))⟩
def b_Floors_named : SF := (sRet (eT (aC (eC (.str "floors")) (aC (eU (gFld ft_step "step") (eV 0)) aN))))
def d_Floors_named : List D → Option R1 := fD 1 1 b_Floors_named
theorem sc_Floors_named : FnScope ["self"] ["self"] (defScope s_Floors_named) := ⟨rfl, rfl, rfl, by decide +kernel, rfl, by decide +kernel, by decide +kernel⟩
theorem ok_Floors_named {f : Addr} {fd : FuncData} (F : Fun K "named" "Floors.named" s_Floors_named f fd) (T : Txt K mg c)  : FnOk P w K mg base (CXe P w) 3 f fd ["self"] (spD K c d_Floors_named) :=
 F.okD (k := 2) sc_Floors_named fun cdv A outer s H E hr => ⟨_, (pss_one (ps_ret (pe_tup (pa_cons pe_str (pa_cons (pe_fld (pv 0) rfl) pa_nil))))), (rf_Ret (rf_T (rf_aC rf_c (rf_aC (rf_Fld (ft_step_ok T) rf_v) rf_aN))))⟩
def b_Heavy_named : SF := (sRet (eT (aC (eC (.str "heavy")) (aC (eU (gFld ft_step "step") (eV 0)) aN))))
def d_Heavy_named : List D → Option R1 := fD 1 1 b_Heavy_named
theorem sc_Heavy_named : FnScope ["self"] ["self"] (defScope s_Heavy_named) := ⟨rfl, rfl, rfl, by decide +kernel, rfl, by decide +kernel, by decide +kernel⟩
theorem ok_Heavy_named {f : Addr} {fd : FuncData} (F : Fun K "named" "Heavy.named" s_Heavy_named f fd) (T : Txt K mg c)  : FnOk P w K mg base (CXe P w) 3 f fd ["self"] (spD K c d_Heavy_named) :=
 F.okD (k := 2) sc_Heavy_named fun cdv A outer s H E hr => ⟨_, (pss_one (ps_ret (pe_tup (pa_cons pe_str (pa_cons (pe_fld (pv 0) rfl) pa_nil))))), (rf_Ret (rf_T (rf_aC rf_c (rf_aC (rf_Fld (ft_step_ok T) rf_v) rf_aN))))⟩
def b_Parts_named : SF := (sRet (eT (aC (eC (.str "parts")) (aC (eU (gFld ft_step "step") (eV 0)) aN))))
def d_Parts_named : List D → Option R1 := fD 1 1 b_Parts_named
theorem sc_Parts_named : FnScope ["self"] ["self"] (defScope s_Parts_named) := ⟨rfl, rfl, rfl, by decide +kernel, rfl, by decide +kernel, by decide +kernel⟩
theorem ok_Parts_named {f : Addr} {fd : FuncData} (F : Fun K "named" "Parts.named" s_Parts_named f fd) (T : Txt K mg c)  : FnOk P w K mg base (CXe P w) 3 f fd ["self"] (spD K c d_Parts_named) :=
 F.okD (k := 2) sc_Parts_named fun cdv A outer s H E hr => ⟨_, (pss_one (ps_ret (pe_tup (pa_cons pe_str (pa_cons (pe_fld (pv 0) rfl) pa_nil))))), (rf_Ret (rf_T (rf_aC rf_c (rf_aC (rf_Fld (ft_step_ok T) rf_v) rf_aN))))⟩
def b_Matched_named : SF := (sRet (eT (aC (eC (.str "matched")) (aC (eU (gFld ft_step "step") (eV 0)) aN))))
def d_Matched_named : List D → Option R1 := fD 1 1 b_Matched_named
theorem sc_Matched_named : FnScope ["self"] ["self"] (defScope s_Matched_named) := ⟨rfl, rfl, rfl, by decide +kernel, rfl, by decide +kernel, by decide +kernel⟩
theorem ok_Matched_named {f : Addr} {fd : FuncData} (F : Fun K "named" "Matched.named" s_Matched_named f fd) (T : Txt K mg c)  : FnOk P w K mg base (CXe P w) 3 f fd ["self"] (spD K c d_Matched_named) :=
 F.okD (k := 2) sc_Matched_named fun cdv A outer s H E hr => ⟨_, (pss_one (ps_ret (pe_tup (pa_cons pe_str (pa_cons (pe_fld (pv 0) rfl) pa_nil))))), (rf_Ret (rf_T (rf_aC rf_c (rf_aC (rf_Fld (ft_step_ok T) rf_v) rf_aN))))⟩
def b_Nested_named (self_Nested_named : List D → Option R1) : SF := (sRet (eT (aC (eC (.str "nested")) (aC (eMeth (tab_named d_Weighing_named d_Floors_named d_Heavy_named d_Parts_named d_Matched_named self_Nested_named) "named" (eU (gFld ft_inner "inner") (eV 0)) aN) (aC (eMeth (tab_named d_Weighing_named d_Floors_named d_Heavy_named d_Parts_named d_Matched_named self_Nested_named) "named" (eU (gFld ft_outer "outer") (eV 0)) aN) aN)))))
mutual
def d_Nested_named : Nat → List D → Option R1
 | 0 => fun _ => none
 | m + 1 => fD 1 1 (b_Nested_named (d_Nested_named m))
end
theorem sc_Nested_named : FnScope ["self"] ["self"] (defScope s_Nested_named) := ⟨rfl, rfl, rfl, by decide +kernel, rfl, by decide +kernel, by decide +kernel⟩
theorem okr_Nested_named (T : Txt K mg c) {f_Nested_named : Addr} {fd_Nested_named : FuncData} (F_Nested_named : Fun K "named" "Nested.named" s_Nested_named f_Nested_named fd_Nested_named) (B_Nested_named : Binds K fd_Nested_named ["self"] []) (ME_Nested_named : Meth K (c "Nested") "named" f_Nested_named) (OM_Weighing_named : OwnM P w K mg base 3 (c "Weighing") "named" ["self"] (spD K c d_Weighing_named)) (OM_Floors_named : OwnM P w K mg base 3 (c "Floors") "named" ["self"] (spD K c d_Floors_named)) (OM_Heavy_named : OwnM P w K mg base 3 (c "Heavy") "named" ["self"] (spD K c d_Heavy_named)) (OM_Parts_named : OwnM P w K mg base 3 (c "Parts") "named" ["self"] (spD K c d_Parts_named)) (OM_Matched_named : OwnM P w K mg base 3 (c "Matched") "named" ["self"] (spD K c d_Matched_named)) : ∀ m : Nat, FnOk P w K mg base (CXe P w) (4 + 2 * m + 1) f_Nested_named fd_Nested_named ["self"] (spD K c (d_Nested_named m))
 | 0 => fnok_none
 | m + 1 => by
  have h_Nested_named := okr_Nested_named T F_Nested_named B_Nested_named ME_Nested_named OM_Weighing_named OM_Floors_named OM_Heavy_named OM_Parts_named OM_Matched_named m
  have OM_Nested_named : OwnM P w K mg base (4 + 2 * m + 1) (c "Nested") "named" ["self"] (spD K c (d_Nested_named m)) := ⟨⟨_, _, h_Nested_named, B_Nested_named, ME_Nested_named⟩, T.cl_Nested⟩
  exact F_Nested_named.okD (k := 4 + 2 * m + 2) sc_Nested_named fun cdv A outer s H E hr => ⟨_, (pss_one (ps_ret (pe_tup (pa_str (pa_cons (pe_methD0 (pe_fld (pv 0) rfl) (mo_named hr (XAcc.passes acc_def) ⟨_, _, (by omega), OM_Weighing_named⟩ ⟨_, _, (by omega), OM_Floors_named⟩ ⟨_, _, (by omega), OM_Heavy_named⟩ ⟨_, _, (by omega), OM_Parts_named⟩ ⟨_, _, (by omega), OM_Matched_named⟩ ⟨_, _, (by omega), OM_Nested_named⟩)) (pa_cons (pe_methD0 (pe_fld (pv 0) rfl) (mo_named hr (XAcc.passes acc_def) ⟨_, _, (by omega), OM_Weighing_named⟩ ⟨_, _, (by omega), OM_Floors_named⟩ ⟨_, _, (by omega), OM_Heavy_named⟩ ⟨_, _, (by omega), OM_Parts_named⟩ ⟨_, _, (by omega), OM_Matched_named⟩ ⟨_, _, (by omega), OM_Nested_named⟩)) pa_nil)))))), (rf_Ret (rf_T (rf_aC rf_c (rf_aC (rf_Meth (rf_Fld (ft_inner_ok T) rf_v) rf_aN) (rf_aC (rf_Meth (rf_Fld (ft_outer_ok T) rf_v) rf_aN) rf_aN)))))⟩
def b_l_taken : SF := (sSeq (sSet 2 (eC .non)) (sSeq (sTryH 3 (sSetC 2 (d_made_weighing 8) (aC (eV 0) (aC (eV 1) aN))) (hC xo_NoWeighing (sSet 2 (eC .non)) hN)) (sSeq (sIf (bZ (eB (gIsN false) (eV 2) (eC .non))) (sRet (eC (.bl false))) sNx) (sRet (eAnd (eCB gIsi (aC (eMeth (tab_named d_Weighing_named d_Floors_named d_Heavy_named d_Parts_named d_Matched_named (d_Nested_named 8)) "named" (eV 2) aN) (aC (eC (.ty "tuple")) aN))) (eAnd (eB (gEqT false) (eMeth (tab_named d_Weighing_named d_Floors_named d_Heavy_named d_Parts_named d_Matched_named (d_Nested_named 8)) "named" (eV 2) aN) (eV 1)) (eB (gEq false) (eU (gFld ft_side "side") (eV 2)) (eV 0))))))))
def d_l_taken : List D → Option R1 := fD 3 2 b_l_taken
theorem sc_l_taken : FnScope ["_law_side_here", "_law_row", "_law_made"] ["_law_side_here", "_law_row"] (defScope s_l_taken) := ⟨rfl, rfl, rfl, by decide +kernel, rfl, by decide +kernel, by decide +kernel⟩
theorem ok_l_taken {f : Addr} {fd : FuncData} (F : Fun K "_law_taken" "_law_taken" s_l_taken f fd) (T : Txt K mg c) (G_made_weighing : Own P w K mg base 43 "made_weighing" ["side", "row"] (spD K c (d_made_weighing 8))) (OM_Weighing_named : OwnM P w K mg base 3 (c "Weighing") "named" ["self"] (spD K c d_Weighing_named)) (OM_Floors_named : OwnM P w K mg base 3 (c "Floors") "named" ["self"] (spD K c d_Floors_named)) (OM_Heavy_named : OwnM P w K mg base 3 (c "Heavy") "named" ["self"] (spD K c d_Heavy_named)) (OM_Parts_named : OwnM P w K mg base 3 (c "Parts") "named" ["self"] (spD K c d_Parts_named)) (OM_Matched_named : OwnM P w K mg base 3 (c "Matched") "named" ["self"] (spD K c d_Matched_named)) (OM_Nested_named : OwnM P w K mg base 21 (c "Nested") "named" ["self"] (spD K c (d_Nested_named 8))) : FnOk P w K mg base (CXe P w) 45 f fd ["_law_side_here", "_law_row"] (spD K c d_l_taken) :=
 F.okD (k := 44) sc_l_taken fun cdv A outer s H E hr => ⟨_, (pss_cons (ps_set (i := 2) sc_l_taken.nd rfl (Or.inl rfl) pe_non) (pss_cons (ps_tryH (fun Eh E2 pins acc po => (pss_one (ps_set (i := 2) sc_l_taken.nd rfl (Or.inl rfl) (pe_own G_made_weighing hr (by decide) (XAcc.passes acc) (pa_cons (pv 0) (pa_cons (pv 1) pa_nil)))))) (ph_c rfl T.m_NoWeighing (fun a => (pss_one (ps_set (i := 2) sc_l_taken.nd rfl (Or.inl rfl) pe_non))) ph_nil)) (pss_cons (ps_if (pt_cmpR op_isN (pv 2) pe_non (nomark _)) (pss_one (ps_ret pe_bl)) pss_nil) (pss_one (ps_ret (pe_and (pe_callB (callK_isi (K := K)) rfl T.z_isinstance bt_isinstance (pa_cons (pe_methD0 (pv 2) (mo_named hr (XAcc.passes acc_def) ⟨_, _, (by decide), OM_Weighing_named⟩ ⟨_, _, (by decide), OM_Floors_named⟩ ⟨_, _, (by decide), OM_Heavy_named⟩ ⟨_, _, (by decide), OM_Parts_named⟩ ⟨_, _, (by decide), OM_Matched_named⟩ ⟨_, _, (by decide), OM_Nested_named⟩)) (pa_cons (pe_bltn (v := .ty "tuple") rfl T.z_tuple bt_tuple rfl) pa_nil))) (pe_and (pe_cmpR (opK_eqT (K := K) (cl := c) (hu40 hr)) (pe_methD0 (pv 2) (mo_named hr (XAcc.passes acc_def) ⟨_, _, (by decide), OM_Weighing_named⟩ ⟨_, _, (by decide), OM_Floors_named⟩ ⟨_, _, (by decide), OM_Heavy_named⟩ ⟨_, _, (by decide), OM_Parts_named⟩ ⟨_, _, (by decide), OM_Matched_named⟩ ⟨_, _, (by decide), OM_Nested_named⟩)) (pv 1) (nomark _)) (pe_one (pe_cmpR op_eq (pe_fld (pv 2) rfl) (pv 0) (nomark _)))))))))), (rf_Seq (rf_Set rf_c) (rf_Seq (rf_TryH (fun Eh => (rf_SetC (rf_aC rf_v (rf_aC rf_v rf_aN)))) (rf_hC (xo_NoWeighing_ok T) (fun a => (rf_Set rf_c)) rf_hN)) (rf_Seq (rf_If' (rf_bT (rf_op ok_isN rf_v rf_c)) (rf_Ret rf_c) rf_Nx) (rf_Ret (rf_And (rf_CB ok_isi (rf_aC (rf_Meth rf_v rf_aN) (rf_aC rf_c rf_aN))) (rf_And (rf_op ok_eqT (rf_Meth rf_v rf_aN) rf_v) (rf_op ok_eq (rf_Fld (ft_side_ok T) rf_v) rf_v)))))))⟩
def b_law : SF := (sSeq (sSetC0 1 d_l_side (aC (eCall0 d_l_cell_at (aC (eV 0) (aC (eC (.int 0)) aN))) aN)) (sSeq (sSetC0 2 d_l_good (aC (eCall0 d_l_cell_at (aC (eV 0) (aC (eC (.int 1)) aN))) (aC (eV 1) aN))) (sSeq (sSetC0 3 d_l_bad (aC (eCall0 d_l_cell_at (aC (eV 0) (aC (eC (.int 2)) aN))) (aC (eV 1) aN))) (sSeq (sSet 4 (eB gMod (eCall0 d_l_cell_at (aC (eV 0) (aC (eC (.int 3)) aN))) (eC (.int 3)))) (sSeq (sSet 5 (eB (gEq false) (eB gMod (eB gDiv (eCall0 d_l_cell_at (aC (eV 0) (aC (eC (.int 3)) aN))) (eC (.int 3))) (eC (.int 2))) (eC (.int 0)))) (sSeq (sSet 6 (eT (aC (eC (.str "plain")) aN))) (sSeq (sIf (bOr (bNot (bZ (eCall0 d_l_taken (aC (eV 1) (aC (eV 2) aN))))) (bNot (bZ (eCall0 d_l_taken (aC (eV 1) (aC (eCall0 d_l_set (aC (eV 2) (aC (eV 6) (aC (eV 4) (aC (eV 5) aN))))) aN)))))) (sRet (eC (.bl false))) sNx) (sSeq (sIf (bOr (bNot (bZ (eCall0 d_l_refused (aC (eV 1) (aC (eCall0 d_l_set (aC (eV 3) (aC (eV 6) (aC (eV 4) (aC (eV 5) aN))))) aN))))) (bNot (bZ (eCall0 d_l_refused (aC (eV 1) (aC (eV 3) aN)))))) (sRet (eC (.bl false))) sNx) (sSeq (sIf (bOr (bNot (bZ (eCall0 d_l_refused (aC (eC (.int 0)) (aC (eV 2) aN))))) (bNot (bZ (eCall0 d_l_refused (aC (eC (.int 0)) (aC (eCall0 d_l_set (aC (eV 2) (aC (eV 6) (aC (eV 4) (aC (eV 5) aN))))) aN)))))) (sRet (eC (.bl false))) sNx) (sSeq (sSet 7 (eMeth (tab_whole d_Weighing_whole) "whole" (eCall (d_made_weighing 8) (aC (eV 1) (aC (eV 2) aN))) aN)) (sSeq (sIf (bNot (bZ (eCall0 d_l_refused (aC (eV 1) (aC (eT (aC (eC (.str "nested")) (aC (eV 2) (aC (eT (aC (eC (.str "heavy")) (aC (eB gAdd (eV 7) (eC (.int 1))) aN))) aN)))) aN))))) (sRet (eC (.bl false))) sNx) (sSeq (sIf (bNot (bZ (eCall0 d_l_taken (aC (eV 1) (aC (eT (aC (eC (.str "nested")) (aC (eV 2) (aC (eT (aC (eC (.str "heavy")) (aC (eV 7) aN))) aN)))) aN))))) (sRet (eC (.bl false))) sNx) (sRet (eAnd (eCall0 d_l_taken (aC (eV 1) (aC (eCall0 d_l_set (aC (eV 2) (aC (eV 6) (aC (eV 4) (aC (eV 5) aN))))) aN))) (eCall0 d_l_taken (aC (eV 1) (aC (eV 2) aN)))))))))))))))))
def d_law : List D → Option R1 := fD 8 1 b_law
theorem sc_law : FnScope ["_law_script", "_law_side_here", "_law_good_here", "_law_bad_here", "_law_way", "_law_first", "_law_other", "_law_top"] ["_law_script"] (defScope s_law) := ⟨rfl, rfl, rfl, by decide +kernel, rfl, by decide +kernel, by decide +kernel⟩
theorem ok_law0 {f : Addr} {fd : FuncData} (F : Fun K "law" "law" s_law f fd) (T : Txt K mg c) (G_l_side : Own P w K mg base 3 "_law_side" ["_law_cell"] (spD K c d_l_side)) (G_l_cell_at : Own P w K mg base 3 "_law_cell_at" ["_law_script", "_law_k"] (spD K c d_l_cell_at)) (G_l_good : Own P w K mg base 5 "_law_good" ["_law_cell", "_law_side_here"] (spD K c d_l_good)) (G_l_bad : Own P w K mg base 5 "_law_bad" ["_law_cell", "_law_side_here"] (spD K c d_l_bad)) (G_l_taken : Own P w K mg base 45 "_law_taken" ["_law_side_here", "_law_row"] (spD K c d_l_taken)) (G_l_set : Own P w K mg base 3 "_law_set" ["_law_row", "_law_other", "_law_way", "_law_first"] (spD K c d_l_set)) (G_l_refused : Own P w K mg base 45 "_law_refused" ["_law_side_here", "_law_row"] (spD K c d_l_refused)) (G_made_weighing : Own P w K mg base 43 "made_weighing" ["side", "row"] (spD K c (d_made_weighing 8))) (OM_Weighing_whole : OwnM P w K mg base 25 (c "Weighing") "whole" ["self"] (spD K c d_Weighing_whole)) (OM_Floors_whole : OwnM P w K mg base 25 (c "Floors") "whole" ["self"] (spD K c d_Weighing_whole)) (OM_Heavy_whole : OwnM P w K mg base 25 (c "Heavy") "whole" ["self"] (spD K c d_Weighing_whole)) (OM_Parts_whole : OwnM P w K mg base 25 (c "Parts") "whole" ["self"] (spD K c d_Weighing_whole)) (OM_Matched_whole : OwnM P w K mg base 25 (c "Matched") "whole" ["self"] (spD K c d_Weighing_whole)) (OM_Nested_whole : OwnM P w K mg base 25 (c "Nested") "whole" ["self"] (spD K c d_Weighing_whole)) : FnOk P w K mg base (CXe P w) 47 f fd ["_law_script"] (spD K c d_law) :=
 F.okD (k := 46) sc_law fun cdv A outer s H E hr => ⟨_, (pss_cons (ps_set (i := 1) sc_law.nd rfl (Or.inl rfl) (pe_own G_l_side hr (by decide) pass0e (pa_cons (pe_own G_l_cell_at hr (by decide) pass0e (pa_cons (pv 0) (pa_cons pe_int pa_nil))) pa_nil))) (pss_cons (ps_set (i := 2) sc_law.nd rfl (Or.inl rfl) (pe_own G_l_good hr (by decide) pass0e (pa_cons (pe_own G_l_cell_at hr (by decide) pass0e (pa_cons (pv 0) (pa_cons pe_int pa_nil))) (pa_cons (pv 1) pa_nil)))) (pss_cons (ps_set (i := 3) sc_law.nd rfl (Or.inl rfl) (pe_own G_l_bad hr (by decide) pass0e (pa_cons (pe_own G_l_cell_at hr (by decide) pass0e (pa_cons (pv 0) (pa_cons pe_int pa_nil))) (pa_cons (pv 1) pa_nil)))) (pss_cons (ps_set (i := 4) sc_law.nd rfl (Or.inl rfl) (pe_op op_mod (pe_own G_l_cell_at hr (by decide) pass0e (pa_cons (pv 0) (pa_cons pe_int pa_nil))) pe_int)) (pss_cons (ps_set (i := 5) sc_law.nd rfl (Or.inl rfl) (pe_cmpR op_eq (pe_op op_mod (pe_op op_fdivB (pe_own G_l_cell_at hr (by decide) pass0e (pa_cons (pv 0) (pa_cons pe_int pa_nil))) pe_int) pe_int) pe_int (nomark _))) (pss_cons (ps_set (i := 6) sc_law.nd rfl (Or.inl rfl) (pe_tup (pa_cons pe_str pa_nil))) (pss_cons (ps_if (PW.pt (pw_or (pt_not (pt_val (pe_own G_l_taken hr (by decide) pass0e (pa_cons (pv 1) (pa_cons (pv 2) pa_nil))))) (pw_or1 (pt_not (pt_val (pe_own G_l_taken hr (by decide) pass0e (pa_cons (pv 1) (pa_cons (pe_own G_l_set hr (by decide) pass0e (pa_cons (pv 2) (pa_cons (pv 6) (pa_cons (pv 4) (pa_cons (pv 5) pa_nil))))) pa_nil)))))))) (pss_one (ps_ret pe_bl)) pss_nil) (pss_cons (ps_if (PW.pt (pw_or (pt_not (pt_val (pe_own G_l_refused hr (by decide) pass0e (pa_cons (pv 1) (pa_cons (pe_own G_l_set hr (by decide) pass0e (pa_cons (pv 3) (pa_cons (pv 6) (pa_cons (pv 4) (pa_cons (pv 5) pa_nil))))) pa_nil))))) (pw_or1 (pt_not (pt_val (pe_own G_l_refused hr (by decide) pass0e (pa_cons (pv 1) (pa_cons (pv 3) pa_nil)))))))) (pss_one (ps_ret pe_bl)) pss_nil) (pss_cons (ps_if (PW.pt (pw_or (pt_not (pt_val (pe_own G_l_refused hr (by decide) pass0e (pa_cons pe_int (pa_cons (pv 2) pa_nil))))) (pw_or1 (pt_not (pt_val (pe_own G_l_refused hr (by decide) pass0e (pa_cons pe_int (pa_cons (pe_own G_l_set hr (by decide) pass0e (pa_cons (pv 2) (pa_cons (pv 6) (pa_cons (pv 4) (pa_cons (pv 5) pa_nil))))) pa_nil)))))))) (pss_one (ps_ret pe_bl)) pss_nil) (pss_cons (ps_set (i := 7) sc_law.nd rfl (Or.inl rfl) (pe_methD0 (pe_own G_made_weighing hr (by decide) (XAcc.passes acc_def) (pa_cons (pv 1) (pa_cons (pv 2) pa_nil))) (mo_whole hr (XAcc.passes acc_def) ⟨_, _, (by decide), OM_Weighing_whole⟩ ⟨_, _, (by decide), OM_Floors_whole⟩ ⟨_, _, (by decide), OM_Heavy_whole⟩ ⟨_, _, (by decide), OM_Parts_whole⟩ ⟨_, _, (by decide), OM_Matched_whole⟩ ⟨_, _, (by decide), OM_Nested_whole⟩))) (pss_cons (ps_if (pt_not (pt_val (pe_own G_l_refused hr (by decide) pass0e (pa_cons (pv 1) (pa_cons (pe_tup (pa_str (pa_cons (pv 2) (pa_cons (pe_tup (pa_cons pe_str (pa_cons (pe_op op_add (pv 7) pe_int) pa_nil))) pa_nil)))) pa_nil))))) (pss_one (ps_ret pe_bl)) pss_nil) (pss_cons (ps_if (pt_not (pt_val (pe_own G_l_taken hr (by decide) pass0e (pa_cons (pv 1) (pa_cons (pe_tup (pa_str (pa_cons (pv 2) (pa_cons (pe_tup (pa_cons pe_str (pa_cons (pv 7) pa_nil))) pa_nil)))) pa_nil))))) (pss_one (ps_ret pe_bl)) pss_nil) (pss_one (ps_ret (pe_and (pe_own G_l_taken hr (by decide) pass0e (pa_cons (pv 1) (pa_cons (pe_own G_l_set hr (by decide) pass0e (pa_cons (pv 2) (pa_cons (pv 6) (pa_cons (pv 4) (pa_cons (pv 5) pa_nil))))) pa_nil))) (pe_one (pe_own G_l_taken hr (by decide) pass0e (pa_cons (pv 1) (pa_cons (pv 2) pa_nil))))))))))))))))))), (rf_Seq (rf_SetC0 (rf_aC (rf_Call0 (rf_aC rf_v (rf_aC rf_c rf_aN))) rf_aN)) (rf_Seq (rf_SetC0 (rf_aC (rf_Call0 (rf_aC rf_v (rf_aC rf_c rf_aN))) (rf_aC rf_v rf_aN))) (rf_Seq (rf_SetC0 (rf_aC (rf_Call0 (rf_aC rf_v (rf_aC rf_c rf_aN))) (rf_aC rf_v rf_aN))) (rf_Seq (rf_Set (rf_op ok_mod (rf_Call0 (rf_aC rf_v (rf_aC rf_c rf_aN))) rf_c)) (rf_Seq (rf_Set (rf_op ok_eq (rf_op ok_mod (rf_op ok_div (rf_Call0 (rf_aC rf_v (rf_aC rf_c rf_aN))) rf_c) rf_c) rf_c)) (rf_Seq (rf_Set (rf_T (rf_aC rf_c rf_aN))) (rf_Seq (rf_If' (rf_bOr (rf_bNot (rf_bZ (rf_Call0 (rf_aC rf_v (rf_aC rf_v rf_aN))))) (rf_bNot (rf_bZ (rf_Call0 (rf_aC rf_v (rf_aC (rf_Call0 (rf_aC rf_v (rf_aC rf_v (rf_aC rf_v (rf_aC rf_v rf_aN))))) rf_aN)))))) (rf_Ret rf_c) rf_Nx) (rf_Seq (rf_If' (rf_bOr (rf_bNot (rf_bZ (rf_Call0 (rf_aC rf_v (rf_aC (rf_Call0 (rf_aC rf_v (rf_aC rf_v (rf_aC rf_v (rf_aC rf_v rf_aN))))) rf_aN))))) (rf_bNot (rf_bZ (rf_Call0 (rf_aC rf_v (rf_aC rf_v rf_aN)))))) (rf_Ret rf_c) rf_Nx) (rf_Seq (rf_If' (rf_bOr (rf_bNot (rf_bZ (rf_Call0 (rf_aC rf_c (rf_aC rf_v rf_aN))))) (rf_bNot (rf_bZ (rf_Call0 (rf_aC rf_c (rf_aC (rf_Call0 (rf_aC rf_v (rf_aC rf_v (rf_aC rf_v (rf_aC rf_v rf_aN))))) rf_aN)))))) (rf_Ret rf_c) rf_Nx) (rf_Seq (rf_Set (rf_Meth (rf_Call (rf_aC rf_v (rf_aC rf_v rf_aN))) rf_aN)) (rf_Seq (rf_If' (rf_bNot (rf_bZ (rf_Call0 (rf_aC rf_v (rf_aC (rf_T (rf_aC rf_c (rf_aC rf_v (rf_aC (rf_T (rf_aC rf_c (rf_aC (rf_op ok_add rf_v rf_c) rf_aN))) rf_aN)))) rf_aN))))) (rf_Ret rf_c) rf_Nx) (rf_Seq (rf_If' (rf_bNot (rf_bZ (rf_Call0 (rf_aC rf_v (rf_aC (rf_T (rf_aC rf_c (rf_aC rf_v (rf_aC (rf_T (rf_aC rf_c (rf_aC rf_v rf_aN))) rf_aN)))) rf_aN))))) (rf_Ret rf_c) rf_Nx) (rf_Ret (rf_And (rf_Call0 (rf_aC rf_v (rf_aC (rf_Call0 (rf_aC rf_v (rf_aC rf_v (rf_aC rf_v (rf_aC rf_v rf_aN))))) rf_aN))) (rf_Call0 (rf_aC rf_v (rf_aC rf_v rf_aN)))))))))))))))))⟩
end Law
namespace Law
open PySem L2 PyProof.Rows
variable {P : Program} {w : World} {K : PySem.W.Frag} {mg : Str → Option Value} {base : Heap} {c : Str → Addr}
local macro_rules | `(tactic| walk_at "ev") => `(tactic| simp (decide := true) only [fD_eq, sSeq_eq, seqR_nx, seqR_rt, seqR_ro, seqR_rz, seqR_ex, seqR_bk, seqR_ct, seqR_no, seqR_ite, opt_ite, toZ_ret, toZ_own, toZ_ex, toZ0_ret, toZ0_own, toSet_ret, toSet_own, toSet_ex, toSet0_ret, toSet0_own, toRet_ret, toRet_own, toRet_owz, toRet_ex, toRet0_ret, toRet0_own, finR_nx, finR_rt, finR_ro, finR_rz, finR_ex, finR_ite, forK_nx, forK_ct, forK_bk, forK_rt, forK_ro, forK_rz, forK_ex, forD_nil, optR_some, nxOf_nx, nxOf_ct, nxOf_rt, nxOf_ex, nxOf_ro, nxOf_rz, optB_some, compD_nil, bLend_eq, bLd_ok, bLd_ex, zLend_eq, zLd_ok, zLd_ex, frzE, frzS_no, frzS_fz, frzS_ow, frzS_hd, noL, noLs, sTryAs_eq, tryR_nx, tryR_ex, tryR_rt, tryR_ro, susR_nx, susR_rt, susR_ro, eqDs, eqD, gEqT, eqB, eqBs, plainD, plainDs, depD, depDs, seqD?, Nat.max_self, Nat.zero_max, Nat.max_zero, decide_true, Bool.or_true, Bool.true_or, Bool.or_false, List.isEmpty_nil, gIn, inD, List.any_cons, List.any_nil, flatD, List.all_cons, List.all_nil, Bool.and_self, Bool.and_true, Bool.true_and, beq_self_eq_true, gAdd_eq, gSub_eq, gLt_eq, gGt_eq, gMul_l, gMul_r, gDiv_eq, gMod_eq, gPow_eq, sIf, sSet, sSetN, sSetC, sSetC0, sRet, sRetC, sRetV, sNx, sAsg, sRaise, sEx, put_eq, okS_some, okS_none, notHd_no, notHd_fz, notHd_ow, notHd_hd, notHd_un, frzS_un, noHd_nil, noHd_cons, eC, eV, eB, eBV, eT, eL, zN, aN, aC, eCall, eCall0, eNot, eAnd, eOr, eIf, eU, gNeg, eCB, eCV, gLen, bZ, bNot, bAnd, bOr, bName_eq, bTup, bEach, bnd_ok, bnd_ex, bnd_no, sbn_ok, sbn_ex, sbn_no, opt_some, opt_none, look, gIxT, gIxL, gEq_int, gEq_str, gIsN, eIsiV, gIsiV, tyN, atI_0, atI_1, atI_2, atI_3, atI_4, atI_5, atI_6, List.map_cons, List.map_nil, List.length_cons, List.length_nil, List.cons_append, List.nil_append, List.replicate_succ, List.replicate_zero, List.getElem?_cons_zero, List.getElem?_cons_succ, List.set_cons_zero, List.set_cons_succ, Nat.reduceAdd, Nat.reduceSub, if_true, if_false, Bool.not_true, Bool.not_false, Bool.not_not, Nat.zero_add, Bool.false_eq_true, decide_eq_true_eq, Bool.not_eq_true', decide_eq_false_iff_not, Option.map_some, Option.map_none, ite_self, xo_CrateError, xo_NoWeighing])
local macro_rules | `(tactic| walk_at "eh") => `(tactic| simp (decide := true) only [fD_eq, sSeq_eq, seqR_nx, seqR_rt, seqR_ro, seqR_rz, seqR_ex, seqR_bk, seqR_ct, seqR_no, seqR_ite, opt_ite, toZ_ret, toZ_own, toZ_ex, toZ0_ret, toZ0_own, toSet_ret, toSet_own, toSet_ex, toSet0_ret, toSet0_own, toRet_ret, toRet_own, toRet_owz, toRet_ex, toRet0_ret, toRet0_own, finR_nx, finR_rt, finR_ro, finR_rz, finR_ex, finR_ite, forK_nx, forK_ct, forK_bk, forK_rt, forK_ro, forK_rz, forK_ex, forD_nil, optR_some, nxOf_nx, nxOf_ct, nxOf_rt, nxOf_ex, nxOf_ro, nxOf_rz, optB_some, compD_nil, bLend_eq, bLd_ok, bLd_ex, zLend_eq, zLd_ok, zLd_ex, frzE, frzS_no, frzS_fz, frzS_ow, frzS_hd, noL, noLs, sTryAs_eq, tryR_nx, tryR_ex, tryR_rt, tryR_ro, susR_nx, susR_rt, susR_ro, eqDs, eqD, gEqT, eqB, eqBs, plainD, plainDs, depD, depDs, seqD?, Nat.max_self, Nat.zero_max, Nat.max_zero, decide_true, Bool.or_true, Bool.true_or, Bool.or_false, List.isEmpty_nil, gIn, inD, List.any_cons, List.any_nil, flatD, List.all_cons, List.all_nil, Bool.and_self, Bool.and_true, Bool.true_and, beq_self_eq_true, gAdd_eq, gSub_eq, gLt_eq, gGt_eq, gMul_l, gMul_r, gDiv_eq, gMod_eq, gPow_eq, sIf, sSet, sSetN, sSetC, sSetC0, sRet, sRetC, sRetV, sNx, sAsg, sRaise, sEx, put_eq, okS_some, okS_none, notHd_no, notHd_fz, notHd_ow, notHd_hd, notHd_un, frzS_un, noHd_nil, noHd_cons, eC, eV, eB, eBV, eT, eL, zN, aN, aC, eCall, eCall0, eNot, eAnd, eOr, eIf, eU, gNeg, eCB, eCV, gLen, bZ, bNot, bAnd, bOr, bName_eq, bTup, bEach, bnd_ok, bnd_ex, bnd_no, sbn_ok, sbn_ex, sbn_no, opt_some, opt_none, look, gIxT, gIxL, gEq_int, gEq_str, gIsN, eIsiV, gIsiV, tyN, atI_0, atI_1, atI_2, atI_3, atI_4, atI_5, atI_6, List.map_cons, List.map_nil, List.length_cons, List.length_nil, List.cons_append, List.nil_append, List.replicate_succ, List.replicate_zero, List.getElem?_cons_zero, List.getElem?_cons_succ, List.set_cons_zero, List.set_cons_succ, Nat.reduceAdd, Nat.reduceSub, if_true, if_false, Bool.not_true, Bool.not_false, Bool.not_not, Nat.zero_add, Bool.false_eq_true, decide_eq_true_eq, Bool.not_eq_true', decide_eq_false_iff_not, Option.map_some, Option.map_none, ite_self, xo_CrateError, xo_NoWeighing, *])
theorem log_lt {j : Int} (h0 : 0 < j) (h1 : j ≤ 10 ^ 70) : j.natAbs.log2 < 9000 := by
 rw [Nat.log2_lt (by omega)]
 have : j.natAbs ≤ 10 ^ 70 := by omega
 exact Nat.lt_of_le_of_lt this (by decide +kernel)
theorem divB {a b : Int} (h0 : 0 < b) (h1 : b ≤ 10 ^ 70) : gDiv (.int a) (.int b) = some (.int (a / b)) := gDiv_eq ⟨h0, log_lt h0 h1⟩
inductive Wd where | pl | fl | hv | pa | ma
def wstr : Wd → Str | .pl => "plain" | .fl => "floors" | .hv => "heavy" | .pa => "parts" | .ma => "matched"
def wcls : Wd → Str | .pl => "Weighing" | .fl => "Floors" | .hv => "Heavy" | .pa => "Parts" | .ma => "Matched"
def flds : Wd → List Str | .pl => ["side"] | .fl => ["side", "step"] | .hv => ["side", "step"] | .pa => ["side", "step"] | .ma => ["side", "step"]
def vals : Wd → Int → Int → List D | .pl, sd, _ => [.int sd] | .fl, sd, st => [.int sd, .int st] | .hv, sd, st => [.int sd, .int st] | .pa, sd, st => [.int sd, .int st] | .ma, sd, st => [.int sd, .int st]
abbrev O (k : Wd) (sd st : Int) : D := .obj (wcls k) (flds k) (vals k sd st)
def rowD : Wd → Int → D | .pl, _ => .tup [.str "plain"] | .fl, st => .tup [.str "floors", .int st] | .hv, st => .tup [.str "heavy", .int st] | .pa, st => .tup [.str "parts", .int st] | .ma, st => .tup [.str "matched", .int st]
theorem fS (k : Wd) (sd st : Int) : gFld ft_side "side" (O k sd st) = some (.int sd) := by cases k <;> rfl
theorem fT (k : Wd) (hk : k ≠ .pl) (sd st : Int) : gFld ft_step "step" (O k sd st) = some (.int st) := by
 cases k
 ·exact absurd rfl hk
 all_goals rfl
def wgt : Wd → Int → Int → Int → Int
 | .pl, _, _, x => x
 | .fl, _, st, x => x / st
 | .hv, sd, st, x => if x < st then 0 else if sd - st < x then sd else x
 | .pa, sd, st, x => if (st + 1) * x % sd = 0 then st * x else sd * ((st + 1) * x / sd)
 | .ma, sd, st, x => if sd < 2 * x then 2 * (sd / st - (sd - x) / st) else if 2 * x = sd then sd / st else 2 * (x / st)
structure Ok (k : Wd) (sd st : Int) : Prop where
 s1 : 1 ≤ sd
 s2 : sd ≤ 10 ^ 60
 t1 : 1 ≤ st
 t2 : st ≤ 10 ^ 60
 t3 : k ≠ .pa → st ≤ sd
 t4 : k = .pa → st ≤ 60
theorem w_pl {sd st x : Int} : d_Weighing_weight [O .pl sd st, .int x] = some (.ret (.int (wgt .pl sd st x))) := by
 have ew : wgt .pl sd st x = x := rfl
 rw [ew]
 clear ew
 unfold d_Weighing_weight b_Weighing_weight
 generalize O .pl sd st = ob at *
 walk_at "eh"
theorem w_fl {sd st x : Int} (h : Ok .fl sd st) : d_Floors_weight [O .fl sd st, .int x] = some (.ret (.int (wgt .fl sd st x))) := by
 have f1 := fT .fl Wd.noConfusion sd st
 have g1 : gDiv (.int x) (.int st) = some (.int (x / st)) := divB (by have := h.t1; omega) (by have := h.t2; omega)
 clear h
 have ew : wgt .fl sd st x = x / st := rfl
 rw [ew]
 clear ew
 unfold d_Floors_weight b_Floors_weight
 generalize O .fl sd st = ob at *
 walk_at "eh"
theorem w_hv {sd st x : Int} (h : Ok .hv sd st) : d_Heavy_weight [O .hv sd st, .int x] = some (.ret (.int (wgt .hv sd st x))) := by
 have f1 := fT .hv Wd.noConfusion sd st
 have f2 := fS .hv sd st
 clear h
 have ew : wgt .hv sd st x = if x < st then 0 else if sd - st < x then sd else x := rfl
 rw [ew]
 clear ew
 unfold d_Heavy_weight b_Heavy_weight
 generalize O .hv sd st = ob at *
 by_cases c1 : x < st
 ·rw [if_pos c1]
  walk_at "eh"
 ·rw [if_neg c1]
  by_cases c2 : sd - st < x
  ·rw [if_pos c2]
   walk_at "eh"
  ·rw [if_neg c2]
   walk_at "eh"
theorem w_pa {sd st x : Int} (h : Ok .pa sd st) (h0 : 0 ≤ x) (h1 : x ≤ sd) : d_Parts_weight [O .pa sd st, .int x] = some (.ret (.int (wgt .pa sd st x))) := by
 have f1 := fT .pa Wd.noConfusion sd st
 have f2 := fS .pa sd st
 have t4 := h.t4 rfl
 have t1 := h.t1
 have s1 := h.s1
 have s2 := h.s2
 have e1 : gMul (.int (st + 1)) (.int x) = some (.int ((st + 1) * x)) := gMul_l (by omega)
 have e2 : gMul (.int st) (.int x) = some (.int (st * x)) := gMul_l (by omega)
 have e3 : gDivmod [.int ((st + 1) * x), .int sd] = some (.tup [.int ((st + 1) * x / sd), .int ((st + 1) * x % sd)]) := by
  have hh : 0 < sd ∧ sd.natAbs.log2 < 9000 := ⟨by omega, log_lt (by omega) (by omega)⟩
  show (if 0 < sd ∧ sd.natAbs.log2 < 9000 then _ else _) = _
  rw [if_pos hh]
 have hq : 0 ≤ (st + 1) * x / sd ∧ (st + 1) * x / sd ≤ 61 := by
  have hn : 0 ≤ (st + 1) * x := Int.mul_nonneg (by omega) h0
  refine ⟨Int.ediv_nonneg hn (by omega), ?_⟩
  have : (st + 1) * x ≤ 61 * sd := Int.mul_le_mul (by omega) h1 h0 (by omega)
  exact Int.ediv_le_of_le_mul (by omega) this
 have e4 : gMul (.int sd) (.int ((st + 1) * x / sd)) = some (.int (sd * ((st + 1) * x / sd))) := gMul_r (by omega)
 clear h t4 t1 s1 s2 h0 h1 hq
 have ew : wgt .pa sd st x = if (st + 1) * x % sd = 0 then st * x else sd * ((st + 1) * x / sd) := rfl
 rw [ew]
 clear ew
 unfold d_Parts_weight b_Parts_weight
 generalize O .pa sd st = ob at *
 generalize (st + 1) * x / sd = qq at *
 generalize (st + 1) * x % sd = rr at *
 by_cases c : rr = 0
 ·rw [if_pos c]
  walk_at "eh"
 ·rw [if_neg c]
  walk_at "eh"
theorem w_ma {sd st x : Int} (h : Ok .ma sd st) : d_Matched_weight [O .ma sd st, .int x] = some (.ret (.int (wgt .ma sd st x))) := by
 have f1 := fT .ma Wd.noConfusion sd st
 have f2 := fS .ma sd st
 have t0 : 0 < st := by have := h.t1; omega
 have t1 : st ≤ 10 ^ 70 := by have := h.t2; omega
 have g1 : ∀ a, gDiv (.int a) (.int st) = some (.int (a / st)) := fun a => divB t0 t1
 clear h t0 t1
 have ew : wgt .ma sd st x = if sd < 2 * x then 2 * (sd / st - (sd - x) / st) else if 2 * x = sd then sd / st else 2 * (x / st) := rfl
 rw [ew]
 clear ew
 unfold d_Matched_weight b_Matched_weight
 generalize O .ma sd st = ob at *
 by_cases c1 : sd < 2 * x
 ·rw [if_pos c1]
  walk_at "eh"
 ·rw [if_neg c1]
  by_cases c2 : 2 * x = sd
  ·rw [if_pos c2]
   have c3 : ¬ sd < sd := by omega
   walk_at "eh"
  ·rw [if_neg c2]
   walk_at "eh"
theorem chk {x sd : Int} (h0 : 0 ≤ x) (h1 : x ≤ sd) : d_check_side [.int x, .int 0, .int sd] = some (.ret .non) := by
 have g0 : d_is_whole [.int x] = some (.ret (.bl true)) := by
  unfold d_is_whole b_is_whole
  walk_at "ev"
  rfl
 have c1 : ¬ x < 0 := by omega
 have c2 : ¬ sd < x := by omega
 clear h0 h1
 unfold d_check_side b_check_side
 generalize d_is_whole = fi at *
 walk_at "eh"
theorem chs {x sd : Int} (h0 : 1 ≤ x) (h1 : x ≤ sd) : d_check_step [.int x, .int sd] = some (.ret .non) := by
 have g0 : d_is_whole [.int x] = some (.ret (.bl true)) := by
  unfold d_is_whole b_is_whole
  walk_at "ev"
  rfl
 have c1 : ¬ x < 1 := by omega
 have c2 : ¬ sd < x := by omega
 clear h0 h1
 unfold d_check_step b_check_step
 generalize d_is_whole = fi at *
 walk_at "eh"
def wfun : Wd → List D → Option R1 | .pl => d_Weighing_weight | .fl => d_Floors_weight | .hv => d_Heavy_weight | .pa => d_Parts_weight | .ma => d_Matched_weight
theorem wf_ok {k : Wd} {sd st x : Int} (h : Ok k sd st) (h0 : 0 ≤ x) (h1 : x ≤ sd) : wfun k [O k sd st, .int x] = some (.ret (.int (wgt k sd st x))) := by
 cases k
 ·exact w_pl
 ·exact w_fl h
 ·exact w_hv h
 ·exact w_pa h h0 h1
 ·exact w_ma h
theorem meth {tab : Str → Option (List D → Option R1)} {m : Str} {o : ZF} {f : AF} {e e1 e2 : DE} {k : Wd} {sd st : Int} {g : List D → Option R1} {ds : List D} {d : D} (h1 : o e = some (.ok (O k sd st) e1)) (hc : (flds k).contains m = false) (ht : tab (wcls k) = some g) (h2 : f e1 = some (.ok ds e2)) (h3 : g (O k sd st :: ds) = some (.ret d)) : eMeth tab m o f e = some (.ok d e2) := by
 unfold eMeth
 rw [h1]
 show (if (flds k).contains m = false then (match tab (wcls k) with
  | some g => bnd (f e1) fun ds e2 => toZ (g (O k sd st :: ds)) e2
  | none => none) else none) = _
 rw [if_pos hc, ht]
 show (bnd (f e1) fun ds e2 => toZ (g (O k sd st :: ds)) e2) = _
 rw [h2]
 show toZ (g (O k sd st :: ds)) e2 = _
 rw [h3]
 rfl
theorem weigh_s {k : Wd} {sd st x : Int} (h : Ok k sd st) (h0 : 0 ≤ x) (h1 : x ≤ sd) (fa fb : List D → Option R1) : fD 2 2 (b_Weighing_weigh fa fb) [O k sd st, .int x] = some (.ret (.int (wgt k sd st x))) := by
 have f2 := fS k sd st
 have c := chk h0 h1
 have m : eMeth (tab_weight d_Weighing_weight d_Floors_weight d_Heavy_weight d_Parts_weight d_Matched_weight fb) "weight" (eV 0) (aC (eV 1) aN) [.fz (O k sd st), .fz (.int x)] = some (.ok (.int (wgt k sd st x)) [.fz (O k sd st), .fz (.int x)]) :=
  meth (g := wfun k) (ds := [.int x]) (e1 := [.fz (O k sd st), .fz (.int x)]) rfl (by cases k <;> rfl) (by cases k <;> rfl) rfl (wf_ok h h0 h1)
 clear h h0 h1
 unfold b_Weighing_weigh
 generalize eMeth (tab_weight d_Weighing_weight d_Floors_weight d_Heavy_weight d_Parts_weight d_Matched_weight fb) "weight" (eV 0) (aC (eV 1) aN) = M at *
 generalize O k sd st = ob at *
 generalize wgt k sd st x = w at *
 generalize d_check_side = fc at *
 walk_at "eh"
def capW : Wd → Int → Int | .pl, sd => sd | .fl, sd => sd | .hv, sd => sd | .pa, _ => 60 | .ma, sd => sd
theorem step_made {k : Wd} {sd st : Int} (h : Ok k sd st) (hk : k ≠ .pl) : d_made_stepped [.int sd, .str (wstr k), .int st] = some (.ret (O k sd st)) := by
 have t1 := h.t1
 have c : d_check_step [.int st, .int (capW k sd)] = some (.ret .non) := by
  cases k
  ·exact absurd rfl hk
  ·exact chs t1 (h.t3 (by intro h; cases h))
  ·exact chs t1 (h.t3 (by intro h; cases h))
  ·exact chs t1 (h.t4 rfl)
  ·exact chs t1 (h.t3 (by intro h; cases h))
 clear h t1
 unfold d_made_stepped b_made_stepped
 generalize d_check_step = fc at *
 cases k
 ·exact absurd rfl hk
 all_goals
  clear hk
  simp only [wstr, capW] at *
  generalize hN1 : eNew "Floors" ["side", "step"] (selA 2) (aC (eV 0) (aC (eV 2) aN)) = N1
  generalize hN2 : eNew "Heavy" ["side", "step"] (selA 2) (aC (eV 0) (aC (eV 2) aN)) = N2
  generalize hN3 : eNew "Parts" ["side", "step"] (selA 2) (aC (eV 0) (aC (eV 2) aN)) = N3
  generalize hN4 : eNew "Matched" ["side", "step"] (selA 2) (aC (eV 0) (aC (eV 2) aN)) = N4
  walk_at "eh"
  first | rw [← hN1]; rfl | rw [← hN2]; rfl | rw [← hN3]; rfl | rw [← hN4]; rfl
theorem made_pl0 {sd : Int} {rw : D} (h : 1 ≤ sd) (e1 : eqB rw (.tup [.str "plain"]) = true) (e2 : (plainD rw && decide (depD rw ≤ 40)) = true) (fa fb : List D → Option R1) : fD 2 2 (b_made_weighing fa fb) [.int sd, rw] = some (.ret (O .pl sd 0)) := by
 have c1 : ¬ sd < 1 := by omega
 clear h
 unfold b_made_weighing
 generalize d_made_stepped = fc at *
 generalize hN : eNew "Weighing" ["side"] (selA 1) (aC (eV 0) aN) = N1
 walk_at "eh"
 rw [← hN]
 rfl
theorem made_pl {sd : Int} (st : Int) (h : 1 ≤ sd) (fa fb : List D → Option R1) : fD 2 2 (b_made_weighing fa fb) [.int sd, rowD .pl st] = some (.ret (O .pl sd st)) := made_pl0 h rfl rfl fa fb
theorem made_st {k : Wd} {sd st : Int} (h : Ok k sd st) (hk : k ≠ .pl) (fa fb : List D → Option R1) : fD 2 2 (b_made_weighing fa fb) [.int sd, rowD k st] = some (.ret (O k sd st)) := by
 have c := step_made h hk
 have c1 : ¬ sd < 1 := by have := h.s1; omega
 clear h
 unfold b_made_weighing
 generalize d_made_stepped = fc at *
 generalize eNew "Weighing" ["side"] (selA 1) (aC (eV 0) aN) = N1
 generalize O k sd st = ob at *
 cases k
 ·exact absurd rfl hk
 all_goals (clear hk; simp only [wstr, rowD] at *; walk_at "eh")
theorem fs {a b st : Int} (h : 0 < st) : a / st + b / st ≤ (a + b) / st := by
 apply Int.le_ediv_of_mul_le h
 rw [Int.add_mul]
 have := Int.ediv_mul_le a (Int.ne_of_gt h)
 have := Int.ediv_mul_le b (Int.ne_of_gt h)
 omega
theorem wgt_nn {k : Wd} {sd st x : Int} (h : Ok k sd st) (h0 : 0 ≤ x) (h1 : x ≤ sd) : 0 ≤ wgt k sd st x := by
 have s1 := h.s1
 have t1 := h.t1
 cases k
 ·exact h0
 ·exact Int.ediv_nonneg h0 (by omega)
 ·show 0 ≤ if x < st then 0 else if sd - st < x then sd else x
  split
  ·omega
  split <;> omega
 ·show 0 ≤ if (st + 1) * x % sd = 0 then st * x else sd * ((st + 1) * x / sd)
  split
  ·exact Int.mul_nonneg (by omega) h0
  ·exact Int.mul_nonneg (by omega) (Int.ediv_nonneg (Int.mul_nonneg (by omega) h0) (by omega))
 ·show 0 ≤ if sd < 2 * x then 2 * (sd / st - (sd - x) / st) else if 2 * x = sd then sd / st else 2 * (x / st)
  split
  ·have : (sd - x) / st ≤ sd / st := Int.ediv_le_ediv (by omega) (by omega)
   omega
  split
  ·exact Int.ediv_nonneg (by omega) (by omega)
  ·have : 0 ≤ x / st := Int.ediv_nonneg h0 (by omega)
   omega
theorem pa_up {sd st x y : Int} (s1 : 1 ≤ sd) (x0 : 0 ≤ x) (y0 : 0 ≤ y) (hs : x + y ≤ sd) : wgt .pa sd st x + wgt .pa sd st y ≤ wgt .pa sd st (x + y) := by
 show (if (st + 1) * x % sd = 0 then st * x else sd * ((st + 1) * x / sd)) + (if (st + 1) * y % sd = 0 then st * y else sd * ((st + 1) * y / sd)) ≤ if (st + 1) * (x + y) % sd = 0 then st * (x + y) else sd * ((st + 1) * (x + y) / sd)
 have a1 := Int.mul_ediv_add_emod ((st + 1) * x) sd
 have a2 := Int.mul_ediv_add_emod ((st + 1) * y) sd
 have a3 := Int.mul_ediv_add_emod ((st + 1) * (x + y)) sd
 have b1 := Int.emod_nonneg ((st + 1) * x) (b := sd) (by omega)
 have b2 := Int.emod_nonneg ((st + 1) * y) (b := sd) (by omega)
 have b3 := Int.emod_nonneg ((st + 1) * (x + y)) (b := sd) (by omega)
 have c1 := Int.emod_lt_of_pos ((st + 1) * x) (b := sd) (by omega)
 have c2 := Int.emod_lt_of_pos ((st + 1) * y) (b := sd) (by omega)
 have c3 := Int.emod_lt_of_pos ((st + 1) * (x + y)) (b := sd) (by omega)
 have e1 : (st + 1) * x = st * x + x := by rw [Int.add_mul, Int.one_mul]
 have e2 : (st + 1) * y = st * y + y := by rw [Int.add_mul, Int.one_mul]
 have e3 : (st + 1) * (x + y) = st * x + st * y + (x + y) := by rw [Int.add_mul, Int.one_mul, Int.mul_add]
 have e4 : st * (x + y) = st * x + st * y := Int.mul_add ..
 generalize (st + 1) * x / sd = q1 at *
 generalize (st + 1) * y / sd = q2 at *
 generalize (st + 1) * (x + y) / sd = q3 at *
 generalize (st + 1) * x % sd = r1 at *
 generalize (st + 1) * y % sd = r2 at *
 generalize (st + 1) * (x + y) % sd = r3 at *
 rw [e4]
 rw [e1] at a1
 rw [e2] at a2
 rw [e3] at a3
 clear e1 e2 e3 e4
 generalize st * x = u at *
 generalize st * y = v at *
 have lo : q1 + q2 ≤ q3 := by
  by_cases z : q1 + q2 ≤ q3
  ·exact z
  ·exfalso
   have : sd * (q3 + 1) ≤ sd * (q1 + q2) := Int.mul_le_mul_of_nonneg_left (by omega) (by omega)
   rw [Int.mul_add, Int.mul_add, Int.mul_one] at this
   omega
 have up : q3 ≤ q1 + q2 + 1 := by
  by_cases z : q3 ≤ q1 + q2 + 1
  ·exact z
  ·exfalso
   have : sd * (q1 + q2 + 2) ≤ sd * q3 := Int.mul_le_mul_of_nonneg_left (by omega) (by omega)
   rw [Int.mul_add, Int.mul_add] at this
   omega
 have : q3 = q1 + q2 ∨ q3 = q1 + q2 + 1 := by omega
 rcases this with rfl | rfl
 ·rw [Int.mul_add] at *
  split <;> split <;> split <;> omega
 ·rw [Int.mul_add, Int.mul_add, Int.mul_one] at *
  split <;> split <;> split <;> omega
theorem ma_up {sd st x y : Int} (s1 : 1 ≤ sd) (t1 : 1 ≤ st) (x0 : 0 ≤ x) (y0 : 0 ≤ y) (hs : x + y ≤ sd) (hxy : y ≤ x) : wgt .ma sd st x + wgt .ma sd st y ≤ wgt .ma sd st (x + y) := by
 show (if sd < 2 * x then 2 * (sd / st - (sd - x) / st) else if 2 * x = sd then sd / st else 2 * (x / st)) + (if sd < 2 * y then 2 * (sd / st - (sd - y) / st) else if 2 * y = sd then sd / st else 2 * (y / st)) ≤ if sd < 2 * (x + y) then 2 * (sd / st - (sd - (x + y)) / st) else if 2 * (x + y) = sd then sd / st else 2 * ((x + y) / st)
 have t0 : 0 < st := by omega
 have n1 : 0 ≤ x / st := Int.ediv_nonneg x0 (by omega)
 have n2 : 0 ≤ y / st := Int.ediv_nonneg y0 (by omega)
 by_cases c1 : sd < 2 * x
 ·rw [if_pos c1, if_neg (by omega), if_neg (by omega), if_pos (by omega)]
  have := fs (a := y) (b := sd - (x + y)) t0
  rw [show y + (sd - (x + y)) = sd - x by omega] at this
  omega
 ·rw [if_neg c1]
  by_cases c2 : 2 * x = sd
  ·rw [if_pos c2]
   by_cases c3 : 2 * y = sd
   ·rw [if_neg (by omega), if_pos c3, if_pos (by omega)]
    rw [show sd - (x + y) = 0 by omega, Int.zero_ediv]
    omega
   ·rw [if_neg (by omega), if_neg c3]
    by_cases c4 : y = 0
    ·subst c4
     rw [if_neg (by omega), if_pos (by omega), Int.zero_ediv]
     omega
    ·rw [if_pos (by omega)]
     have k1 := fs (a := y) (b := sd - (x + y)) t0
     have k2 := fs (a := y + (sd - (x + y))) (b := y + (sd - (x + y))) t0
     rw [show y + (sd - (x + y)) + (y + (sd - (x + y))) = sd by omega] at k2
     omega
  ·rw [if_neg c2, if_neg (by omega), if_neg (by omega)]
   have k1 := fs (a := x) (b := y) t0
   by_cases c3 : sd < 2 * (x + y)
   ·rw [if_pos c3]
    have k2 := fs (a := x + y) (b := sd - (x + y)) t0
    rw [show x + y + (sd - (x + y)) = sd by omega] at k2
    omega
   ·rw [if_neg c3]
    by_cases c4 : 2 * (x + y) = sd
    ·rw [if_pos c4]
     have k2 := fs (a := x + y) (b := x + y) t0
     rw [show x + y + (x + y) = sd by omega] at k2
     omega
    ·rw [if_neg c4]
     omega
theorem wgt_up {k : Wd} {sd st x y : Int} (h : Ok k sd st) (x0 : 0 ≤ x) (y0 : 0 ≤ y) (hs : x + y ≤ sd) : wgt k sd st x + wgt k sd st y ≤ wgt k sd st (x + y) := by
 have s1 := h.s1
 have t1 := h.t1
 cases k
 ·exact Int.le_refl _
 ·exact fs (by omega)
 ·show (if x < st then 0 else if sd - st < x then sd else x) + (if y < st then 0 else if sd - st < y then sd else y) ≤ if x + y < st then 0 else if sd - st < x + y then sd else x + y
  repeat' split
  all_goals omega
 ·exact pa_up s1 x0 y0 hs
 ·by_cases c : y ≤ x
  ·exact ma_up s1 t1 x0 y0 hs c
  ·have := ma_up s1 t1 y0 x0 (by omega) (by omega)
   rw [show y + x = x + y by omega] at this
   omega
theorem app_len (a b : Str) : (a ++ b).length = a.length + b.length := by
 exact PySem.Str.length_append a b
theorem fmt_ok {i : Int} {f : ZF} {e e1 : DE} (hi : i.natAbs.log2 < 1920) (h : f e = some (.ok (.int i) e1)) : eFmt f e = some (.ok (.str (toString i)) e1) := by
 unfold eFmt
 rw [h]
 show (if i.natAbs.log2 < 1920 then _ else _) = _
 rw [if_pos hi]
theorem jC_ok {f : ZF} {k : JF} {e e1 : DE} {y acc : Str} {r : Option (R Str)} (h : f e = some (.ok (.str y) e1)) (hl : (acc ++ y).length ≤ sizeLine) (hk : k e1 (acc ++ y) = r) : jC f k e acc = r := by
 unfold jC
 rw [h]
 show (if (acc ++ y).length ≤ sizeLine then _ else _) = _
 rw [if_pos hl, hk]
theorem jN_ok {e : DE} {acc : Str} (hl : acc.length ≤ sizeLine) : jN e acc = some (.ok acc e) := if_pos hl
theorem txt_len {i : Int} (hi : i.natAbs.log2 < 1920) : (Str.ofString (toString i)).length ≤ 1921 := by
 rw [PyProof.Rows.ofString_len]
 exact PySem.int_text_length_le (by decide) hi
theorem log_lt2 {j : Int} (h1 : j.natAbs ≤ 10 ^ 70) : j.natAbs.log2 < 1920 := by
 by_cases h0 : j.natAbs = 0
 ·rw [h0]; decide +kernel
 ·rw [Nat.log2_lt h0]
  exact Nat.lt_of_le_of_lt h1 (by decide +kernel)
inductive Rw where | s (k : Wd) (st : Int) | n (a b : Rw)
def dp : Rw → Nat | .s _ _ => 0 | .n a b => 1 + (dp a + dp b)
def wR : Rw → Int → Int → Int | .s k st, sd, x => wgt k sd st x | .n a b, sd, x => wR b (wR a sd sd) (wR a sd x)
def OkR : Rw → Int → Prop | .s k st, sd => Ok k sd st | .n a b, sd => OkR a sd ∧ OkR b (wR a sd sd)
def rowR : Rw → D | .s k st => rowD k st | .n a b => .tup [.str "nested", rowR a, rowR b]
def clsR : Rw → Str | .s k _ => wcls k | .n _ _ => "Nested"
def fldR : Rw → List Str | .s k _ => flds k | .n _ _ => ["side", "inner", "outer"]
def objR : Rw → Int → D | .s k st, sd => O k sd st | .n a b, sd => .obj "Nested" ["side", "inner", "outer"] [.int sd, objR a sd, objR b (wR a sd sd)]
theorem objR_eq (r : Rw) (sd : Int) : ∃ vs, objR r sd = .obj (clsR r) (fldR r) vs := by
 cases r
 ·exact ⟨_, rfl⟩
 ·exact ⟨_, rfl⟩
theorem okR_1 : ∀ {r : Rw} {sd : Int}, OkR r sd → 1 ≤ sd ∧ sd ≤ 10 ^ 60
 | .s _ _, _, h => ⟨Ok.s1 h, Ok.s2 h⟩
 | .n a _, _, h => okR_1 (r := a) h.1
theorem wR_in : ∀ {r : Rw} {sd x : Int}, OkR r sd → 0 ≤ x → x ≤ sd → 0 ≤ wR r sd x ∧ wR r sd x ≤ wR r sd sd
 | .s k st, sd, x, h, h0, h1 => by
  have a := wgt_nn (k := k) (st := st) h h0 h1
  have b := wgt_nn (k := k) (st := st) (x := sd - x) h (by omega) (by omega)
  have c := wgt_up (k := k) (st := st) (x := x) (y := sd - x) h h0 (by omega) (by omega)
  rw [show x + (sd - x) = sd by omega] at c
  exact ⟨a, by show wgt k sd st x ≤ wgt k sd st sd; omega⟩
 | .n a b, sd, x, h, h0, h1 => by
  have p := wR_in (r := a) h.1 h0 h1
  exact wR_in (r := b) h.2 p.1 p.2
theorem sideR (r : Rw) (sd : Int) : gFld ft_side "side" (objR r sd) = some (.int sd) := by
 cases r with
 | s k st => exact fS k sd st
 | n a b => rfl
theorem methR {tab : Str → Option (List D → Option R1)} {m : Str} {o : ZF} {f : AF} {e e1 e2 : DE} {r : Rw} {sd : Int} {g : List D → Option R1} {ds : List D} {d : D} (h1 : o e = some (.ok (objR r sd) e1)) (hc : (fldR r).contains m = false) (ht : tab (clsR r) = some g) (h2 : f e1 = some (.ok ds e2)) (h3 : g (objR r sd :: ds) = some (.ret d)) : eMeth tab m o f e = some (.ok d e2) := by
 obtain ⟨vs, ho⟩ := objR_eq r sd
 rw [ho] at h1 h3
 unfold eMeth
 rw [h1]
 show (if (fldR r).contains m = false then (match tab (clsR r) with
  | some g => bnd (f e1) fun ds e2 => toZ (g (.obj (clsR r) (fldR r) vs :: ds)) e2
  | none => none) else none) = _
 rw [if_pos hc, ht]
 show (bnd (f e1) fun ds e2 => toZ (g (.obj (clsR r) (fldR r) vs :: ds)) e2) = _
 rw [h2]
 show toZ (g (.obj (clsR r) (fldR r) vs :: ds)) e2 = _
 rw [h3]
 rfl
theorem tabW (r : Rw) (g : List D → Option R1) : tab_weigh g (clsR r) = some g := by
 cases r with
 | s k st => cases k <;> rfl
 | n a b => rfl
theorem tabH (r : Rw) (g : List D → Option R1) : tab_whole g (clsR r) = some g := by
 cases r with
 | s k st => cases k <;> rfl
 | n a b => rfl
theorem fldW (r : Rw) : (fldR r).contains "weigh" = false ∧ (fldR r).contains "whole" = false ∧ (fldR r).contains "named" = false ∧ (fldR r).contains "weight" = false := by
 cases r with
 | s k st => cases k <;> exact ⟨rfl, rfl, rfl, rfl⟩
 | n a b => exact ⟨rfl, rfl, rfl, rfl⟩
theorem nw_s {a b : Rw} {sd x : Int} (fa fb : List D → Option R1) (h1 : fa [objR a sd, .int x] = some (.ret (.int (wR a sd x)))) (h2 : fa [objR b (wR a sd sd), .int (wR a sd x)] = some (.ret (.int (wR b (wR a sd sd) (wR a sd x))))) : fD 2 2 (b_Nested_weight fa fb) [objR (.n a b) sd, .int x] = some (.ret (.int (wR (.n a b) sd x))) := by
 have f1 : gFld ft_inner "inner" (objR (.n a b) sd) = some (objR a sd) := rfl
 have f2 : gFld ft_outer "outer" (objR (.n a b) sd) = some (objR b (wR a sd sd)) := rfl
 have u1 : eU (gFld ft_inner "inner") (eV 0) [.fz (objR (.n a b) sd), .fz (.int x)] = some (.ok (objR a sd) [.fz (objR (.n a b) sd), .fz (.int x)]) := by
  generalize objR (.n a b) sd = ob at *
  walk_at "eh"
 have u2 : eU (gFld ft_outer "outer") (eV 0) [.fz (objR (.n a b) sd), .fz (.int x)] = some (.ok (objR b (wR a sd sd)) [.fz (objR (.n a b) sd), .fz (.int x)]) := by
  generalize objR (.n a b) sd = ob at *
  walk_at "eh"
 have m1 : eMeth (tab_weigh fa) "weigh" (eU (gFld ft_inner "inner") (eV 0)) (aC (eV 1) aN) [.fz (objR (.n a b) sd), .fz (.int x)] = some (.ok (.int (wR a sd x)) [.fz (objR (.n a b) sd), .fz (.int x)]) :=
  methR u1 (fldW a).1 (tabW a fa) rfl h1
 have a1 : aC (eMeth (tab_weigh fa) "weigh" (eU (gFld ft_inner "inner") (eV 0)) (aC (eV 1) aN)) aN [.fz (objR (.n a b) sd), .fz (.int x)] = some (.ok [.int (wR a sd x)] [.fz (objR (.n a b) sd), .fz (.int x)]) := by
  generalize eMeth (tab_weigh fa) "weigh" (eU (gFld ft_inner "inner") (eV 0)) (aC (eV 1) aN) = M at *
  generalize objR (.n a b) sd = ob at *
  walk_at "eh"
 have m2 : eMeth (tab_weigh fa) "weigh" (eU (gFld ft_outer "outer") (eV 0)) (aC (eMeth (tab_weigh fa) "weigh" (eU (gFld ft_inner "inner") (eV 0)) (aC (eV 1) aN)) aN) [.fz (objR (.n a b) sd), .fz (.int x)] = some (.ok (.int (wR b (wR a sd sd) (wR a sd x))) [.fz (objR (.n a b) sd), .fz (.int x)]) :=
  methR u2 (fldW b).1 (tabW b fa) a1 h2
 show _ = some (R1.ret (.int (wR b (wR a sd sd) (wR a sd x))))
 clear h1 h2 f1 f2 u1 u2 m1 a1
 unfold b_Nested_weight
 generalize eMeth (tab_weigh fa) "weigh" (eU (gFld ft_outer "outer") (eV 0)) (aC (eMeth (tab_weigh fa) "weigh" (eU (gFld ft_inner "inner") (eV 0)) (aC (eV 1) aN)) aN) = M at *
 generalize objR (.n a b) sd = ob at *
 generalize wR b (wR a sd sd) (wR a sd x) = w at *
 walk_at "eh"
theorem weigh_n {a b : Rw} {sd x : Int} (h0 : 0 ≤ x) (h1 : x ≤ sd) (fa fb : List D → Option R1) (hg : fb [objR (.n a b) sd, .int x] = some (.ret (.int (wR (.n a b) sd x)))) : fD 2 2 (b_Weighing_weigh fa fb) [objR (.n a b) sd, .int x] = some (.ret (.int (wR (.n a b) sd x))) := by
 have f2 := sideR (.n a b) sd
 have c := chk h0 h1
 have m : eMeth (tab_weight d_Weighing_weight d_Floors_weight d_Heavy_weight d_Parts_weight d_Matched_weight fb) "weight" (eV 0) (aC (eV 1) aN) [.fz (objR (.n a b) sd), .fz (.int x)] = some (.ok (.int (wR (.n a b) sd x)) [.fz (objR (.n a b) sd), .fz (.int x)]) :=
  methR (r := .n a b) (g := fb) (ds := [.int x]) (e1 := [.fz (objR (.n a b) sd), .fz (.int x)]) rfl rfl rfl rfl hg
 clear h0 h1 hg
 unfold b_Weighing_weigh
 generalize eMeth (tab_weight d_Weighing_weight d_Floors_weight d_Heavy_weight d_Parts_weight d_Matched_weight fb) "weight" (eV 0) (aC (eV 1) aN) = M at *
 generalize objR (.n a b) sd = ob at *
 generalize wR (.n a b) sd x = w at *
 generalize d_check_side = fc at *
 walk_at "eh"
theorem weigh_R : ∀ {r : Rw} {sd x : Int} (m : Nat), OkR r sd → 0 ≤ x → x ≤ sd → 2 * dp r < m → d_Weighing_weigh m [objR r sd, .int x] = some (.ret (.int (wR r sd x)))
 | r, sd, x, 0, _, _, _, hm => absurd hm (Nat.not_lt_zero _)
 | .s k st, sd, x, m + 1, h, h0, h1, _ => by
  rw [d_Weighing_weigh]
  exact weigh_s h h0 h1 _ _
 | .n a b, sd, x, 1, h, h0, h1, hm => by
  exfalso
  have : dp (.n a b) = 1 + (dp a + dp b) := rfl
  omega
 | .n a b, sd, x, m + 2, h, h0, h1, hm => by
  have e : dp (.n a b) = 1 + (dp a + dp b) := rfl
  rw [d_Weighing_weigh]
  have p := wR_in (r := a) h.1 h0 h1
  refine weigh_n h0 h1 _ _ ?_
  rw [d_Nested_weight]
  exact nw_s _ _ (weigh_R m h.1 h0 h1 (by omega)) (weigh_R m h.2 p.1 p.2 (by omega))
theorem whole_R {r : Rw} {sd : Int} (h : OkR r sd) (hd : 2 * dp r < 8) : d_Weighing_whole [objR r sd] = some (.ret (.int (wR r sd sd))) := by
 have f2 := sideR r sd
 have s1 := (okR_1 h).1
 have a1 : aC (eU (gFld ft_side "side") (eV 0)) aN [.fz (objR r sd)] = some (.ok [.int sd] [.fz (objR r sd)]) := by
  clear h s1 hd
  generalize objR r sd = ob at *
  walk_at "eh"
 have m : eMeth (tab_weigh (d_Weighing_weigh 8)) "weigh" (eV 0) (aC (eU (gFld ft_side "side") (eV 0)) aN) [.fz (objR r sd)] = some (.ok (.int (wR r sd sd)) [.fz (objR r sd)]) :=
  methR (g := d_Weighing_weigh 8) (ds := [.int sd]) (e1 := [.fz (objR r sd)]) rfl (fldW r).1 (tabW r _) a1 (weigh_R 8 h (by omega) (by omega) hd)
 clear h a1 s1 hd
 unfold d_Weighing_whole b_Weighing_whole
 generalize eMeth (tab_weigh (d_Weighing_weigh 8)) "weigh" (eV 0) (aC (eU (gFld ft_side "side") (eV 0)) aN) = M at *
 generalize objR r sd = ob at *
 generalize wR r sd sd = w at *
 walk_at "eh"
theorem geT {ds : List D} (hp : plainDs ds = true) (hd : depDs ds < 40) (he : eqBs ds [.str "plain"] = false) : gEqT false (.tup ds) (.tup [.str "plain"]) = some (.bl false) := by
 have h1 : plainD (.tup ds) = true := by simp only [plainD]; exact hp
 have h2 : depD (.tup ds) ≤ 40 := by simp only [depD]; omega
 have h3 : plainD (.tup [.str "plain"]) = true := rfl
 have h4 : depD (.tup [.str "plain"]) ≤ 40 := Nat.le_of_ble_eq_true rfl
 have h5 : eqB (.tup ds) (.tup [.str "plain"]) = false := by simp only [eqB]; exact he
 unfold gEqT
 rw [h5, if_pos (by simp [h1, h2, h3, h4, seqD?])]
 rfl
theorem mn_ok {a : Rw} {sd : Int} {A B ob : D} (fa fb : List D → Option R1) (hw : d_Weighing_whole [objR a sd] = some (.ret (.int (wR a sd sd)))) (h1 : fb [.int sd, A] = some (.ret (objR a sd))) (h2 : fb [.int (wR a sd sd), B] = some (.ret ob)) : fD 4 3 (b_made_nested fa fb) [.int sd, A, B] = some (.ret (.obj "Nested" ["side", "inner", "outer"] [.int sd, objR a sd, ob])) := by
 have m : eMeth (tab_whole d_Weighing_whole) "whole" (eV 3) aN [.fz (.int sd), .fz A, .fz B, .fz (objR a sd)] = some (.ok (.int (wR a sd sd)) [.fz (.int sd), .fz A, .fz B, .fz (objR a sd)]) :=
  methR (r := a) (g := d_Weighing_whole) (ds := []) (e1 := [.fz (.int sd), .fz A, .fz B, .fz (objR a sd)]) rfl (fldW a).2.1 (tabH a _) rfl hw
 have sel : selC ft_side "side" [objR a sd, ob] = some [.int sd, objR a sd, ob] := by
  show (match gFld ft_side "side" (objR a sd) with
   | some s => some [s, objR a sd, ob]
   | none => none) = _
  rw [sideR]
 have a1 : aC (eV 3) (aC (eCall fb (aC (eMeth (tab_whole d_Weighing_whole) "whole" (eV 3) aN) (aC (eV 2) aN))) aN) [.fz (.int sd), .fz A, .fz B, .fz (objR a sd)] = some (.ok [objR a sd, ob] [.fz (.int sd), .fz A, .fz B, .fz (objR a sd)]) := by
  clear sel hw h1
  generalize eMeth (tab_whole d_Weighing_whole) "whole" (eV 3) aN = M at *
  generalize objR a sd = oa at *
  generalize wR a sd sd = w at *
  walk_at "eh"
 have n : eNew "Nested" ["side", "inner", "outer"] (selC ft_side "side") (aC (eV 3) (aC (eCall fb (aC (eMeth (tab_whole d_Weighing_whole) "whole" (eV 3) aN) (aC (eV 2) aN))) aN)) [.fz (.int sd), .fz A, .fz B, .fz (objR a sd)] = some (.ok (.obj "Nested" ["side", "inner", "outer"] [.int sd, objR a sd, ob]) [.fz (.int sd), .fz A, .fz B, .fz (objR a sd)]) := by
  unfold eNew
  rw [a1]
  show (match selC ft_side "side" [objR a sd, ob] with
   | some zs => some (R.ok (D.obj "Nested" ["side", "inner", "outer"] zs) [.fz (.int sd), .fz A, .fz B, .fz (objR a sd)])
   | none => none) = _
  rw [sel]
 clear m sel a1 hw h2
 unfold b_made_nested
 generalize eNew "Nested" ["side", "inner", "outer"] (selC ft_side "side") (aC (eV 3) (aC (eCall fb (aC (eMeth (tab_whole d_Weighing_whole) "whole" (eV 3) aN) (aC (eV 2) aN))) aN)) = N at *
 generalize D.obj "Nested" ["side", "inner", "outer"] [.int sd, objR a sd, ob] = res at *
 generalize objR a sd = oa at *
 walk_at "eh"
theorem mn_x1 {sd : Int} {A B : D} {c : Str} (fa fb : List D → Option R1) (h1 : fb [.int sd, A] = some (.ex c)) : fD 4 3 (b_made_nested fa fb) [.int sd, A, B] = some (.ex c) := by
 unfold b_made_nested
 generalize eNew "Nested" ["side", "inner", "outer"] (selC ft_side "side") (aC (eV 3) (aC (eCall fb (aC (eMeth (tab_whole d_Weighing_whole) "whole" (eV 3) aN) (aC (eV 2) aN))) aN)) = N at *
 walk_at "eh"
theorem mn_x2 {a : Rw} {sd : Int} {A B : D} {c : Str} (fa fb : List D → Option R1) (hw : d_Weighing_whole [objR a sd] = some (.ret (.int (wR a sd sd)))) (h1 : fb [.int sd, A] = some (.ret (objR a sd))) (h2 : fb [.int (wR a sd sd), B] = some (.ex c)) : fD 4 3 (b_made_nested fa fb) [.int sd, A, B] = some (.ex c) := by
 have m : eMeth (tab_whole d_Weighing_whole) "whole" (eV 3) aN [.fz (.int sd), .fz A, .fz B, .fz (objR a sd)] = some (.ok (.int (wR a sd sd)) [.fz (.int sd), .fz A, .fz B, .fz (objR a sd)]) :=
  methR (r := a) (g := d_Weighing_whole) (ds := []) (e1 := [.fz (.int sd), .fz A, .fz B, .fz (objR a sd)]) rfl (fldW a).2.1 (tabH a _) rfl hw
 have a1 : aC (eV 3) (aC (eCall fb (aC (eMeth (tab_whole d_Weighing_whole) "whole" (eV 3) aN) (aC (eV 2) aN))) aN) [.fz (.int sd), .fz A, .fz B, .fz (objR a sd)] = some (.ex c) := by
  clear hw h1
  generalize eMeth (tab_whole d_Weighing_whole) "whole" (eV 3) aN = M at *
  generalize objR a sd = oa at *
  generalize wR a sd sd = w at *
  walk_at "eh"
 have n : eNew "Nested" ["side", "inner", "outer"] (selC ft_side "side") (aC (eV 3) (aC (eCall fb (aC (eMeth (tab_whole d_Weighing_whole) "whole" (eV 3) aN) (aC (eV 2) aN))) aN)) [.fz (.int sd), .fz A, .fz B, .fz (objR a sd)] = some (.ex c) := by
  unfold eNew
  rw [a1]
  rfl
 clear m a1 hw h2
 unfold b_made_nested
 generalize eNew "Nested" ["side", "inner", "outer"] (selC ft_side "side") (aC (eV 3) (aC (eCall fb (aC (eMeth (tab_whole d_Weighing_whole) "whole" (eV 3) aN) (aC (eV 2) aN))) aN)) = N at *
 generalize objR a sd = oa at *
 walk_at "eh"
theorem mw_n {sd : Int} {A B : D} {r : R1} (h : 1 ≤ sd) (hp : plainDs [.str "nested", A, B] = true) (hd : depDs [.str "nested", A, B] < 40) (fa fb : List D → Option R1) (hr : (∃ d, r = .ret d) ∨ (∃ c, r = .ex c)) (hf : fa [.int sd, A, B] = some r) : fD 2 2 (b_made_weighing fa fb) [.int sd, .tup [.str "nested", A, B]] = some r := by
 have ge := geT hp hd (by simp only [eqBs]; rfl)
 have c1 : ¬ sd < 1 := by omega
 clear h hp hd
 unfold b_made_weighing
 generalize gEqT false = GE at *
 generalize d_made_stepped = fc at *
 generalize eNew "Weighing" ["side"] (selA 1) (aC (eV 0) aN) = N1
 rcases hr with ⟨d, rfl⟩ | ⟨c, rfl⟩ <;> walk_at "eh"
theorem row_plain : ∀ r : Rw, plainD (rowR r) = true ∧ depD (rowR r) ≤ dp r + 1
 | .s k st => by cases k <;> exact ⟨rfl, Nat.le_of_ble_eq_true rfl⟩
 | .n a b => by
  have ha := row_plain a
  have hb := row_plain b
  refine ⟨?_, ?_⟩
  ·show plainDs [.str "nested", rowR a, rowR b] = true
   simp only [plainDs, ha.1, hb.1]
   rfl
  ·show depDs [.str "nested", rowR a, rowR b] + 1 ≤ 1 + (dp a + dp b) + 1
   have : depDs [.str "nested", rowR a, rowR b] = max 0 (max (depD (rowR a)) (max (depD (rowR b)) 0)) := by simp only [depDs, depD]
   omega
theorem made_R : ∀ {r : Rw} {sd : Int} (m : Nat), OkR r sd → 2 * dp r < m → 2 * dp r < 8 → d_made_weighing m [.int sd, rowR r] = some (.ret (objR r sd))
 | r, sd, 0, _, hm, _ => absurd hm (Nat.not_lt_zero _)
 | .s k st, sd, m + 1, h, _, _ => by
  rw [d_made_weighing]
  by_cases hk : k = .pl
  ·subst hk
   exact made_pl st (Ok.s1 h) _ _
  ·exact made_st h hk _ _
 | .n a b, sd, 1, h, hm, _ => by
  exfalso
  have : dp (.n a b) = 1 + (dp a + dp b) := rfl
  omega
 | .n a b, sd, m + 2, h, hm, h8 => by
  have e : dp (.n a b) = 1 + (dp a + dp b) := rfl
  have pl := row_plain (.n a b)
  rw [d_made_weighing]
  refine mw_n (okR_1 h.1).1 (by have := pl.1; simpa only [rowR, plainD] using this) (by have := pl.2; simp only [rowR, depD] at this; omega) _ _ (.inl ⟨_, rfl⟩) ?_
  rw [d_made_nested]
  exact mn_ok _ _ (whole_R h.1 (by omega)) (made_R m h.1 (by omega) (by omega)) (made_R m h.2 (by omega) (by omega))
def nfun : Wd → List D → Option R1 | .pl => d_Weighing_named | .fl => d_Floors_named | .hv => d_Heavy_named | .pa => d_Parts_named | .ma => d_Matched_named
theorem nf_ok (k : Wd) (sd st : Int) : nfun k [O k sd st] = some (.ret (rowD k st)) := by
 cases k <;> rfl
def nfR (f : List D → Option R1) : Rw → List D → Option R1 | .s k _ => nfun k | .n _ _ => f
theorem tabN (r : Rw) (f : List D → Option R1) : tab_named d_Weighing_named d_Floors_named d_Heavy_named d_Parts_named d_Matched_named f (clsR r) = some (nfR f r) := by
 cases r with
 | s k st => cases k <;> rfl
 | n a b => rfl
theorem nn_s {a b : Rw} {sd : Int} (f : List D → Option R1) (h1 : nfR f a [objR a sd] = some (.ret (rowR a))) (h2 : nfR f b [objR b (wR a sd sd)] = some (.ret (rowR b))) : fD 1 1 (b_Nested_named f) [objR (.n a b) sd] = some (.ret (rowR (.n a b))) := by
 have f1 : gFld ft_inner "inner" (objR (.n a b) sd) = some (objR a sd) := rfl
 have f2 : gFld ft_outer "outer" (objR (.n a b) sd) = some (objR b (wR a sd sd)) := rfl
 have u1 : eU (gFld ft_inner "inner") (eV 0) [.fz (objR (.n a b) sd)] = some (.ok (objR a sd) [.fz (objR (.n a b) sd)]) := by
  generalize objR (.n a b) sd = ob at *
  walk_at "eh"
 have u2 : eU (gFld ft_outer "outer") (eV 0) [.fz (objR (.n a b) sd)] = some (.ok (objR b (wR a sd sd)) [.fz (objR (.n a b) sd)]) := by
  generalize objR (.n a b) sd = ob at *
  walk_at "eh"
 have m1 : eMeth (tab_named d_Weighing_named d_Floors_named d_Heavy_named d_Parts_named d_Matched_named f) "named" (eU (gFld ft_inner "inner") (eV 0)) aN [.fz (objR (.n a b) sd)] = some (.ok (rowR a) [.fz (objR (.n a b) sd)]) :=
  methR u1 (fldW a).2.2.1 (tabN a f) rfl h1
 have m2 : eMeth (tab_named d_Weighing_named d_Floors_named d_Heavy_named d_Parts_named d_Matched_named f) "named" (eU (gFld ft_outer "outer") (eV 0)) aN [.fz (objR (.n a b) sd)] = some (.ok (rowR b) [.fz (objR (.n a b) sd)]) :=
  methR u2 (fldW b).2.2.1 (tabN b f) rfl h2
 show _ = some (R1.ret (.tup [.str "nested", rowR a, rowR b]))
 clear h1 h2 f1 f2 u1 u2
 unfold b_Nested_named
 generalize eMeth (tab_named d_Weighing_named d_Floors_named d_Heavy_named d_Parts_named d_Matched_named f) "named" (eU (gFld ft_inner "inner") (eV 0)) aN = M1 at *
 generalize eMeth (tab_named d_Weighing_named d_Floors_named d_Heavy_named d_Parts_named d_Matched_named f) "named" (eU (gFld ft_outer "outer") (eV 0)) aN = M2 at *
 generalize objR (.n a b) sd = ob at *
 generalize rowR a = ra at *
 generalize rowR b = rb at *
 walk_at "eh"
theorem named_R : ∀ {r : Rw} {sd : Int} (m : Nat), dp r ≤ m → nfR (d_Nested_named m) r [objR r sd] = some (.ret (rowR r))
 | .s k st, sd, m, _ => nf_ok k sd st
 | .n a b, sd, 0, hm => absurd hm (by have : dp (.n a b) = 1 + (dp a + dp b) := rfl; omega)
 | .n a b, sd, m + 1, hm => by
  have e : dp (.n a b) = 1 + (dp a + dp b) := rfl
  show d_Nested_named (m + 1) [objR (.n a b) sd] = _
  rw [d_Nested_named]
  exact nn_s _ (named_R m (by omega)) (named_R m (by omega))
theorem chs_bad {x : D} {sd : Int} (h : flatD x = true) (h1 : 1 ≤ sd) (h2 : sd ≤ 10 ^ 60) (hx : ∀ i, x = .int i → i < 1 ∨ sd < i) : d_check_step [x, .int sd] = some (.ex "NoWeighing") := by
 have ml : ∃ t, eJ (jC (eC (.str "the number of a row is a whole number from 1 to ")) (jC (eFmt (eV 1)) jN)) [.fz x, .fz (.int sd)] = some (.ok (.str t) [.fz x, .fz (.int sd)]) := by
  have hz : (4096 : Nat) ≤ sizeLine := by decide
  have hj : sd.natAbs.log2 < 1920 := log_lt2 (by omega)
  have l2 := txt_len hj
  have la : (Str.ofString "the number of a row is a whole number from 1 to ").length ≤ 100 := by decide +kernel
  have e0 : (Str.empty : Str).length = 0 := rfl
  generalize htj : Str.ofString (toString sd) = tj at *
  generalize Str.ofString "the number of a row is a whole number from 1 to " = a at *
  have p2 : eFmt (eV 1) [.fz x, .fz (.int sd)] = some (.ok (.str tj) [.fz x, .fz (.int sd)]) := by rw [← htj]; exact fmt_ok hj rfl
  refine ⟨Str.empty ++ a ++ tj, ?_⟩
  have q : jC (eC (.str a)) (jC (eFmt (eV 1)) jN) [.fz x, .fz (.int sd)] Str.empty = some (.ok (Str.empty ++ a ++ tj) [.fz x, .fz (.int sd)]) :=
   jC_ok (y := a) (e1 := [.fz x, .fz (.int sd)]) rfl (by simp only [app_len]; omega) (jC_ok p2 (by simp only [app_len]; omega) (jN_ok (by simp only [app_len]; omega)))
  unfold eJ
  rw [q]
  rfl
 obtain ⟨t, ht⟩ := ml
 unfold d_check_step b_check_step
 generalize eJ (jC (eC (.str "the number of a row is a whole number from 1 to ")) (jC (eFmt (eV 1)) jN)) = M at *
 have gi : ∀ i, d_is_whole [.int i] = some (.ret (.bl true)) := fun i => by
  unfold d_is_whole b_is_whole
  walk_at "ev"
  rfl
 have gb : ∀ i, d_is_whole [.bl i] = some (.ret (.bl false)) := fun i => by
  unfold d_is_whole b_is_whole
  walk_at "ev"
 have gs : ∀ i, d_is_whole [.str i] = some (.ret (.bl false)) := fun i => by
  unfold d_is_whole b_is_whole
  walk_at "ev"
 have gn : d_is_whole [.non] = some (.ret (.bl false)) := by
  unfold d_is_whole b_is_whole
  walk_at "ev"
 generalize d_is_whole = fi at *
 clear h1 h2
 cases x with
 | non => clear h hx; walk_at "eh"
 | bl b => clear h hx; walk_at "eh"
 | str s => clear h hx; walk_at "eh"
 | int i =>
  have hi := hx i rfl
  clear h hx
  by_cases c1 : i < 1
  ·clear hi
   walk_at "eh"
  ·have c2 : sd < i := by omega
   clear hi
   walk_at "eh"
 | _ => cases h
theorem stp_bad {k : Wd} {x : D} {sd : Int} (hk : k ≠ .pl) (h : flatD x = true) (h1 : 1 ≤ sd) (h2 : sd ≤ 10 ^ 60) (hx : ∀ i, x = .int i → i < 1 ∨ capW k sd < i) : d_made_stepped [.int sd, .str (wstr k), x] = some (.ex "NoWeighing") := by
 have c : d_check_step [x, .int (capW k sd)] = some (.ex "NoWeighing") := chs_bad h (by cases k <;> simp only [capW] <;> omega) (by cases k <;> simp only [capW] <;> omega) hx
 clear h h1 h2 hx
 unfold d_made_stepped b_made_stepped
 generalize d_check_step = fc at *
 cases k
 ·exact absurd rfl hk
 all_goals
  clear hk
  simp only [wstr, capW] at *
  generalize eNew "Floors" ["side", "step"] (selA 2) (aC (eV 0) (aC (eV 2) aN)) = N1
  generalize eNew "Heavy" ["side", "step"] (selA 2) (aC (eV 0) (aC (eV 2) aN)) = N2
  generalize eNew "Parts" ["side", "step"] (selA 2) (aC (eV 0) (aC (eV 2) aN)) = N3
  generalize eNew "Matched" ["side", "step"] (selA 2) (aC (eV 0) (aC (eV 2) aN)) = N4
  walk_at "eh"
theorem mw_num {k : Wd} {x : D} {sd : Int} (hk : k ≠ .pl) (h : flatD x = true) (h1 : 1 ≤ sd) (h2 : sd ≤ 10 ^ 60) (hx : ∀ i, x = .int i → i < 1 ∨ capW k sd < i) (fa fb : List D → Option R1) : fD 2 2 (b_made_weighing fa fb) [.int sd, .tup [.str (wstr k), x]] = some (.ex "NoWeighing") := by
 have c := stp_bad hk h h1 h2 hx
 have ge : gEqT false (.tup [.str (wstr k), x]) (.tup [.str "plain"]) = some (.bl false) := geT (by cases x <;> first | rfl | cases h) (by cases x <;> first | exact Nat.le_of_ble_eq_true rfl | cases h) (by simp only [eqBs]; cases k <;> rfl)
 have c1 : ¬ sd < 1 := by omega
 clear h h1 h2 hx
 unfold b_made_weighing
 generalize gEqT false = GE at *
 generalize d_made_stepped = fc at *
 generalize eNew "Weighing" ["side"] (selA 1) (aC (eV 0) aN) = N1
 cases k
 ·exact absurd rfl hk
 all_goals (clear hk; simp only [wstr] at *; walk_at "eh")
theorem mw_word {w : Str} {sd : Int} (hw : ¬ w = "floors" ∧ ¬ w = "heavy" ∧ ¬ w = "parts" ∧ ¬ w = "matched") (h1 : 1 ≤ sd) (fa fb : List D → Option R1) : fD 2 2 (b_made_weighing fa fb) [.int sd, .tup [.str w, .int 1]] = some (.ex "NoWeighing") := by
 have ge : gEqT false (.tup [.str w, .int 1]) (.tup [.str "plain"]) = some (.bl false) := geT rfl (Nat.le_of_ble_eq_true rfl) (by simp only [eqBs]; rw [Bool.and_eq_false_iff]; exact .inr rfl)
 have c1 : ¬ sd < 1 := by omega
 obtain ⟨w1, w2, w3, w4⟩ := hw
 clear h1
 unfold b_made_weighing
 generalize gEqT false = GE at *
 generalize d_made_stepped = fc at *
 generalize eNew "Weighing" ["side"] (selA 1) (aC (eV 0) aN) = N1
 walk_at "eh"
 rw [if_neg]
 intro q
 simp only [Bool.or_eq_true, beq_iff_eq] at q
 rcases q with q | q | q | q
 ·exact w1 q.symm
 ·exact w2 q.symm
 ·exact w3 q.symm
 ·exact w4 q.symm
theorem mw_zero {sd : Int} {r : D} (h : sd < 1) (fa fb : List D → Option R1) : fD 2 2 (b_made_weighing fa fb) [.int sd, r] = some (.ex "NoWeighing") := by
 unfold b_made_weighing
 generalize gEqT false = GE at *
 generalize d_made_stepped = fc at *
 generalize eNew "Weighing" ["side"] (selA 1) (aC (eV 0) aN) = N1
 walk_at "eh"
theorem most_ok (k : Wd) (sd : Int) : d_l_most [.str (wstr k), .int sd] = some (.ret (.int (capW k sd))) := by
 cases k <;> rfl
theorem good_k (k : Wd) (hk : k ≠ .pl) (c sd : Int) (s1 : 1 ≤ sd) (s2 : sd ≤ 10 ^ 42) (z : gIxL (.lst [.str "floors", .str "heavy", .str "parts", .str "matched", .str "plain"]) (.int (c % 5)) = some (.str (wstr k))) (zp : ¬ wstr k = "plain") : ∃ t, d_l_good [.int c, .int sd] = some (.ret (.tup [.str (wstr k), .int t])) ∧ 1 ≤ t ∧ t ≤ capW k sd := by
 have m := most_ok k sd
 have c1 : 1 ≤ capW k sd := by cases k <;> simp only [capW] <;> omega
 unfold d_l_good b_l_good
 generalize d_l_most = LM at *
 generalize capW k sd = mo at *
 generalize wstr k = w at *
 have m1 : gMod (.int (c / 20)) (.int mo) = some (.int (c / 20 % mo)) := gMod_eq (by omega)
 have b1 := Int.emod_nonneg (c / 20) (show mo ≠ 0 by omega)
 have b2 := Int.emod_lt_of_pos (c / 20) (show 0 < mo by omega)
 have y : c / 5 % 4 = 0 ∨ c / 5 % 4 = 1 ∨ c / 5 % 4 = 2 ∨ c / 5 % 4 = 3 := by omega
 have z0 : eB gIxL (zN (eL (aC (eC (.str "floors")) (aC (eC (.str "heavy")) (aC (eC (.str "parts")) (aC (eC (.str "matched")) (aC (eC (.str "plain")) aN))))))) (eB gMod (eV 0) (eC (.int 5))) [.fz (.int c), .fz (.int sd), .no, .no] = some (.ok (.str w) [.fz (.int c), .fz (.int sd), .no, .no]) := by
  clear m c1 m1 b1 b2 y
  generalize gIxL = gx at *
  walk_at "eh"
 generalize eB gIxL (zN (eL (aC (eC (.str "floors")) (aC (eC (.str "heavy")) (aC (eC (.str "parts")) (aC (eC (.str "matched")) (aC (eC (.str "plain")) aN))))))) (eB gMod (eV 0) (eC (.int 5))) = Z at *
 clear z
 rcases y with y | y | y | y
 ·refine ⟨1, ?_, by omega, by omega⟩
  clear c1 b1 b2
  walk_at "eh"
 ·refine ⟨mo, ?_, by omega, by omega⟩
  clear c1 b1 b2
  walk_at "eh"
 ·refine ⟨1 + c / 20 % mo, ?_, by omega, by omega⟩
  clear c1 b1 b2
  walk_at "eh"
 ·refine ⟨mo, ?_, by omega, by omega⟩
  clear c1 b1 b2
  walk_at "eh"
theorem good_ok (c sd : Int) (s1 : 1 ≤ sd) (s2 : sd ≤ 10 ^ 42) : ∃ k t, d_l_good [.int c, .int sd] = some (.ret (rowD k t)) ∧ Ok k sd t := by
 have : c % 5 = 0 ∨ c % 5 = 1 ∨ c % 5 = 2 ∨ c % 5 = 3 ∨ c % 5 = 4 := by omega
 rcases this with z | z | z | z | z
 ·obtain ⟨t, h1, h2, h3⟩ := good_k .fl Wd.noConfusion c sd s1 s2 (by rw [z]; rfl) (by decide)
  exact ⟨.fl, t, h1, ⟨s1, by omega, h2, by have : t ≤ sd := h3; omega, fun _ => h3, fun h => Wd.noConfusion h⟩⟩
 ·obtain ⟨t, h1, h2, h3⟩ := good_k .hv Wd.noConfusion c sd s1 s2 (by rw [z]; rfl) (by decide)
  exact ⟨.hv, t, h1, ⟨s1, by omega, h2, by have : t ≤ sd := h3; omega, fun _ => h3, fun h => Wd.noConfusion h⟩⟩
 ·obtain ⟨t, h1, h2, h3⟩ := good_k .pa Wd.noConfusion c sd s1 s2 (by rw [z]; rfl) (by decide)
  exact ⟨.pa, t, h1, ⟨s1, by omega, h2, by have : t ≤ 60 := h3; omega, fun h => absurd rfl h, fun _ => h3⟩⟩
 ·obtain ⟨t, h1, h2, h3⟩ := good_k .ma Wd.noConfusion c sd s1 s2 (by rw [z]; rfl) (by decide)
  exact ⟨.ma, t, h1, ⟨s1, by omega, h2, by have : t ≤ sd := h3; omega, fun _ => h3, fun h => Wd.noConfusion h⟩⟩
 ·refine ⟨.pl, 1, ?_, ⟨s1, by omega, by omega, by omega, fun _ => s1, fun h => Wd.noConfusion h⟩⟩
  show _ = some (R1.ret (.tup [.str "plain"]))
  have m : d_l_most [.str "plain", .int sd] = some (.ret (.int sd)) := most_ok .pl sd
  clear s1 s2
  unfold d_l_good b_l_good
  generalize d_l_most = LM at *
  walk_at "eh"
def BadD (sd : Int) (r : D) : Prop := (∃ w, r = .tup [.str w, .int 1] ∧ ¬ w = "floors" ∧ ¬ w = "heavy" ∧ ¬ w = "parts" ∧ ¬ w = "matched") ∨ (∃ k x, k ≠ .pl ∧ r = .tup [.str (wstr k), x] ∧ flatD x = true ∧ ∀ i, x = .int i → i < 1 ∨ capW k sd < i)
theorem bad_plain {sd : Int} {r : D} (h : BadD sd r) : plainD r = true ∧ depD r ≤ 1 := by
 rcases h with ⟨w, rfl, _⟩ | ⟨k, x, _, rfl, hx, _⟩
 ·exact ⟨rfl, Nat.le_of_ble_eq_true rfl⟩
 ·cases x <;> first | exact ⟨rfl, Nat.le_of_ble_eq_true rfl⟩ | cases hx
theorem bad_made {sd : Int} {r : D} (h : BadD sd r) (s1 : 1 ≤ sd) (s2 : sd ≤ 10 ^ 60) (m : Nat) : d_made_weighing (m + 1) [.int sd, r] = some (.ex "NoWeighing") := by
 rw [d_made_weighing]
 rcases h with ⟨w, rfl, hw⟩ | ⟨k, x, hk, rfl, hx, hi⟩
 ·exact mw_word hw s1 _ _
 ·exact mw_num hk hx s1 s2 hi _ _
abbrev plD : D := .tup [.str "plain"]
abbrev nst (a b : D) : D := .tup [.str "nested", a, b]
theorem nst_plain {a b : D} (ha : plainD a = true) (hb : plainD b = true) : plainDs [.str "nested", a, b] = true := by
 simp only [plainDs, ha, hb]
 rfl
theorem nst_dep {a b : D} {n : Nat} (ha : depD a ≤ n) (hb : depD b ≤ n) : depDs [.str "nested", a, b] ≤ n := by
 have : depDs [.str "nested", a, b] = max 0 (max (depD a) (max (depD b) 0)) := by simp only [depDs, depD]
 omega
theorem nx1 {sd : Int} {a b : D} (s1 : 1 ≤ sd) (pa : plainD a = true) (pb : plainD b = true) (da : depD a ≤ 10) (db : depD b ≤ 10) (m : Nat) (h : d_made_weighing m [.int sd, a] = some (.ex "NoWeighing")) : d_made_weighing (m + 2) [.int sd, nst a b] = some (.ex "NoWeighing") := by
 rw [d_made_weighing]
 refine mw_n s1 (nst_plain pa pb) (by have := nst_dep da db; omega) _ _ (.inr ⟨_, rfl⟩) ?_
 rw [d_made_nested]
 exact mn_x1 _ _ h
theorem nx2 {r : Rw} {sd : Int} {b : D} (h0 : OkR r sd) (hd : dp r = 0) (pb : plainD b = true) (db : depD b ≤ 10) (m : Nat) (h : d_made_weighing (m + 1) [.int (wR r sd sd), b] = some (.ex "NoWeighing")) : d_made_weighing (m + 3) [.int sd, nst (rowR r) b] = some (.ex "NoWeighing") := by
 have p := row_plain r
 rw [d_made_weighing]
 refine mw_n (okR_1 h0).1 (nst_plain p.1 pb) (by have := nst_dep (n := 10) (show depD (rowR r) ≤ 10 by omega) db; omega) _ _ (.inr ⟨_, rfl⟩) ?_
 rw [d_made_nested]
 exact mn_x2 _ _ (whole_R h0 (by omega)) (made_R (m + 1) h0 (by omega) (by omega)) h
def setD (r : D) (w : Int) (f : Bool) : D := if w = 0 then r else if w = 1 then (if f then nst r plD else nst plD r) else nst plD (if f then nst r plD else nst plD r)
theorem set_ok (r : D) (w : Int) (f : Bool) : d_l_set [r, plD, .int w, .bl f] = some (.ret (setD r w f)) := by
 unfold d_l_set b_l_set setD
 by_cases h0 : w = 0
 ·rw [if_pos h0]
  cases f <;> walk_at "eh"
 ·rw [if_neg h0]
  by_cases h1 : w = 1
  ·rw [if_pos h1]
   cases f <;> walk_at "eh" <;> rfl
  ·rw [if_neg h1]
   cases f <;> walk_at "eh" <;> rfl
theorem pl_ok {sd : Int} (s1 : 1 ≤ sd) (s2 : sd ≤ 10 ^ 60) : OkR (.s .pl 1) sd := ⟨s1, s2, by omega, by omega, fun _ => s1, fun h => Wd.noConfusion h⟩
theorem bad_set {sd : Int} {r : D} (h : BadD sd r) (s1 : 1 ≤ sd) (s2 : sd ≤ 10 ^ 60) (w : Int) (f : Bool) : d_made_weighing 8 [.int sd, setD r w f] = some (.ex "NoWeighing") := by
 have p := bad_plain h
 have n1 : ∀ m, d_made_weighing (m + 3) [.int sd, if f then nst r plD else nst plD r] = some (.ex "NoWeighing") := fun m => by
  cases f
  ·exact nx2 (r := .s .pl 1) (pl_ok s1 s2) rfl p.1 (by omega) m (bad_made h s1 s2 m)
  ·exact nx1 s1 p.1 rfl (by omega) (Nat.le_of_ble_eq_true rfl) (m + 1) (bad_made h s1 s2 m)
 unfold setD
 by_cases h0 : w = 0
 ·rw [if_pos h0]
  exact bad_made h s1 s2 7
 ·rw [if_neg h0]
  by_cases h1 : w = 1
  ·rw [if_pos h1]
   exact n1 5
  ·rw [if_neg h1]
   have pn : plainD (if f then nst r plD else nst plD r) = true ∧ depD (if f then nst r plD else nst plD r) ≤ 10 := by
    cases f
    ·refine ⟨by show plainDs [.str "nested", plD, r] = true; exact nst_plain rfl p.1, ?_⟩
     show depDs [.str "nested", plD, r] + 1 ≤ 10
     have := nst_dep (a := plD) (b := r) (n := 1) (Nat.le_of_ble_eq_true rfl) p.2
     omega
    ·refine ⟨by show plainDs [.str "nested", r, plD] = true; exact nst_plain p.1 rfl, ?_⟩
     show depDs [.str "nested", r, plD] + 1 ≤ 10
     have := nst_dep (a := r) (b := plD) (n := 1) p.2 (Nat.le_of_ble_eq_true rfl)
     omega
   exact nx2 (r := .s .pl 1) (pl_ok s1 s2) rfl pn.1 pn.2 5 (n1 3)
theorem cell_ok {ns : List Int} {k : Int} (hk : 0 ≤ k) : d_l_cell_at [.scr ns, .int k] = some (.ret (.int (cellAt ns k))) := by
 rw [← cell_eq hk]
 unfold d_l_cell_at b_l_cell_at
 walk_at "ev"
 split
 ·cases atI ns k <;> rfl
 ·rfl
theorem big : ∃ B : Int, gPow (.int 10) (.int 42) = some (.int B) ∧ B = 10 ^ 42 := ⟨_, gPow_eq (by decide +kernel), rfl⟩
theorem side_ok (c : Int) : ∃ s : Int, d_l_side [.int c] = some (.ret (.int s)) ∧ 1 ≤ s ∧ s ≤ 10 ^ 42 := by
 unfold d_l_side b_l_side
 by_cases h : c % 4 = 3
 ·obtain ⟨B, hB, eB⟩ := big
  have m1 : gMod (.int (c / 4)) (.int B) = some (.int (c / 4 % B)) := gMod_eq (by omega)
  refine ⟨1 + c / 4 % B, ?_, ?_, ?_⟩
  ·clear eB
   walk_at "eh"
  ·have := Int.emod_nonneg (c / 4) (show B ≠ 0 by omega)
   omega
  ·have := Int.emod_lt_of_pos (c / 4) (show 0 < B by omega)
   omega
 ·have : c % 4 = 0 ∨ c % 4 = 1 ∨ c % 4 = 2 := by omega
  rcases this with z | z | z
  ·refine ⟨1 + c / 4 % 12, ?_, by omega, by omega⟩
   walk_at "eh"
  ·refine ⟨1 + c / 4 % 60, ?_, by omega, by omega⟩
   walk_at "eh"
  ·refine ⟨1 + c / 4 % 400, ?_, by omega, by omega⟩
   walk_at "eh"
def setR (r : Rw) (w : Int) (f : Bool) : Rw := if w = 0 then r else if w = 1 then (if f then .n r (.s .pl 1) else .n (.s .pl 1) r) else .n (.s .pl 1) (if f then .n r (.s .pl 1) else .n (.s .pl 1) r)
theorem setR_row (r : Rw) (w : Int) (f : Bool) : rowR (setR r w f) = setD (rowR r) w f := by
 unfold setR setD
 by_cases h0 : w = 0
 ·rw [if_pos h0, if_pos h0]
 ·rw [if_neg h0, if_neg h0]
  by_cases h1 : w = 1
  ·rw [if_pos h1, if_pos h1]
   cases f <;> rfl
  ·rw [if_neg h1, if_neg h1]
   cases f <;> rfl
theorem top_in {k : Wd} {sd st : Int} (h : Ok k sd st) (s2 : sd ≤ 10 ^ 42) : 1 ≤ wgt k sd st sd ∧ wgt k sd st sd ≤ 10 ^ 60 := by
 have s1 := h.s1
 have t1 := h.t1
 cases k
 ·show 1 ≤ sd ∧ sd ≤ 10 ^ 60
  omega
 ·show 1 ≤ sd / st ∧ sd / st ≤ 10 ^ 60
  have := h.t3 Wd.noConfusion
  have a : 1 ≤ sd / st := by
   apply Int.le_ediv_of_mul_le (by omega)
   omega
  have b : sd / st ≤ sd := Int.ediv_le_self _ (by omega)
  omega
 ·show 1 ≤ (if sd < st then 0 else if sd - st < sd then sd else sd) ∧ (if sd < st then 0 else if sd - st < sd then sd else sd) ≤ 10 ^ 60
  have := h.t3 Wd.noConfusion
  rw [if_neg (by omega), if_pos (by omega)]
  omega
 ·show 1 ≤ (if (st + 1) * sd % sd = 0 then st * sd else sd * ((st + 1) * sd / sd)) ∧ (if (st + 1) * sd % sd = 0 then st * sd else sd * ((st + 1) * sd / sd)) ≤ 10 ^ 60
  rw [if_pos (Int.mul_emod_left _ _)]
  have t4 := h.t4 rfl
  have a : 1 * sd ≤ st * sd := Int.mul_le_mul_of_nonneg_right (by omega) (by omega)
  have b : st * sd ≤ 60 * sd := Int.mul_le_mul_of_nonneg_right (by omega) (by omega)
  omega
 ·show 1 ≤ (if sd < 2 * sd then 2 * (sd / st - (sd - sd) / st) else if 2 * sd = sd then sd / st else 2 * (sd / st)) ∧ (if sd < 2 * sd then 2 * (sd / st - (sd - sd) / st) else if 2 * sd = sd then sd / st else 2 * (sd / st)) ≤ 10 ^ 60
  have := h.t3 Wd.noConfusion
  rw [if_pos (by omega), show sd - sd = 0 by omega, Int.zero_ediv]
  have a : 1 ≤ sd / st := by
   apply Int.le_ediv_of_mul_le (by omega)
   omega
  have b : sd / st ≤ sd := Int.ediv_le_self _ (by omega)
  omega
theorem setR_ok {k : Wd} {sd st : Int} (h : Ok k sd st) (s2 : sd ≤ 10 ^ 42) (w : Int) (f : Bool) : OkR (setR (.s k st) w f) sd ∧ dp (setR (.s k st) w f) ≤ 2 := by
 have tp := top_in h s2
 have n1 : OkR (if f then .n (.s k st) (.s .pl 1) else .n (.s .pl 1) (.s k st)) sd ∧ dp (if f then .n (.s k st) (.s .pl 1) else .n (.s .pl 1) (.s k st)) = 1 := by
  cases f
  ·exact ⟨⟨pl_ok h.s1 h.s2, h⟩, rfl⟩
  ·exact ⟨⟨h, pl_ok tp.1 tp.2⟩, rfl⟩
 unfold setR
 by_cases h0 : w = 0
 ·rw [if_pos h0]
  exact ⟨h, Nat.zero_le _⟩
 ·rw [if_neg h0]
  by_cases h1 : w = 1
  ·rw [if_pos h1]
   exact ⟨n1.1, by omega⟩
  ·rw [if_neg h1]
   refine ⟨⟨pl_ok h.s1 h.s2, n1.1⟩, ?_⟩
   show 1 + (0 + dp _) ≤ 2
   omega
theorem tryC_ex {g : List D → Option R1} {f : AF} {fh : HF} {e e1 : DE} {ds : List D} {c : Str} {r : Option RS} (h1 : f e = some (.ok ds e1)) (h2 : g ds = some (.ex c)) (h3 : fh c e1 = r) : sTryC g f fh e = r := by
 unfold sTryC
 rw [h1]
 show (match g ds with
  | some (.ret _) => some (RS.nx e1)
  | some (.own _) => some (RS.nx e1)
  | some (.ex c) => fh c e1
  | _ => none) = _
 rw [h2]
 exact h3
theorem kinds_ok : d_l_kinds [.exc "NoWeighing"] = some (.ret (.tup [.bl true, .bl false])) := by
 have a1 : gIsiT xT [.exc "NoWeighing", .tup [.cls "BadSide", .cls "BadTurn", .cls "NoText", .cls "TooMany", .cls "Ring", .cls "NoPicker", .cls "NoSheet", .cls "NoDrawing"]] = some (.bl false) := rfl
 have a2 : gIsiT xT [.exc "NoWeighing", .tup [.cls "NoDeed", .cls "NoWare", .cls "Full", .cls "NothingDone", .cls "TooWide", .cls "Hangs", .cls "BadPlan", .cls "BadPacking"]] = some (.bl false) := rfl
 have a3 : gIsiX x1 x2 [.exc "NoWeighing", .ty "ValueError"] = some (.bl true) := rfl
 unfold d_l_kinds b_l_kinds
 generalize gIsiT xT = gt at *
 generalize gIsiX x1 x2 = gx at *
 walk_at "eh"
theorem refused_ok {sd : Int} {r : D} (h : d_made_weighing 8 [.int sd, r] = some (.ex "NoWeighing")) : d_l_refused [.int sd, r] = some (.ret (.bl true)) := by
 have kk := kinds_ok
 have t1 : sTryC (d_made_weighing 8) (aC (eV 0) (aC (eV 1) aN)) (hC xo_NoWeighing (sSet 2 (eC (.str "row"))) hN) [.fz (.int sd), .fz r, .fz (.str "no"), .no, .no] = some (.nx [.fz (.int sd), .fz r, .fz (.str "row"), .no, .no]) :=
  tryC_ex (e1 := [.fz (.int sd), .fz r, .fz (.str "no"), .no, .no]) (ds := [.int sd, r]) rfl h rfl
 have s3 : (sSetC0 3 d_l_kinds (aC (eV 4) aN)) [.fz (.int sd), .fz r, .fz (.str "row"), .fz (.tup [.bl false, .bl true]), .fz (.exc "NoWeighing")] = some (.nx [.fz (.int sd), .fz r, .fz (.str "row"), .fz (.tup [.bl true, .bl false]), .fz (.exc "NoWeighing")]) := by
  clear t1 h
  generalize d_l_kinds = KI at *
  walk_at "eh"
 have t2 : sTryC (d_made_weighing 8) (aC (eV 0) (aC (eV 1) aN)) (hAs 4 xo_CrateError (sSetC0 3 d_l_kinds (aC (eV 4) aN)) hN) [.fz (.int sd), .fz r, .fz (.str "row"), .fz (.tup [.bl false, .bl true]), .no] = some (.nx [.fz (.int sd), .fz r, .fz (.str "row"), .fz (.tup [.bl true, .bl false]), .no]) := by
  refine tryC_ex (e1 := [.fz (.int sd), .fz r, .fz (.str "row"), .fz (.tup [.bl false, .bl true]), .no]) (ds := [.int sd, r]) rfl h ?_
  show goneR 4 ((sSetC0 3 d_l_kinds (aC (eV 4) aN)) [.fz (.int sd), .fz r, .fz (.str "row"), .fz (.tup [.bl false, .bl true]), .fz (.exc "NoWeighing")]) = _
  rw [s3]
  rfl
 clear h kk s3
 unfold d_l_refused b_l_refused
 generalize sTryC (d_made_weighing 8) (aC (eV 0) (aC (eV 1) aN)) (hC xo_NoWeighing (sSet 2 (eC (.str "row"))) hN) = T1 at *
 generalize sTryC (d_made_weighing 8) (aC (eV 0) (aC (eV 1) aN)) (hAs 4 xo_CrateError (sSetC0 3 d_l_kinds (aC (eV 4) aN)) hN) = T2 at *
 walk_at "eh"
theorem taken_ok {r : Rw} {sd : Int} (h : OkR r sd) (hd : dp r ≤ 3) : d_l_taken [.int sd, rowR r] = some (.ret (.bl true)) := by
 have p := row_plain r
 have ma := made_R (r := r) (sd := sd) 8 h (by omega) (by omega)
 have nm := named_R (r := r) (sd := sd) 8 (by omega)
 have f1 := sideR r sd
 have g1 : gEqT false (rowR r) (rowR r) = some (.bl true) := gEqT_refl false p.1 (by omega) (by cases r with | s k st => cases k <;> rfl | n a b => rfl)
 have g2 : gIsi [rowR r, .ty "tuple"] = some (.bl true) := by cases r with | s k st => cases k <;> rfl | n a b => rfl
 have g3 : gIsN false (objR r sd) .non = some (.bl false) := by cases r with | s k st => cases k <;> rfl | n a b => rfl
 have m1 : eMeth (tab_named d_Weighing_named d_Floors_named d_Heavy_named d_Parts_named d_Matched_named (d_Nested_named 8)) "named" (eV 2) aN [.fz (.int sd), .fz (rowR r), .fz (objR r sd)] = some (.ok (rowR r) [.fz (.int sd), .fz (rowR r), .fz (objR r sd)]) :=
  methR (r := r) (ds := []) (e1 := [.fz (.int sd), .fz (rowR r), .fz (objR r sd)]) rfl (fldW r).2.2.1 (tabN r _) rfl nm
 have b1 : (sSetC 2 (d_made_weighing 8) (aC (eV 0) (aC (eV 1) aN))) [.fz (.int sd), .fz (rowR r), .fz .non] = some (.nx [.fz (.int sd), .fz (rowR r), .fz (objR r sd)]) := by
  clear p nm f1 g1 g2 g3 m1 h hd
  generalize d_made_weighing 8 = MW at *
  generalize objR r sd = ob at *
  generalize rowR r = rw at *
  walk_at "eh"
 have t1 : (sTryH 3 (sSetC 2 (d_made_weighing 8) (aC (eV 0) (aC (eV 1) aN))) (hC xo_NoWeighing (sSet 2 (eC .non)) hN)) [.fz (.int sd), .fz (rowR r), .fz .non] = some (.nx [.fz (.int sd), .fz (rowR r), .fz (objR r sd)]) := by
  unfold sTryH
  rw [b1]
 clear b1 p ma nm h hd
 unfold d_l_taken b_l_taken
 generalize sTryH 3 (sSetC 2 (d_made_weighing 8) (aC (eV 0) (aC (eV 1) aN))) (hC xo_NoWeighing (sSet 2 (eC .non)) hN) = T at *
 generalize eMeth (tab_named d_Weighing_named d_Floors_named d_Heavy_named d_Parts_named d_Matched_named (d_Nested_named 8)) "named" (eV 2) aN = M at *
 generalize objR r sd = ob at *
 generalize rowR r = rw at *
 generalize gEqT false = GE at *
 generalize gIsN false = GN at *
 generalize gIsi = GI at *
 walk_at "eh"
theorem bad_w (c sd : Int) (hw : c % 3 = 0) : ∃ w : Str, d_l_bad [.int c, .int sd] = some (.ret (.tup [.str w, .int 1])) ∧ ¬ w = "floors" ∧ ¬ w = "heavy" ∧ ¬ w = "parts" ∧ ¬ w = "matched" := by
 unfold d_l_bad b_l_bad
 have y : c / 3 % 12 = 0 ∨ c / 3 % 12 = 1 ∨ c / 3 % 12 = 2 ∨ c / 3 % 12 = 3 ∨ c / 3 % 12 = 4 ∨ c / 3 % 12 = 5 ∨ c / 3 % 12 = 6 ∨ c / 3 % 12 = 7 ∨ c / 3 % 12 = 8 ∨ c / 3 % 12 = 9 ∨ c / 3 % 12 = 10 ∨ c / 3 % 12 = 11 := by omega
 rcases y with y | y | y | y | y | y | y | y | y | y | y | y
 ·refine ⟨"", ?_, by decide, by decide, by decide, by decide⟩
  walk_at "eh"
 ·refine ⟨"Plain", ?_, by decide, by decide, by decide, by decide⟩
  walk_at "eh"
 ·refine ⟨"plain ", ?_, by decide, by decide, by decide, by decide⟩
  walk_at "eh"
 ·refine ⟨"floor", ?_, by decide, by decide, by decide, by decide⟩
  walk_at "eh"
 ·refine ⟨"heavY", ?_, by decide, by decide, by decide, by decide⟩
  walk_at "eh"
 ·refine ⟨"part", ?_, by decide, by decide, by decide, by decide⟩
  walk_at "eh"
 ·refine ⟨"parts ", ?_, by decide, by decide, by decide, by decide⟩
  walk_at "eh"
 ·refine ⟨"match", ?_, by decide, by decide, by decide, by decide⟩
  have ix : atI [D.str "", .str "Plain", .str "plain ", .str "floor", .str "heavY", .str "part", .str "parts ", .str "match", .str "matched2", .str "nest", .str " ", .str "long"] 7 = some (.str "match") := rfl
  walk_at "eh"
 ·refine ⟨"matched2", ?_, by decide, by decide, by decide, by decide⟩
  have ix : atI [D.str "", .str "Plain", .str "plain ", .str "floor", .str "heavY", .str "part", .str "parts ", .str "match", .str "matched2", .str "nest", .str " ", .str "long"] 8 = some (.str "matched2") := rfl
  walk_at "eh"
 ·refine ⟨"nest", ?_, by decide, by decide, by decide, by decide⟩
  have ix : atI [D.str "", .str "Plain", .str "plain ", .str "floor", .str "heavY", .str "part", .str "parts ", .str "match", .str "matched2", .str "nest", .str " ", .str "long"] 9 = some (.str "nest") := rfl
  walk_at "eh"
 ·refine ⟨" ", ?_, by decide, by decide, by decide, by decide⟩
  have ix : atI [D.str "", .str "Plain", .str "plain ", .str "floor", .str "heavY", .str "part", .str "parts ", .str "match", .str "matched2", .str "nest", .str " ", .str "long"] 10 = some (.str " ") := rfl
  walk_at "eh"
 ·refine ⟨"long", ?_, by decide, by decide, by decide, by decide⟩
  have ix : atI [D.str "", .str "Plain", .str "plain ", .str "floor", .str "heavY", .str "part", .str "parts ", .str "match", .str "matched2", .str "nest", .str " ", .str "long"] 11 = some (.str "long") := rfl
  walk_at "eh"
theorem bad_k (k : Wd) (hk : k ≠ .pl) (c sd : Int) (s1 : 1 ≤ sd) (z : gIxL (.lst [.str "floors", .str "heavy", .str "parts", .str "matched"]) (.int (c / 3 % 4)) = some (.str (wstr k))) (hw : ¬ c % 3 = 0) : ∃ x, d_l_bad [.int c, .int sd] = some (.ret (.tup [.str (wstr k), x])) ∧ flatD x = true ∧ ∀ i, x = .int i → i < 1 ∨ capW k sd < i := by
 have m := most_ok k sd
 have c1 : 1 ≤ capW k sd := by cases k <;> simp only [capW] <;> omega
 obtain ⟨B, hB, eB⟩ := big
 have m1 : gMod (.int (c / 60)) (.int B) = some (.int (c / 60 % B)) := gMod_eq (by omega)
 have b1 := Int.emod_nonneg (c / 60) (show B ≠ 0 by omega)
 unfold d_l_bad b_l_bad
 generalize d_l_most = LM at *
 generalize capW k sd = mo at *
 generalize wstr k = w at *
 generalize c / 60 % B = q at *
 clear eB s1 hk
 have z0 : eB gIxL (zN (eL (aC (eC (.str "floors")) (aC (eC (.str "heavy")) (aC (eC (.str "parts")) (aC (eC (.str "matched")) aN)))))) (eB gMod (eB gDiv (eV 0) (eC (.int 3))) (eC (.int 4))) [.fz (.int c), .fz (.int sd), .fz (.int (c % 3)), .no, .no, .no, .no, .no] = some (.ok (.str w) [.fz (.int c), .fz (.int sd), .fz (.int (c % 3)), .no, .no, .no, .no, .no]) := by
  clear m c1 m1 b1 hB hw
  generalize gIxL = gx at *
  walk_at "eh"
 generalize eB gIxL (zN (eL (aC (eC (.str "floors")) (aC (eC (.str "heavy")) (aC (eC (.str "parts")) (aC (eC (.str "matched")) aN)))))) (eB gMod (eB gDiv (eV 0) (eC (.int 3))) (eC (.int 4))) = Z at *
 clear z
 have y : c / 12 % 5 = 0 ∨ c / 12 % 5 = 1 ∨ c / 12 % 5 = 2 ∨ c / 12 % 5 = 3 ∨ c / 12 % 5 = 4 := by omega
 by_cases h2 : c % 3 = 2
 ·rw [h2] at z0
  clear c1 b1 hw
  rcases y with y | y | y | y | y
  ·refine ⟨.bl true, ?_, rfl, fun i h => by cases h⟩
   walk_at "eh"
  ·refine ⟨.str "1", ?_, rfl, fun i h => by cases h⟩
   walk_at "eh"
  ·refine ⟨.non, ?_, rfl, fun i h => by cases h⟩
   walk_at "eh"
  ·refine ⟨.str "", ?_, rfl, fun i h => by cases h⟩
   walk_at "eh"
  ·refine ⟨.bl false, ?_, rfl, fun i h => by cases h⟩
   walk_at "eh"
 ·have h1 : c % 3 = 1 := by omega
  rw [h1] at z0
  clear hw h2
  rcases y with y | y | y | y | y
  ·refine ⟨.int 0, ?_, rfl, fun i h => by cases h; omega⟩
   clear c1 b1
   walk_at "eh"
  ·refine ⟨.int (mo + 1), ?_, rfl, fun i h => by cases h; omega⟩
   clear c1 b1
   walk_at "eh"
  ·refine ⟨.int (-1 - q), ?_, rfl, fun i h => by cases h; omega⟩
   clear c1 b1
   walk_at "eh"
  ·refine ⟨.int (mo + 1 + q), ?_, rfl, fun i h => by cases h; omega⟩
   clear c1 b1
   walk_at "eh"
  ·refine ⟨.int (-1), ?_, rfl, fun i h => by cases h; omega⟩
   clear c1 b1
   walk_at "eh"
theorem bad_ok (c sd : Int) (s1 : 1 ≤ sd) : ∃ r, d_l_bad [.int c, .int sd] = some (.ret r) ∧ BadD sd r := by
 by_cases hw : c % 3 = 0
 ·obtain ⟨w, h1, h2⟩ := bad_w c sd hw
  exact ⟨_, h1, .inl ⟨w, rfl, h2⟩⟩
 ·have : c / 3 % 4 = 0 ∨ c / 3 % 4 = 1 ∨ c / 3 % 4 = 2 ∨ c / 3 % 4 = 3 := by omega
  rcases this with z | z | z | z
  ·obtain ⟨x, h1, h2, h3⟩ := bad_k .fl Wd.noConfusion c sd s1 (by rw [z]; rfl) hw
   exact ⟨_, h1, .inr ⟨.fl, x, Wd.noConfusion, rfl, h2, h3⟩⟩
  ·obtain ⟨x, h1, h2, h3⟩ := bad_k .hv Wd.noConfusion c sd s1 (by rw [z]; rfl) hw
   exact ⟨_, h1, .inr ⟨.hv, x, Wd.noConfusion, rfl, h2, h3⟩⟩
  ·obtain ⟨x, h1, h2, h3⟩ := bad_k .pa Wd.noConfusion c sd s1 (by rw [z]; rfl) hw
   exact ⟨_, h1, .inr ⟨.pa, x, Wd.noConfusion, rfl, h2, h3⟩⟩
  ·obtain ⟨x, h1, h2, h3⟩ := bad_k .ma Wd.noConfusion c sd s1 (by rw [z]; rfl) hw
   exact ⟨_, h1, .inr ⟨.ma, x, Wd.noConfusion, rfl, h2, h3⟩⟩
theorem law_w (D1 D2 D3 D4 TK RF ST : List D → Option R1) (MT : ZF) (ns : List Int) (c0 c1 c2 c3 sd top : Int) (g b : D) (sg sb : D)
  (a0 : D2 [.scr ns, .int 0] = some (.ret (.int c0))) (a1 : D2 [.scr ns, .int 1] = some (.ret (.int c1))) (a2 : D2 [.scr ns, .int 2] = some (.ret (.int c2))) (a3 : D2 [.scr ns, .int 3] = some (.ret (.int c3))) (b1 : D1 [.int c0] = some (.ret (.int sd)))
  (b2 : D3 [.int c1, .int sd] = some (.ret g)) (b3 : D4 [.int c2, .int sd] = some (.ret b)) (b4 : ∀ f, ST [g, plD, .int (c3 % 3), .bl f] = some (.ret (setD g (c3 % 3) f))) (b5 : ∀ f, ST [b, plD, .int (c3 % 3), .bl f] = some (.ret (setD b (c3 % 3) f)))
  (t1 : TK [.int sd, g] = some (.ret (.bl true))) (t2 : ∀ f, TK [.int sd, setD g (c3 % 3) f] = some (.ret (.bl true))) (r1 : RF [.int sd, b] = some (.ret (.bl true))) (r2 : ∀ f, RF [.int sd, setD b (c3 % 3) f] = some (.ret (.bl true)))
  (r3 : ∀ r, RF [.int 0, r] = some (.ret (.bl true))) (r4 : RF [.int sd, .tup [.str "nested", g, .tup [.str "heavy", .int (top + 1)]]] = some (.ret (.bl true))) (t3 : TK [.int sd, .tup [.str "nested", g, .tup [.str "heavy", .int top]]] = some (.ret (.bl true)))
  (m : ∀ f, MT [.fz (.scr ns), .fz (.int sd), .fz g, .fz b, .fz (.int (c3 % 3)), .fz (.bl f), .fz plD, .no] = some (.ok (.int top) [.fz (.scr ns), .fz (.int sd), .fz g, .fz b, .fz (.int (c3 % 3)), .fz (.bl f), .fz plD, .no])) :
  fD 8 1 (sSeq (sSetC0 1 D1 (aC (eCall0 D2 (aC (eV 0) (aC (eC (.int 0)) aN))) aN)) (sSeq (sSetC0 2 D3 (aC (eCall0 D2 (aC (eV 0) (aC (eC (.int 1)) aN))) (aC (eV 1) aN))) (sSeq (sSetC0 3 D4 (aC (eCall0 D2 (aC (eV 0) (aC (eC (.int 2)) aN))) (aC (eV 1) aN))) (sSeq (sSet 4 (eB gMod (eCall0 D2 (aC (eV 0) (aC (eC (.int 3)) aN))) (eC (.int 3)))) (sSeq (sSet 5 (eB (gEq false) (eB gMod (eB gDiv (eCall0 D2 (aC (eV 0) (aC (eC (.int 3)) aN))) (eC (.int 3))) (eC (.int 2))) (eC (.int 0)))) (sSeq (sSet 6 (eT (aC (eC (.str "plain")) aN))) (sSeq (sIf (bOr (bNot (bZ (eCall0 TK (aC (eV 1) (aC (eV 2) aN))))) (bNot (bZ (eCall0 TK (aC (eV 1) (aC (eCall0 ST (aC (eV 2) (aC (eV 6) (aC (eV 4) (aC (eV 5) aN))))) aN)))))) (sRet (eC (.bl false))) sNx) (sSeq (sIf (bOr (bNot (bZ (eCall0 RF (aC (eV 1) (aC (eCall0 ST (aC (eV 3) (aC (eV 6) (aC (eV 4) (aC (eV 5) aN))))) aN))))) (bNot (bZ (eCall0 RF (aC (eV 1) (aC (eV 3) aN)))))) (sRet (eC (.bl false))) sNx) (sSeq (sIf (bOr (bNot (bZ (eCall0 RF (aC (eC (.int 0)) (aC (eV 2) aN))))) (bNot (bZ (eCall0 RF (aC (eC (.int 0)) (aC (eCall0 ST (aC (eV 2) (aC (eV 6) (aC (eV 4) (aC (eV 5) aN))))) aN)))))) (sRet (eC (.bl false))) sNx) (sSeq (sSet 7 MT) (sSeq (sIf (bNot (bZ (eCall0 RF (aC (eV 1) (aC (eT (aC (eC (.str "nested")) (aC (eV 2) (aC (eT (aC (eC (.str "heavy")) (aC (eB gAdd (eV 7) (eC (.int 1))) aN))) aN)))) aN))))) (sRet (eC (.bl false))) sNx) (sSeq (sIf (bNot (bZ (eCall0 TK (aC (eV 1) (aC (eT (aC (eC (.str "nested")) (aC (eV 2) (aC (eT (aC (eC (.str "heavy")) (aC (eV 7) aN))) aN)))) aN))))) (sRet (eC (.bl false))) sNx) (sRet (eAnd (eCall0 TK (aC (eV 1) (aC (eCall0 ST (aC (eV 2) (aC (eV 6) (aC (eV 4) (aC (eV 5) aN))))) aN))) (eCall0 TK (aC (eV 1) (aC (eV 2) aN))))))))))))))))) [.scr ns] = some (.ret (.bl true)) := by
 generalize setD g (c3 % 3) = SG at *
 generalize setD b (c3 % 3) = SB at *
 simp only [plD] at *
 walk_at "eh"
theorem main (ns : List Int) (hl : ns.length ≤ 63) (hb : ∀ m ∈ ns, Builtin.Int.intBits m ≤ 2 ^ 20) : d_law [.scr ns] = some (.ret (.bl true)) := by
 obtain ⟨sd, hsd, s1, s2⟩ := side_ok (cellAt ns 0)
 obtain ⟨k, st, hgood, h⟩ := good_ok (cellAt ns 1) sd s1 s2
 obtain ⟨br, hbad, hB⟩ := bad_ok (cellAt ns 2) sd s1
 have s3 : sd ≤ 10 ^ 60 := by omega
 have tp := top_in h s2
 have hR : OkR (.s k st) sd := h
 have mw : ∀ f, eMeth (tab_whole d_Weighing_whole) "whole" (eCall (d_made_weighing 8) (aC (eV 1) (aC (eV 2) aN))) aN [.fz (.scr ns), .fz (.int sd), .fz (rowD k st), .fz br, .fz (.int (cellAt ns 3 % 3)), .fz (.bl f), .fz plD, .no] = some (.ok (.int (wgt k sd st sd)) [.fz (.scr ns), .fz (.int sd), .fz (rowD k st), .fz br, .fz (.int (cellAt ns 3 % 3)), .fz (.bl f), .fz plD, .no]) := fun f => by
  have ma : d_made_weighing 8 [.int sd, rowD k st] = some (.ret (objR (.s k st) sd)) := made_R (r := .s k st) 8 hR (by show 0 < 8; omega) (by show 0 < 8; omega)
  have c1 : eCall (d_made_weighing 8) (aC (eV 1) (aC (eV 2) aN)) [.fz (.scr ns), .fz (.int sd), .fz (rowD k st), .fz br, .fz (.int (cellAt ns 3 % 3)), .fz (.bl f), .fz plD, .no] = some (.ok (objR (.s k st) sd) [.fz (.scr ns), .fz (.int sd), .fz (rowD k st), .fz br, .fz (.int (cellAt ns 3 % 3)), .fz (.bl f), .fz plD, .no]) := by
   clear hsd hgood h hbad hB tp hR hl hb
   generalize d_made_weighing 8 = MW at *
   generalize objR (.s k st) sd = ob at *
   generalize rowD k st = rw at *
   generalize plD = pp at *
   walk_at "eh"
  exact methR (r := .s k st) (sd := sd) (g := d_Weighing_whole) (ds := []) c1 (fldW _).2.1 (tabH _ _) rfl (whole_R hR (by show 0 < 8; omega))
 have hv1 : OkR (.n (.s k st) (.s .hv (wgt k sd st sd))) sd := ⟨hR, ⟨tp.1, tp.2, tp.1, tp.2, fun _ => Int.le_refl _, fun h => Wd.noConfusion h⟩⟩
 have rp := row_plain (.s k st)
 refine law_w d_l_side d_l_cell_at d_l_good d_l_bad d_l_taken d_l_refused d_l_set _ ns _ _ _ _ sd (wgt k sd st sd) (rowD k st) br .non .non (cell_ok (by omega)) (cell_ok (by omega)) (cell_ok (by omega)) (cell_ok (by omega)) hsd hgood hbad (fun f => set_ok _ _ f) (fun f => set_ok _ _ f)
  (taken_ok (r := .s k st) hR (Nat.zero_le _)) (fun f => ?_) (refused_ok (bad_made hB s1 s3 7)) (fun f => refused_ok (bad_set hB s1 s3 _ f)) (fun r => refused_ok ?_) (refused_ok ?_) (taken_ok (r := .n (.s k st) (.s .hv (wgt k sd st sd))) hv1 (by show 1 ≤ 3; omega)) mw
 ·have q := setR_ok h s2 (cellAt ns 3 % 3) f
  have := taken_ok q.1 (by omega)
  rw [setR_row] at this
  exact this
 ·show d_made_weighing (7 + 1) _ = _
  rw [d_made_weighing]
  exact mw_zero (by omega) _ _
 ·exact nx2 (r := .s k st) hR rfl rfl (Nat.le_of_ble_eq_true rfl) 5 (by
   rw [d_made_weighing]
   exact mw_num (k := .hv) Wd.noConfusion rfl tp.1 tp.2 (fun i hi => by cases hi; exact .inr (show wgt k sd st sd < wgt k sd st sd + 1 by omega)) _ _)
def sp_law (K : PySem.W.Frag) (c : Str → Addr) : Sp := fun vs H Q _ => ∃ a, ∃ ns : List Int, vs = [.ref a] ∧ Scr K H a (ns.map V.int) ∧ (∀ m ∈ ns, Builtin.Int.intBits m ≤ 2 ^ 20) ∧ ns.length ≤ 63 ∧ ∀ H', Q (.bl true) H'
theorem ok_law {f : Addr} {fd : FuncData} (F : Fun K "law" "law" s_law f fd) (T : Txt K mg c) (G_l_side : Own P w K mg base 3 "_law_side" ["_law_cell"] (spD K c d_l_side)) (G_l_cell_at : Own P w K mg base 3 "_law_cell_at" ["_law_script", "_law_k"] (spD K c d_l_cell_at)) (G_l_good : Own P w K mg base 5 "_law_good" ["_law_cell", "_law_side_here"] (spD K c d_l_good)) (G_l_bad : Own P w K mg base 5 "_law_bad" ["_law_cell", "_law_side_here"] (spD K c d_l_bad)) (G_l_taken : Own P w K mg base 45 "_law_taken" ["_law_side_here", "_law_row"] (spD K c d_l_taken)) (G_l_set : Own P w K mg base 3 "_law_set" ["_law_row", "_law_other", "_law_way", "_law_first"] (spD K c d_l_set)) (G_l_refused : Own P w K mg base 45 "_law_refused" ["_law_side_here", "_law_row"] (spD K c d_l_refused)) (G_made_weighing : Own P w K mg base 43 "made_weighing" ["side", "row"] (spD K c (d_made_weighing 8))) (OM_Weighing_whole : OwnM P w K mg base 25 (c "Weighing") "whole" ["self"] (spD K c d_Weighing_whole)) (OM_Floors_whole : OwnM P w K mg base 25 (c "Floors") "whole" ["self"] (spD K c d_Weighing_whole)) (OM_Heavy_whole : OwnM P w K mg base 25 (c "Heavy") "whole" ["self"] (spD K c d_Weighing_whole)) (OM_Parts_whole : OwnM P w K mg base 25 (c "Parts") "whole" ["self"] (spD K c d_Weighing_whole)) (OM_Matched_whole : OwnM P w K mg base 25 (c "Matched") "whole" ["self"] (spD K c d_Weighing_whole)) (OM_Nested_whole : OwnM P w K mg base 25 (c "Nested") "whole" ["self"] (spD K c d_Weighing_whole)) : FnOk P w K mg base (CXe P w) 47 f fd ["_law_script"] (sp_law K c) :=
 (ok_law0 F T G_l_side G_l_cell_at G_l_good G_l_bad G_l_taken G_l_set G_l_refused G_made_weighing OM_Weighing_whole OM_Floors_whole OM_Heavy_whole OM_Parts_whole OM_Matched_whole OM_Nested_whole).imp fun vs H Q E ⟨a, ns, e, h, hb, hl, q⟩ => spD_law e h q (main ns hl hb)
def cOf (l : List (Str × Addr)) (x : Str) : Addr := (l.lookup x).getD 0
abbrev cL (c0 c1 c2 c3 c4 c5 c6 c7 c8 c9 c10 c11 c12 c13 c14 c15 c16 c17 c18 c19 c20 c21 c22 c23 : Addr) := cOf [("BadPacking", c0), ("BadPlan", c1), ("BadSide", c2), ("BadTurn", c3), ("CrateError", c4), ("Floors", c5), ("Full", c6), ("Hangs", c7), ("Heavy", c8), ("Matched", c9), ("Nested", c10), ("NoDeed", c11), ("NoDrawing", c12), ("NoPicker", c13), ("NoSheet", c14), ("NoText", c15), ("NoWare", c16), ("NoWeighing", c17), ("NothingDone", c18), ("Parts", c19), ("Ring", c20), ("TooMany", c21), ("TooWide", c22), ("Weighing", c23)]
theorem all_mk {w : World} {K : PySem.W.Frag} {h : Heap} {mg : Str → Option Value} {fa : Addr} (X : K.In h) (G : h.Ns mainGlobals mg) (hfa : mg "law" = some (.ref fa))
  {c0 c1 c2 c3 c4 c5 c6 c7 c8 c9 c10 c11 c12 c13 c14 c15 c16 c17 c18 c19 c20 c21 c22 c23 : Addr} {f_6 : Addr} {oc_6 kV_6 dc_6 pm_6 cd_6 ct_6 : Value} {od_6 an_6 : Option Addr} {sl_6 : Array (Option Value)} {f_7 : Addr} {oc_7 kV_7 dc_7 pm_7 cd_7 ct_7 : Value} {od_7 an_7 : Option Addr} {sl_7 : Array (Option Value)} {f_8 : Addr} {oc_8 kV_8 dc_8 pm_8 cd_8 ct_8 : Value} {od_8 an_8 : Option Addr} {sl_8 : Array (Option Value)} {f_9 : Addr} {oc_9 kV_9 dc_9 pm_9 cd_9 ct_9 : Value} {od_9 an_9 : Option Addr} {sl_9 : Array (Option Value)} {f_10 : Addr} {oc_10 kV_10 dc_10 pm_10 cd_10 ct_10 : Value} {od_10 an_10 : Option Addr} {sl_10 : Array (Option Value)} {f_11 : Addr} {oc_11 kV_11 dc_11 pm_11 cd_11 ct_11 : Value} {od_11 an_11 : Option Addr} {sl_11 : Array (Option Value)} {f_12 : Addr} {oc_12 kV_12 dc_12 pm_12 cd_12 ct_12 : Value} {od_12 an_12 : Option Addr} {sl_12 : Array (Option Value)} {f_13 : Addr} {oc_13 kV_13 dc_13 pm_13 cd_13 ct_13 : Value} {od_13 an_13 : Option Addr} {sl_13 : Array (Option Value)} {f_14 : Addr} {oc_14 kV_14 dc_14 pm_14 cd_14 ct_14 : Value} {od_14 an_14 : Option Addr} {sl_14 : Array (Option Value)} {f_15 : Addr} {oc_15 kV_15 dc_15 pm_15 cd_15 ct_15 : Value} {od_15 an_15 : Option Addr} {sl_15 : Array (Option Value)} {f_16 : Addr} {oc_16 kV_16 dc_16 pm_16 cd_16 ct_16 : Value} {od_16 an_16 : Option Addr} {sl_16 : Array (Option Value)} {f_17 : Addr} {oc_17 kV_17 dc_17 pm_17 cd_17 ct_17 : Value} {od_17 an_17 : Option Addr} {sl_17 : Array (Option Value)} {f_18 : Addr} {oc_18 kV_18 dc_18 pm_18 cd_18 ct_18 : Value} {od_18 an_18 : Option Addr} {sl_18 : Array (Option Value)} {f_19 : Addr} {oc_19 kV_19 dc_19 pm_19 cd_19 ct_19 : Value} {od_19 an_19 : Option Addr} {sl_19 : Array (Option Value)} {f_20 : Addr} {oc_20 kV_20 dc_20 pm_20 cd_20 ct_20 : Value} {od_20 an_20 : Option Addr} {sl_20 : Array (Option Value)} {f_21 : Addr} {oc_21 kV_21 dc_21 pm_21 cd_21 ct_21 : Value} {od_21 an_21 : Option Addr} {sl_21 : Array (Option Value)} {f_22 : Addr} {oc_22 kV_22 dc_22 pm_22 cd_22 ct_22 : Value} {od_22 an_22 : Option Addr} {sl_22 : Array (Option Value)} {f_23 : Addr} {oc_23 kV_23 dc_23 pm_23 cd_23 ct_23 : Value} {od_23 an_23 : Option Addr} {sl_23 : Array (Option Value)} {f_24 : Addr} {oc_24 kV_24 dc_24 pm_24 cd_24 ct_24 : Value} {od_24 an_24 : Option Addr} {sl_24 : Array (Option Value)} {f_25 : Addr} {oc_25 kV_25 dc_25 pm_25 cd_25 ct_25 : Value} {od_25 an_25 : Option Addr} {sl_25 : Array (Option Value)} {f_26 : Addr} {oc_26 kV_26 dc_26 pm_26 cd_26 ct_26 : Value} {od_26 an_26 : Option Addr} {sl_26 : Array (Option Value)} {f_27 : Addr} {oc_27 kV_27 dc_27 pm_27 cd_27 ct_27 : Value} {od_27 an_27 : Option Addr} {sl_27 : Array (Option Value)} {f_28 : Addr} {oc_28 kV_28 dc_28 pm_28 cd_28 ct_28 : Value} {od_28 an_28 : Option Addr} {sl_28 : Array (Option Value)} {f_29 : Addr} {oc_29 kV_29 dc_29 pm_29 cd_29 ct_29 : Value} {od_29 an_29 : Option Addr} {sl_29 : Array (Option Value)} {f_30 : Addr} {oc_30 kV_30 dc_30 pm_30 cd_30 ct_30 : Value} {od_30 an_30 : Option Addr} {sl_30 : Array (Option Value)} {f_31 : Addr} {oc_31 kV_31 dc_31 pm_31 cd_31 ct_31 : Value} {od_31 an_31 : Option Addr} {sl_31 : Array (Option Value)} {f_32 : Addr} {oc_32 kV_32 dc_32 pm_32 cd_32 ct_32 : Value} {od_32 an_32 : Option Addr} {sl_32 : Array (Option Value)} {f_33 : Addr} {oc_33 kV_33 dc_33 pm_33 cd_33 ct_33 : Value} {od_33 an_33 : Option Addr} {sl_33 : Array (Option Value)} {f_34 : Addr} {oc_34 kV_34 dc_34 pm_34 cd_34 ct_34 : Value} {od_34 an_34 : Option Addr} {sl_34 : Array (Option Value)} {f_35 : Addr} {oc_35 kV_35 dc_35 pm_35 cd_35 ct_35 : Value} {od_35 an_35 : Option Addr} {sl_35 : Array (Option Value)} {f_0 : Addr} {oc_0 kV_0 dc_0 pm_0 cd_0 ct_0 : Value} {od_0 an_0 : Option Addr} {sl_0 : Array (Option Value)} {f_1 : Addr} {oc_1 kV_1 dc_1 pm_1 cd_1 ct_1 : Value} {od_1 an_1 : Option Addr} {sl_1 : Array (Option Value)} {f_2 : Addr} {oc_2 kV_2 dc_2 pm_2 cd_2 ct_2 : Value} {od_2 an_2 : Option Addr} {sl_2 : Array (Option Value)} {f_3 : Addr} {oc_3 kV_3 dc_3 pm_3 cd_3 ct_3 : Value} {od_3 an_3 : Option Addr} {sl_3 : Array (Option Value)} {f_4 : Addr} {oc_4 kV_4 dc_4 pm_4 cd_4 ct_4 : Value} {od_4 an_4 : Option Addr} {sl_4 : Array (Option Value)} {f_5 : Addr} {oc_5 kV_5 dc_5 pm_5 cd_5 ct_5 : Value} {od_5 an_5 : Option Addr} {sl_5 : Array (Option Value)} {kt_MOST_PARTS : Tok}
  (a_6 : PySem.W.nsIn K mainGlobals "is_whole" = some (some (.ref f_6)))
  (l_6 : K.lookup f_6 = some ⟨oc_6, od_6, .func (PySem.W.fnOf "is_whole" "is_whole" (defArgs s_is_whole) (defBody s_is_whole) (defScope s_is_whole) .none kV_6 dc_6 pm_6 an_6 cd_6 ct_6), sl_6⟩)
  (c_6 : PySem.W.codeIn K cd_6 "is_whole" = true)
  (k_6 : PySem.W.keepIn K (.ref f_6) = true)
  (a_7 : PySem.W.nsIn K mainGlobals "check_side" = some (some (.ref f_7)))
  (l_7 : K.lookup f_7 = some ⟨oc_7, od_7, .func (PySem.W.fnOf "check_side" "check_side" (defArgs s_check_side) (defBody s_check_side) (defScope s_check_side) .none kV_7 dc_7 pm_7 an_7 cd_7 ct_7), sl_7⟩)
  (c_7 : PySem.W.codeIn K cd_7 "check_side" = true)
  (k_7 : PySem.W.keepIn K (.ref f_7) = true)
  (a_8 : PySem.W.nsIn K mainGlobals "check_step" = some (some (.ref f_8)))
  (l_8 : K.lookup f_8 = some ⟨oc_8, od_8, .func (PySem.W.fnOf "check_step" "check_step" (defArgs s_check_step) (defBody s_check_step) (defScope s_check_step) .none kV_8 dc_8 pm_8 an_8 cd_8 ct_8), sl_8⟩)
  (c_8 : PySem.W.codeIn K cd_8 "check_step" = true)
  (k_8 : PySem.W.keepIn K (.ref f_8) = true)
  (a_9 : PySem.W.findIn K (.ref c23) "weight" = some (some (.ref f_9)))
  (i_Weighing_weight : PySem.W.isFn K (.ref f_9) = true)
  (l_9 : K.lookup f_9 = some ⟨oc_9, od_9, .func (PySem.W.fnOf "weight" "Weighing.weight" (defArgs s_Weighing_weight) (defBody s_Weighing_weight) (defScope s_Weighing_weight) .none kV_9 dc_9 pm_9 an_9 cd_9 ct_9), sl_9⟩)
  (c_9 : PySem.W.codeIn K cd_9 "Weighing.weight" = true)
  (k_9 : PySem.W.keepIn K (.ref f_9) = true)
  (a_10 : PySem.W.findIn K (.ref c5) "weight" = some (some (.ref f_10)))
  (i_Floors_weight : PySem.W.isFn K (.ref f_10) = true)
  (l_10 : K.lookup f_10 = some ⟨oc_10, od_10, .func (PySem.W.fnOf "weight" "Floors.weight" (defArgs s_Floors_weight) (defBody s_Floors_weight) (defScope s_Floors_weight) .none kV_10 dc_10 pm_10 an_10 cd_10 ct_10), sl_10⟩)
  (c_10 : PySem.W.codeIn K cd_10 "Floors.weight" = true)
  (k_10 : PySem.W.keepIn K (.ref f_10) = true)
  (a_11 : PySem.W.findIn K (.ref c8) "weight" = some (some (.ref f_11)))
  (i_Heavy_weight : PySem.W.isFn K (.ref f_11) = true)
  (l_11 : K.lookup f_11 = some ⟨oc_11, od_11, .func (PySem.W.fnOf "weight" "Heavy.weight" (defArgs s_Heavy_weight) (defBody s_Heavy_weight) (defScope s_Heavy_weight) .none kV_11 dc_11 pm_11 an_11 cd_11 ct_11), sl_11⟩)
  (c_11 : PySem.W.codeIn K cd_11 "Heavy.weight" = true)
  (k_11 : PySem.W.keepIn K (.ref f_11) = true)
  (a_12 : PySem.W.findIn K (.ref c19) "weight" = some (some (.ref f_12)))
  (i_Parts_weight : PySem.W.isFn K (.ref f_12) = true)
  (l_12 : K.lookup f_12 = some ⟨oc_12, od_12, .func (PySem.W.fnOf "weight" "Parts.weight" (defArgs s_Parts_weight) (defBody s_Parts_weight) (defScope s_Parts_weight) .none kV_12 dc_12 pm_12 an_12 cd_12 ct_12), sl_12⟩)
  (c_12 : PySem.W.codeIn K cd_12 "Parts.weight" = true)
  (k_12 : PySem.W.keepIn K (.ref f_12) = true)
  (a_13 : PySem.W.findIn K (.ref c9) "weight" = some (some (.ref f_13)))
  (i_Matched_weight : PySem.W.isFn K (.ref f_13) = true)
  (l_13 : K.lookup f_13 = some ⟨oc_13, od_13, .func (PySem.W.fnOf "weight" "Matched.weight" (defArgs s_Matched_weight) (defBody s_Matched_weight) (defScope s_Matched_weight) .none kV_13 dc_13 pm_13 an_13 cd_13 ct_13), sl_13⟩)
  (c_13 : PySem.W.codeIn K cd_13 "Matched.weight" = true)
  (k_13 : PySem.W.keepIn K (.ref f_13) = true)
  (a_14 : PySem.W.findIn K (.ref c23) "weigh" = some (some (.ref f_14)))
  (i_Weighing_weigh : PySem.W.isFn K (.ref f_14) = true)
  (l_14 : K.lookup f_14 = some ⟨oc_14, od_14, .func (PySem.W.fnOf "weigh" "Weighing.weigh" (defArgs s_Weighing_weigh) (defBody s_Weighing_weigh) (defScope s_Weighing_weigh) .none kV_14 dc_14 pm_14 an_14 cd_14 ct_14), sl_14⟩)
  (c_14 : PySem.W.codeIn K cd_14 "Weighing.weigh" = true)
  (k_14 : PySem.W.keepIn K (.ref f_14) = true)
  (a_15 : PySem.W.findIn K (.ref c10) "weight" = some (some (.ref f_15)))
  (i_Nested_weight : PySem.W.isFn K (.ref f_15) = true)
  (l_15 : K.lookup f_15 = some ⟨oc_15, od_15, .func (PySem.W.fnOf "weight" "Nested.weight" (defArgs s_Nested_weight) (defBody s_Nested_weight) (defScope s_Nested_weight) .none kV_15 dc_15 pm_15 an_15 cd_15 ct_15), sl_15⟩)
  (c_15 : PySem.W.codeIn K cd_15 "Nested.weight" = true)
  (k_15 : PySem.W.keepIn K (.ref f_15) = true)
  (a_16 : PySem.W.findIn K (.ref c23) "whole" = some (some (.ref f_16)))
  (i_Weighing_whole : PySem.W.isFn K (.ref f_16) = true)
  (l_16 : K.lookup f_16 = some ⟨oc_16, od_16, .func (PySem.W.fnOf "whole" "Weighing.whole" (defArgs s_Weighing_whole) (defBody s_Weighing_whole) (defScope s_Weighing_whole) .none kV_16 dc_16 pm_16 an_16 cd_16 ct_16), sl_16⟩)
  (c_16 : PySem.W.codeIn K cd_16 "Weighing.whole" = true)
  (k_16 : PySem.W.keepIn K (.ref f_16) = true)
  (a_17 : PySem.W.nsIn K mainGlobals "made_stepped" = some (some (.ref f_17)))
  (l_17 : K.lookup f_17 = some ⟨oc_17, od_17, .func (PySem.W.fnOf "made_stepped" "made_stepped" (defArgs s_made_stepped) (defBody s_made_stepped) (defScope s_made_stepped) .none kV_17 dc_17 pm_17 an_17 cd_17 ct_17), sl_17⟩)
  (c_17 : PySem.W.codeIn K cd_17 "made_stepped" = true)
  (k_17 : PySem.W.keepIn K (.ref f_17) = true)
  (a_18 : PySem.W.nsIn K mainGlobals "made_nested" = some (some (.ref f_18)))
  (l_18 : K.lookup f_18 = some ⟨oc_18, od_18, .func (PySem.W.fnOf "made_nested" "made_nested" (defArgs s_made_nested) (defBody s_made_nested) (defScope s_made_nested) .none kV_18 dc_18 pm_18 an_18 cd_18 ct_18), sl_18⟩)
  (c_18 : PySem.W.codeIn K cd_18 "made_nested" = true)
  (k_18 : PySem.W.keepIn K (.ref f_18) = true)
  (a_19 : PySem.W.nsIn K mainGlobals "made_weighing" = some (some (.ref f_19)))
  (l_19 : K.lookup f_19 = some ⟨oc_19, od_19, .func (PySem.W.fnOf "made_weighing" "made_weighing" (defArgs s_made_weighing) (defBody s_made_weighing) (defScope s_made_weighing) .none kV_19 dc_19 pm_19 an_19 cd_19 ct_19), sl_19⟩)
  (c_19 : PySem.W.codeIn K cd_19 "made_weighing" = true)
  (k_19 : PySem.W.keepIn K (.ref f_19) = true)
  (a_20 : PySem.W.nsIn K mainGlobals "_law_cell_at" = some (some (.ref f_20)))
  (l_20 : K.lookup f_20 = some ⟨oc_20, od_20, .func (PySem.W.fnOf "_law_cell_at" "_law_cell_at" (defArgs s_l_cell_at) (defBody s_l_cell_at) (defScope s_l_cell_at) .none kV_20 dc_20 pm_20 an_20 cd_20 ct_20), sl_20⟩)
  (c_20 : PySem.W.codeIn K cd_20 "_law_cell_at" = true)
  (k_20 : PySem.W.keepIn K (.ref f_20) = true)
  (a_21 : PySem.W.nsIn K mainGlobals "_law_side" = some (some (.ref f_21)))
  (l_21 : K.lookup f_21 = some ⟨oc_21, od_21, .func (PySem.W.fnOf "_law_side" "_law_side" (defArgs s_l_side) (defBody s_l_side) (defScope s_l_side) .none kV_21 dc_21 pm_21 an_21 cd_21 ct_21), sl_21⟩)
  (c_21 : PySem.W.codeIn K cd_21 "_law_side" = true)
  (k_21 : PySem.W.keepIn K (.ref f_21) = true)
  (a_22 : PySem.W.nsIn K mainGlobals "_law_most" = some (some (.ref f_22)))
  (l_22 : K.lookup f_22 = some ⟨oc_22, od_22, .func (PySem.W.fnOf "_law_most" "_law_most" (defArgs s_l_most) (defBody s_l_most) (defScope s_l_most) .none kV_22 dc_22 pm_22 an_22 cd_22 ct_22), sl_22⟩)
  (c_22 : PySem.W.codeIn K cd_22 "_law_most" = true)
  (k_22 : PySem.W.keepIn K (.ref f_22) = true)
  (a_23 : PySem.W.nsIn K mainGlobals "_law_good" = some (some (.ref f_23)))
  (l_23 : K.lookup f_23 = some ⟨oc_23, od_23, .func (PySem.W.fnOf "_law_good" "_law_good" (defArgs s_l_good) (defBody s_l_good) (defScope s_l_good) .none kV_23 dc_23 pm_23 an_23 cd_23 ct_23), sl_23⟩)
  (c_23 : PySem.W.codeIn K cd_23 "_law_good" = true)
  (k_23 : PySem.W.keepIn K (.ref f_23) = true)
  (a_24 : PySem.W.nsIn K mainGlobals "_law_bad" = some (some (.ref f_24)))
  (l_24 : K.lookup f_24 = some ⟨oc_24, od_24, .func (PySem.W.fnOf "_law_bad" "_law_bad" (defArgs s_l_bad) (defBody s_l_bad) (defScope s_l_bad) .none kV_24 dc_24 pm_24 an_24 cd_24 ct_24), sl_24⟩)
  (c_24 : PySem.W.codeIn K cd_24 "_law_bad" = true)
  (k_24 : PySem.W.keepIn K (.ref f_24) = true)
  (a_25 : PySem.W.nsIn K mainGlobals "_law_set" = some (some (.ref f_25)))
  (l_25 : K.lookup f_25 = some ⟨oc_25, od_25, .func (PySem.W.fnOf "_law_set" "_law_set" (defArgs s_l_set) (defBody s_l_set) (defScope s_l_set) .none kV_25 dc_25 pm_25 an_25 cd_25 ct_25), sl_25⟩)
  (c_25 : PySem.W.codeIn K cd_25 "_law_set" = true)
  (k_25 : PySem.W.keepIn K (.ref f_25) = true)
  (a_26 : PySem.W.nsIn K mainGlobals "_law_kinds" = some (some (.ref f_26)))
  (l_26 : K.lookup f_26 = some ⟨oc_26, od_26, .func (PySem.W.fnOf "_law_kinds" "_law_kinds" (defArgs s_l_kinds) (defBody s_l_kinds) (defScope s_l_kinds) .none kV_26 dc_26 pm_26 an_26 cd_26 ct_26), sl_26⟩)
  (c_26 : PySem.W.codeIn K cd_26 "_law_kinds" = true)
  (k_26 : PySem.W.keepIn K (.ref f_26) = true)
  (a_27 : PySem.W.nsIn K mainGlobals "_law_refused" = some (some (.ref f_27)))
  (l_27 : K.lookup f_27 = some ⟨oc_27, od_27, .func (PySem.W.fnOf "_law_refused" "_law_refused" (defArgs s_l_refused) (defBody s_l_refused) (defScope s_l_refused) .none kV_27 dc_27 pm_27 an_27 cd_27 ct_27), sl_27⟩)
  (c_27 : PySem.W.codeIn K cd_27 "_law_refused" = true)
  (k_27 : PySem.W.keepIn K (.ref f_27) = true)
  (a_28 : PySem.W.findIn K (.ref c23) "named" = some (some (.ref f_28)))
  (i_Weighing_named : PySem.W.isFn K (.ref f_28) = true)
  (l_28 : K.lookup f_28 = some ⟨oc_28, od_28, .func (PySem.W.fnOf "named" "Weighing.named" (defArgs s_Weighing_named) (defBody s_Weighing_named) (defScope s_Weighing_named) .none kV_28 dc_28 pm_28 an_28 cd_28 ct_28), sl_28⟩)
  (c_28 : PySem.W.codeIn K cd_28 "Weighing.named" = true)
  (k_28 : PySem.W.keepIn K (.ref f_28) = true)
  (a_29 : PySem.W.findIn K (.ref c5) "named" = some (some (.ref f_29)))
  (i_Floors_named : PySem.W.isFn K (.ref f_29) = true)
  (l_29 : K.lookup f_29 = some ⟨oc_29, od_29, .func (PySem.W.fnOf "named" "Floors.named" (defArgs s_Floors_named) (defBody s_Floors_named) (defScope s_Floors_named) .none kV_29 dc_29 pm_29 an_29 cd_29 ct_29), sl_29⟩)
  (c_29 : PySem.W.codeIn K cd_29 "Floors.named" = true)
  (k_29 : PySem.W.keepIn K (.ref f_29) = true)
  (a_30 : PySem.W.findIn K (.ref c8) "named" = some (some (.ref f_30)))
  (i_Heavy_named : PySem.W.isFn K (.ref f_30) = true)
  (l_30 : K.lookup f_30 = some ⟨oc_30, od_30, .func (PySem.W.fnOf "named" "Heavy.named" (defArgs s_Heavy_named) (defBody s_Heavy_named) (defScope s_Heavy_named) .none kV_30 dc_30 pm_30 an_30 cd_30 ct_30), sl_30⟩)
  (c_30 : PySem.W.codeIn K cd_30 "Heavy.named" = true)
  (k_30 : PySem.W.keepIn K (.ref f_30) = true)
  (a_31 : PySem.W.findIn K (.ref c19) "named" = some (some (.ref f_31)))
  (i_Parts_named : PySem.W.isFn K (.ref f_31) = true)
  (l_31 : K.lookup f_31 = some ⟨oc_31, od_31, .func (PySem.W.fnOf "named" "Parts.named" (defArgs s_Parts_named) (defBody s_Parts_named) (defScope s_Parts_named) .none kV_31 dc_31 pm_31 an_31 cd_31 ct_31), sl_31⟩)
  (c_31 : PySem.W.codeIn K cd_31 "Parts.named" = true)
  (k_31 : PySem.W.keepIn K (.ref f_31) = true)
  (a_32 : PySem.W.findIn K (.ref c9) "named" = some (some (.ref f_32)))
  (i_Matched_named : PySem.W.isFn K (.ref f_32) = true)
  (l_32 : K.lookup f_32 = some ⟨oc_32, od_32, .func (PySem.W.fnOf "named" "Matched.named" (defArgs s_Matched_named) (defBody s_Matched_named) (defScope s_Matched_named) .none kV_32 dc_32 pm_32 an_32 cd_32 ct_32), sl_32⟩)
  (c_32 : PySem.W.codeIn K cd_32 "Matched.named" = true)
  (k_32 : PySem.W.keepIn K (.ref f_32) = true)
  (a_33 : PySem.W.findIn K (.ref c10) "named" = some (some (.ref f_33)))
  (i_Nested_named : PySem.W.isFn K (.ref f_33) = true)
  (l_33 : K.lookup f_33 = some ⟨oc_33, od_33, .func (PySem.W.fnOf "named" "Nested.named" (defArgs s_Nested_named) (defBody s_Nested_named) (defScope s_Nested_named) .none kV_33 dc_33 pm_33 an_33 cd_33 ct_33), sl_33⟩)
  (c_33 : PySem.W.codeIn K cd_33 "Nested.named" = true)
  (k_33 : PySem.W.keepIn K (.ref f_33) = true)
  (a_34 : PySem.W.nsIn K mainGlobals "_law_taken" = some (some (.ref f_34)))
  (l_34 : K.lookup f_34 = some ⟨oc_34, od_34, .func (PySem.W.fnOf "_law_taken" "_law_taken" (defArgs s_l_taken) (defBody s_l_taken) (defScope s_l_taken) .none kV_34 dc_34 pm_34 an_34 cd_34 ct_34), sl_34⟩)
  (c_34 : PySem.W.codeIn K cd_34 "_law_taken" = true)
  (k_34 : PySem.W.keepIn K (.ref f_34) = true)
  (a_35 : PySem.W.nsIn K mainGlobals "law" = some (some (.ref f_35)))
  (l_35 : K.lookup f_35 = some ⟨oc_35, od_35, .func (PySem.W.fnOf "law" "law" (defArgs s_law) (defBody s_law) (defScope s_law) .none kV_35 dc_35 pm_35 an_35 cd_35 ct_35), sl_35⟩)
  (c_35 : PySem.W.codeIn K cd_35 "law" = true)
  (k_35 : PySem.W.keepIn K (.ref f_35) = true)
  (a_0 : PySem.W.findIn K (.ref c23) "__init__" = some (some (.ref f_0)))
  (i_Weighing___init__ : PySem.W.isFn K (.ref f_0) = true)
  (l_0 : K.lookup f_0 = some ⟨oc_0, od_0, .func (PySem.W.fnOf "__init__" "Weighing.__init__" (defArgs s_Weighing___init__) (defBody s_Weighing___init__) (defScope s_Weighing___init__) .none kV_0 dc_0 pm_0 an_0 cd_0 ct_0), sl_0⟩)
  (c_0 : PySem.W.codeIn K cd_0 "Weighing.__init__" = true)
  (k_0 : PySem.W.keepIn K (.ref f_0) = true)
  (a_1 : PySem.W.findIn K (.ref c5) "__init__" = some (some (.ref f_1)))
  (i_Floors___init__ : PySem.W.isFn K (.ref f_1) = true)
  (l_1 : K.lookup f_1 = some ⟨oc_1, od_1, .func (PySem.W.fnOf "__init__" "Floors.__init__" (defArgs s_Floors___init__) (defBody s_Floors___init__) (defScope s_Floors___init__) .none kV_1 dc_1 pm_1 an_1 cd_1 ct_1), sl_1⟩)
  (c_1 : PySem.W.codeIn K cd_1 "Floors.__init__" = true)
  (k_1 : PySem.W.keepIn K (.ref f_1) = true)
  (a_2 : PySem.W.findIn K (.ref c8) "__init__" = some (some (.ref f_2)))
  (i_Heavy___init__ : PySem.W.isFn K (.ref f_2) = true)
  (l_2 : K.lookup f_2 = some ⟨oc_2, od_2, .func (PySem.W.fnOf "__init__" "Heavy.__init__" (defArgs s_Heavy___init__) (defBody s_Heavy___init__) (defScope s_Heavy___init__) .none kV_2 dc_2 pm_2 an_2 cd_2 ct_2), sl_2⟩)
  (c_2 : PySem.W.codeIn K cd_2 "Heavy.__init__" = true)
  (k_2 : PySem.W.keepIn K (.ref f_2) = true)
  (a_3 : PySem.W.findIn K (.ref c9) "__init__" = some (some (.ref f_3)))
  (i_Matched___init__ : PySem.W.isFn K (.ref f_3) = true)
  (l_3 : K.lookup f_3 = some ⟨oc_3, od_3, .func (PySem.W.fnOf "__init__" "Matched.__init__" (defArgs s_Matched___init__) (defBody s_Matched___init__) (defScope s_Matched___init__) .none kV_3 dc_3 pm_3 an_3 cd_3 ct_3), sl_3⟩)
  (c_3 : PySem.W.codeIn K cd_3 "Matched.__init__" = true)
  (k_3 : PySem.W.keepIn K (.ref f_3) = true)
  (a_4 : PySem.W.findIn K (.ref c10) "__init__" = some (some (.ref f_4)))
  (i_Nested___init__ : PySem.W.isFn K (.ref f_4) = true)
  (l_4 : K.lookup f_4 = some ⟨oc_4, od_4, .func (PySem.W.fnOf "__init__" "Nested.__init__" (defArgs s_Nested___init__) (defBody s_Nested___init__) (defScope s_Nested___init__) .none kV_4 dc_4 pm_4 an_4 cd_4 ct_4), sl_4⟩)
  (c_4 : PySem.W.codeIn K cd_4 "Nested.__init__" = true)
  (k_4 : PySem.W.keepIn K (.ref f_4) = true)
  (a_5 : PySem.W.findIn K (.ref c19) "__init__" = some (some (.ref f_5)))
  (i_Parts___init__ : PySem.W.isFn K (.ref f_5) = true)
  (l_5 : K.lookup f_5 = some ⟨oc_5, od_5, .func (PySem.W.fnOf "__init__" "Parts.__init__" (defArgs s_Parts___init__) (defBody s_Parts___init__) (defScope s_Parts___init__) .none kV_5 dc_5 pm_5 an_5 cd_5 ct_5), sl_5⟩)
  (c_5 : PySem.W.codeIn K cd_5 "Parts.__init__" = true)
  (k_5 : PySem.W.keepIn K (.ref f_5) = true)
  (fm_Floors_weigh : PySem.W.findIn K (.ref c5) "weigh" = some (some (.ref f_14)))
  (fm_Heavy_weigh : PySem.W.findIn K (.ref c8) "weigh" = some (some (.ref f_14)))
  (fm_Parts_weigh : PySem.W.findIn K (.ref c19) "weigh" = some (some (.ref f_14)))
  (fm_Matched_weigh : PySem.W.findIn K (.ref c9) "weigh" = some (some (.ref f_14)))
  (fm_Nested_weigh : PySem.W.findIn K (.ref c10) "weigh" = some (some (.ref f_14)))
  (fm_Floors_whole : PySem.W.findIn K (.ref c5) "whole" = some (some (.ref f_16)))
  (fm_Heavy_whole : PySem.W.findIn K (.ref c8) "whole" = some (some (.ref f_16)))
  (fm_Parts_whole : PySem.W.findIn K (.ref c19) "whole" = some (some (.ref f_16)))
  (fm_Matched_whole : PySem.W.findIn K (.ref c9) "whole" = some (some (.ref f_16)))
  (fm_Nested_whole : PySem.W.findIn K (.ref c10) "whole" = some (some (.ref f_16)))
  (mk_Floors : PySem.W.makesIn K c5 = true)
  (kc_Floors : PySem.W.keepIn K (.ref c5) = true)
  (mk_Heavy : PySem.W.makesIn K c8 = true)
  (kc_Heavy : PySem.W.keepIn K (.ref c8) = true)
  (mk_Matched : PySem.W.makesIn K c9 = true)
  (kc_Matched : PySem.W.keepIn K (.ref c9) = true)
  (mk_Nested : PySem.W.makesIn K c10 = true)
  (kc_Nested : PySem.W.keepIn K (.ref c10) = true)
  (mk_Parts : PySem.W.makesIn K c19 = true)
  (kc_Parts : PySem.W.keepIn K (.ref c19) = true)
  (mk_Weighing : PySem.W.makesIn K c23 = true)
  (kc_Weighing : PySem.W.keepIn K (.ref c23) = true)
  (ga_Weighing : PySem.W.specialIn K (.ref c23) "__getattribute__" = some (some (.builtin "type.__getattribute__")))
  (rd_Weighing : PySem.W.readsIn K c23 (.type "type") = true)
  (fc_Weighing : PySem.W.findCls K (.ref c23) (.type "type") "__init__" = some (.val (.ref f_0)))
  (hh_Weighing : PySem.W.handedIn (.ref f_0) = true)
  (z_ValueError : PySem.W.nsIn K mainGlobals "ValueError" = some none)
  (z_bool : PySem.W.nsIn K mainGlobals "bool" = some none)
  (z_divmod : PySem.W.nsIn K mainGlobals "divmod" = some none)
  (z_int : PySem.W.nsIn K mainGlobals "int" = some none)
  (z_isinstance : PySem.W.nsIn K mainGlobals "isinstance" = some none)
  (z_len : PySem.W.nsIn K mainGlobals "len" = some none)
  (z_tuple : PySem.W.nsIn K mainGlobals "tuple" = some none)
  (m_BadPacking : PySem.W.nsIn K mainGlobals "BadPacking" = some (some (.ref c0)))
  (m_BadPlan : PySem.W.nsIn K mainGlobals "BadPlan" = some (some (.ref c1)))
  (m_BadSide : PySem.W.nsIn K mainGlobals "BadSide" = some (some (.ref c2)))
  (m_BadTurn : PySem.W.nsIn K mainGlobals "BadTurn" = some (some (.ref c3)))
  (m_CrateError : PySem.W.nsIn K mainGlobals "CrateError" = some (some (.ref c4)))
  (m_Floors : PySem.W.nsIn K mainGlobals "Floors" = some (some (.ref c5)))
  (m_Full : PySem.W.nsIn K mainGlobals "Full" = some (some (.ref c6)))
  (m_Hangs : PySem.W.nsIn K mainGlobals "Hangs" = some (some (.ref c7)))
  (m_Heavy : PySem.W.nsIn K mainGlobals "Heavy" = some (some (.ref c8)))
  (m_Matched : PySem.W.nsIn K mainGlobals "Matched" = some (some (.ref c9)))
  (m_Nested : PySem.W.nsIn K mainGlobals "Nested" = some (some (.ref c10)))
  (m_NoDeed : PySem.W.nsIn K mainGlobals "NoDeed" = some (some (.ref c11)))
  (m_NoDrawing : PySem.W.nsIn K mainGlobals "NoDrawing" = some (some (.ref c12)))
  (m_NoPicker : PySem.W.nsIn K mainGlobals "NoPicker" = some (some (.ref c13)))
  (m_NoSheet : PySem.W.nsIn K mainGlobals "NoSheet" = some (some (.ref c14)))
  (m_NoText : PySem.W.nsIn K mainGlobals "NoText" = some (some (.ref c15)))
  (m_NoWare : PySem.W.nsIn K mainGlobals "NoWare" = some (some (.ref c16)))
  (m_NoWeighing : PySem.W.nsIn K mainGlobals "NoWeighing" = some (some (.ref c17)))
  (m_NothingDone : PySem.W.nsIn K mainGlobals "NothingDone" = some (some (.ref c18)))
  (m_Parts : PySem.W.nsIn K mainGlobals "Parts" = some (some (.ref c19)))
  (m_Ring : PySem.W.nsIn K mainGlobals "Ring" = some (some (.ref c20)))
  (m_TooMany : PySem.W.nsIn K mainGlobals "TooMany" = some (some (.ref c21)))
  (m_TooWide : PySem.W.nsIn K mainGlobals "TooWide" = some (some (.ref c22)))
  (m_Weighing : PySem.W.nsIn K mainGlobals "Weighing" = some (some (.ref c23)))
  (x_BadSide : PySem.W.excIn K c2 vErr "ValueError.__new__" = true)
  (x_NoWeighing : PySem.W.excIn K c17 vErr "ValueError.__new__" = true)
  (g_MOST_PARTS : PySem.W.nsIn K mainGlobals "MOST_PARTS" = some (some (.int 60 kt_MOST_PARTS)))
  (t_exc_BadSide1 : PySem.W.findIn K (.ref c2) "__getattribute__" = some (some (.builtin "BaseException.__getattribute__")))
  (t_exc_BadSide2 : PySem.W.findIn K (.ref c2) "__getattr__" = some none)
  (t_exc_BadSide3 : PySem.W.findIn K (.ref c2) "__class__" = some (some (.builtin "object.__class__")))
  (t_exc_BadSide4 : PySem.W.mroIn K c2 (.type "object") = some true)
  (t_exc_BadSide5 : PySem.W.subIn K (.ref c2) (.type "BaseException") = some true)
  (t_exc_NoWeighing1 : PySem.W.findIn K (.ref c17) "__getattribute__" = some (some (.builtin "BaseException.__getattribute__")))
  (t_exc_NoWeighing2 : PySem.W.findIn K (.ref c17) "__getattr__" = some none)
  (t_exc_NoWeighing3 : PySem.W.findIn K (.ref c17) "__class__" = some (some (.builtin "object.__class__")))
  (t_exc_NoWeighing4 : PySem.W.mroIn K c17 (.type "object") = some true)
  (t_exc_NoWeighing5 : PySem.W.subIn K (.ref c17) (.type "BaseException") = some true)
  (t_any_BadSide_0 : PySem.W.kitAny K (.ref c2) [.ref c2, .ref c3, .ref c15, .ref c21, .ref c20, .ref c13, .ref c14, .ref c12] = some true)
  (t_any_BadSide_1 : PySem.W.kitAny K (.ref c2) [.ref c11, .ref c16, .ref c6, .ref c18, .ref c22, .ref c7, .ref c1, .ref c0] = some false)
  (t_one_BadSide_ValueError : PySem.W.kitOne K (.ref c2) (.type "ValueError") = some true)
  (t_exo_BadSide_CrateError : PySem.W.exmOne K (.ref c2) (.ref c4) = some true)
  (t_exo_BadSide_NoWeighing : PySem.W.exmOne K (.ref c2) (.ref c17) = some false)
  (t_any_NoWeighing_0 : PySem.W.kitAny K (.ref c17) [.ref c2, .ref c3, .ref c15, .ref c21, .ref c20, .ref c13, .ref c14, .ref c12] = some false)
  (t_any_NoWeighing_1 : PySem.W.kitAny K (.ref c17) [.ref c11, .ref c16, .ref c6, .ref c18, .ref c22, .ref c7, .ref c1, .ref c0] = some false)
  (t_one_NoWeighing_ValueError : PySem.W.kitOne K (.ref c17) (.type "ValueError") = some true)
  (t_exo_NoWeighing_CrateError : PySem.W.exmOne K (.ref c17) (.ref c4) = some true)
  (t_exo_NoWeighing_NoWeighing : PySem.W.exmOne K (.ref c17) (.ref c17) = some true)
  (cl_Weighing1 : PySem.W.plainGet K c23 Str.empty = true)
  (cl_Weighing2 : PySem.W.hasDictIn K c23 = true)
  (cl_Weighing3 : PySem.W.plainOver K c23 = true)
  (cl_Weighing4 : PySem.W.findIn K (.ref c23) "__setattr__" = some (some (.builtin "object.__setattr__")))
  (n_Weighing_side : PySem.W.findIn K (.ref c23) "side" = some none)
  (cl_Floors1 : PySem.W.plainGet K c5 Str.empty = true)
  (cl_Floors2 : PySem.W.hasDictIn K c5 = true)
  (cl_Floors3 : PySem.W.plainOver K c5 = true)
  (cl_Floors4 : PySem.W.findIn K (.ref c5) "__setattr__" = some (some (.builtin "object.__setattr__")))
  (n_Floors_side : PySem.W.findIn K (.ref c5) "side" = some none)
  (n_Floors_step : PySem.W.findIn K (.ref c5) "step" = some none)
  (cl_Heavy1 : PySem.W.plainGet K c8 Str.empty = true)
  (cl_Heavy2 : PySem.W.hasDictIn K c8 = true)
  (cl_Heavy3 : PySem.W.plainOver K c8 = true)
  (cl_Heavy4 : PySem.W.findIn K (.ref c8) "__setattr__" = some (some (.builtin "object.__setattr__")))
  (n_Heavy_side : PySem.W.findIn K (.ref c8) "side" = some none)
  (n_Heavy_step : PySem.W.findIn K (.ref c8) "step" = some none)
  (cl_Parts1 : PySem.W.plainGet K c19 Str.empty = true)
  (cl_Parts2 : PySem.W.hasDictIn K c19 = true)
  (cl_Parts3 : PySem.W.plainOver K c19 = true)
  (cl_Parts4 : PySem.W.findIn K (.ref c19) "__setattr__" = some (some (.builtin "object.__setattr__")))
  (n_Parts_side : PySem.W.findIn K (.ref c19) "side" = some none)
  (n_Parts_step : PySem.W.findIn K (.ref c19) "step" = some none)
  (cl_Matched1 : PySem.W.plainGet K c9 Str.empty = true)
  (cl_Matched2 : PySem.W.hasDictIn K c9 = true)
  (cl_Matched3 : PySem.W.plainOver K c9 = true)
  (cl_Matched4 : PySem.W.findIn K (.ref c9) "__setattr__" = some (some (.builtin "object.__setattr__")))
  (n_Matched_side : PySem.W.findIn K (.ref c9) "side" = some none)
  (n_Matched_step : PySem.W.findIn K (.ref c9) "step" = some none)
  (cl_Nested1 : PySem.W.plainGet K c10 Str.empty = true)
  (cl_Nested2 : PySem.W.hasDictIn K c10 = true)
  (cl_Nested3 : PySem.W.plainOver K c10 = true)
  (cl_Nested4 : PySem.W.findIn K (.ref c10) "__setattr__" = some (some (.builtin "object.__setattr__")))
  (n_Nested_side : PySem.W.findIn K (.ref c10) "side" = some none)
  (n_Nested_inner : PySem.W.findIn K (.ref c10) "inner" = some none)
  (n_Nested_outer : PySem.W.findIn K (.ref c10) "outer" = some none)
  : ∃ fd : FuncData, (∀ (s : Shared) (v : Value), BindsTo s fd ⟨[v], []⟩ [("_law_script", v)]) ∧ ∃ c : Str → Addr, ∀ base : Heap, K.In base → base.Ns mainGlobals mg → FnOk (PySem.Challenge.rw_cratefit_k27_rows_refused).prog w K mg base (CXe (PySem.Challenge.rw_cratefit_k27_rows_refused).prog w) 47 fa fd ["_law_script"] (sp_law K c) := by
 have e := hfa.symm.trans (PySem.W.mg_of X G a_35)
 cases e
 have T : Txt K mg (cL c0 c1 c2 c3 c4 c5 c6 c7 c8 c9 c10 c11 c12 c13 c14 c15 c16 c17 c18 c19 c20 c21 c22 c23) := ⟨PySem.W.mg_none_of X G z_ValueError, PySem.W.mg_none_of X G z_bool, PySem.W.mg_none_of X G z_divmod, PySem.W.mg_none_of X G z_int, PySem.W.mg_none_of X G z_isinstance, PySem.W.mg_none_of X G z_len, PySem.W.mg_none_of X G z_tuple, PySem.W.mg_of X G m_BadPacking, PySem.W.mg_of X G m_BadPlan, PySem.W.mg_of X G m_BadSide, PySem.W.mg_of X G m_BadTurn, PySem.W.mg_of X G m_CrateError, PySem.W.mg_of X G m_Full, PySem.W.mg_of X G m_Hangs, PySem.W.mg_of X G m_NoDeed, PySem.W.mg_of X G m_NoDrawing, PySem.W.mg_of X G m_NoPicker, PySem.W.mg_of X G m_NoSheet, PySem.W.mg_of X G m_NoText, PySem.W.mg_of X G m_NoWare, PySem.W.mg_of X G m_NoWeighing, PySem.W.mg_of X G m_NothingDone, PySem.W.mg_of X G m_Ring, PySem.W.mg_of X G m_TooMany, PySem.W.mg_of X G m_TooWide, x_BadSide, x_NoWeighing, ⟨_, PySem.W.mg_of X G g_MOST_PARTS, ⟨_, rfl⟩⟩, ⟨t_exc_BadSide1, t_exc_BadSide2, t_exc_BadSide3, t_exc_BadSide4, t_exc_BadSide5⟩, ⟨t_exc_NoWeighing1, t_exc_NoWeighing2, t_exc_NoWeighing3, t_exc_NoWeighing4, t_exc_NoWeighing5⟩, t_any_BadSide_0, t_any_BadSide_1, t_one_BadSide_ValueError, t_exo_BadSide_CrateError, t_exo_BadSide_NoWeighing, t_any_NoWeighing_0, t_any_NoWeighing_1, t_one_NoWeighing_ValueError, t_exo_NoWeighing_CrateError, t_exo_NoWeighing_NoWeighing, ⟨cl_Weighing1, cl_Weighing2, cl_Weighing3, cl_Weighing4⟩, n_Weighing_side, ⟨cl_Floors1, cl_Floors2, cl_Floors3, cl_Floors4⟩, n_Floors_side, n_Floors_step, ⟨cl_Heavy1, cl_Heavy2, cl_Heavy3, cl_Heavy4⟩, n_Heavy_side, n_Heavy_step, ⟨cl_Parts1, cl_Parts2, cl_Parts3, cl_Parts4⟩, n_Parts_side, n_Parts_step, ⟨cl_Matched1, cl_Matched2, cl_Matched3, cl_Matched4⟩, n_Matched_side, n_Matched_step, ⟨cl_Nested1, cl_Nested2, cl_Nested3, cl_Nested4⟩, n_Nested_side, n_Nested_inner, n_Nested_outer⟩
 refine ⟨PySem.W.fnOf "law" "law" (defArgs s_law) (defBody s_law) (defScope s_law) .none kV_35 dc_35 pm_35 an_35 cd_35 ct_35, fun s v => .of_eq rfl, cOf [("BadPacking", c0), ("BadPlan", c1), ("BadSide", c2), ("BadTurn", c3), ("CrateError", c4), ("Floors", c5), ("Full", c6), ("Hangs", c7), ("Heavy", c8), ("Matched", c9), ("Nested", c10), ("NoDeed", c11), ("NoDrawing", c12), ("NoPicker", c13), ("NoSheet", c14), ("NoText", c15), ("NoWare", c16), ("NoWeighing", c17), ("NothingDone", c18), ("Parts", c19), ("Ring", c20), ("TooMany", c21), ("TooWide", c22), ("Weighing", c23)], fun base _ _ => ?_⟩
 have F_0 := fun_mk (st := s_Weighing___init__) l_0 c_0 k_0
 have B_0 := F_0.binds (ps := ["self", "side"]) fun _ _ _ _ _ _ us hl => match us, hl with | [_, _], _ => rfl
 have OI_Weighing___init__ := ok_Weighing___init__ (P := (PySem.Challenge.rw_cratefit_k27_rows_refused).prog) (w := w) (mg := mg) (base := base) F_0
 have GC_Weighing : OwnC (PySem.Challenge.rw_cratefit_k27_rows_refused).prog w K mg base 3 "Weighing" "__init__" ["self", "side"] (spI K 2 ["side"] (fun r _ ys => ys = r)) := ⟨_, _, _, OI_Weighing___init__, B_0, ⟨ga_Weighing, rd_Weighing, fc_Weighing, hh_Weighing, k_0⟩, PySem.W.mg_of X G m_Weighing⟩
 have F_1 := fun_mk (st := s_Floors___init__) l_1 c_1 k_1
 have B_1 := F_1.binds (ps := ["self", "side", "step"]) fun _ _ _ _ _ _ us hl => match us, hl with | [_, _, _], _ => rfl
 have OI_Floors___init__ := ok_Floors___init__ (P := (PySem.Challenge.rw_cratefit_k27_rows_refused).prog) (w := w) (mg := mg) (base := base) F_1 GC_Weighing
 have F_2 := fun_mk (st := s_Heavy___init__) l_2 c_2 k_2
 have B_2 := F_2.binds (ps := ["self", "side", "step"]) fun _ _ _ _ _ _ us hl => match us, hl with | [_, _, _], _ => rfl
 have OI_Heavy___init__ := ok_Heavy___init__ (P := (PySem.Challenge.rw_cratefit_k27_rows_refused).prog) (w := w) (mg := mg) (base := base) F_2 GC_Weighing
 have F_3 := fun_mk (st := s_Matched___init__) l_3 c_3 k_3
 have B_3 := F_3.binds (ps := ["self", "side", "step"]) fun _ _ _ _ _ _ us hl => match us, hl with | [_, _, _], _ => rfl
 have OI_Matched___init__ := ok_Matched___init__ (P := (PySem.Challenge.rw_cratefit_k27_rows_refused).prog) (w := w) (mg := mg) (base := base) F_3 GC_Weighing
 have F_4 := fun_mk (st := s_Nested___init__) l_4 c_4 k_4
 have B_4 := F_4.binds (ps := ["self", "inner", "outer"]) fun _ _ _ _ _ _ us hl => match us, hl with | [_, _, _], _ => rfl
 have OI_Nested___init__ := ok_Nested___init__ (P := (PySem.Challenge.rw_cratefit_k27_rows_refused).prog) (w := w) (mg := mg) (base := base) F_4 GC_Weighing
 have F_5 := fun_mk (st := s_Parts___init__) l_5 c_5 k_5
 have B_5 := F_5.binds (ps := ["self", "side", "step"]) fun _ _ _ _ _ _ us hl => match us, hl with | [_, _, _], _ => rfl
 have OI_Parts___init__ := ok_Parts___init__ (P := (PySem.Challenge.rw_cratefit_k27_rows_refused).prog) (w := w) (mg := mg) (base := base) F_5 GC_Weighing
 have N_Floors : OwnN (PySem.Challenge.rw_cratefit_k27_rows_refused).prog w K mg base 5 "Floors" ((cL c0 c1 c2 c3 c4 c5 c6 c7 c8 c9 c10 c11 c12 c13 c14 c15 c16 c17 c18 c19 c20 c21 c22 c23) "Floors") ["self", "side", "step"] (spI K 3 ["side", "step"] (fun r _ ys => ys = r)) := ⟨_, _, OI_Floors___init__, B_1, ⟨mk_Floors, a_1, i_Floors___init__, kc_Floors⟩, PySem.W.mg_of X G m_Floors⟩
 have N_Heavy : OwnN (PySem.Challenge.rw_cratefit_k27_rows_refused).prog w K mg base 5 "Heavy" ((cL c0 c1 c2 c3 c4 c5 c6 c7 c8 c9 c10 c11 c12 c13 c14 c15 c16 c17 c18 c19 c20 c21 c22 c23) "Heavy") ["self", "side", "step"] (spI K 3 ["side", "step"] (fun r _ ys => ys = r)) := ⟨_, _, OI_Heavy___init__, B_2, ⟨mk_Heavy, a_2, i_Heavy___init__, kc_Heavy⟩, PySem.W.mg_of X G m_Heavy⟩
 have N_Matched : OwnN (PySem.Challenge.rw_cratefit_k27_rows_refused).prog w K mg base 5 "Matched" ((cL c0 c1 c2 c3 c4 c5 c6 c7 c8 c9 c10 c11 c12 c13 c14 c15 c16 c17 c18 c19 c20 c21 c22 c23) "Matched") ["self", "side", "step"] (spI K 3 ["side", "step"] (fun r _ ys => ys = r)) := ⟨_, _, OI_Matched___init__, B_3, ⟨mk_Matched, a_3, i_Matched___init__, kc_Matched⟩, PySem.W.mg_of X G m_Matched⟩
 have N_Nested : OwnN (PySem.Challenge.rw_cratefit_k27_rows_refused).prog w K mg base 5 "Nested" ((cL c0 c1 c2 c3 c4 c5 c6 c7 c8 c9 c10 c11 c12 c13 c14 c15 c16 c17 c18 c19 c20 c21 c22 c23) "Nested") ["self", "inner", "outer"] (spI K 3 ["side", "inner", "outer"] (fun r H ys => ∃ a b C dx fs v, r = [.ref a, b] ∧ H a = some (.ins C dx fs) ∧ Cls K C ∧ NoAttr K C "side" ∧ fs.lookup ("side" : Str) = some v ∧ ys = [v, .ref a, b])) := ⟨_, _, OI_Nested___init__, B_4, ⟨mk_Nested, a_4, i_Nested___init__, kc_Nested⟩, PySem.W.mg_of X G m_Nested⟩
 have N_Parts : OwnN (PySem.Challenge.rw_cratefit_k27_rows_refused).prog w K mg base 5 "Parts" ((cL c0 c1 c2 c3 c4 c5 c6 c7 c8 c9 c10 c11 c12 c13 c14 c15 c16 c17 c18 c19 c20 c21 c22 c23) "Parts") ["self", "side", "step"] (spI K 3 ["side", "step"] (fun r _ ys => ys = r)) := ⟨_, _, OI_Parts___init__, B_5, ⟨mk_Parts, a_5, i_Parts___init__, kc_Parts⟩, PySem.W.mg_of X G m_Parts⟩
 have N_Weighing : OwnN (PySem.Challenge.rw_cratefit_k27_rows_refused).prog w K mg base 3 "Weighing" ((cL c0 c1 c2 c3 c4 c5 c6 c7 c8 c9 c10 c11 c12 c13 c14 c15 c16 c17 c18 c19 c20 c21 c22 c23) "Weighing") ["self", "side"] (spI K 2 ["side"] (fun r _ ys => ys = r)) := ⟨_, _, OI_Weighing___init__, B_0, ⟨mk_Weighing, a_0, i_Weighing___init__, kc_Weighing⟩, PySem.W.mg_of X G m_Weighing⟩
 have F_6 := fun_mk (st := s_is_whole) l_6 c_6 k_6
 have B_6 := F_6.binds (ps := ["value"]) fun _ _ _ _ _ _ us hl => match us, hl with | [_], _ => rfl
 have O_6 : Own (PySem.Challenge.rw_cratefit_k27_rows_refused).prog w K mg base 3 "is_whole" ["value"] (spD K (cL c0 c1 c2 c3 c4 c5 c6 c7 c8 c9 c10 c11 c12 c13 c14 c15 c16 c17 c18 c19 c20 c21 c22 c23) d_is_whole) := ⟨_, _, ok_is_whole F_6 T , B_6, k_6, PySem.W.mg_of X G a_6⟩
 have F_7 := fun_mk (st := s_check_side) l_7 c_7 k_7
 have B_7 := F_7.binds (ps := ["side", "least", "most"]) fun _ _ _ _ _ _ us hl => match us, hl with | [_, _, _], _ => rfl
 have O_7 : Own (PySem.Challenge.rw_cratefit_k27_rows_refused).prog w K mg base 5 "check_side" ["side", "least", "most"] (spD K (cL c0 c1 c2 c3 c4 c5 c6 c7 c8 c9 c10 c11 c12 c13 c14 c15 c16 c17 c18 c19 c20 c21 c22 c23) d_check_side) := ⟨_, _, ok_check_side F_7 T O_6, B_7, k_7, PySem.W.mg_of X G a_7⟩
 have F_8 := fun_mk (st := s_check_step) l_8 c_8 k_8
 have B_8 := F_8.binds (ps := ["step", "most"]) fun _ _ _ _ _ _ us hl => match us, hl with | [_, _], _ => rfl
 have O_8 : Own (PySem.Challenge.rw_cratefit_k27_rows_refused).prog w K mg base 5 "check_step" ["step", "most"] (spD K (cL c0 c1 c2 c3 c4 c5 c6 c7 c8 c9 c10 c11 c12 c13 c14 c15 c16 c17 c18 c19 c20 c21 c22 c23) d_check_step) := ⟨_, _, ok_check_step F_8 T O_6, B_8, k_8, PySem.W.mg_of X G a_8⟩
 have F_9 := fun_mk (st := s_Weighing_weight) l_9 c_9 k_9
 have B_9 := F_9.binds (ps := ["self", "x"]) fun _ _ _ _ _ _ us hl => match us, hl with | [_, _], _ => rfl
 have OM_Weighing_weight : OwnM (PySem.Challenge.rw_cratefit_k27_rows_refused).prog w K mg base 3 ((cL c0 c1 c2 c3 c4 c5 c6 c7 c8 c9 c10 c11 c12 c13 c14 c15 c16 c17 c18 c19 c20 c21 c22 c23) "Weighing") "weight" ["self", "x"] (spD K (cL c0 c1 c2 c3 c4 c5 c6 c7 c8 c9 c10 c11 c12 c13 c14 c15 c16 c17 c18 c19 c20 c21 c22 c23) d_Weighing_weight) := ⟨⟨_, _, (ok_Weighing_weight F_9 T ), B_9, ⟨a_9, i_Weighing_weight, k_9⟩⟩, T.cl_Weighing⟩
 have F_10 := fun_mk (st := s_Floors_weight) l_10 c_10 k_10
 have B_10 := F_10.binds (ps := ["self", "x"]) fun _ _ _ _ _ _ us hl => match us, hl with | [_, _], _ => rfl
 have OM_Floors_weight : OwnM (PySem.Challenge.rw_cratefit_k27_rows_refused).prog w K mg base 3 ((cL c0 c1 c2 c3 c4 c5 c6 c7 c8 c9 c10 c11 c12 c13 c14 c15 c16 c17 c18 c19 c20 c21 c22 c23) "Floors") "weight" ["self", "x"] (spD K (cL c0 c1 c2 c3 c4 c5 c6 c7 c8 c9 c10 c11 c12 c13 c14 c15 c16 c17 c18 c19 c20 c21 c22 c23) d_Floors_weight) := ⟨⟨_, _, (ok_Floors_weight F_10 T ), B_10, ⟨a_10, i_Floors_weight, k_10⟩⟩, T.cl_Floors⟩
 have F_11 := fun_mk (st := s_Heavy_weight) l_11 c_11 k_11
 have B_11 := F_11.binds (ps := ["self", "x"]) fun _ _ _ _ _ _ us hl => match us, hl with | [_, _], _ => rfl
 have OM_Heavy_weight : OwnM (PySem.Challenge.rw_cratefit_k27_rows_refused).prog w K mg base 3 ((cL c0 c1 c2 c3 c4 c5 c6 c7 c8 c9 c10 c11 c12 c13 c14 c15 c16 c17 c18 c19 c20 c21 c22 c23) "Heavy") "weight" ["self", "x"] (spD K (cL c0 c1 c2 c3 c4 c5 c6 c7 c8 c9 c10 c11 c12 c13 c14 c15 c16 c17 c18 c19 c20 c21 c22 c23) d_Heavy_weight) := ⟨⟨_, _, (ok_Heavy_weight F_11 T ), B_11, ⟨a_11, i_Heavy_weight, k_11⟩⟩, T.cl_Heavy⟩
 have F_12 := fun_mk (st := s_Parts_weight) l_12 c_12 k_12
 have B_12 := F_12.binds (ps := ["self", "x"]) fun _ _ _ _ _ _ us hl => match us, hl with | [_, _], _ => rfl
 have OM_Parts_weight : OwnM (PySem.Challenge.rw_cratefit_k27_rows_refused).prog w K mg base 3 ((cL c0 c1 c2 c3 c4 c5 c6 c7 c8 c9 c10 c11 c12 c13 c14 c15 c16 c17 c18 c19 c20 c21 c22 c23) "Parts") "weight" ["self", "x"] (spD K (cL c0 c1 c2 c3 c4 c5 c6 c7 c8 c9 c10 c11 c12 c13 c14 c15 c16 c17 c18 c19 c20 c21 c22 c23) d_Parts_weight) := ⟨⟨_, _, (ok_Parts_weight F_12 T ), B_12, ⟨a_12, i_Parts_weight, k_12⟩⟩, T.cl_Parts⟩
 have F_13 := fun_mk (st := s_Matched_weight) l_13 c_13 k_13
 have B_13 := F_13.binds (ps := ["self", "x"]) fun _ _ _ _ _ _ us hl => match us, hl with | [_, _], _ => rfl
 have OM_Matched_weight : OwnM (PySem.Challenge.rw_cratefit_k27_rows_refused).prog w K mg base 3 ((cL c0 c1 c2 c3 c4 c5 c6 c7 c8 c9 c10 c11 c12 c13 c14 c15 c16 c17 c18 c19 c20 c21 c22 c23) "Matched") "weight" ["self", "x"] (spD K (cL c0 c1 c2 c3 c4 c5 c6 c7 c8 c9 c10 c11 c12 c13 c14 c15 c16 c17 c18 c19 c20 c21 c22 c23) d_Matched_weight) := ⟨⟨_, _, (ok_Matched_weight F_13 T ), B_13, ⟨a_13, i_Matched_weight, k_13⟩⟩, T.cl_Matched⟩
 have F_14 := fun_mk (st := s_Weighing_weigh) l_14 c_14 k_14
 have B_14 := F_14.binds (ps := ["self", "x"]) fun _ _ _ _ _ _ us hl => match us, hl with | [_, _], _ => rfl
 have F_15 := fun_mk (st := s_Nested_weight) l_15 c_15 k_15
 have B_15 := F_15.binds (ps := ["self", "x"]) fun _ _ _ _ _ _ us hl => match us, hl with | [_, _], _ => rfl
 have RR_Weighing_weigh_Nested_weight := okr_Weighing_weigh_Nested_weight (P := (PySem.Challenge.rw_cratefit_k27_rows_refused).prog) (w := w) (base := base) T F_14 B_14 F_15 B_15 ⟨a_14, i_Weighing_weigh, k_14⟩ ⟨fm_Floors_weigh, i_Weighing_weigh, k_14⟩ ⟨fm_Heavy_weigh, i_Weighing_weigh, k_14⟩ ⟨fm_Parts_weigh, i_Weighing_weigh, k_14⟩ ⟨fm_Matched_weigh, i_Weighing_weigh, k_14⟩ ⟨fm_Nested_weigh, i_Weighing_weigh, k_14⟩ ⟨a_15, i_Nested_weight, k_15⟩ O_7 OM_Weighing_weight OM_Floors_weight OM_Heavy_weight OM_Parts_weight OM_Matched_weight 8
 have OM_Weighing_weigh : OwnM (PySem.Challenge.rw_cratefit_k27_rows_refused).prog w K mg base 23 ((cL c0 c1 c2 c3 c4 c5 c6 c7 c8 c9 c10 c11 c12 c13 c14 c15 c16 c17 c18 c19 c20 c21 c22 c23) "Weighing") "weigh" ["self", "x"] (spD K (cL c0 c1 c2 c3 c4 c5 c6 c7 c8 c9 c10 c11 c12 c13 c14 c15 c16 c17 c18 c19 c20 c21 c22 c23) (d_Weighing_weigh 8)) := ⟨⟨_, _, RR_Weighing_weigh_Nested_weight.1, B_14, ⟨a_14, i_Weighing_weigh, k_14⟩⟩, T.cl_Weighing⟩
 have OM_Floors_weigh : OwnM (PySem.Challenge.rw_cratefit_k27_rows_refused).prog w K mg base 23 ((cL c0 c1 c2 c3 c4 c5 c6 c7 c8 c9 c10 c11 c12 c13 c14 c15 c16 c17 c18 c19 c20 c21 c22 c23) "Floors") "weigh" ["self", "x"] (spD K (cL c0 c1 c2 c3 c4 c5 c6 c7 c8 c9 c10 c11 c12 c13 c14 c15 c16 c17 c18 c19 c20 c21 c22 c23) (d_Weighing_weigh 8)) := ⟨⟨_, _, RR_Weighing_weigh_Nested_weight.1, B_14, ⟨fm_Floors_weigh, i_Weighing_weigh, k_14⟩⟩, T.cl_Floors⟩
 have OM_Heavy_weigh : OwnM (PySem.Challenge.rw_cratefit_k27_rows_refused).prog w K mg base 23 ((cL c0 c1 c2 c3 c4 c5 c6 c7 c8 c9 c10 c11 c12 c13 c14 c15 c16 c17 c18 c19 c20 c21 c22 c23) "Heavy") "weigh" ["self", "x"] (spD K (cL c0 c1 c2 c3 c4 c5 c6 c7 c8 c9 c10 c11 c12 c13 c14 c15 c16 c17 c18 c19 c20 c21 c22 c23) (d_Weighing_weigh 8)) := ⟨⟨_, _, RR_Weighing_weigh_Nested_weight.1, B_14, ⟨fm_Heavy_weigh, i_Weighing_weigh, k_14⟩⟩, T.cl_Heavy⟩
 have OM_Parts_weigh : OwnM (PySem.Challenge.rw_cratefit_k27_rows_refused).prog w K mg base 23 ((cL c0 c1 c2 c3 c4 c5 c6 c7 c8 c9 c10 c11 c12 c13 c14 c15 c16 c17 c18 c19 c20 c21 c22 c23) "Parts") "weigh" ["self", "x"] (spD K (cL c0 c1 c2 c3 c4 c5 c6 c7 c8 c9 c10 c11 c12 c13 c14 c15 c16 c17 c18 c19 c20 c21 c22 c23) (d_Weighing_weigh 8)) := ⟨⟨_, _, RR_Weighing_weigh_Nested_weight.1, B_14, ⟨fm_Parts_weigh, i_Weighing_weigh, k_14⟩⟩, T.cl_Parts⟩
 have OM_Matched_weigh : OwnM (PySem.Challenge.rw_cratefit_k27_rows_refused).prog w K mg base 23 ((cL c0 c1 c2 c3 c4 c5 c6 c7 c8 c9 c10 c11 c12 c13 c14 c15 c16 c17 c18 c19 c20 c21 c22 c23) "Matched") "weigh" ["self", "x"] (spD K (cL c0 c1 c2 c3 c4 c5 c6 c7 c8 c9 c10 c11 c12 c13 c14 c15 c16 c17 c18 c19 c20 c21 c22 c23) (d_Weighing_weigh 8)) := ⟨⟨_, _, RR_Weighing_weigh_Nested_weight.1, B_14, ⟨fm_Matched_weigh, i_Weighing_weigh, k_14⟩⟩, T.cl_Matched⟩
 have OM_Nested_weigh : OwnM (PySem.Challenge.rw_cratefit_k27_rows_refused).prog w K mg base 23 ((cL c0 c1 c2 c3 c4 c5 c6 c7 c8 c9 c10 c11 c12 c13 c14 c15 c16 c17 c18 c19 c20 c21 c22 c23) "Nested") "weigh" ["self", "x"] (spD K (cL c0 c1 c2 c3 c4 c5 c6 c7 c8 c9 c10 c11 c12 c13 c14 c15 c16 c17 c18 c19 c20 c21 c22 c23) (d_Weighing_weigh 8)) := ⟨⟨_, _, RR_Weighing_weigh_Nested_weight.1, B_14, ⟨fm_Nested_weigh, i_Weighing_weigh, k_14⟩⟩, T.cl_Nested⟩
 have OM_Nested_weight : OwnM (PySem.Challenge.rw_cratefit_k27_rows_refused).prog w K mg base 23 ((cL c0 c1 c2 c3 c4 c5 c6 c7 c8 c9 c10 c11 c12 c13 c14 c15 c16 c17 c18 c19 c20 c21 c22 c23) "Nested") "weight" ["self", "x"] (spD K (cL c0 c1 c2 c3 c4 c5 c6 c7 c8 c9 c10 c11 c12 c13 c14 c15 c16 c17 c18 c19 c20 c21 c22 c23) (d_Nested_weight 8)) := ⟨⟨_, _, RR_Weighing_weigh_Nested_weight.2, B_15, ⟨a_15, i_Nested_weight, k_15⟩⟩, T.cl_Nested⟩
 have F_16 := fun_mk (st := s_Weighing_whole) l_16 c_16 k_16
 have B_16 := F_16.binds (ps := ["self"]) fun _ _ _ _ _ _ us hl => match us, hl with | [_], _ => rfl
 have OM_Weighing_whole : OwnM (PySem.Challenge.rw_cratefit_k27_rows_refused).prog w K mg base 25 ((cL c0 c1 c2 c3 c4 c5 c6 c7 c8 c9 c10 c11 c12 c13 c14 c15 c16 c17 c18 c19 c20 c21 c22 c23) "Weighing") "whole" ["self"] (spD K (cL c0 c1 c2 c3 c4 c5 c6 c7 c8 c9 c10 c11 c12 c13 c14 c15 c16 c17 c18 c19 c20 c21 c22 c23) d_Weighing_whole) := ⟨⟨_, _, (ok_Weighing_whole F_16 T OM_Weighing_weigh OM_Floors_weigh OM_Heavy_weigh OM_Parts_weigh OM_Matched_weigh OM_Nested_weigh), B_16, ⟨a_16, i_Weighing_whole, k_16⟩⟩, T.cl_Weighing⟩
 have OM_Floors_whole : OwnM (PySem.Challenge.rw_cratefit_k27_rows_refused).prog w K mg base 25 ((cL c0 c1 c2 c3 c4 c5 c6 c7 c8 c9 c10 c11 c12 c13 c14 c15 c16 c17 c18 c19 c20 c21 c22 c23) "Floors") "whole" ["self"] (spD K (cL c0 c1 c2 c3 c4 c5 c6 c7 c8 c9 c10 c11 c12 c13 c14 c15 c16 c17 c18 c19 c20 c21 c22 c23) d_Weighing_whole) := ⟨⟨_, _, (ok_Weighing_whole F_16 T OM_Weighing_weigh OM_Floors_weigh OM_Heavy_weigh OM_Parts_weigh OM_Matched_weigh OM_Nested_weigh), B_16, ⟨fm_Floors_whole, i_Weighing_whole, k_16⟩⟩, T.cl_Floors⟩
 have OM_Heavy_whole : OwnM (PySem.Challenge.rw_cratefit_k27_rows_refused).prog w K mg base 25 ((cL c0 c1 c2 c3 c4 c5 c6 c7 c8 c9 c10 c11 c12 c13 c14 c15 c16 c17 c18 c19 c20 c21 c22 c23) "Heavy") "whole" ["self"] (spD K (cL c0 c1 c2 c3 c4 c5 c6 c7 c8 c9 c10 c11 c12 c13 c14 c15 c16 c17 c18 c19 c20 c21 c22 c23) d_Weighing_whole) := ⟨⟨_, _, (ok_Weighing_whole F_16 T OM_Weighing_weigh OM_Floors_weigh OM_Heavy_weigh OM_Parts_weigh OM_Matched_weigh OM_Nested_weigh), B_16, ⟨fm_Heavy_whole, i_Weighing_whole, k_16⟩⟩, T.cl_Heavy⟩
 have OM_Parts_whole : OwnM (PySem.Challenge.rw_cratefit_k27_rows_refused).prog w K mg base 25 ((cL c0 c1 c2 c3 c4 c5 c6 c7 c8 c9 c10 c11 c12 c13 c14 c15 c16 c17 c18 c19 c20 c21 c22 c23) "Parts") "whole" ["self"] (spD K (cL c0 c1 c2 c3 c4 c5 c6 c7 c8 c9 c10 c11 c12 c13 c14 c15 c16 c17 c18 c19 c20 c21 c22 c23) d_Weighing_whole) := ⟨⟨_, _, (ok_Weighing_whole F_16 T OM_Weighing_weigh OM_Floors_weigh OM_Heavy_weigh OM_Parts_weigh OM_Matched_weigh OM_Nested_weigh), B_16, ⟨fm_Parts_whole, i_Weighing_whole, k_16⟩⟩, T.cl_Parts⟩
 have OM_Matched_whole : OwnM (PySem.Challenge.rw_cratefit_k27_rows_refused).prog w K mg base 25 ((cL c0 c1 c2 c3 c4 c5 c6 c7 c8 c9 c10 c11 c12 c13 c14 c15 c16 c17 c18 c19 c20 c21 c22 c23) "Matched") "whole" ["self"] (spD K (cL c0 c1 c2 c3 c4 c5 c6 c7 c8 c9 c10 c11 c12 c13 c14 c15 c16 c17 c18 c19 c20 c21 c22 c23) d_Weighing_whole) := ⟨⟨_, _, (ok_Weighing_whole F_16 T OM_Weighing_weigh OM_Floors_weigh OM_Heavy_weigh OM_Parts_weigh OM_Matched_weigh OM_Nested_weigh), B_16, ⟨fm_Matched_whole, i_Weighing_whole, k_16⟩⟩, T.cl_Matched⟩
 have OM_Nested_whole : OwnM (PySem.Challenge.rw_cratefit_k27_rows_refused).prog w K mg base 25 ((cL c0 c1 c2 c3 c4 c5 c6 c7 c8 c9 c10 c11 c12 c13 c14 c15 c16 c17 c18 c19 c20 c21 c22 c23) "Nested") "whole" ["self"] (spD K (cL c0 c1 c2 c3 c4 c5 c6 c7 c8 c9 c10 c11 c12 c13 c14 c15 c16 c17 c18 c19 c20 c21 c22 c23) d_Weighing_whole) := ⟨⟨_, _, (ok_Weighing_whole F_16 T OM_Weighing_weigh OM_Floors_weigh OM_Heavy_weigh OM_Parts_weigh OM_Matched_weigh OM_Nested_weigh), B_16, ⟨fm_Nested_whole, i_Weighing_whole, k_16⟩⟩, T.cl_Nested⟩
 have F_17 := fun_mk (st := s_made_stepped) l_17 c_17 k_17
 have B_17 := F_17.binds (ps := ["side", "word", "step"]) fun _ _ _ _ _ _ us hl => match us, hl with | [_, _, _], _ => rfl
 have O_17 : Own (PySem.Challenge.rw_cratefit_k27_rows_refused).prog w K mg base 7 "made_stepped" ["side", "word", "step"] (spD K (cL c0 c1 c2 c3 c4 c5 c6 c7 c8 c9 c10 c11 c12 c13 c14 c15 c16 c17 c18 c19 c20 c21 c22 c23) d_made_stepped) := ⟨_, _, ok_made_stepped F_17 T O_8 N_Floors N_Heavy N_Parts N_Matched, B_17, k_17, PySem.W.mg_of X G a_17⟩
 have F_18 := fun_mk (st := s_made_nested) l_18 c_18 k_18
 have B_18 := F_18.binds (ps := ["side", "row", "other"]) fun _ _ _ _ _ _ us hl => match us, hl with | [_, _, _], _ => rfl
 have F_19 := fun_mk (st := s_made_weighing) l_19 c_19 k_19
 have B_19 := F_19.binds (ps := ["side", "row"]) fun _ _ _ _ _ _ us hl => match us, hl with | [_, _], _ => rfl
 have RR_made_nested_made_weighing := okr_made_nested_made_weighing (P := (PySem.Challenge.rw_cratefit_k27_rows_refused).prog) (w := w) (base := base) T F_18 B_18 k_18 (PySem.W.mg_of X G a_18) F_19 B_19 k_19 (PySem.W.mg_of X G a_19) OM_Weighing_whole OM_Floors_whole OM_Heavy_whole OM_Parts_whole OM_Matched_whole OM_Nested_whole N_Nested O_17 N_Weighing 8
 have O_18 : Own (PySem.Challenge.rw_cratefit_k27_rows_refused).prog w K mg base 43 "made_nested" ["side", "row", "other"] (spD K (cL c0 c1 c2 c3 c4 c5 c6 c7 c8 c9 c10 c11 c12 c13 c14 c15 c16 c17 c18 c19 c20 c21 c22 c23) (d_made_nested 8)) := ⟨_, _, RR_made_nested_made_weighing.1, B_18, k_18, PySem.W.mg_of X G a_18⟩
 have O_19 : Own (PySem.Challenge.rw_cratefit_k27_rows_refused).prog w K mg base 43 "made_weighing" ["side", "row"] (spD K (cL c0 c1 c2 c3 c4 c5 c6 c7 c8 c9 c10 c11 c12 c13 c14 c15 c16 c17 c18 c19 c20 c21 c22 c23) (d_made_weighing 8)) := ⟨_, _, RR_made_nested_made_weighing.2, B_19, k_19, PySem.W.mg_of X G a_19⟩
 have F_20 := fun_mk (st := s_l_cell_at) l_20 c_20 k_20
 have B_20 := F_20.binds (ps := ["_law_script", "_law_k"]) fun _ _ _ _ _ _ us hl => match us, hl with | [_, _], _ => rfl
 have O_20 : Own (PySem.Challenge.rw_cratefit_k27_rows_refused).prog w K mg base 3 "_law_cell_at" ["_law_script", "_law_k"] (spD K (cL c0 c1 c2 c3 c4 c5 c6 c7 c8 c9 c10 c11 c12 c13 c14 c15 c16 c17 c18 c19 c20 c21 c22 c23) d_l_cell_at) := ⟨_, _, ok_l_cell_at F_20 T , B_20, k_20, PySem.W.mg_of X G a_20⟩
 have F_21 := fun_mk (st := s_l_side) l_21 c_21 k_21
 have B_21 := F_21.binds (ps := ["_law_cell"]) fun _ _ _ _ _ _ us hl => match us, hl with | [_], _ => rfl
 have O_21 : Own (PySem.Challenge.rw_cratefit_k27_rows_refused).prog w K mg base 3 "_law_side" ["_law_cell"] (spD K (cL c0 c1 c2 c3 c4 c5 c6 c7 c8 c9 c10 c11 c12 c13 c14 c15 c16 c17 c18 c19 c20 c21 c22 c23) d_l_side) := ⟨_, _, ok_l_side F_21 T , B_21, k_21, PySem.W.mg_of X G a_21⟩
 have F_22 := fun_mk (st := s_l_most) l_22 c_22 k_22
 have B_22 := F_22.binds (ps := ["_law_word", "_law_side_here"]) fun _ _ _ _ _ _ us hl => match us, hl with | [_, _], _ => rfl
 have O_22 : Own (PySem.Challenge.rw_cratefit_k27_rows_refused).prog w K mg base 3 "_law_most" ["_law_word", "_law_side_here"] (spD K (cL c0 c1 c2 c3 c4 c5 c6 c7 c8 c9 c10 c11 c12 c13 c14 c15 c16 c17 c18 c19 c20 c21 c22 c23) d_l_most) := ⟨_, _, ok_l_most F_22 T , B_22, k_22, PySem.W.mg_of X G a_22⟩
 have F_23 := fun_mk (st := s_l_good) l_23 c_23 k_23
 have B_23 := F_23.binds (ps := ["_law_cell", "_law_side_here"]) fun _ _ _ _ _ _ us hl => match us, hl with | [_, _], _ => rfl
 have O_23 : Own (PySem.Challenge.rw_cratefit_k27_rows_refused).prog w K mg base 5 "_law_good" ["_law_cell", "_law_side_here"] (spD K (cL c0 c1 c2 c3 c4 c5 c6 c7 c8 c9 c10 c11 c12 c13 c14 c15 c16 c17 c18 c19 c20 c21 c22 c23) d_l_good) := ⟨_, _, ok_l_good F_23 T O_22, B_23, k_23, PySem.W.mg_of X G a_23⟩
 have F_24 := fun_mk (st := s_l_bad) l_24 c_24 k_24
 have B_24 := F_24.binds (ps := ["_law_cell", "_law_side_here"]) fun _ _ _ _ _ _ us hl => match us, hl with | [_, _], _ => rfl
 have O_24 : Own (PySem.Challenge.rw_cratefit_k27_rows_refused).prog w K mg base 5 "_law_bad" ["_law_cell", "_law_side_here"] (spD K (cL c0 c1 c2 c3 c4 c5 c6 c7 c8 c9 c10 c11 c12 c13 c14 c15 c16 c17 c18 c19 c20 c21 c22 c23) d_l_bad) := ⟨_, _, ok_l_bad F_24 T O_22, B_24, k_24, PySem.W.mg_of X G a_24⟩
 have F_25 := fun_mk (st := s_l_set) l_25 c_25 k_25
 have B_25 := F_25.binds (ps := ["_law_row", "_law_other", "_law_way", "_law_first"]) fun _ _ _ _ _ _ us hl => match us, hl with | [_, _, _, _], _ => rfl
 have O_25 : Own (PySem.Challenge.rw_cratefit_k27_rows_refused).prog w K mg base 3 "_law_set" ["_law_row", "_law_other", "_law_way", "_law_first"] (spD K (cL c0 c1 c2 c3 c4 c5 c6 c7 c8 c9 c10 c11 c12 c13 c14 c15 c16 c17 c18 c19 c20 c21 c22 c23) d_l_set) := ⟨_, _, ok_l_set F_25 T , B_25, k_25, PySem.W.mg_of X G a_25⟩
 have F_26 := fun_mk (st := s_l_kinds) l_26 c_26 k_26
 have B_26 := F_26.binds (ps := ["_law_e"]) fun _ _ _ _ _ _ us hl => match us, hl with | [_], _ => rfl
 have O_26 : OwnW (PySem.Challenge.rw_cratefit_k27_rows_refused).prog w K mg base 3 "_law_kinds" ["_law_e"] (spD K (cL c0 c1 c2 c3 c4 c5 c6 c7 c8 c9 c10 c11 c12 c13 c14 c15 c16 c17 c18 c19 c20 c21 c22 c23) d_l_kinds) := ⟨_, _, ok_l_kinds F_26 T , B_26, k_26, PySem.W.mg_of X G a_26⟩
 have F_27 := fun_mk (st := s_l_refused) l_27 c_27 k_27
 have B_27 := F_27.binds (ps := ["_law_side_here", "_law_row"]) fun _ _ _ _ _ _ us hl => match us, hl with | [_, _], _ => rfl
 have O_27 : Own (PySem.Challenge.rw_cratefit_k27_rows_refused).prog w K mg base 45 "_law_refused" ["_law_side_here", "_law_row"] (spD K (cL c0 c1 c2 c3 c4 c5 c6 c7 c8 c9 c10 c11 c12 c13 c14 c15 c16 c17 c18 c19 c20 c21 c22 c23) d_l_refused) := ⟨_, _, ok_l_refused F_27 T O_19 O_26, B_27, k_27, PySem.W.mg_of X G a_27⟩
 have F_28 := fun_mk (st := s_Weighing_named) l_28 c_28 k_28
 have B_28 := F_28.binds (ps := ["self"]) fun _ _ _ _ _ _ us hl => match us, hl with | [_], _ => rfl
 have OM_Weighing_named : OwnM (PySem.Challenge.rw_cratefit_k27_rows_refused).prog w K mg base 3 ((cL c0 c1 c2 c3 c4 c5 c6 c7 c8 c9 c10 c11 c12 c13 c14 c15 c16 c17 c18 c19 c20 c21 c22 c23) "Weighing") "named" ["self"] (spD K (cL c0 c1 c2 c3 c4 c5 c6 c7 c8 c9 c10 c11 c12 c13 c14 c15 c16 c17 c18 c19 c20 c21 c22 c23) d_Weighing_named) := ⟨⟨_, _, (ok_Weighing_named F_28 T ), B_28, ⟨a_28, i_Weighing_named, k_28⟩⟩, T.cl_Weighing⟩
 have F_29 := fun_mk (st := s_Floors_named) l_29 c_29 k_29
 have B_29 := F_29.binds (ps := ["self"]) fun _ _ _ _ _ _ us hl => match us, hl with | [_], _ => rfl
 have OM_Floors_named : OwnM (PySem.Challenge.rw_cratefit_k27_rows_refused).prog w K mg base 3 ((cL c0 c1 c2 c3 c4 c5 c6 c7 c8 c9 c10 c11 c12 c13 c14 c15 c16 c17 c18 c19 c20 c21 c22 c23) "Floors") "named" ["self"] (spD K (cL c0 c1 c2 c3 c4 c5 c6 c7 c8 c9 c10 c11 c12 c13 c14 c15 c16 c17 c18 c19 c20 c21 c22 c23) d_Floors_named) := ⟨⟨_, _, (ok_Floors_named F_29 T ), B_29, ⟨a_29, i_Floors_named, k_29⟩⟩, T.cl_Floors⟩
 have F_30 := fun_mk (st := s_Heavy_named) l_30 c_30 k_30
 have B_30 := F_30.binds (ps := ["self"]) fun _ _ _ _ _ _ us hl => match us, hl with | [_], _ => rfl
 have OM_Heavy_named : OwnM (PySem.Challenge.rw_cratefit_k27_rows_refused).prog w K mg base 3 ((cL c0 c1 c2 c3 c4 c5 c6 c7 c8 c9 c10 c11 c12 c13 c14 c15 c16 c17 c18 c19 c20 c21 c22 c23) "Heavy") "named" ["self"] (spD K (cL c0 c1 c2 c3 c4 c5 c6 c7 c8 c9 c10 c11 c12 c13 c14 c15 c16 c17 c18 c19 c20 c21 c22 c23) d_Heavy_named) := ⟨⟨_, _, (ok_Heavy_named F_30 T ), B_30, ⟨a_30, i_Heavy_named, k_30⟩⟩, T.cl_Heavy⟩
 have F_31 := fun_mk (st := s_Parts_named) l_31 c_31 k_31
 have B_31 := F_31.binds (ps := ["self"]) fun _ _ _ _ _ _ us hl => match us, hl with | [_], _ => rfl
 have OM_Parts_named : OwnM (PySem.Challenge.rw_cratefit_k27_rows_refused).prog w K mg base 3 ((cL c0 c1 c2 c3 c4 c5 c6 c7 c8 c9 c10 c11 c12 c13 c14 c15 c16 c17 c18 c19 c20 c21 c22 c23) "Parts") "named" ["self"] (spD K (cL c0 c1 c2 c3 c4 c5 c6 c7 c8 c9 c10 c11 c12 c13 c14 c15 c16 c17 c18 c19 c20 c21 c22 c23) d_Parts_named) := ⟨⟨_, _, (ok_Parts_named F_31 T ), B_31, ⟨a_31, i_Parts_named, k_31⟩⟩, T.cl_Parts⟩
 have F_32 := fun_mk (st := s_Matched_named) l_32 c_32 k_32
 have B_32 := F_32.binds (ps := ["self"]) fun _ _ _ _ _ _ us hl => match us, hl with | [_], _ => rfl
 have OM_Matched_named : OwnM (PySem.Challenge.rw_cratefit_k27_rows_refused).prog w K mg base 3 ((cL c0 c1 c2 c3 c4 c5 c6 c7 c8 c9 c10 c11 c12 c13 c14 c15 c16 c17 c18 c19 c20 c21 c22 c23) "Matched") "named" ["self"] (spD K (cL c0 c1 c2 c3 c4 c5 c6 c7 c8 c9 c10 c11 c12 c13 c14 c15 c16 c17 c18 c19 c20 c21 c22 c23) d_Matched_named) := ⟨⟨_, _, (ok_Matched_named F_32 T ), B_32, ⟨a_32, i_Matched_named, k_32⟩⟩, T.cl_Matched⟩
 have F_33 := fun_mk (st := s_Nested_named) l_33 c_33 k_33
 have B_33 := F_33.binds (ps := ["self"]) fun _ _ _ _ _ _ us hl => match us, hl with | [_], _ => rfl
 have RR_Nested_named := okr_Nested_named (P := (PySem.Challenge.rw_cratefit_k27_rows_refused).prog) (w := w) (base := base) T F_33 B_33 ⟨a_33, i_Nested_named, k_33⟩ OM_Weighing_named OM_Floors_named OM_Heavy_named OM_Parts_named OM_Matched_named 8
 have OM_Nested_named : OwnM (PySem.Challenge.rw_cratefit_k27_rows_refused).prog w K mg base 21 ((cL c0 c1 c2 c3 c4 c5 c6 c7 c8 c9 c10 c11 c12 c13 c14 c15 c16 c17 c18 c19 c20 c21 c22 c23) "Nested") "named" ["self"] (spD K (cL c0 c1 c2 c3 c4 c5 c6 c7 c8 c9 c10 c11 c12 c13 c14 c15 c16 c17 c18 c19 c20 c21 c22 c23) (d_Nested_named 8)) := ⟨⟨_, _, RR_Nested_named, B_33, ⟨a_33, i_Nested_named, k_33⟩⟩, T.cl_Nested⟩
 have F_34 := fun_mk (st := s_l_taken) l_34 c_34 k_34
 have B_34 := F_34.binds (ps := ["_law_side_here", "_law_row"]) fun _ _ _ _ _ _ us hl => match us, hl with | [_, _], _ => rfl
 have O_34 : Own (PySem.Challenge.rw_cratefit_k27_rows_refused).prog w K mg base 45 "_law_taken" ["_law_side_here", "_law_row"] (spD K (cL c0 c1 c2 c3 c4 c5 c6 c7 c8 c9 c10 c11 c12 c13 c14 c15 c16 c17 c18 c19 c20 c21 c22 c23) d_l_taken) := ⟨_, _, ok_l_taken F_34 T O_19 OM_Weighing_named OM_Floors_named OM_Heavy_named OM_Parts_named OM_Matched_named OM_Nested_named, B_34, k_34, PySem.W.mg_of X G a_34⟩
 have F_35 := fun_mk (st := s_law) l_35 c_35 k_35
 exact ok_law F_35 T O_21 O_20 O_23 O_24 O_34 O_25 O_27 O_19 OM_Weighing_whole OM_Floors_whole OM_Heavy_whole OM_Parts_whole OM_Matched_whole OM_Nested_whole
end Law
namespace Law
open PySem L2 PyProof.Rows
theorem walk {q : Program} {loose : List Str} {XP : (Str → Option Value) → Heap → Prop} {YP : World → Heap → Prop} {d : DefRec} {K : Params → PySem.W.Frag} (hdf : d.params.defaults = []) (hY : ∀ (w : World) (h : Heap), YP w h → (K w.params).In h)
  (F : ∀ (w : World) (mg : Str → Option Value) (fa : Addr) (h : Heap), (K w.params).In h → h.Ns mainGlobals mg → mg d.name = some (.ref fa) →
   ∃ fd : FuncData, (∀ (s : Shared) (u : Value), BindsTo s fd ⟨[u], []⟩ [("_law_script", u)]) ∧ ∃ c : Str → Addr, ∀ base : Heap, (K w.params).In base → base.Ns mainGlobals mg → FnOk (PySem.Challenge.rw_cratefit_k27_rows_refused).prog w (K w.params) mg base (CXe (PySem.Challenge.rw_cratefit_k27_rows_refused).prog w) 47 fa fd ["_law_script"] (sp_law (K w.params) c)) :
  PySem.W.WalkO q loose XP YP (PySem.Challenge.rw_cratefit_k27_rows_refused).row.toRowW d [] (fun f vs => PySem.call f vs) := by
 refine L2.walk_ofB (l := PySem.Challenge.rw_cratefit_k27_rows_refused) (n := 63) (k := 47) (x := "_law_script") (K := K) (CX := fun w => CXe (PySem.Challenge.rw_cratefit_k27_rows_refused).prog w) (sp := fun w vs H Q E => ∀ c, sp_law (K w.params) c vs H Q E) rfl (by decide) hdf ⟨rfl, by decide, by decide⟩ hY (fun w mg fa h KX G hm => ?_) (fun w H a ns h1 h2 h3 h4 c => ⟨a, ns, rfl, .of h4 h3, h2, h1, fun _ => rfl⟩) fun w H s e s' z => noCXe H s e s' z
 obtain ⟨fd, hb, c, hF⟩ := F w mg fa h KX G hm
 exact ⟨fd, hb, fun base kb nb => (hF base kb nb).imp fun vs H Q E z => z c⟩
end Law
namespace PySem.W.Fast
def tw433710730596072480:=0
def tw16539505835188299808:=0
def tw9804047197434346528:=0
def tw15768327915728503904:=0
def tw13702703216348101728:=0
def tw11188044719051455616:=0
def tw6580145861736233088:=0
def tw6553254431923960960:=0
def tw10552849137052638400:=0
def tw12982717251559951616:=0
def tw9090336971873527040:=0
def tw8615498799894258976:=0
def tw9201821156256477504:=0
def tw12710830164696400256:=0
def tw1249446726836127104:=0
def tw14360247721816274304:=0
def tw4609531021165745568:=0
def tw3199943743173810592:=0
def tw10572002029389471264:=0
def tw3787188493308615200:=0
def tw2243204263466711616:=0
def tw15860687800770008704:=0
def tw15099070105181262464:=0
def tw8454340609420086016:=0
def tw11191048965431678720:=0
def tw9680225322325442304:=0
def tw4541817262401591393:=0
def tw1698701769640944769:=0
def tw13196504872607211777:=0
def tw2934615494758144289:=0
def tw8024013320337712449:=0
def tw5610446653752510817:=0
def tw5220105528731376001:=0
def tw9059202076504153473:=0
def tw14768436845982774657:=0
def tw14590303218792936897:=0
def tw8962551524008274401:=0
def tw12700272760586059233:=0
def tw16116805417038044673:=0
def tw10476427169671922209:=0
def tw15630428804007860801:=0
def tw11555928932573003329:=0
def tw2223633205060488833:=0
def tw14664718192802719425:=0
def tw11210351299806139073:=0
def tw4607965832831142625:=0
def tw15848534438281286401:=0
def tw17399563448653644545:=0
def tw8395299695860594497:=0
def tw4095044840863378241:=0
def tw3909056890892048257:=0
def tw141980895721776065:=0
def tw6615379413287050242:=0
def tw5373229531813359618:=0
def tw4394742574631177218:=0
def tw13711215494821341186:=0
def tw4750788073388237858:=0
def tw16969844097351782498:=0
def tw8239612599895561314:=0
def tw15256311643418597474:=0
def tw4493639865612584034:=0
def tw11069997203614032002:=0
def tw7689453901122148546:=0
def tw17405274308140570850:=0
def tw2764715976139999522:=0
def tw1495346761673350466:=0
def tw9477497352178670946:=0
def tw8109152732028410210:=0
def tw2941322223521958466:=0
def tw4032035204435846722:=0
def tw12594411044181114466:=0
def tw11247121340273940098:=0
def tw11974387993712430754:=0
def tw4544950273260602018:=0
def tw9857276182249063074:=0
def tw3713668670629328642:=0
def tw5871781686971826946:=0
def tw10608337739471007618:=0
def tw3741292505101262818:=0
def tw13540001480419930211:=0
def tw2369430915389223043:=0
def tw7199391174179874979:=0
def tw15183127806586924227:=0
def tw16074663306511768771:=0
def tw16027502088587610339:=0
def tw1121023600716940547:=0
def tw14935224630303513859:=0
def tw16997638280019795331:=0
def tw10687234325471028611:=0
def tw9971689066891465283:=0
def tw8036323865897857603:=0
def tw7304037715031676547:=0
def tw4708714202289352355:=0
def tw11697327719554335523:=0
def tw17694696524132327267:=0
def tw7497782290260902851:=0
def tw17820009359693785059:=0
def tw7495035155942169604:=0
def tw1655717039813830660:=0
def tw11053867831028336772:=0
def tw4667258751218331812:=0
def tw14682117368871009444:=0
def tw16767992348059142372:=0
def tw696207977054402820:=0
def tw14025597853889723780:=0
def tw5692315436730444228:=0
def tw5595049029929045572:=0
def tw1102289161310760548:=0
def tw12504766715995575940:=0
def tw18149819218057126692:=0
def tw12414418374216811364:=0
def tw12106080854939875172:=0
def tw7946382022569608068:=0
def tw12583681472028827556:=0
def tw2120198632584710084:=0
def tw17479857307372482500:=0
def tw17752779729492867012:=0
def tw5136510903404048356:=0
def tw13499864204060524549:=0
def tw166296544097458245:=0
def tw9198599654936133797:=0
def tw672750328365384933:=0
def tw5311463766506190117:=0
def tw15420284504471371109:=0
def tw7224831720677542277:=0
def tw12194692739869040101:=0
def tw9088767669389455845:=0
def tw3617235153729488421:=0
def tw2341018417243937317:=0
def tw1369197279085164101:=0
def tw686877951335037541:=0
def tw8618095238896578181:=0
def tw13891920356968168101:=0
def tw484627370311554757:=0
def tw13514159022635883269:=0
def tw2393265408659835653:=0
def tw10925334320401147717:=0
def tw3994284767960473445:=0
def tw1674055954930207621:=0
def tw13117260559982141349:=0
def tw11585214802672272293:=0
def tw296542817689644005:=0
def tw8362515386939176966:=0
def tw1674089793961219078:=0
def tw17141544520391702566:=0
def tw694001541176285222:=0
def tw6004752828780754982:=0
def tw2341014360536199238:=0
def tw11449575353132448870:=0
def tw1803217762767002758:=0
def tw1995162189318248582:=0
def tw2983768651894173862:=0
def tw14777338584567704774:=0
def tw9504426272156678406:=0
def tw8632401342444993830:=0
def tw827348706510015782:=0
def tw7842985630507996518:=0
def tw16467584113670637926:=0
def tw2262435152157151654:=0
def tw16369947720754007590:=0
def tw7655201224807429670:=0
def tw17611231756244779590:=0
def tw4285036204627377798:=0
def tw12900542233062054598:=0
def tw2387546201198597894:=0
def tw3423042582206789414:=0
def tw12536300744325262182:=0
def tw13544998345729392711:=0
def tw14312491486447835303:=0
def tw4050110495763373255:=0
def tw9956065425028946151:=0
def tw10266720921538887975:=0
def tw7921517987852034343:=0
def tw6462412893994570055:=0
def tw13482971698807819751:=0
def tw18369673929936711207:=0
def tw1673644103727957543:=0
def tw13533207101965727303:=0
def tw4053698511685947015:=0
def tw16183051931082036903:=0
def tw2949141452574192295:=0
def tw7800761529939627719:=0
def tw5799672480694355655:=0
def tw10460630219659037415:=0
def tw2237808917165360903:=0
def tw15224950657761465095:=0
def tw5603455345906922247:=0
def tw5095045864160702279:=0
def tw14386244138367884103:=0
def tw2651130014630222663:=0
def tw5127303093038581607:=0
def tw10265728218324185991:=0
def tw1155998639539423175:=0
def tw12308273943381085127:=0
def tw12337614797509394375:=0
def tw9770246449803244519:=0
def tw10996864039126452199:=0
def tw10765410231571046375:=0
def tw249181062551298023:=0
def tw113017885750925512:=0
def tw10060222212944548072:=0
def tw4523933543813205256:=0
def tw14231038974112638216:=0
def tw16242342148856703368:=0
def tw15267034772139601352:=0
def tw17258526470603930088:=0
def tw795330725434332648:=0
def tw14093865139267675720:=0
def tw2005412967232258728:=0
def tw8738514421131645608:=0
def tw14875826738735739720:=0
def tw10042981721731498984:=0
def tw1712431338255781864:=0
def tw10603934744313490473:=0
def tw2957372599992183849:=0
def tw4745958998969631817:=0
def tw17667435615958975561:=0
def tw15286146788708018313:=0
def tw14153269907228650729:=0
def tw9941604037874955529:=0
def tw775679317848410377:=0
def tw3716480522444928297:=0
def tw7547821333659790697:=0
def tw1148917312575023561:=0
def tw15031635029716339177:=0
def tw2147689631224392201:=0
def tw15051353785108906537:=0
def tw8760818434809627209:=0
def tw17548183355952804425:=0
def tw14672792008386058121:=0
def tw12502112333935524841:=0
def tw816378905008809066:=0
def tw18444951629156612266:=0
def tw3540481231999156426:=0
def tw15828692079134491850:=0
def tw12748923908431298794:=0
def tw6066900344369289450:=0
def tw14144937290925677898:=0
def tw17807995509546164586:=0
def tw14183332648590257610:=0
def tw457911323769123370:=0
def tw8570282000416192106:=0
def tw15893373846082081418:=0
def tw8515264093871179434:=0
def tw11795418488379890410:=0
def tw779488289507343082:=0
def tw4449071460374826826:=0
def tw10715952073632279402:=0
def tw17015003669686277994:=0
def tw6329073902465811434:=0
def tw8984779240164805739:=0
def tw8535522032182971595:=0
def tw9425347488554330347:=0
def tw10663214063629338987:=0
def tw8057235649355853163:=0
def tw14190944922600293803:=0
def tw9773757075000256171:=0
def tw18094048211302100715:=0
def tw4755721507246623467:=0
def tw9160941680616496907:=0
def tw15559190426453859115:=0
def tw3783643234786125643:=0
def tw14878667577038692203:=0
def tw4675891185117771627:=0
def tw16499567530103002059:=0
def tw7194346191272742924:=0
def tw1055763911954498604:=0
def tw7581042841966797900:=0
def tw8165655207317907564:=0
def tw8453352207400959116:=0
def tw17290229074081605836:=0
def tw5987142055115653420:=0
def tw8291962617533020492:=0
def tw18015301485199903052:=0
def tw8728407597758829900:=0
def tw891260985365204332:=0
def tw4660290544716143020:=0
def tw3936527187399286252:=0
def tw8061512230839320172:=0
def tw11115029164216880748:=0
def tw2538213139748575884:=0
def tw9550179659185576588:=0
def tw13067828244075094764:=0
def tw12072277946619055916:=0
def tw3334390696465090380:=0
def tw6855026884054537068:=0
def tw16138234593790887788:=0
def tw15280556727357982668:=0
def tw4039013140443771884:=0
def tw12128358612281694221:=0
def tw15284771544349460589:=0
def tw15418822790102289549:=0
def tw9039073211516002541:=0
def tw13825481700625108237:=0
def tw2975013849973454125:=0
def tw8674606495721588013:=0
def tw16653167711541806413:=0
def tw1473380816039655821:=0
def tw4130642792313677229:=0
def tw1709910284140007117:=0
def tw9775337762451578573:=0
def tw243637687574573805:=0
def tw14026978028803188525:=0
def tw9667259750141398861:=0
def tw15572953366379322317:=0
def tw7188383193801525262:=0
def tw7062936321752305678:=0
def tw10281489341948071022:=0
def tw10826475022032114926:=0
def tw12999094406116700398:=0
def tw8188030386553609486:=0
def tw12472609258178629902:=0
def tw16623582810215030062:=0
def tw245187336281301358:=0
def tw12022553605624448398:=0
def tw9535986499198423470:=0
def tw5631708572002304430:=0
def tw13681366905661695502:=0
def tw2957870974114849294:=0
def tw8941746892121274894:=0
def tw5228220891720532622:=0
def tw1625688112503632558:=0
def tw6971455718903760558:=0
def tw17520470215707290510:=0
def tw4411095275693536142:=0
def tw4055550106672396238:=0
def tw8855452951626862671:=0
def tw11685964752545777775:=0
def tw8907610034619398255:=0
def tw11437897408173439247:=0
def tw1369569896730245391:=0
def tw2219956815622152463:=0
def tw16934621326206980463:=0
def tw12212985059692304751:=0
def tw4859786294093790607:=0
def tw10098875202239754703:=0
def tw14737940226627015151:=0
def tw13441569390979376687:=0
def tw2391972219645444687:=0
def tw11284593875370731119:=0
def tw1304902154474529455:=0
def tw5019799352475136751:=0
def tw14197665042789101327:=0
def tw7407361770949561135:=0
def tw3885110712047674159:=0
def tw18175123318728892303:=0
def tw11968250069941628879:=0
def tw662867010629783535:=0
def tw16430134176478171119:=0
def tw18118441177825425424:=0
def tw6693535736980982800:=0
def tw13651366959150483536:=0
def tw5259348121496596624:=0
def tw8778476391606619408:=0
def tw15084585752915434768:=0
def tw14545101281964530000:=0
def tw9824459576016133456:=0
def tw7554760870207389040:=0
def tw12157018995280793968:=0
def tw8129064597301571984:=0
def tw15302732953353746960:=0
def tw3514782495653875216:=0
def tw11423206874311648816:=0
def tw6016290082952000112:=0
def tw978950811389539056:=0
def tw8121638141021661008:=0
def tw4069199566821552976:=0
def tw10689571336360371088:=0
def tw13232827751485598704:=0
def tw8085630607807168529:=0
def tw16891866291210629201:=0
def tw1672844815274583185:=0
def tw8202792296206208177:=0
def tw15738378154552114353:=0
def tw11078397083304851665:=0
def tw8391255797691978993:=0
def tw6463571007058763025:=0
def tw3551192294444626257:=0
def tw18160810236993328465:=0
def tw13747082237205776753:=0
def tw5714255425133292913:=0
def tw16194664711743548913:=0
def tw7111265813529825905:=0
def tw15029308776621838961:=0
def tw1844975760531068561:=0
def tw1512327087121255089:=0
def tw18754717514846993:=0
def tw15825118454595302193:=0
def tw3778699526135367473:=0
def tw8105705571846312817:=0
def tw11939065236440512369:=0
def tw6365164263127125969:=0
def tw6972728963986469938:=0
def tw11711663389324383282:=0
def tw3452240415147130962:=0
def tw4905684924679844946:=0
def tw7066419085483967602:=0
def tw6532979902258005138:=0
def tw13826791956823639218:=0
def tw9741010351584653522:=0
def tw5182798692868158706:=0
def tw14829859214437645682:=0
def tw5301142212527646098:=0
def tw5279287677490462130:=0
def tw2273548267231318450:=0
def tw11440440363182436786:=0
def tw13291157716139363794:=0
def tw9436268802286670322:=0
def tw17984222303536644658:=0
def tw6991326958353126962:=0
def tw4562886195911018066:=0
def tw16248922458748655186:=0
def tw10691780108398936754:=0
def tw14701823706453629650:=0
def tw3025367798124245714:=0
def tw4654216122251185938:=0
def tw821900305368014610:=0
def tw14455352243092352786:=0
def tw11331600748731240338:=0
def tw3765657313517462418:=0
def tw12779550807624191922:=0
def tw6149383904867342355:=0
def tw5794600224005774419:=0
def tw10532087786544623699:=0
def tw11290132419723490419:=0
def tw1161513220547082483:=0
def tw9159037972781366579:=0
def tw11419438991142688115:=0
def tw5318689523324573043:=0
def tw15166136640296298931:=0
def tw11947754591026593267:=0
def tw3878168861245809139:=0
def tw7514279863731931731:=0
def tw7063990711184322163:=0
def tw4158686773770447475:=0
def tw12459879156750536339:=0
def tw18299832339071885011:=0
def tw8783035859004717875:=0
def tw4971773201226820660:=0
def tw4652027848970290356:=0
def tw7268637488984589652:=0
def tw9867843052372232596:=0
def tw11779060349492432276:=0
def tw17775269107760849332:=0
def tw18140055897494045140:=0
def tw4367030742927813108:=0
def tw5170636017797337716:=0
def tw16060143788832408180:=0
def tw14924806636624774836:=0
def tw5791553503170939572:=0
def tw15041721466292907796:=0
def tw9766003446415113076:=0
def tw7460919979135540148:=0
def tw5170896951628769397:=0
def tw14398252770730241173:=0
def tw12844515980379969813:=0
def tw6711721563406249333:=0
def tw5889305872871552405:=0
def tw1128064957103896981:=0
def tw4774132962326431221:=0
def tw15126145229981725269:=0
def tw9706405749011588789:=0
def tw5149032595553414901:=0
def tw14624495360463121141:=0
def tw14622425873405402869:=0
def tw14763018285970460437:=0
def tw13246687565815991157:=0
def tw14203201573944171477:=0
def tw13577228076860558358:=0
def tw16269747023624561686:=0
def tw7741457385392294998:=0
def tw7775226082232986806:=0
def tw9283130206687992182:=0
def tw10709648882236603798:=0
def tw3872900748908569046:=0
def tw6253835397331851734:=0
def tw12662586982805709398:=0
def tw16444451540822284950:=0
def tw7653381848702019254:=0
def tw15901341450550690518:=0
def tw4539835210630955766:=0
def tw3178901974396588854:=0
def tw16867371833702548310:=0
def tw8157128936797917014:=0
def tw17382625365450833782:=0
def tw16041142494540089206:=0
def tw14421808202512785302:=0
def tw5011228263026346966:=0
def tw12342063789256303606:=0
def tw9907154062595191895:=0
def tw17130705035527228567:=0
def tw11139590163489086647:=0
def tw8785944398957784407:=0
def tw16680233839493207415:=0
def tw6808537451933975991:=0
def tw9956607713801373207:=0
def tw12413682786447118935:=0
def tw2190768030776443479:=0
def tw7396848441434900087:=0
def tw7806306517112501879:=0
def tw13027921691637843735:=0
def tw3555384922438844183:=0
def tw18392083802365889367:=0
def tw17274621629116717911:=0
def tw7030629811143417719:=0
def tw7709533430775422839:=0
def tw6845200316877080600:=0
def tw15909929833132040248:=0
def tw12088385776969002040:=0
def tw6116788627105070136:=0
def tw11073946828423992408:=0
def tw93941234524495960:=0
def tw14278004994649031832:=0
def tw17089810186921749720:=0
def tw878674247607702744:=0
def tw14716038424069497048:=0
def tw15276772099042115832:=0
def tw17784804058868862296:=0
def tw8520818700933953880:=0
def tw10878519897231619448:=0
def tw9170998859770157496:=0
def tw13526659301712365016:=0
def tw3460013653540769336:=0
def tw7027142595439883864:=0
def tw9503856405051875096:=0
def tw11160094072936899352:=0
def tw11591659162252327736:=0
def tw13897728265517479832:=0
def tw727481130691602424:=0
def tw12742801396869464056:=0
def tw10579128654960730201:=0
def tw11976900647650045017:=0
def tw2561795672640558201:=0
def tw5450046979009814745:=0
def tw5152117996913284313:=0
def tw9134159128701878553:=0
def tw9013061228001171737:=0
def tw6493741830052339001:=0
def tw4779553525190866297:=0
def tw3765436809449400729:=0
def tw15070552233227884953:=0
def tw18124049105384006073:=0
def tw2282953571399761497:=0
def tw4338969916354716281:=0
def tw4113485815268287257:=0
def tw8527946706673576729:=0
def tw9200525118452835225:=0
def tw4482482623334152121:=0
def tw16956012584373526521:=0
def tw5005835812569829402:=0
def tw7617229839896288346:=0
def tw7068664530985259098:=0
def tw7288493956388296890:=0
def tw14795859807821156538:=0
def tw15411089602197144826:=0
def tw11892879260248827162:=0
def tw17723616880707040602:=0
def tw10596630977065897306:=0
def tw13420362432643259802:=0
def tw10217073568359664058:=0
def tw16779189177818418618:=0
def tw6503445183745235450:=0
def tw3358482851385505306:=0
def tw7643145575131326042:=0
def tw626834042765166330:=0
def tw5901973271141711642:=0
def tw3425062523660664634:=0
def tw1182478571265751898:=0
def tw2336393537871687739:=0
def tw5965813567593491579:=0
def tw17968670804264188027:=0
def tw4870955451306586299:=0
def tw251695939099062491:=0
def tw1680814785035390235:=0
def tw14863187120834635035:=0
def tw1178392100373342587:=0
def tw12362753965622923675:=0
def tw3590878466088869275:=0
def tw3643689941625820635:=0
def tw8930950075082072539:=0
def tw4014923324030348763:=0
def tw8536259618658870811:=0
def tw4467645109216949819:=0
def tw4349560422059280987:=0
def tw9934909251658695291:=0
def tw8657126399303253691:=0
def tw2521586925172309723:=0
def tw3164979382708289371:=0
def tw12267330107454548827:=0
def tw10839391850244992859:=0
def tw8730720835698309019:=0
def tw1317864894965398459:=0
def tw8286488142809489339:=0
def tw13130535727044191195:=0
def tw14335585468690727899:=0
def tw943852199369386012:=0
def tw1834011740865194044:=0
def tw15212256162829362300:=0
def tw17212577476692756700:=0
def tw4035194456705186044:=0
def tw2650527318505074940:=0
def tw3760786904096462172:=0
def tw17615770698304180604:=0
def tw2408281984685200764:=0
def tw11552563374915873180:=0
def tw12908792176872255900:=0
def tw2203716696529509852:=0
def tw7689144936075319772:=0
def tw4752141632919400956:=0
def tw3444393409323384348:=0
def tw1817480316147588732:=0
def tw11886764464506032924:=0
def tw976610350306451260:=0
def tw14399934210335349596:=0
def tw8030808351703941020:=0
def tw3181320535947210684:=0
def tw7901602564898926588:=0
def tw3473504115010101309:=0
def tw9694576616133232733:=0
def tw171664695760438397:=0
def tw16875917900227786973:=0
def tw10805356815604243741:=0
def tw3071182025735655773:=0
def tw13554079393513482749:=0
def tw15261921321869353469:=0
def tw2814260446291841693:=0
def tw5940997170271855293:=0
def tw4158011615311059677:=0
def tw5547173716179558141:=0
def tw11409664795912196989:=0
def tw15391258147301985181:=0
def tw915358739124192189:=0
def tw5399681450894239677:=0
def tw8638971890106993694:=0
def tw12293178038655106174:=0
def tw4395869592632750238:=0
def tw14315181681225879742:=0
def tw14343710341335554270:=0
def tw8395444376577018142:=0
def tw13386445605053332798:=0
def tw1794427267740912990:=0
def tw11470276595810086238:=0
def tw1011956124159711646:=0
def tw639366969292003774:=0
def tw14764035183443251742:=0
def tw14479975764331893310:=0
def tw6586916330949214814:=0
def tw169719368014989054:=0
def tw6261950578462998302:=0
def tw14624318240381782910:=0
def tw6605188494946968510:=0
def tw16815270446848791518:=0
def tw14744859192842678238:=0
def tw1917351486612518975:=0
def tw13620661450074724447:=0
def tw15783706656973146207:=0
def tw13820401650247867583:=0
def tw11992409327622905055:=0
def tw1507453085778593023:=0
def tw15273370473599829311:=0
def tw11857962306912639423:=0
def tw15326255013123743263:=0
def tw3227180273029234239:=0
def tw4702741071511419455:=0
def tw7394422172422340159:=0
def tw6500283559772557919:=0
def tw795403566096849535:=0
def tw7877288753862567551:=0
def tw4162701933628771999:=0
def tw10980955017645777599:=0
def tw2403036686780014303:=0
def tw827584574925255423:=0
def tw1958089379584196479:=0
def tw17674863279838775199:=0
def tw9273524640720006047:=0
def tw5201566502692133823:=0
end PySem.W.Fast
open PySem.W
set_option maxRecDepth 100000 in
set_option maxHeartbeats 0 in
theorem PySem.Challenge.cw_cratefit_k27_rows_refused_holds : PySem.Challenge.rw_cratefit_k27_rows_refused.Holds := by
 w_on; o_law; k_head; (case hw => w_witness2)
 k_fill
 refine Law.walk rfl (fun w h Y => PySem.W.kIn_of Y) ?F
 case F =>
  intro w mg fa h KX G hmg
  refine' Law.all_mk KX G hmg ?a_is_whole ?l_is_whole ?c_is_whole ?k_is_whole ?a_check_side ?l_check_side ?c_check_side ?k_check_side ?a_check_step ?l_check_step ?c_check_step ?k_check_step ?a_Weighing_weight ?i_Weighing_weight ?l_Weighing_weight ?c_Weighing_weight ?k_Weighing_weight ?a_Floors_weight ?i_Floors_weight ?l_Floors_weight ?c_Floors_weight ?k_Floors_weight ?a_Heavy_weight ?i_Heavy_weight ?l_Heavy_weight ?c_Heavy_weight ?k_Heavy_weight ?a_Parts_weight ?i_Parts_weight ?l_Parts_weight ?c_Parts_weight ?k_Parts_weight ?a_Matched_weight ?i_Matched_weight ?l_Matched_weight ?c_Matched_weight ?k_Matched_weight ?a_Weighing_weigh ?i_Weighing_weigh ?l_Weighing_weigh ?c_Weighing_weigh ?k_Weighing_weigh ?a_Nested_weight ?i_Nested_weight ?l_Nested_weight ?c_Nested_weight ?k_Nested_weight ?a_Weighing_whole ?i_Weighing_whole ?l_Weighing_whole ?c_Weighing_whole ?k_Weighing_whole ?a_made_stepped ?l_made_stepped ?c_made_stepped ?k_made_stepped ?a_made_nested ?l_made_nested ?c_made_nested ?k_made_nested ?a_made_weighing ?l_made_weighing ?c_made_weighing ?k_made_weighing ?a_l_cell_at ?l_l_cell_at ?c_l_cell_at ?k_l_cell_at ?a_l_side ?l_l_side ?c_l_side ?k_l_side ?a_l_most ?l_l_most ?c_l_most ?k_l_most ?a_l_good ?l_l_good ?c_l_good ?k_l_good ?a_l_bad ?l_l_bad ?c_l_bad ?k_l_bad ?a_l_set ?l_l_set ?c_l_set ?k_l_set ?a_l_kinds ?l_l_kinds ?c_l_kinds ?k_l_kinds ?a_l_refused ?l_l_refused ?c_l_refused ?k_l_refused ?a_Weighing_named ?i_Weighing_named ?l_Weighing_named ?c_Weighing_named ?k_Weighing_named ?a_Floors_named ?i_Floors_named ?l_Floors_named ?c_Floors_named ?k_Floors_named ?a_Heavy_named ?i_Heavy_named ?l_Heavy_named ?c_Heavy_named ?k_Heavy_named ?a_Parts_named ?i_Parts_named ?l_Parts_named ?c_Parts_named ?k_Parts_named ?a_Matched_named ?i_Matched_named ?l_Matched_named ?c_Matched_named ?k_Matched_named ?a_Nested_named ?i_Nested_named ?l_Nested_named ?c_Nested_named ?k_Nested_named ?a_l_taken ?l_l_taken ?c_l_taken ?k_l_taken ?a_law ?l_law ?c_law ?k_law ?a_Weighing___init__ ?i_Weighing___init__ ?l_Weighing___init__ ?c_Weighing___init__ ?k_Weighing___init__ ?a_Floors___init__ ?i_Floors___init__ ?l_Floors___init__ ?c_Floors___init__ ?k_Floors___init__ ?a_Heavy___init__ ?i_Heavy___init__ ?l_Heavy___init__ ?c_Heavy___init__ ?k_Heavy___init__ ?a_Matched___init__ ?i_Matched___init__ ?l_Matched___init__ ?c_Matched___init__ ?k_Matched___init__ ?a_Nested___init__ ?i_Nested___init__ ?l_Nested___init__ ?c_Nested___init__ ?k_Nested___init__ ?a_Parts___init__ ?i_Parts___init__ ?l_Parts___init__ ?c_Parts___init__ ?k_Parts___init__ ?fm_Floors_weigh ?fm_Heavy_weigh ?fm_Parts_weigh ?fm_Matched_weigh ?fm_Nested_weigh ?fm_Floors_whole ?fm_Heavy_whole ?fm_Parts_whole ?fm_Matched_whole ?fm_Nested_whole ?mk_Floors ?kc_Floors ?mk_Heavy ?kc_Heavy ?mk_Matched ?kc_Matched ?mk_Nested ?kc_Nested ?mk_Parts ?kc_Parts ?mk_Weighing ?kc_Weighing ?ga_Weighing ?rd_Weighing ?fc_Weighing ?hh_Weighing ?z_ValueError ?z_bool ?z_divmod ?z_int ?z_isinstance ?z_len ?z_tuple ?m_BadPacking ?m_BadPlan ?m_BadSide ?m_BadTurn ?m_CrateError ?m_Floors ?m_Full ?m_Hangs ?m_Heavy ?m_Matched ?m_Nested ?m_NoDeed ?m_NoDrawing ?m_NoPicker ?m_NoSheet ?m_NoText ?m_NoWare ?m_NoWeighing ?m_NothingDone ?m_Parts ?m_Ring ?m_TooMany ?m_TooWide ?m_Weighing ?x_BadSide ?x_NoWeighing ?g_MOST_PARTS ?t_exc_BadSide1 ?t_exc_BadSide2 ?t_exc_BadSide3 ?t_exc_BadSide4 ?t_exc_BadSide5 ?t_exc_NoWeighing1 ?t_exc_NoWeighing2 ?t_exc_NoWeighing3 ?t_exc_NoWeighing4 ?t_exc_NoWeighing5 ?t_any_BadSide_0 ?t_any_BadSide_1 ?t_one_BadSide_ValueError ?t_exo_BadSide_CrateError ?t_exo_BadSide_NoWeighing ?t_any_NoWeighing_0 ?t_any_NoWeighing_1 ?t_one_NoWeighing_ValueError ?t_exo_NoWeighing_CrateError ?t_exo_NoWeighing_NoWeighing ?cl_Weighing1 ?cl_Weighing2 ?cl_Weighing3 ?cl_Weighing4 ?n_Weighing_side ?cl_Floors1 ?cl_Floors2 ?cl_Floors3 ?cl_Floors4 ?n_Floors_side ?n_Floors_step ?cl_Heavy1 ?cl_Heavy2 ?cl_Heavy3 ?cl_Heavy4 ?n_Heavy_side ?n_Heavy_step ?cl_Parts1 ?cl_Parts2 ?cl_Parts3 ?cl_Parts4 ?n_Parts_side ?n_Parts_step ?cl_Matched1 ?cl_Matched2 ?cl_Matched3 ?cl_Matched4 ?n_Matched_side ?n_Matched_step ?cl_Nested1 ?cl_Nested2 ?cl_Nested3 ?cl_Nested4 ?n_Nested_side ?n_Nested_inner ?n_Nested_outer
  (case m_Floors => k_is)
  (case m_Heavy => k_is)
  (case m_Matched => k_is)
  (case m_Nested => k_is)
  (case m_Parts => k_is)
  (case m_Weighing => k_is)
  (case a_is_whole => k_is)
  (case l_is_whole => k_is)
  (case c_is_whole => k_is)
  (case k_is_whole => k_is)
  (case a_check_side => k_is)
  (case l_check_side => k_is)
  (case c_check_side => k_is)
  (case k_check_side => k_is)
  (case a_check_step => k_is)
  (case l_check_step => k_is)
  (case c_check_step => k_is)
  (case k_check_step => k_is)
  (case a_Weighing_weight => k_is)
  (case i_Weighing_weight => k_is)
  (case l_Weighing_weight => k_is)
  (case c_Weighing_weight => k_is)
  (case k_Weighing_weight => k_is)
  (case a_Floors_weight => k_is)
  (case i_Floors_weight => k_is)
  (case l_Floors_weight => k_is)
  (case c_Floors_weight => k_is)
  (case k_Floors_weight => k_is)
  (case a_Heavy_weight => k_is)
  (case i_Heavy_weight => k_is)
  (case l_Heavy_weight => k_is)
  (case c_Heavy_weight => k_is)
  (case k_Heavy_weight => k_is)
  (case a_Parts_weight => k_is)
  (case i_Parts_weight => k_is)
  (case l_Parts_weight => k_is)
  (case c_Parts_weight => k_is)
  (case k_Parts_weight => k_is)
  (case a_Matched_weight => k_is)
  (case i_Matched_weight => k_is)
  (case l_Matched_weight => k_is)
  (case c_Matched_weight => k_is)
  (case k_Matched_weight => k_is)
  (case a_Weighing_weigh => k_is)
  (case i_Weighing_weigh => k_is)
  (case l_Weighing_weigh => k_is)
  (case c_Weighing_weigh => k_is)
  (case k_Weighing_weigh => k_is)
  (case a_Nested_weight => k_is)
  (case i_Nested_weight => k_is)
  (case l_Nested_weight => k_is)
  (case c_Nested_weight => k_is)
  (case k_Nested_weight => k_is)
  (case a_Weighing_whole => k_is)
  (case i_Weighing_whole => k_is)
  (case l_Weighing_whole => k_is)
  (case c_Weighing_whole => k_is)
  (case k_Weighing_whole => k_is)
  (case a_made_stepped => k_is)
  (case l_made_stepped => k_is)
  (case c_made_stepped => k_is)
  (case k_made_stepped => k_is)
  (case a_made_nested => k_is)
  (case l_made_nested => k_is)
  (case c_made_nested => k_is)
  (case k_made_nested => k_is)
  (case a_made_weighing => k_is)
  (case l_made_weighing => k_is)
  (case c_made_weighing => k_is)
  (case k_made_weighing => k_is)
  (case a_l_cell_at => k_is)
  (case l_l_cell_at => k_is)
  (case c_l_cell_at => k_is)
  (case k_l_cell_at => k_is)
  (case a_l_side => k_is)
  (case l_l_side => k_is)
  (case c_l_side => k_is)
  (case k_l_side => k_is)
  (case a_l_most => k_is)
  (case l_l_most => k_is)
  (case c_l_most => k_is)
  (case k_l_most => k_is)
  (case a_l_good => k_is)
  (case l_l_good => k_is)
  (case c_l_good => k_is)
  (case k_l_good => k_is)
  (case a_l_bad => k_is)
  (case l_l_bad => k_is)
  (case c_l_bad => k_is)
  (case k_l_bad => k_is)
  (case a_l_set => k_is)
  (case l_l_set => k_is)
  (case c_l_set => k_is)
  (case k_l_set => k_is)
  (case a_l_kinds => k_is)
  (case l_l_kinds => k_is)
  (case c_l_kinds => k_is)
  (case k_l_kinds => k_is)
  (case a_l_refused => k_is)
  (case l_l_refused => k_is)
  (case c_l_refused => k_is)
  (case k_l_refused => k_is)
  (case a_Weighing_named => k_is)
  (case i_Weighing_named => k_is)
  (case l_Weighing_named => k_is)
  (case c_Weighing_named => k_is)
  (case k_Weighing_named => k_is)
  (case a_Floors_named => k_is)
  (case i_Floors_named => k_is)
  (case l_Floors_named => k_is)
  (case c_Floors_named => k_is)
  (case k_Floors_named => k_is)
  (case a_Heavy_named => k_is)
  (case i_Heavy_named => k_is)
  (case l_Heavy_named => k_is)
  (case c_Heavy_named => k_is)
  (case k_Heavy_named => k_is)
  (case a_Parts_named => k_is)
  (case i_Parts_named => k_is)
  (case l_Parts_named => k_is)
  (case c_Parts_named => k_is)
  (case k_Parts_named => k_is)
  (case a_Matched_named => k_is)
  (case i_Matched_named => k_is)
  (case l_Matched_named => k_is)
  (case c_Matched_named => k_is)
  (case k_Matched_named => k_is)
  (case a_Nested_named => k_is)
  (case i_Nested_named => k_is)
  (case l_Nested_named => k_is)
  (case c_Nested_named => k_is)
  (case k_Nested_named => k_is)
  (case a_l_taken => k_is)
  (case l_l_taken => k_is)
  (case c_l_taken => k_is)
  (case k_l_taken => k_is)
  (case a_law => k_is)
  (case l_law => k_is)
  (case c_law => k_is)
  (case k_law => k_is)
  (case a_Weighing___init__ => k_is)
  (case i_Weighing___init__ => k_is)
  (case l_Weighing___init__ => k_is)
  (case c_Weighing___init__ => k_is)
  (case k_Weighing___init__ => k_is)
  (case a_Floors___init__ => k_is)
  (case i_Floors___init__ => k_is)
  (case l_Floors___init__ => k_is)
  (case c_Floors___init__ => k_is)
  (case k_Floors___init__ => k_is)
  (case a_Heavy___init__ => k_is)
  (case i_Heavy___init__ => k_is)
  (case l_Heavy___init__ => k_is)
  (case c_Heavy___init__ => k_is)
  (case k_Heavy___init__ => k_is)
  (case a_Matched___init__ => k_is)
  (case i_Matched___init__ => k_is)
  (case l_Matched___init__ => k_is)
  (case c_Matched___init__ => k_is)
  (case k_Matched___init__ => k_is)
  (case a_Nested___init__ => k_is)
  (case i_Nested___init__ => k_is)
  (case l_Nested___init__ => k_is)
  (case c_Nested___init__ => k_is)
  (case k_Nested___init__ => k_is)
  (case a_Parts___init__ => k_is)
  (case i_Parts___init__ => k_is)
  (case l_Parts___init__ => k_is)
  (case c_Parts___init__ => k_is)
  (case k_Parts___init__ => k_is)
  (case fm_Floors_weigh => k_is)
  (case fm_Heavy_weigh => k_is)
  (case fm_Parts_weigh => k_is)
  (case fm_Matched_weigh => k_is)
  (case fm_Nested_weigh => k_is)
  (case fm_Floors_whole => k_is)
  (case fm_Heavy_whole => k_is)
  (case fm_Parts_whole => k_is)
  (case fm_Matched_whole => k_is)
  (case fm_Nested_whole => k_is)
  (case mk_Floors => k_is)
  (case kc_Floors => k_is)
  (case mk_Heavy => k_is)
  (case kc_Heavy => k_is)
  (case mk_Matched => k_is)
  (case kc_Matched => k_is)
  (case mk_Nested => k_is)
  (case kc_Nested => k_is)
  (case mk_Parts => k_is)
  (case kc_Parts => k_is)
  (case mk_Weighing => k_is)
  (case kc_Weighing => k_is)
  (case ga_Weighing => k_is)
  (case rd_Weighing => k_is)
  (case fc_Weighing => k_is)
  (case hh_Weighing => k_handed)
  (case z_ValueError => k_is)
  (case z_bool => k_is)
  (case z_divmod => k_is)
  (case z_int => k_is)
  (case z_isinstance => k_is)
  (case z_len => k_is)
  (case z_tuple => k_is)
  (case m_BadPacking => k_is)
  (case m_BadPlan => k_is)
  (case m_BadSide => k_is)
  (case m_BadTurn => k_is)
  (case m_CrateError => k_is)
  (case m_Full => k_is)
  (case m_Hangs => k_is)
  (case m_NoDeed => k_is)
  (case m_NoDrawing => k_is)
  (case m_NoPicker => k_is)
  (case m_NoSheet => k_is)
  (case m_NoText => k_is)
  (case m_NoWare => k_is)
  (case m_NoWeighing => k_is)
  (case m_NothingDone => k_is)
  (case m_Ring => k_is)
  (case m_TooMany => k_is)
  (case m_TooWide => k_is)
  (case x_BadSide => kernel_rfl)
  (case x_NoWeighing => kernel_rfl)
  (case g_MOST_PARTS => k_is)
  (case t_exc_BadSide1 => k_is)
  (case t_exc_BadSide2 => k_is)
  (case t_exc_BadSide3 => k_is)
  (case t_exc_BadSide4 => k_is)
  (case t_exc_BadSide5 => k_is)
  (case t_exc_NoWeighing1 => k_is)
  (case t_exc_NoWeighing2 => k_is)
  (case t_exc_NoWeighing3 => k_is)
  (case t_exc_NoWeighing4 => k_is)
  (case t_exc_NoWeighing5 => k_is)
  (case t_any_BadSide_0 => kit_is)
  (case t_any_BadSide_1 => kit_is)
  (case t_one_BadSide_ValueError => kit_is)
  (case t_exo_BadSide_CrateError => kts_exm)
  (case t_exo_BadSide_NoWeighing => kts_exm)
  (case t_any_NoWeighing_0 => kit_is)
  (case t_any_NoWeighing_1 => kit_is)
  (case t_one_NoWeighing_ValueError => kit_is)
  (case t_exo_NoWeighing_CrateError => kts_exm)
  (case t_exo_NoWeighing_NoWeighing => kts_exm)
  (case cl_Weighing1 => k_is)
  (case cl_Weighing2 => k_is)
  (case cl_Weighing3 => k_is)
  (case cl_Weighing4 => k_is)
  (case n_Weighing_side => k_is)
  (case cl_Floors1 => k_is)
  (case cl_Floors2 => k_is)
  (case cl_Floors3 => k_is)
  (case cl_Floors4 => k_is)
  (case n_Floors_side => k_is)
  (case n_Floors_step => k_is)
  (case cl_Heavy1 => k_is)
  (case cl_Heavy2 => k_is)
  (case cl_Heavy3 => k_is)
  (case cl_Heavy4 => k_is)
  (case n_Heavy_side => k_is)
  (case n_Heavy_step => k_is)
  (case cl_Parts1 => k_is)
  (case cl_Parts2 => k_is)
  (case cl_Parts3 => k_is)
  (case cl_Parts4 => k_is)
  (case n_Parts_side => k_is)
  (case n_Parts_step => k_is)
  (case cl_Matched1 => k_is)
  (case cl_Matched2 => k_is)
  (case cl_Matched3 => k_is)
  (case cl_Matched4 => k_is)
  (case n_Matched_side => k_is)
  (case n_Matched_step => k_is)
  (case cl_Nested1 => k_is)
  (case cl_Nested2 => k_is)
  (case cl_Nested3 => k_is)
  (case cl_Nested4 => k_is)
  (case n_Nested_side => k_is)
  (case n_Nested_inner => k_is)
  (case n_Nested_outer => k_is)
