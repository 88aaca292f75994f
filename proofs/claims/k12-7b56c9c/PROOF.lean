import PyProof.Rows.All
import Wide.All
import OpenK.AllK
import Wide.FinOn
import Lean
import PyProof.EqAt
import PyProof.EqKinds
import PyProof.TupleCall
import PySem.Challenge.RW_cratefit_k12_used_and_mirrored
set_option Elab.async false
set_option linter.all false
set_option maxRecDepth 100000
namespace L2
open PySem PySem.Spec PyProof.Rows
abbrev Key := Sum Int Str
def keyIs : Key → Value → Bool
  | .inl k, v => Value.isInt k v
  | .inr x, v => Value.isStrOf x v
def keyH (w : World) : Key → Int
  | .inl k => hashInt k
  | .inr x => hashStr w x
theorem keyIs_shape : ∀ {k : Key} {v : Value}, keyIs k v = true → (∃ i t, k = Sum.inl i ∧ v = Value.int i t) ∨ (∃ x t, k = Sum.inr x ∧ v = Value.str x t)
  | .inl i, v, h => by
    obtain ⟨t, e⟩ := Value.isInt_shape (k := i) (v := v) h
    exact .inl ⟨i, t, rfl, e⟩
  | .inr x, v, h => by
    obtain ⟨t, e⟩ := Value.isStrOf_shape (x := x) (v := v) h
    exact .inr ⟨x, t, rfl, e⟩
theorem key_ll (a b : Int) : decide ((Sum.inl a : Key) = Sum.inl b) = (a == b) := by
  by_cases e : a = b
  · subst e; simp
  · have h : ¬ (Sum.inl a : Key) = Sum.inl b := fun q => e (Sum.inl.inj q)
    rw [decide_eq_false h]
    exact (beq_eq_false_iff_ne.mpr e).symm
theorem key_rr (a b : Str) : decide ((Sum.inr a : Key) = Sum.inr b) = decide (a = b) := by
  by_cases e : a = b
  · subst e; simp
  · have h : ¬ (Sum.inr a : Key) = Sum.inr b := fun q => e (Sum.inr.inj q)
    rw [decide_eq_false h, decide_eq_false e]
theorem key_lr (a : Int) (b : Str) : decide ((Sum.inl a : Key) = Sum.inr b) = false := decide_eq_false (fun q => nomatch q)
theorem key_rl (a : Str) (b : Int) : decide ((Sum.inr a : Key) = Sum.inl b) = false := decide_eq_false (fun q => nomatch q)
def mixKind (prog : Program) (w : World) : PySem.KeyKind prog w Key where
  is := keyIs
  hash := keyH w
  inj := fun v a b ha hb => by
    rcases keyIs_shape ha with ⟨i, t, rfl, rfl⟩ | ⟨x, t, rfl, rfl⟩
    · rcases keyIs_shape hb with ⟨j, u, rfl, e⟩ | ⟨y, u, rfl, e⟩
      · injection e with e1 _; rw [e1]
      · exact nomatch e
    · rcases keyIs_shape hb with ⟨j, u, rfl, e⟩ | ⟨y, u, rfl, e⟩
      · exact nomatch e
      · injection e with e1 _; rw [e1]
  byValue := fun k v h => by
    rcases keyIs_shape h with ⟨i, t, rfl, rfl⟩ | ⟨x, t, rfl, rfl⟩ <;> rfl
  pyHash := fun hv h => by
    rcases keyIs_shape hv with ⟨i, t, rfl, rfl⟩ | ⟨x, t, rfl, rfl⟩
    · exact wpAny_pyHash_int h
    · exact wpAny_pyHash_str h
  eqBool := fun hu hv h => by
    rcases keyIs_shape hu with ⟨i, t, rfl, rfl⟩ | ⟨x, t, rfl, rfl⟩
    · rcases keyIs_shape hv with ⟨j, u, rfl, rfl⟩ | ⟨y, u, rfl, rfl⟩
      · rw [key_ll] at h; exact wpAny_eqBool_int h
      · rw [key_lr] at h; exact SeqAt.EqAt.int_str i t y u _ _ _ _ h
    · rcases keyIs_shape hv with ⟨j, u, rfl, rfl⟩ | ⟨y, u, rfl, rfl⟩
      · rw [key_rl] at h; exact SeqAt.EqAt.str_int x t j u _ _ _ _ h
      · rw [key_rr] at h; exact wpAny_eqBool_str h
  «strs» := fun k x t v h => by
    rcases keyIs_shape h with ⟨i, u, rfl, e⟩ | ⟨y, u, rfl, e⟩
    · exact nomatch e
    · injection e with e1 _
      subst e1
      cases v <;> rfl
end L2
namespace L2
open PySem PySem.Spec PyProof.Rows
inductive V where
  | non | bl (b : Bool) | int (i : Int) | str (x : Str) | byt (b : Array UInt8) | flt (b : UInt64) | ref (a : Addr) | ty (n : String)
  deriving DecidableEq
def RelV : V → Value → Prop
  | .non, u => u = Value.none
  | .bl b, u => u = Value.bool b
  | .int i, u => ∃ t, u = Value.int i t
  | .str x, u => ∃ t, u = Value.str x t
  | .byt b, u => ∃ t, u = Value.bytes b t
  | .flt b, u => ∃ t, u = Value.float b t
  | .ref a, u => u = Value.ref a
  | .ty n, u => u = Value.type n
abbrev Vals : List V → List Value → Prop := Paired RelV
theorem Vals.length {xs : List V} {us : List Value} (r : Vals xs us) : xs.length = us.length := Paired.length r
theorem Vals.get : ∀ {xs : List V} {us : List Value} {i : Nat} {x : V}, Vals xs us → xs[i]? = some x → ∃ u, us[i]? = some u ∧ RelV x u
  | _, _, _, _, .nil, e => by simp at e
  | _, _, 0, _, .cons r _, e => by simp at e; subst e; exact ⟨_, rfl, r⟩
  | _, _, i + 1, x, .cons _ t, e => by
    obtain ⟨u, h1, h2⟩ := Vals.get (i := i) (x := x) t (by simpa using e)
    exact ⟨u, by simpa using h1, h2⟩
theorem Vals.set {x : V} {u : Value} (r : RelV x u) : ∀ {xs : List V} {us : List Value} (i : Nat), Vals xs us → Vals (xs.set i x) (us.set i u)
  | _, _, _, .nil => .nil
  | _, _, 0, .cons _ t => .cons r t
  | _, _, i + 1, .cons q t => .cons q (Vals.set r i t)
theorem Vals.append : ∀ {xs ys : List V} {us ws : List Value}, Vals xs us → Vals ys ws → Vals (xs ++ ys) (us ++ ws)
  | _, _, _, _, .nil, s => s
  | _, _, _, _, .cons r t, s => .cons r (Vals.append t s)
theorem Vals.take : ∀ {xs : List V} {us : List Value} (n : Nat), Vals xs us → Vals (xs.take n) (us.take n)
  | _, _, 0, _ => .nil
  | _, _, _ + 1, .nil => .nil
  | _, _, n + 1, .cons r t => .cons r (Vals.take n t)
theorem Vals.drop : ∀ {xs : List V} {us : List Value} (n : Nat), Vals xs us → Vals (xs.drop n) (us.drop n)
  | _, _, 0, r => r
  | _, _, _ + 1, .nil => .nil
  | _, _, n + 1, .cons _ t => Vals.drop n t
def RelO : Option V → Option Value → Prop
  | some v, some u => RelV v u
  | none, none => True
  | _, _ => False
def KV {κ : Type} : List (κ × V) → List (κ × Value) → Prop := Paired fun (p : κ × V) (q : κ × Value) => p.1 = q.1 ∧ RelV p.2 q.2
def kV : Key → V
  | .inl i => .int i
  | .inr x => .str x
inductive HO where
  /-- a list -/
  | lst (xs : List V)
  /-- a tuple (never changes) -/
  | tup (xs : List V)
  /-- a dict whose keys are ints and texts; one whose keys are tuples of ints and texts (the empty one is both) -/
  | dK (kvs : List (Key × V)) | dT (kvs : List (List Key × V))
  /-- a set of ints: its members, its size -/
  | set (S : Int → Bool) (n : Nat)
  /-- an instance of the class at C, its dict at dx, its attributes -/
  | ins (C dx : Addr) (fs : List (Str × V))
  /-- the dict of the instance at x -/
  | own (x : Addr)
  /-- the dict of an exception -/
  | xd (fs : List (Str × V))
  /-- a bound method, f of x -/
  | met (f x : Addr)
  /-- a range object lo, lo + 1, .. below hi -/
  | rng (lo hi : Int)
  /-- a thing that is known to the object (the script; a dict while a loop walks it): read, never written while it is so -/
  | frz (o : Obj) (u : HO)
  /-- a code object's table -/
  | tbl (ps : Array Value)
  /-- any other thing, by what is true of its one object (a def of one's own: SetO a S n := HO.ext fun h => ..) -/
  | ext (φ : Heap → Prop)
abbrev Hp := Addr → Option HO
def upd (H : Hp) (a : Addr) (o : HO) : Hp := fun b => if b = a then some o else H b
theorem upd_same {H : Hp} {a : Addr} {o : HO} : upd H a o a = some o := by unfold upd; rw [if_pos rfl]
theorem upd_ne {H : Hp} {a b : Addr} {o : HO} (h : b ≠ a) : upd H a o b = H b := by unfold upd; rw [if_neg h]
theorem ne_of {H : Hp} {a b : Addr} {o u : HO} (h : H a = some o) (h' : H b = some u) (d : o ≠ u) : a ≠ b := by
  intro e; subst e; rw [h] at h'; exact d (Option.some.inj h')
theorem ne_of_none {H : Hp} {a b : Addr} {o : HO} (h : H a = some o) (h' : H b = none) : a ≠ b := by
  intro e; subst e; rw [h] at h'; cases h'
section
variable (P : Program) (w : World)
def ObjOk (H : Hp) (h : Heap) (a : Addr) : HO → Prop
  | .lst xs => xs.length ≤ sizeLine ∧ ∃ (its : List Value) (n : Nat), Vals xs its ∧ h.get? a = some { cls := .type "list", data := .seq its.toArray n }
  | .tup xs => xs.length ≤ sizeLine ∧ ∃ its : List Value, Vals xs its ∧ IsTup h a its.toArray
  | .dK kvs => kvs.length ≤ sizeLine ∧ (a == sysModules) = false ∧ ∃ vs, KV kvs vs ∧ h.DictOf (mixKind P w) a vs
  | .dT kvs => kvs.length ≤ sizeLine ∧ (a == sysModules) = false ∧ ∃ xs : List (List Key × Addr × Value),
      Paired (fun (p : List Key × V) (q : List Key × Addr × Value) => p.1 = q.1 ∧ H q.2.1 = some (.tup (p.1.map kV)) ∧ RelV p.2 q.2.2) kvs xs ∧
      ∃ o es ep, h.get? a = some o ∧ o.ExactDict ∧ o.data = .dict es ep ∧ es.toList = xs.map (entryOfKey (tupleKind (mixKind P w))) ∧ (xs.map (·.1)).Nodup
  | .set S n => h.SetOf (intKind P w) a S n
  | .ins C dx fs => H dx = some (.own a) ∧ fs.length ≤ 1000 ∧ dx ≠ a ∧ h.get? a = some (PySem.W.instObj C dx) ∧
      ∃ mA, h.Ns1 dx mA ∧ (∀ f, RelO (fs.lookup f) (mA f)) ∧ PySem.Within mA (fs.map (·.1))
  | .own _ => ∃ o, h.get? a = some o
  | .xd fs => ∃ mA, h.Ns1 a mA ∧ ∀ f, RelO (fs.lookup f) (mA f)
  | .rng lo hi => ∃ t u v, h.get? a = some { cls := .type "range", data := .fields #[.int lo t, .int hi u, .int 1 v] }
  | .frz o u => h.get? a = some o ∧ ObjOk H h a u
  | .tbl ps => h.get? a = some { cls := .none, data := .fields ps }
  | .met f x => h.get? a = some (PySem.W.methodObj (.ref f) (.ref x))
  | .ext φ => φ h ∧ (∃ o, h.get? a = some o) ∧ ∀ h1 h2 : Heap, φ h1 → (∀ o, h1.get? a = some o → h2.get? a = some o) → φ h2
def HOk (H : Hp) (h : Heap) : Prop := ∀ a o, H a = some o → ObjOk P w H h a o
end
section
variable {P : Program} {w : World} {H H' : Hp} {h h' : Heap} {a : Addr} {o : HO}
theorem ObjOk.lt (x : ObjOk P w H h a o) : a < h.objs.size := by
  cases o with
  | lst xs => obtain ⟨_, _, _, _, e⟩ := x; exact Heap.lt_size e
  | tup xs => obtain ⟨_, _, _, p⟩ := x; exact p.lt
  | dK kvs => obtain ⟨_, _, _, _, o, _, _, e, _⟩ := x; exact Heap.lt_size e
  | dT kvs => obtain ⟨_, _, _, _, o, _, _, e, _⟩ := x; exact Heap.lt_size e
  | set S n => obtain ⟨o, _, _, _, e, _⟩ := x; exact Heap.lt_size e
  | ins C dx fs => obtain ⟨_, _, _, e, _⟩ := x; exact Heap.lt_size e
  | own y => obtain ⟨_, e⟩ := x; exact Heap.lt_size e
  | xd fs => obtain ⟨_, ⟨_, _, _, e, _⟩, _⟩ := x; exact Heap.lt_size e
  | rng lo hi => obtain ⟨_, _, _, e⟩ := x; exact Heap.lt_size e
  | frz ob u => obtain ⟨e, _⟩ := x; exact Heap.lt_size e
  | tbl ps => exact Heap.lt_size (show h.get? a = some _ from x)
  | met f y => exact Heap.lt_size (show h.get? a = some _ from x)
  | ext φ => obtain ⟨_, ⟨_, e⟩, _⟩ := x; exact Heap.lt_size e
theorem Paired.mapP {α β : Type} {F G : α → β → Prop} : ∀ {l₁ : List α} {l₂ : List β}, Paired F l₁ l₂ → (∀ a b, F a b → G a b) → Paired G l₁ l₂
  | _, _, .nil, _ => .nil
  | _, _, .cons r t, f => .cons (f _ _ r) (Paired.mapP t f)
theorem ObjOk.stay (x : ObjOk P w H h a o) (k : ∀ b u, (b = a ∨ H b = some (.own a)) → h.get? b = some u → h'.get? b = some u)
    (ho : ∀ b, H b = some (.own a) → H' b = some (.own a)) (ht : ∀ b xs, H b = some (.tup xs) → H' b = some (.tup xs)) : ObjOk P w H' h' a o := by
  induction o with
  | lst xs => obtain ⟨z, its, n, r, e⟩ := x; exact ⟨z, its, n, r, k _ _ (.inl rfl) e⟩
  | tup xs => obtain ⟨z, its, r, ob, e, c⟩ := x; exact ⟨z, its, r, ob, k _ _ (.inl rfl) e, c⟩
  | dK kvs => obtain ⟨z, y, vs, r, ob, es, ep, e, c⟩ := x; exact ⟨z, y, vs, r, ob, es, ep, k _ _ (.inl rfl) e, c⟩
  | dT kvs =>
    obtain ⟨z, y, xs, r, ob, es, ep, e, c⟩ := x
    exact ⟨z, y, xs, Paired.mapP r fun p q z => ⟨z.1, ht _ _ z.2.1, z.2.2⟩, ob, es, ep, k _ _ (.inl rfl) e, c⟩
  | set S n => obtain ⟨ob, es, ep, t, e, c⟩ := x; exact ⟨ob, es, ep, t, k _ _ (.inl rfl) e, c⟩
  | ins C dx fs =>
    obtain ⟨d, z, ne, e, mA, ⟨od, es, ep, e2, c⟩, r⟩ := x
    exact ⟨ho _ d, z, ne, k _ _ (.inl rfl) e, mA, ⟨od, es, ep, k _ _ (.inr d) e2, c⟩, r⟩
  | own y => obtain ⟨ob, e⟩ := x; exact ⟨ob, k _ _ (.inl rfl) e⟩
  | xd fs => obtain ⟨mA, ⟨od, es, ep, e, c⟩, r⟩ := x; exact ⟨mA, ⟨od, es, ep, k _ _ (.inl rfl) e, c⟩, r⟩
  | rng lo hi => obtain ⟨t, u, v, e⟩ := x; exact ⟨t, u, v, k _ _ (.inl rfl) e⟩
  | frz ob u ih => obtain ⟨e, q⟩ := x; exact ⟨k _ _ (.inl rfl) e, ih q⟩
  | tbl ps =>
    have e : h.get? a = some { cls := .none, data := .fields ps } := x
    show h'.get? a = some { cls := .none, data := .fields ps }
    exact k a _ (.inl rfl) e
  | met f y =>
    have e : h.get? a = some (PySem.W.methodObj (.ref f) (.ref y)) := x
    show h'.get? a = some (PySem.W.methodObj (.ref f) (.ref y))
    exact k a _ (.inl rfl) e
  | ext φ => obtain ⟨p, ⟨o, e⟩, st⟩ := x; exact ⟨st _ _ p fun o q => k _ _ (.inl rfl) q, ⟨o, k _ _ (.inl rfl) e⟩, st⟩
theorem HOk.lt (x : HOk P w H h) (e : H a = some o) : a < h.objs.size := (x a o e).lt
theorem HOk.fresh (x : HOk P w H h) (e : h.objs.size ≤ a) : H a = none := by
  cases q : H a with
  | none => rfl
  | some u => exact absurd (Nat.lt_of_lt_of_le (x.lt q) e) (Nat.lt_irrefl _)
theorem HOk.kept (x : HOk P w H h) (k : ∀ b u, h.get? b = some u → h'.get? b = some u) : HOk P w H h' := fun a o e =>
  (x a o e).stay (fun b u _ q => k b u q) (fun _ q => q) fun _ _ q => q
theorem HOk.laid (x : HOk P w H h) (k : ∀ b u, h.get? b = some u → h'.get? b = some u) (hp : h.objs.size ≤ a) (new : ObjOk P w (upd H a o) h' a o) : HOk P w (upd H a o) h' := fun b u e => by
  have hn := x.fresh hp
  by_cases hb : b = a
  · subst hb; rw [upd_same] at e; cases e; exact new
  · rw [upd_ne hb] at e
    exact (x b u e).stay (fun c v _ q => k c v q) (fun c q => by rw [upd_ne (ne_of_none q hn)]; exact q) fun c xs q => by rw [upd_ne (ne_of_none q hn)]; exact q
end
def Rd (H : Hp) (a : Addr) (u : HO) : Prop := H a = some u ∨ ∃ o, H a = some (.frz o u)
theorem Rd.of {H : Hp} {a : Addr} {u : HO} (h : H a = some u) : Rd H a u := .inl h
theorem Rd.ok {P : Program} {w : World} {H : Hp} {h : Heap} {a : Addr} {u : HO} (r : Rd H a u) (x : HOk P w H h) : ObjOk P w H h a u := by
  rcases r with r | ⟨o, r⟩
  · exact x a u r
  · obtain ⟨_, q⟩ := x a _ r
    exact q
def Mut : Option HO → Prop
  | some (.lst _) => True
  | some (.dK _) => True
  | some (.dT _) => True
  | some (.set _ _) => True
  | some (.ins _ _ _) => True
  | some (.ext _) => True
  | _ => False
section
variable {P : Program} {w : World} {H : Hp} {h h' : Heap} {x e : Addr} {o' : HO}
theorem HOk.write (ok : HOk P w H h) (mu : Mut (H x)) (he : e = x ∨ H e = some (.own x)) (k : ∀ b u, b ≠ e → h.get? b = some u → h'.get? b = some u) (heo : ∃ u, h'.get? e = some u)
    (new : ObjOk P w (upd H x o') h' x o') : HOk P w (upd H x o') h' := fun b u q => by
  have nown : ∀ c y, H c = some (.own y) → c ≠ x := fun c y r z => by subst z; rw [r] at mu; exact mu
  have ntup : ∀ c xs, H c = some (.tup xs) → c ≠ x := fun c xs r z => by subst z; rw [r] at mu; exact mu
  by_cases hb : b = x
  · subst hb; rw [upd_same] at q; cases q; exact new
  · rw [upd_ne hb] at q
    by_cases hbe : b = e
    · have q' : H b = some (.own x) := by
        rcases he with z | z
        · exact absurd (hbe.trans z) hb
        · rw [hbe]; exact z
      rw [q] at q'; cases q'
      obtain ⟨v, hv⟩ := heo
      exact ⟨v, by rw [hbe]; exact hv⟩
    · refine (ok b u q).stay (fun c v hc r => k c v ?_ r) (fun c r => by rw [upd_ne (nown c b r)]; exact r) fun c xs r => by rw [upd_ne (ntup c xs r)]; exact r
      rcases hc with rfl | hc
      · exact hbe
      · rintro rfl
        rcases he with z | z
        · exact nown c b hc z
        · rw [hc] at z; cases z; exact hb rfl
end
structure Un (fs ex : List Addr) (H H' : Hp) (h h' : Heap) : Prop where
  keep : ∀ b o, h.get? b = some o → H b = none → b ∉ fs → b ∉ ex → h'.get? b = some o
  slot : ∀ b o, h.get? b = some o → H b = none → b ∈ fs → b ∉ ex → ∃ sl, h'.get? b = some { o with slots := sl }
  free : ∀ b o, h.get? b = some o → H b = none → b ∉ ex → H' b = none
  there : ∀ b o, h.get? b = some o → b ∉ ex → ∃ o', h'.get? b = some o'
  tups : ∀ b xs, H b = some (.tup xs) → H' b = some (.tup xs)
  frzs : ∀ b o u, H b = some (.frz o u) → H' b = some (.frz o u)
  tbls : ∀ b ps, H b = some (.tbl ps) → ∃ more, H' b = some (.tbl (ps ++ more))
section
variable {fs fs' ex ex' : List Addr} {H H1 H2 : Hp} {h h1 h2 h' : Heap} {a x e : Addr} {o : HO}
theorem Un.any (u : Un fs ex H H1 h h1) {b : Addr} {ob : Obj} (q : h.get? b = some ob) (n : H b = none) (hx : b ∉ ex) : ∃ sl, h1.get? b = some { ob with slots := sl } := by
  by_cases hb : b ∈ fs
  · exact u.slot b ob q n hb hx
  · exact ⟨ob.slots, u.keep b ob q n hb hx⟩
theorem Un.trans (a : Un fs ex H H1 h h1) (b : Un fs ex H1 H2 h1 h2) : Un fs ex H H2 h h2 where
  keep := fun c ob q n hc hx => b.keep c ob (a.keep c ob q n hc hx) (a.free c ob q n hx) hc hx
  slot := fun c ob q n hc hx => by
    obtain ⟨sl, e1⟩ := a.slot c ob q n hc hx
    obtain ⟨sl', e2⟩ := b.slot c _ e1 (a.free c ob q n hx) hc hx
    exact ⟨sl', e2⟩
  free := fun c ob q n hx => by
    obtain ⟨o', e1⟩ := a.there c ob q hx
    exact b.free c o' e1 (a.free c ob q n hx) hx
  there := fun c ob q hx => by
    obtain ⟨o', e1⟩ := a.there c ob q hx
    exact b.there c o' e1 hx
  tups := fun c xs q => b.tups c xs (a.tups c xs q)
  frzs := fun c ob xs q => b.frzs c ob xs (a.frzs c ob xs q)
  tbls := fun c ps q => by
    obtain ⟨m1, e1⟩ := a.tbls c ps q
    obtain ⟨m2, e2⟩ := b.tbls c _ e1
    exact ⟨m1 ++ m2, by rw [e2, Array.append_assoc]⟩
theorem Un.kept (k : ∀ b u, h.get? b = some u → h'.get? b = some u) : Un fs ex H H h h' :=
  ⟨fun b ob q _ _ _ => k b ob q, fun b ob q _ _ _ => ⟨ob.slots, k b ob q⟩, fun _ _ _ n _ => n, fun b ob q _ => ⟨ob, k b ob q⟩, fun _ _ q => q, fun _ _ _ q => q, fun _ ps q => ⟨#[], by rw [q]; simp⟩⟩
theorem Un.refl : Un fs ex H H h h := Un.kept fun _ _ q => q
theorem Un.laid (k : ∀ b u, h.get? b = some u → h'.get? b = some u) (hp : h.objs.size ≤ a) (hn : H a = none) : Un fs ex H (upd H a o) h h' where
  keep := fun b u q _ _ _ => k b u q
  slot := fun b u q _ _ _ => ⟨u.slots, k b u q⟩
  free := fun b u q n _ => by rw [upd_ne (Nat.ne_of_lt (Nat.lt_of_lt_of_le (Heap.lt_size q) hp))]; exact n
  there := fun b u q _ => ⟨u, k b u q⟩
  tups := fun b xs q => by rw [upd_ne (ne_of_none q hn)]; exact q
  frzs := fun b u xs q => by rw [upd_ne (ne_of_none q hn)]; exact q
  tbls := fun b ps q => ⟨#[], by rw [upd_ne (ne_of_none q hn), q]; simp⟩
theorem Un.write (mu : Mut (H x)) (he : e = x ∨ H e = some (.own x)) (k : ∀ b u, b ≠ e → h.get? b = some u → h'.get? b = some u) (heo : ∃ u, h'.get? e = some u) : Un fs ex H (upd H x o) h h' := by
  have hx : ∀ b, H b = none → b ≠ x := fun b n z => by subst z; rw [n] at mu; exact mu
  have hb : ∀ b, H b = none → b ≠ e := fun b n z => by
    subst z
    rcases he with r | r
    · exact hx b n r
    · rw [n] at r; cases r
  have hm : ∀ b u, H b = some u → ¬ Mut (some u) → b ≠ x := fun b u q nm z => by subst z; rw [q] at mu; exact nm mu
  refine ⟨fun b u q n _ _ => k b u (hb b n) q, fun b u q n _ _ => ⟨u.slots, k b u (hb b n) q⟩, fun b u q n _ => by rw [upd_ne (hx b n)]; exact n, fun b u q _ => ?_,
    fun b xs q => by rw [upd_ne (hm b _ q fun z => z)]; exact q, fun b u xs q => by rw [upd_ne (hm b _ q fun z => z)]; exact q, fun b ps q => ⟨#[], by rw [upd_ne (hm b _ q fun z => z), q]; simp⟩⟩
  by_cases hbe : b = e
  · subst hbe; exact heo
  · exact ⟨u, k b u hbe q⟩
theorem Un.mono (u : Un fs ex H H1 h h1) (hs : ∀ b ∈ fs, b ∈ fs') (hx : ∀ b ∈ ex, b ∈ ex') : Un fs' ex' H H1 h h1 :=
  ⟨fun b ob q n hb he => u.keep b ob q n (fun z => hb (hs b z)) fun z => he (hx b z), fun _ _ q n _ he => u.any q n fun z => he (hx _ z), fun b ob q n he => u.free b ob q n fun z => he (hx b z), fun b ob q he => u.there b ob q fun z => he (hx b z), u.tups, u.frzs, u.tbls⟩
end
def trk (h : Heap) (H : Hp) : List Addr := (List.range h.objs.size).filter fun a => (H a).isSome
def hidT (h : Heap) (H : Hp) : Heap := PySem.W.hideAll h (trk h H)
theorem hidT_size (h : Heap) (H : Hp) : (hidT h H).objs.size = h.objs.size := PySem.W.hideAll_size _ _
theorem hidT_get {h : Heap} {H : Hp} {b : Addr} {o : Obj} (e : h.get? b = some o) (n : H b = none) : (hidT h H).get? b = some o :=
  PySem.W.hideAll_get _ e fun hm => by
    have q : (H b).isSome = true := (List.mem_filter.mp hm).2
    rw [n] at q; simp at q
theorem of_hidT {h : Heap} {H : Hp} {b : Addr} {o : Obj} (e : (hidT h H).get? b = some o) : h.get? b = some o ∧ H b = none := by
  have e' : h.get? b = some o := PySem.W.of_hideAll (trk h H) e
  refine ⟨e', ?_⟩
  cases q : H b with
  | none => rfl
  | some x =>
    have hm : b ∈ trk h H := List.mem_filter.mpr ⟨List.mem_range.mpr (Heap.lt_size e'), by simp [q]⟩
    have z : (hidT h H).get? b = none := PySem.W.hideAll_none (trk h H) hm
    rw [z] at e; cases e
def allNews (g h : Heap) (L : Addr) : List (Addr × Obj) := (List.range h.objs.size).filterMap fun a => if a = L ∨ (g.get? a).isSome = true then none else (h.get? a).map fun o => (a, o)
def rest (g h : Heap) (L d : Addr) : List (Addr × Obj) := (allNews g h L).filter fun p => decide (p.1 ≠ d)
end L2
namespace L2
open PySem PySem.Spec PyProof.Rows
structure Mod (K : PySem.W.Frag) (mg : Str → Option Value) (base : Heap) : Prop where
  kin : K.In base
  glob : base.Ns mainGlobals mg
  blt : ∃ mb, base.Ns builtinsNs mb ∧ ∀ x : Str, x ≠ "__name__" → mb x = bootBuiltins x
  nolimit : base.NoLimit
structure Cx where
  prog : Program
  w : World
  K : PySem.W.Frag
  mg : Str → Option Value
  base : Heap
  A : Around
  N : List Str
  s₀ : Shared
  H₀ : Hp
  env : Env
  outer : List Env
  stack : List Env
  ex : List Addr
  fn : Str → Bool
  calm : Bool
  pn : List (Addr × Obj)
  xe : Value → Shared → Prop
def frs (l : List Env) : List Addr := l.filterMap (·.frame)
abbrev Cx.fs (X : Cx) : List Addr := frs X.outer
def Vis (sc : Scope) (x : Str) : Prop := sc.names.lookup x = some .local ∨ sc.names.lookup x = some .cell ∨ sc.names.lookup x = some .free
def Loc (sc : Scope) (x : Str) : Prop := sc.names.lookup x = some .local ∨ sc.names.lookup x = some .cell
def Look (env : Env) (h : Heap) (m : Str → Option Value) (x : Str) (u : Value) : Prop :=
  (env.kindOf x = some .local ∧ m x = some u) ∨ ((env.kindOf x = some .cell ∨ env.kindOf x = some .free) ∧ ∃ c, env.cells.lookup x = some c ∧ h.IsCell c (some u))
structure Cx.Ok (X : Cx) : Prop where
  mod : Mod X.K X.mg X.base
  kind : X.env.scope.kind = .function
  glob : X.env.globals = mainGlobals
  blt : X.env.builtins = builtinsNs
  above : X.s₀.heap.objs.size ≤ X.env.locals
  inj : ∀ x y c, X.env.cells.lookup x = some c → X.env.cells.lookup y = some c → x = y
  has : ∀ x, (X.env.kindOf x = some .cell ∨ X.env.kindOf x = some .free) → ∃ c, X.env.cells.lookup x = some c
  cab : ∀ x c, X.fn x = true → X.env.cells.lookup x = some c → X.s₀.heap.objs.size ≤ c
  hd : X.calm = true → X.A.handled = none
  frames : X.A.frames = some X.stack
  stk : X.stack = X.outer ∨ (X.stack = X.env :: X.outer ∧ X.env.frame = some X.env.locals)
  exf : ∀ b ∈ X.ex, b ≠ X.env.locals ∧ ∀ x c, X.env.cells.lookup x = some c → c ≠ b
  bs : ∀ b o, X.base.get? b = some o → X.s₀.heap.get? b = some o ∧ X.H₀ b = none
  bsz : X.base.objs.size ≤ X.s₀.heap.objs.size
  noex : ∀ b o, X.base.get? b = some o → b ∉ X.ex
  exfs : ∀ b ∈ X.ex, b ∉ X.fs
  funs : X.s₀.heap.FunFrames X.base X.outer
  frf : ∀ b ∈ X.fs, X.H₀ b = none
structure Inv (X : Cx) (pins : List (Addr × Obj)) (σ : List (Option V)) (H : Hp) (s : Shared) : Prop where
  ok : X.Ok
  os : s.os = X.s₀.os
  bare : AllBare s.gens
  base : Un X.fs X.ex X.H₀ H X.s₀.heap s.heap
  loc : ∃ m, s.heap.Ns X.env.locals m ∧ ∀ (i : Nat) (x : Str) (v : V), X.N[i]? = some x → σ[i]? = some (some v) → Vis X.env.scope x → ∃ u, RelV v u ∧ Look X.env s.heap m x u
  cell : ∀ x c, X.env.cells.lookup x = some c → ∃ v, s.heap.IsCell c v
  free : H X.env.locals = none
  freeC : ∀ x c, X.env.cells.lookup x = some c → H c = none
  pin : ∀ p ∈ X.pn ++ pins, s.heap.get? p.1 = some p.2 ∧ H p.1 = none ∧ p.1 ≠ X.env.locals ∧ p.1 ∉ X.fs ∧ ∀ v, p.2.data ≠ .cell v
  hok : HOk X.prog X.w H s.heap
  len : σ.length = X.N.length
section
variable {X : Cx} {pins : List (Addr × Obj)} {σ : List (Option V)} {H H' : Hp} {s : Shared} {h' : Heap}
theorem Cx.Ok.nofr (ok : X.Ok) {b : Addr} {o : Obj} (e : X.base.get? b = some o) : b ∉ X.fs := fun hb => by
  have := (ok.funs.mem hb).1
  rw [e] at this; cases this
theorem Inv.bs (I : Inv X pins σ H s) : ∀ b o, X.base.get? b = some o → s.heap.get? b = some o ∧ H b = none := fun b o e =>
  ⟨I.base.keep b o (I.ok.bs b o e).1 (I.ok.bs b o e).2 (I.ok.nofr e) (I.ok.noex b o e), I.base.free b o (I.ok.bs b o e).1 (I.ok.bs b o e).2 (I.ok.noex b o e)⟩
theorem Inv.bk (I : Inv X pins σ H s) : ∀ b o, X.base.get? b = some o → s.heap.get? b = some o := fun b o e => (I.bs b o e).1
theorem Inv.mod (I : Inv X pins σ H s) : Mod X.K X.mg X.base := I.ok.mod
theorem Inv.kIn (I : Inv X pins σ H s) : X.K.In s.heap := I.ok.mod.kin.keeps I.bk
theorem Inv.nolimit (I : Inv X pins σ H s) : s.heap.NoLimit := I.ok.mod.nolimit.keeps I.bk
theorem Inv.fr (I : Inv X pins σ H s) : ∃ m, Fr X.base X.env.locals s.heap m :=
  let ⟨m, hn, _⟩ := I.loc
  ⟨m, hn, I.bk, Nat.le_trans I.ok.bsz I.ok.above⟩
theorem Inv.lt (I : Inv X pins σ H s) : X.env.locals < s.heap.objs.size := let ⟨_, hn, _⟩ := I.loc; hn.lt
theorem Inv.sz (I : Inv X pins σ H s) : X.s₀.heap.objs.size ≤ s.heap.objs.size := Nat.le_trans I.ok.above (Nat.le_of_lt I.lt)
theorem Inv.nofs (I : Inv X pins σ H s) {a : Addr} (h : s.heap.objs.size ≤ a) : a ∉ X.fs := fun hb => by
  obtain ⟨_, o, ho, _⟩ := I.ok.funs.mem hb
  exact absurd (Nat.lt_of_lt_of_le (Heap.lt_size ho) (Nat.le_trans I.sz h)) (Nat.lt_irrefl _)
theorem Inv.cne (I : Inv X pins σ H s) : ∀ x c, X.env.cells.lookup x = some c → c ≠ X.env.locals := fun x c e z => by
  obtain ⟨v, o, ho, hd⟩ := I.cell x c e
  obtain ⟨m, ⟨o', es, ep, ho', hd', _⟩, _⟩ := I.loc
  rw [z, ho'] at ho; cases ho; rw [hd'] at hd; cases hd
theorem Inv.funs (I : Inv X pins σ H s) : s.heap.FunFrames X.base X.outer := by
  have all : ∀ (l : List Env), (∀ b ∈ frs l, b ∈ X.fs) → X.s₀.heap.FunFrames X.base l → s.heap.FunFrames X.base l := by
    intro l
    induction l with
    | nil => intro _ _; trivial
    | cons env r ih =>
      intro hs hl
      obtain ⟨hk, ⟨L, o, hf, hn, ho, hd⟩, hr⟩ := hl
      have hL : L ∈ X.fs := hs L (by unfold frs; rw [List.filterMap_cons, hf]; exact List.mem_cons_self)
      obtain ⟨sl, e⟩ := I.base.slot L o ho (I.ok.frf L hL) hL fun z => I.ok.exfs L z hL
      exact ⟨hk, ⟨L, _, hf, hn, e, hd⟩, ih (fun b hb => hs b (by unfold frs; rw [List.filterMap_cons, hf]; exact List.mem_cons_of_mem _ hb)) hr⟩
  exact all X.outer (fun _ hb => hb) I.ok.funs
theorem Inv.stack (I : Inv X pins σ H s) : s.heap.FunFrames X.base X.stack := by
  rcases I.ok.stk with e | ⟨e, hf⟩
  · rw [e]; exact I.funs
  · rw [e]
    obtain ⟨m, hn, _⟩ := I.loc
    refine .cons (by rw [I.ok.kind]; decide) hf hn ?_ I.funs
    exact Heap.get?_none_of_le (Nat.le_trans I.ok.bsz I.ok.above)
theorem Inv.stkSub (I : Inv X pins σ H s) : ∀ b ∈ frs X.stack, b ∈ X.env.locals :: X.fs := fun b hb => by
  rcases I.ok.stk with e | ⟨e, hf⟩
  · rw [e] at hb; exact List.mem_cons_of_mem _ hb
  · rw [e] at hb
    unfold frs at hb
    rw [List.filterMap_cons, hf] at hb
    exact hb
theorem Inv.stkFree (I : Inv X pins σ H s) : ∀ b ∈ frs X.stack, H b = none := fun b hb => by
  rcases List.mem_cons.mp (I.stkSub b hb) with e | hb
  · rw [e]; exact I.free
  · obtain ⟨_, o, ho, _⟩ := I.ok.funs.mem hb
    exact I.base.free b o ho (I.ok.frf b hb) fun z => I.ok.exfs b z hb
theorem Inv.step {g' : Array GenState} {t' : Nat} {d' : Drawn} {ch : List Addr} (I : Inv X pins σ H s)
    (hch : ∀ b ∈ ch, (b ∈ X.ex ∨ X.s₀.heap.objs.size ≤ b) ∧ b ≠ X.env.locals ∧ (∀ x c, X.env.cells.lookup x = some c → c ≠ b) ∧ ∀ p ∈ X.pn ++ pins, p.1 ≠ b)
    (keep : ∀ b o, b ≠ X.env.locals → b ∉ X.fs → b ∉ ch → s.heap.get? b = some o → H b = none → h'.get? b = some o)
    (slot : ∀ b o, b ≠ X.env.locals → b ∈ X.fs → b ∉ ch → s.heap.get? b = some o → H b = none → ∃ sl, h'.get? b = some { o with slots := sl }) (free : ∀ b o, b ∉ ch → s.heap.get? b = some o → H b = none → H' b = none)
    (there : ∀ b o, b ∉ ch → s.heap.get? b = some o → ∃ o', h'.get? b = some o')
    (tups : ∀ b xs, H b = some (.tup xs) → H' b = some (.tup xs)) (frzs : ∀ b o u, H b = some (.frz o u) → H' b = some (.frz o u)) (tbls : ∀ b ps, H b = some (.tbl ps) → ∃ more, H' b = some (.tbl (ps ++ more)))
    (ns : ∀ m, s.heap.Ns X.env.locals m → h'.Ns X.env.locals m) (hok : HOk X.prog X.w H' h') (hg : AllBare g') :
    Inv X pins σ H' { s with heap := h', gens := g', drawn := d', toks := t' } := by
  have neL : ∀ b o, X.s₀.heap.get? b = some o → b ≠ X.env.locals := fun b o e => Nat.ne_of_lt (Nat.lt_of_lt_of_le (Heap.lt_size e) I.ok.above)
  have neC : ∀ b o, X.s₀.heap.get? b = some o → b ∉ X.ex → b ∉ ch := fun b o e hx hb => by
    rcases (hch b hb).1 with z | z
    · exact hx z
    · exact absurd (Nat.lt_of_lt_of_le (Heap.lt_size e) z) (Nat.lt_irrefl _)
  have cellK : ∀ x c, X.env.cells.lookup x = some c → ∀ v, s.heap.IsCell c v → h'.IsCell c v := fun x c e v ⟨o, ho, hd⟩ => by
    have nch : c ∉ ch := fun z => (hch c z).2.2.1 x c e rfl
    by_cases hc : c ∈ X.fs
    · obtain ⟨sl, q⟩ := slot c o (I.cne x c e) hc nch ho (I.freeC x c e)
      exact ⟨_, q, hd⟩
    · exact ⟨o, keep c o (I.cne x c e) hc nch ho (I.freeC x c e), hd⟩
  refine ⟨I.ok, I.os, hg, ⟨fun b o e n hb hx => ?_, fun b o e n hb hx => ?_, fun b o e n hx => ?_, fun b o e hx => ?_, fun b xs e => tups b xs (I.base.tups b xs e), fun b o xs e => frzs b o xs (I.base.frzs b o xs e), fun b ps e => ?_⟩, ?_, fun x c e => ?_, ?_, fun x c e => ?_, fun p hp => ?_, hok, I.len⟩
  · exact keep b o (neL b o e) hb (neC b o e hx) (I.base.keep b o e n hb hx) (I.base.free b o e n hx)
  · obtain ⟨sl, e1⟩ := I.base.slot b o e n hb hx
    obtain ⟨sl', e2⟩ := slot b _ (neL b o e) hb (neC b o e hx) e1 (I.base.free b o e n hx)
    exact ⟨sl', e2⟩
  · obtain ⟨o', e1⟩ := I.base.there b o e hx
    exact free b o' (neC b o e hx) e1 (I.base.free b o e n hx)
  · obtain ⟨o', e1⟩ := I.base.there b o e hx
    exact there b o' (neC b o e hx) e1
  · obtain ⟨m1, e1⟩ := I.base.tbls b ps e
    obtain ⟨m2, e2⟩ := tbls b _ e1
    exact ⟨m1 ++ m2, by rw [e2, Array.append_assoc]⟩
  · obtain ⟨m, hn, hl⟩ := I.loc
    refine ⟨m, ns m hn, fun i x v e1 e2 e3 => ?_⟩
    obtain ⟨u, r, l⟩ := hl i x v e1 e2 e3
    refine ⟨u, r, ?_⟩
    rcases l with l | ⟨k, c, e, z⟩
    · exact .inl l
    · exact .inr ⟨k, c, e, cellK x c e _ z⟩
  · obtain ⟨v, z⟩ := I.cell x c e
    exact ⟨v, cellK x c e v z⟩
  · obtain ⟨m, ⟨o, _, _, ho, _⟩, _⟩ := I.loc
    exact free _ o (fun z => (hch _ z).2.1 rfl) ho I.free
  · obtain ⟨v, o, ho, hd⟩ := I.cell x c e
    exact free c o (fun z => (hch c z).2.2.1 x c e rfl) ho (I.freeC x c e)
  · obtain ⟨e, n, ne, nf, d⟩ := I.pin p hp
    have nch : p.1 ∉ ch := fun z => (hch p.1 z).2.2.2 p hp rfl
    exact ⟨keep p.1 p.2 ne nf nch e n, free p.1 p.2 nch e n, ne, nf, d⟩
theorem Inv.un {t' : Nat} (I : Inv X pins σ H s) (u : Un X.fs [] H H' s.heap h') (hok : HOk X.prog X.w H' h') : Inv X pins σ H' { s with heap := h', toks := t' } := by
  obtain ⟨m, ⟨o, es, ep, ho, r⟩, _⟩ := id I.loc
  obtain ⟨sl, hL⟩ := u.any ho I.free (by simp)
  exact I.step (g' := s.gens) (d' := s.drawn) (ch := []) (fun _ z => nomatch z) (fun b o _ hb _ e n => u.keep b o e n hb (by simp)) (fun b o _ hb _ e n => u.slot b o e n hb (by simp)) (fun b o _ e n => u.free b o e n (by simp)) (fun b o _ e => u.there b o e (by simp)) u.tups u.frzs u.tbls (fun m' hm => by
    obtain ⟨o', es', ep', ho', r'⟩ := hm
    rw [ho] at ho'; cases ho'
    exact ⟨_, es', ep', hL, r'⟩) hok I.bare
theorem Inv.call {g' : Array GenState} {t' : Nat} {d' : Drawn} {ch : List Addr} (I : Inv X pins σ H s) (u : Un (frs X.stack) ch H H' s.heap h') (hok : HOk X.prog X.w H' h') (hg : AllBare g')
    (hch : ∀ b ∈ ch, (b ∈ X.ex ∨ X.s₀.heap.objs.size ≤ b) ∧ b ≠ X.env.locals ∧ (∀ x c, X.env.cells.lookup x = some c → c ≠ b) ∧ ∀ p ∈ X.pn ++ pins, p.1 ≠ b) :
    Inv X pins σ H' { s with heap := h', gens := g', drawn := d', toks := t' } := by
  obtain ⟨m, ⟨o, es, ep, ho, r⟩, _⟩ := id I.loc
  obtain ⟨sl, hL⟩ := u.any ho I.free fun z => (hch _ z).2.1 rfl
  exact I.step (ch := ch) hch (fun b o hL hb hc e n => u.keep b o e n (fun z => (List.mem_cons.mp (I.stkSub b z)).elim hL hb) hc) (fun b o _ _ hc e n => u.any e n hc) (fun b o hc e n => u.free b o e n hc) (fun b o hc e => u.there b o e hc) u.tups u.frzs u.tbls (fun m' hm => by
    obtain ⟨o', es', ep', ho', r'⟩ := hm
    rw [ho] at ho'; cases ho'
    exact ⟨_, es', ep', hL, r'⟩) hok hg
theorem Inv.turned {t' : Nat} {it : Addr} (I : Inv X pins σ H s) (k : ∀ b o, b ≠ it → s.heap.get? b = some o → h'.get? b = some o) (hn : H it = none) (hL : it ≠ X.env.locals)
    (h1 : it ∈ X.ex ∨ X.s₀.heap.objs.size ≤ it) (h2 : ∀ x c, X.env.cells.lookup x = some c → c ≠ it) (h3 : ∀ p ∈ X.pn ++ pins, p.1 ≠ it) : Inv X pins σ H { s with heap := h', toks := t' } := by
  have nit : ∀ b u, H b = some u → b ≠ it := fun b u e z => by rw [z, hn] at e; cases e
  refine I.step (g' := s.gens) (d' := s.drawn) (ch := [it]) (fun b hb => ?_) (fun b o _ _ hc e _ => k b o (fun z => hc (by simp [z])) e) (fun b o _ _ hc e _ => ⟨o.slots, k b o (fun z => hc (by simp [z])) e⟩) (fun _ _ _ _ n => n)
    (fun b o hc e => ⟨o, k b o (fun z => hc (by simp [z])) e⟩) (fun _ _ e => e) (fun _ _ _ e => e) (fun b ps e => ⟨#[], by rw [e]; simp⟩) (fun m hm => ?_) (fun b u e => ?_) I.bare
  · have e : b = it := by simpa using hb
    subst e
    exact ⟨h1, hL, h2, h3⟩
  · obtain ⟨o, es, ep, ho, r⟩ := hm
    exact ⟨o, es, ep, k _ o (Ne.symm hL) ho, r⟩
  · refine (I.hok b u e).stay (fun c v hc q => k c v ?_ q) (fun _ q => q) fun _ _ q => q
    rcases hc with z | z
    · rw [z]; exact nit b u e
    · exact nit c _ z
theorem Inv.tok (I : Inv X pins σ H s) (t : Nat) : Inv X pins σ H { s with toks := t } := I.un (h' := s.heap) (t' := t) Un.refl I.hok
theorem Inv.kept {t' : Nat} (I : Inv X pins σ H s) (k : ∀ b u, s.heap.get? b = some u → h'.get? b = some u) : Inv X pins σ H { s with heap := h', toks := t' } := I.un (Un.kept k) (I.hok.kept k)
theorem Inv.laid {a : Addr} {o : HO} {t' : Nat} (I : Inv X pins σ H s) (k : ∀ b u, s.heap.get? b = some u → h'.get? b = some u) (hp : s.heap.objs.size ≤ a) (new : ObjOk X.prog X.w (upd H a o) h' a o) :
    Inv X pins σ (upd H a o) { s with heap := h', toks := t' } := I.un (Un.laid k hp (I.hok.fresh hp)) (I.hok.laid k hp new)
theorem Inv.write {x e : Addr} {o : HO} {t' : Nat} (I : Inv X pins σ H s) (mu : Mut (H x)) (he : e = x ∨ H e = some (.own x)) (k : ∀ b u, b ≠ e → s.heap.get? b = some u → h'.get? b = some u) (heo : ∃ u, h'.get? e = some u)
    (new : ObjOk X.prog X.w (upd H x o) h' x o) : Inv X pins σ (upd H x o) { s with heap := h', toks := t' } := I.un (Un.write mu he k heo) (I.hok.write mu he k heo new)
theorem Inv.weak {σ' : List (Option V)} (I : Inv X pins σ H s) (hl : σ'.length = σ.length) (w : ∀ (i : Nat) v, σ'[i]? = some (some v) → σ[i]? = some (some v)) : Inv X pins σ' H s :=
  ⟨I.ok, I.os, I.bare, I.base, let ⟨m, hn, hl'⟩ := I.loc; ⟨m, hn, fun i x v e1 e2 e3 => hl' i x v e1 (w i v e2) e3⟩, I.cell, I.free, I.freeC, I.pin, I.hok, hl.trans I.len⟩
theorem Inv.pins_of {pins' : List (Addr × Obj)} (I : Inv X pins σ H s) (h : ∀ p ∈ pins', s.heap.get? p.1 = some p.2 ∧ H p.1 = none ∧ p.1 ≠ X.env.locals ∧ p.1 ∉ X.fs ∧ ∀ v, p.2.data ≠ .cell v) : Inv X pins' σ H s :=
  ⟨I.ok, I.os, I.bare, I.base, I.loc, I.cell, I.free, I.freeC, fun p hp => (List.mem_append.mp hp).elim (fun z => I.pin p (List.mem_append_left _ z)) (h p), I.hok, I.len⟩
theorem nodup_ix {N : List Str} (hN : N.Nodup) {i j : Nat} {x : Str} (a : N[i]? = some x) (b : N[j]? = some x) : i = j := by
  obtain ⟨h1, e1⟩ := List.getElem?_eq_some_iff.mp a
  obtain ⟨h2, e2⟩ := List.getElem?_eq_some_iff.mp b
  exact (List.getElem_inj hN).mp (e1.trans e2.symm)
theorem store_ok2 {M : Model} {A : Around} {E : Value → Shared → Prop} {i : Nat} {x : Str} {v : V} {u : Value} {Q : Unit → Shared → Prop} (I : Inv X pins σ H s) (hN : X.N.Nodup) (hi : X.N[i]? = some x) (hx : Loc X.env.scope x) (r : RelV v u)
    (h : ∀ s', Inv X pins (σ.set i (some v)) H s' → (∃ a, Heap.SameBut a s.heap s'.heap ∧ (a = X.env.locals ∨ X.env.cells.lookup x = some a)) → Q () s') (hf : X.fn x = true ∨ X.env.scope.names.lookup x = some .local := by first | exact .inl rfl | exact .inr rfl | assumption) : wpAny M A (storeName X.env x u) Q E s := by
  obtain ⟨m, hn, hl⟩ := id I.loc
  have hcls : (X.env.scope.kind == .class || (X.env.scope.kind == .module && X.env.locals != X.env.globals)) = false := by rw [I.ok.kind]; rfl
  have hiσ : i < σ.length := by rw [I.len]; exact (List.getElem?_eq_some_iff.mp hi).1
  have cne := I.cne
  have tracked : ∀ {a : Addr} {h' : Heap}, (∃ o, s.heap.get? a = some o ∧ H a = none) → Heap.SameBut a s.heap h' → HOk X.prog X.w H h' := fun {a h'} ha hs b ob e => by
    obtain ⟨_, _, hfree⟩ := ha
    refine (I.hok b ob e).stay (fun c w' hc q => (hs.2 c ?_).trans q) (fun _ q => q) fun _ _ q => q
    rintro rfl
    rcases hc with rfl | hc
    · rw [hfree] at e; cases e
    · rw [hfree] at hc; cases hc
  rcases hx with hk | hk
  · refine wpAny_storeName_local hk hn (fun h' hn' hs => ?_) hcls
    obtain ⟨oL, _, _, hoL, _⟩ := id hn
    refine h _ ⟨I.ok, I.os, I.bare, ⟨fun b o e n hb hx => ?_, fun b o e n hb hx => ?_, I.base.free, fun b o e hx => ?_, I.base.tups, I.base.frzs, I.base.tbls⟩, ⟨_, hn', fun j y v' e1 e2 e3 => ?_⟩, fun y c e => ?_, I.free, I.freeC, fun p hp => ?_, tracked ⟨oL, hoL, I.free⟩ hs, by simpa using I.len⟩ ⟨_, hs, .inl rfl⟩
    · exact (hs.2 b (Nat.ne_of_lt (Nat.lt_of_lt_of_le (Heap.lt_size e) I.ok.above))).trans (I.base.keep b o e n hb hx)
    · obtain ⟨sl, e1⟩ := I.base.slot b o e n hb hx
      exact ⟨sl, (hs.2 b (Nat.ne_of_lt (Nat.lt_of_lt_of_le (Heap.lt_size e) I.ok.above))).trans e1⟩
    · obtain ⟨o', e1⟩ := I.base.there b o e hx
      exact ⟨o', (hs.2 b (Nat.ne_of_lt (Nat.lt_of_lt_of_le (Heap.lt_size e) I.ok.above))).trans e1⟩
    · by_cases hj : j = i
      · subst hj
        rw [hi] at e1; cases e1
        rw [List.getElem?_set_self hiσ] at e2
        cases e2
        exact ⟨u, r, .inl ⟨hk, by simp⟩⟩
      · rw [List.getElem?_set_ne (Ne.symm hj)] at e2
        obtain ⟨u', r', q⟩ := hl j y v' e1 e2 e3
        refine ⟨u', r', ?_⟩
        rcases q with ⟨k, e⟩ | ⟨k, c, e, z⟩
        · refine .inl ⟨k, ?_⟩
          have : y ≠ x := fun e => hj (nodup_ix hN e1 (e ▸ hi))
          simp [this, e]
        · exact .inr ⟨k, c, e, z.sameBut hs (cne y c e)⟩
    · obtain ⟨w', z⟩ := I.cell y c e
      exact ⟨w', z.sameBut hs (cne y c e)⟩
    · obtain ⟨e, n, ne, nf, d⟩ := I.pin p hp
      exact ⟨(hs.2 p.1 ne).trans e, n, ne, nf, d⟩
  · have hfn : X.fn x = true := by
      rcases hf with z | z
      · exact z
      · rw [z] at hk; cases hk
    obtain ⟨c, hc⟩ := I.ok.has x (.inl hk)
    obtain ⟨w', z⟩ := I.cell x c hc
    refine wpAny_storeName_cell I.ok.kind hk hc z (fun h' hc' hs => ?_)
    obtain ⟨oc, hoc, hocd⟩ := id z
    refine h { s with heap := h' } ⟨I.ok, I.os, I.bare, ⟨fun b o e n hb hx => ?_, fun b o e n hb hx => ?_, I.base.free, fun b o e hx => ?_, I.base.tups, I.base.frzs, I.base.tbls⟩, ⟨m, hn.sameBut hs (Ne.symm (cne x c hc)), fun j y v' e1 e2 e3 => ?_⟩, fun y c' e => ?_, I.free, I.freeC, fun p hp => ?_, tracked ⟨oc, hoc, I.freeC x c hc⟩ hs, by simpa using I.len⟩ ⟨c, hs, .inr hc⟩
    · exact (hs.2 b (Nat.ne_of_lt (Nat.lt_of_lt_of_le (Heap.lt_size e) (I.ok.cab x c hfn hc)))).trans (I.base.keep b o e n hb hx)
    · obtain ⟨sl, e1⟩ := I.base.slot b o e n hb hx
      exact ⟨sl, (hs.2 b (Nat.ne_of_lt (Nat.lt_of_lt_of_le (Heap.lt_size e) (I.ok.cab x c hfn hc)))).trans e1⟩
    · obtain ⟨o', e1⟩ := I.base.there b o e hx
      exact ⟨o', (hs.2 b (Nat.ne_of_lt (Nat.lt_of_lt_of_le (Heap.lt_size e) (I.ok.cab x c hfn hc)))).trans e1⟩
    · by_cases hj : j = i
      · subst hj
        rw [hi] at e1; cases e1
        rw [List.getElem?_set_self hiσ] at e2
        cases e2
        exact ⟨u, r, .inr ⟨.inl hk, c, hc, hc'⟩⟩
      · rw [List.getElem?_set_ne (Ne.symm hj)] at e2
        obtain ⟨u', r', q⟩ := hl j y v' e1 e2 e3
        refine ⟨u', r', ?_⟩
        rcases q with q | ⟨k, c', e, z'⟩
        · exact .inl q
        · refine .inr ⟨k, c', e, z'.sameBut hs ?_⟩
          rintro rfl
          exact hj (nodup_ix hN e1 (I.ok.inj _ _ _ e hc ▸ hi))
    · by_cases hcc : c' = c
      · subst hcc; exact ⟨_, hc'⟩
      · obtain ⟨w2, z2⟩ := I.cell y c' e
        exact ⟨w2, z2.sameBut hs hcc⟩
    · obtain ⟨e, n, ne, nf, d⟩ := I.pin p hp
      refine ⟨(hs.2 p.1 ?_).trans e, n, ne, nf, d⟩
      intro q
      rw [q, hoc] at e
      have q' : oc = p.2 := Option.some.inj e
      exact d w' (by rw [← q']; exact hocd)
theorem store_ok {M : Model} {A : Around} {E : Value → Shared → Prop} {i : Nat} {x : Str} {v : V} {u : Value} {Q : Unit → Shared → Prop} (I : Inv X pins σ H s) (hN : X.N.Nodup) (hi : X.N[i]? = some x) (hx : Loc X.env.scope x) (r : RelV v u)
    (h : ∀ s', Inv X pins (σ.set i (some v)) H s' → Q () s') (hf : X.fn x = true ∨ X.env.scope.names.lookup x = some .local := by first | exact .inl rfl | exact .inr rfl | assumption) : wpAny M A (storeName X.env x u) Q E s :=
  store_ok2 I hN hi hx r (fun s' I' _ => h s' I') hf
theorem Inv.call' {s' : Shared} {ch : List Addr} (I : Inv X pins σ H s) (ho : s'.os = s.os) (u : Un (frs X.stack) ch H H' s.heap s'.heap) (hok : HOk X.prog X.w H' s'.heap) (hg : AllBare s'.gens)
    (hch : ∀ b ∈ ch, (b ∈ X.ex ∨ X.s₀.heap.objs.size ≤ b) ∧ b ≠ X.env.locals ∧ (∀ x c, X.env.cells.lookup x = some c → c ≠ b) ∧ ∀ p ∈ X.pn ++ pins, p.1 ≠ b) : Inv X pins σ H' s' := by
  obtain ⟨h', g', d', t', o'⟩ := s'
  have e : o' = s.os := ho
  subst e
  exact I.call (g' := g') (t' := t') (d' := d') u hok hg hch
end
abbrev XK := Value → Option Addr → Hp → Prop
abbrev St := List (Option V)
abbrev VK := V → Hp → Prop
abbrev TE := St → Hp → VK → Prop
abbrev TT := St → Hp → (Bool → Hp → Prop) → Prop
abbrev TA := St → Hp → (List V → Hp → Prop) → Prop
structure Ends where
  nx : St → Hp → Prop
  rt : VK
  bk : St → Hp → Prop := fun _ _ => False
  ct : St → Hp → Prop := fun _ _ => False
abbrev TS := Ends → St → Hp → Prop
def EP (X : Cx) (pins : List (Addr × Obj)) (σ : St) (Q : VK) (u : Value) (s' : Shared) : Prop := ∃ v H', Inv X pins σ H' s' ∧ RelV v u ∧ Q v H'
def TP (X : Cx) (pins : List (Addr × Obj)) (σ : St) (Q : Bool → Hp → Prop) (b : Bool) (s' : Shared) : Prop := ∃ H', Inv X pins σ H' s' ∧ Q b H'
def AP (X : Cx) (pins : List (Addr × Obj)) (σ : St) (Q : List V → Hp → Prop) (us : List Value) (s' : Shared) : Prop := ∃ vs H', Inv X pins σ H' s' ∧ Vals vs us ∧ Q vs H'
def SP (X : Cx) (pins : List (Addr × Obj)) (D : Ends) (f : Flow) (s' : Shared) : Prop :=
  match f with
  | .next => ∃ σ' H', Inv X pins σ' H' s' ∧ D.nx σ' H'
  | .brk => ∃ σ' H', Inv X pins σ' H' s' ∧ D.bk σ' H'
  | .cont => ∃ σ' H', Inv X pins σ' H' s' ∧ D.ct σ' H'
  | .ret u => ∃ v σ' H', Inv X pins σ' H' s' ∧ RelV v u ∧ D.rt v H'
def PE (X : Cx) (e : Expr) (t : TE) : Prop :=
  ∀ (pins : List (Addr × Obj)) (s : Shared) (σ : St) (H : Hp) (Q : VK), Inv X pins σ H s → t σ H Q → wpAny (model X.prog X.w) X.A (eval e X.env) (EP X pins σ Q) X.xe s
def PT (X : Cx) (e : Expr) (t : TT) : Prop :=
  ∀ (pins : List (Addr × Obj)) (s : Shared) (σ : St) (H : Hp) (Q : Bool → Hp → Prop), Inv X pins σ H s → t σ H Q → wpAny (model X.prog X.w) X.A (isTrue e X.env (eval e X.env)) (TP X pins σ Q) X.xe s
def PW (X : Cx) (e : Expr) (t : TT) : Prop :=
  ∀ (whole : Sem Value) (pins : List (Addr × Obj)) (s : Shared) (σ : St) (H : Hp) (Q : Bool → Hp → Prop), Inv X pins σ H s → t σ H Q → wpAny (model X.prog X.w) X.A (isTrue e X.env whole) (TP X pins σ Q) X.xe s
theorem PW.pt {X : Cx} {e : Expr} {t : TT} (h : PW X e t) : PT X e t := h _
def PA (X : Cx) (es : List Expr) (t : TA) : Prop :=
  ∀ (pos : Pos) (pins : List (Addr × Obj)) (s : Shared) (σ : St) (H : Hp) (Q : List V → Hp → Prop), Inv X pins σ H s → t σ H Q → wpAny (model X.prog X.w) X.A (spliced (backTo pos (starEach es X.env))) (AP X pins σ Q) X.xe s
def PS (X : Cx) (st : Stmt) (t : TS) : Prop :=
  ∀ (pins : List (Addr × Obj)) (s : Shared) (σ : St) (H : Hp) (D : Ends), Inv X pins σ H s → t D σ H → wpAny (model X.prog X.w) X.A (exec st X.env) (SP X pins D) X.xe s
def PSs (X : Cx) (st : List Stmt) (t : TS) : Prop :=
  ∀ (pins : List (Addr × Obj)) (s : Shared) (σ : St) (H : Hp) (D : Ends), Inv X pins σ H s → t D σ H → wpAny (model X.prog X.w) X.A (execs st X.env) (SP X pins D) X.xe s
theorem thn {α : Type} {t : Sem α} {Q Q' : α → Shared → Prop} {M : Model} {A : Around} {E : Value → Shared → Prop} {s : Shared} (h : wpAny M A t Q E s) (hQ : ∀ a s, Q a s → Q' a s) : wpAny M A t Q' E s := wpAny_mono h hQ fun _ _ x => x
end L2
namespace L2
open PySem PySem.Spec PyProof.Rows
section
variable {X : Cx}
def tVar (i : Nat) : TE := fun σ H Q => ∃ v, σ[i]? = some (some v) ∧ Q v H
def tC (v : V) : TE := fun _ H Q => Q v H
theorem pe_var {i : Nat} {x : Str} {pos : Pos} (hN : X.N[i]? = some x) (hv : Vis X.env.scope x) (hd : (x == ("__debug__" : Str)) = false := by decide) (hcd : (x == ("__classdict__" : Str)) = false := by decide) : PE X (.Name x pos) (tVar i) := by
  intro pins s σ H Q I h
  obtain ⟨v, e, h⟩ := h
  obtain ⟨m, hn, hl⟩ := I.loc
  obtain ⟨u, r, l⟩ := hl i x v hN e hv
  have fin : EP X pins σ Q u s := ⟨v, H, I, r, h⟩
  rcases l with ⟨hk, hm⟩ | ⟨hk, c, hc, hcell⟩
  · exact wpAny_Name (wpAny_loadName_local I.ok.kind hk hn hm fin) hd
  · rcases hk with hk | hk
    · exact wpAny_Name (wpAny_loadName_cell I.ok.kind hk hc hcell fin) hd
    · exact wpAny_Name (wpAny_loadName_free I.ok.kind hk hc hcell fin hcd) hd
theorem pe_int {i j pos} : PE X (.Constant (.int i) j pos) (tC (.int i)) := fun _ _ _ H _ I h => wpAny_Constant_int ⟨.int i, H, I.tok _, ⟨_, rfl⟩, h⟩
theorem pe_bl {b j pos} : PE X (.Constant (.bool b) j pos) (tC (.bl b)) := fun _ _ _ H _ I h => Constant_bool ⟨.bl b, H, I, rfl, h⟩
theorem pe_str {x j pos} : PE X (.Constant (.str x) j pos) (tC (.str x)) := fun _ _ _ H _ I h => Calls.Constant_str ⟨.str x, H, I.tok _, ⟨_, rfl⟩, h⟩
def Gl (X : Cx) (x : Str) : Prop := X.env.kindOf x = some .globalImplicit
theorem ld_glob {E : Value → Shared → Prop} {pins : List (Addr × Obj)} {s : Shared} {σ : St} {H : Hp} {x : Str} {u : Value} {pos : Pos} {Q : Value → Shared → Prop} (I : Inv X pins σ H s) (hg : Gl X x) (hm : X.mg x = some u) (h : Q u s)
    (hd : (x == ("__debug__" : Str)) = false := by decide) : wpAny (model X.prog X.w) X.A (eval (.Name x pos) X.env) Q E s :=
  Calls.Name_function_global I.ok.kind hg (Calls.loadGlobal_global (by rw [I.ok.glob]; exact I.mod.glob.keeps I.bk) hm h) hd
theorem ld_blt {E : Value → Shared → Prop} {pins : List (Addr × Obj)} {s : Shared} {σ : St} {H : Hp} {x : Str} {u : Value} {pos : Pos} {Q : Value → Shared → Prop} (I : Inv X pins σ H s) (hg : Gl X x) (hm : X.mg x = none) (hv : bootBuiltins x = some u) (h : Q u s)
    (hn : x ≠ "__name__" := by decide) (hd : (x == ("__debug__" : Str)) = false := by decide) : wpAny (model X.prog X.w) X.A (eval (.Name x pos) X.env) Q E s := by
  obtain ⟨mb, h1, h2⟩ := I.mod.blt
  exact Calls.Name_function_global I.ok.kind hg (Calls.loadGlobal_builtin (by rw [I.ok.glob]; exact I.mod.glob.keeps I.bk) hm (by rw [I.ok.blt]; exact h1.keeps I.bk) ((h2 x hn).trans hv) h) hd
theorem pe_glob {x : Str} {v : V} {u : Value} {pos : Pos} (hg : Gl X x) (hm : X.mg x = some u) (r : RelV v u) (hd : (x == ("__debug__" : Str)) = false := by decide) : PE X (.Name x pos) (tC v) :=
  fun _ _ _ H _ I h => ld_glob I hg hm ⟨v, H, I, r, h⟩ hd
theorem pe_bltn {x : Str} {v : V} {u : Value} {pos : Pos} (hg : Gl X x) (hm : X.mg x = none) (hv : bootBuiltins x = some u) (r : RelV v u) (hn : x ≠ "__name__" := by decide) (hd : (x == ("__debug__" : Str)) = false := by decide) : PE X (.Name x pos) (tC v) :=
  fun _ _ _ H _ I h => ld_blt I hg hm hv ⟨v, H, I, r, h⟩ hn hd
variable {a b : Expr} {ta tb : TE} {pos : Pos}
def tB (t : TE) : TT := fun σ H Q => t σ H fun x H1 => ∃ c, x = .bl c ∧ Q c H1
theorem pt_val {e : Expr} {t : TE} (h : PE X e t) (he : ∀ whole, isTrue e X.env whole = (do let v ← whole; standAt e.pos; holding [v] (truthy v)) := by intro _; rfl) : PT X e (tB t) := by
  intro pins s σ H Q I hw
  refine isTrue_plain (thn (h pins s σ H _ I hw) fun v s1 ⟨x, H1, I1, r1, q1⟩ => ?_) (he _)
  obtain ⟨d, rfl, q⟩ := q1
  cases r1
  exact wpAny_truthy_bool ⟨H1, I1, q⟩
variable {tA tB' : TT} {rest : List Expr}
def tAnd (t u : TT) : TT := fun σ H Q => t σ H fun c H1 => if c = true then u σ H1 Q else Q false H1
def tOr (t u : TT) : TT := fun σ H Q => t σ H fun c H1 => if c = true then Q true H1 else u σ H1 Q
def tNot (t : TT) : TT := fun σ H Q => t σ H fun c H1 => Q (!c) H1
theorem pw_and1 (ha : PT X a tA) : PW X (.BoolOp .And [a] pos) tA := by
  intro wh pins s σ H Q I h
  refine isTrue_and (thn (ha pins s σ H Q I h) fun c s1 e => ?_)
  cases c with
  | true => exact isTrue_and_nil e
  | false => exact e
theorem pw_or1 (ha : PT X a tA) : PW X (.BoolOp .Or [a] pos) tA := by
  intro wh pins s σ H Q I h
  refine isTrue_or (thn (ha pins s σ H Q I h) fun c s1 e => ?_)
  cases c with
  | false => exact isTrue_or_nil e
  | true => exact e
theorem pw_and (ha : PT X a tA) (hb : PW X (.BoolOp .And (b :: rest) pos) tB') : PW X (.BoolOp .And (a :: b :: rest) pos) (tAnd tA tB') := by
  intro wh pins s σ H Q I h
  refine isTrue_and (thn (ha pins s σ H _ I h) fun c s1 ⟨H1, I1, q1⟩ => ?_)
  cases c with
  | true => exact hb wh pins s1 σ H1 Q I1 q1
  | false => exact ⟨H1, I1, q1⟩
theorem pw_or (ha : PT X a tA) (hb : PW X (.BoolOp .Or (b :: rest) pos) tB') : PW X (.BoolOp .Or (a :: b :: rest) pos) (tOr tA tB') := by
  intro wh pins s σ H Q I h
  refine isTrue_or (thn (ha pins s σ H _ I h) fun c s1 ⟨H1, I1, q1⟩ => ?_)
  cases c with
  | true => exact ⟨H1, I1, q1⟩
  | false => exact hb wh pins s1 σ H1 Q I1 q1
theorem pt_not (ha : PT X a tA) : PT X (.UnaryOp .Not a pos) (tNot tA) := by
  intro pins s σ H Q I h
  exact isTrue_not (ha pins s σ H (fun c H1 => Q (!c) H1) I h)
def tAndV (ta tb : TE) : TE := fun σ H Q => ta σ H fun x H1 => ∃ c, x = .bl c ∧ if c = true then tb σ H1 Q else Q (.bl false) H1
def tOrV (ta tb : TE) : TE := fun σ H Q => ta σ H fun x H1 => ∃ c, x = .bl c ∧ if c = true then Q (.bl true) H1 else tb σ H1 Q
def tNotV (ta : TE) : TE := fun σ H Q => ta σ H fun x H1 => ∃ c, x = .bl c ∧ Q (.bl (!c)) H1
theorem pe_one {op} {t : TE} (h : PE X a t) : PE X (.BoolOp op [a] pos) t := fun pins s σ H Q I hw => BoolOp_one (h pins s σ H Q I hw)
theorem pe_and (ha : PE X a ta) (hb : PE X (.BoolOp .And (b :: rest) pos) tb) : PE X (.BoolOp .And (a :: b :: rest) pos) (tAndV ta tb) := by
  intro pins s σ H Q I h
  refine BoolOp_and (thn (ha pins s σ H _ I h) fun v s1 ⟨x, H1, I1, r1, q1⟩ => ?_)
  obtain ⟨c, rfl, q1⟩ := q1
  cases r1
  refine wpAny_truthy_bool ?_
  cases c with
  | true => exact hb pins s1 σ H1 Q I1 q1
  | false => exact ⟨.bl false, H1, I1, rfl, q1⟩
theorem pe_or (ha : PE X a ta) (hb : PE X (.BoolOp .Or (b :: rest) pos) tb) : PE X (.BoolOp .Or (a :: b :: rest) pos) (tOrV ta tb) := by
  intro pins s σ H Q I h
  refine BoolOp_or (thn (ha pins s σ H _ I h) fun v s1 ⟨x, H1, I1, r1, q1⟩ => ?_)
  obtain ⟨c, rfl, q1⟩ := q1
  cases r1
  refine wpAny_truthy_bool ?_
  cases c with
  | false => exact hb pins s1 σ H1 Q I1 q1
  | true => exact ⟨.bl true, H1, I1, rfl, q1⟩
theorem pe_not (ha : PE X a ta) : PE X (.UnaryOp .Not a pos) (tNotV ta) := by
  intro pins s σ H Q I h
  refine UnaryOp_ (thn (ha pins s σ H _ I h) fun v s1 ⟨x, H1, I1, r1, q1⟩ => ?_)
  obtain ⟨c, rfl, q1⟩ := q1
  cases r1
  exact not_of (wpAny_truthy_bool ⟨.bl (!c), H1, I1, rfl, q1⟩)
end
end L2
namespace L2
open PySem PySem.Spec PyProof.Rows
def SqL (K : PySem.W.Frag) (H : Hp) (a : Addr) (xs : List V) : Prop :=
  Rd H a (.lst xs) ∨
    ∃ (o : Obj) (its : Array Value) (n : Nat), K.lookup a = some o ∧ o.cls = .type "list" ∧ o.dict = none ∧ o.data = .seq its n ∧ its.size ≤ sizeLine ∧ Vals xs its.toList
def SqT (K : PySem.W.Frag) (H : Hp) (a : Addr) (xs : List V) : Prop :=
  Rd H a (.tup xs) ∨
    ∃ (o : Obj) (its : Array Value) (n : Nat), K.lookup a = some o ∧ o.cls = .type "tuple" ∧ o.data = .seq its n ∧ its.size ≤ sizeLine ∧ Vals xs its.toList
def absV : Value → Option V
  | .none => some .non
  | .bool b => some (.bl b)
  | .int i _ => some (.int i)
  | .str x _ => some (.str x)
  | .bytes b _ => some (.byt b)
  | .float b _ => some (.flt b)
  | .ref a => some (.ref a)
  | .type n => some (.ty n)
  | _ => none
theorem RelV.abs {x : V} {u : Value} (r : RelV x u) : absV u = some x := by
  cases x with
  | non => cases r; rfl
  | bl _ => cases r; rfl
  | int _ => obtain ⟨t, rfl⟩ := r; rfl
  | str _ => obtain ⟨t, rfl⟩ := r; rfl
  | byt _ => obtain ⟨t, rfl⟩ := r; rfl
  | flt _ => obtain ⟨t, rfl⟩ := r; rfl
  | ref _ => cases r; rfl
  | ty _ => cases r; rfl
theorem RelV.inj {x y : V} {u : Value} (r : RelV x u) (q : RelV y u) : x = y := Option.some.inj (r.abs.symm.trans q.abs)
theorem Vals.inj : ∀ {xs ys : List V} {us : List Value}, Vals xs us → Vals ys us → xs = ys
  | _, _, _, .nil, .nil => rfl
  | _, _, _, .cons r t, .cons r' t' => by rw [r.inj r', Vals.inj t t']
section
variable {X : Cx} {pins : List (Addr × Obj)} {σ : St} {H : Hp} {s : Shared} {a : Addr} {xs ys : List V}
theorem SqL.of {K : PySem.W.Frag} (h : H a = some (.lst xs)) : SqL K H a xs := .inl (.inl h)
theorem SqT.of {K : PySem.W.Frag} (h : H a = some (.tup xs)) : SqT K H a xs := .inl (.inl h)
theorem Inv.list (I : Inv X pins σ H s) (h : SqL X.K H a xs) : ∃ its : List Value, Vals xs its ∧ PlainL s.heap a its.toArray ∧ xs.length ≤ sizeLine := by
  rcases h with h | ⟨o, its, n, hk, hc, hd, hs, hz, r⟩
  · obtain ⟨z, its, n, r, e⟩ := h.ok I.hok
    exact ⟨its, r, ⟨_, n, e, rfl, rfl, rfl⟩, z⟩
  · refine ⟨its.toList, r, ⟨o, n, I.kIn a o hk, hc, hd, by simpa using hs⟩, ?_⟩
    have e := r.length
    simp only [Array.length_toList] at e
    omega
theorem Inv.tuple (I : Inv X pins σ H s) (h : SqT X.K H a xs) : ∃ its : List Value, Vals xs its ∧ IsTup s.heap a its.toArray ∧ xs.length ≤ sizeLine := by
  rcases h with h | ⟨o, its, n, hk, hc, hs, hz, r⟩
  · obtain ⟨z, its, r, p⟩ := h.ok I.hok
    exact ⟨its, r, p, z⟩
  · refine ⟨its.toList, r, ⟨o, I.kIn a o hk, hc, n, by simpa using hs⟩, ?_⟩
    have e := r.length
    simp only [Array.length_toList] at e
    omega
theorem Inv.list_inj (I : Inv X pins σ H s) (h : SqL X.K H a xs) (h' : SqL X.K H a ys) : xs = ys := by
  obtain ⟨its, r, ⟨o, n, e, _, _, d⟩, _⟩ := I.list h
  obtain ⟨its', r', ⟨o', n', e', _, _, d'⟩, _⟩ := I.list h'
  rw [e] at e'; cases e'
  rw [d] at d'
  injection d' with d1 _
  have : its = its' := by simpa using congrArg Array.toList d1
  subst this
  exact r.inj r'
end
abbrev Cx.wish (X : Cx) (E : Value → Shared → Prop) : Cx := { X with xe := E }
abbrev Cx.nox (X : Cx) : Cx := X.wish fun _ _ => False
theorem Cx.Ok.wish {X : Cx} (ok : X.Ok) (E : Value → Shared → Prop) : (X.wish E).Ok :=
  ⟨ok.mod, ok.kind, ok.glob, ok.blt, ok.above, ok.inj, ok.has, ok.cab, ok.hd, ok.frames, ok.stk, ok.exf, ok.bs, ok.bsz, ok.noex, ok.exfs, ok.funs, ok.frf⟩
theorem Cx.Ok.unwish {X : Cx} {E : Value → Shared → Prop} (ok : (X.wish E).Ok) : X.Ok :=
  ⟨ok.mod, ok.kind, ok.glob, ok.blt, ok.above, ok.inj, ok.has, ok.cab, ok.hd, ok.frames, ok.stk, ok.exf, ok.bs, ok.bsz, ok.noex, ok.exfs, ok.funs, ok.frf⟩
section
variable {X : Cx} {pins : List (Addr × Obj)} {σ : St} {H : Hp} {s : Shared} {E : Value → Shared → Prop}
theorem Inv.wish (I : Inv X pins σ H s) (E : Value → Shared → Prop) : Inv (X.wish E) pins σ H s := ⟨I.ok.wish E, I.os, I.bare, I.base, I.loc, I.cell, I.free, I.freeC, I.pin, I.hok, I.len⟩
theorem Inv.unwish (I : Inv (X.wish E) pins σ H s) : Inv X pins σ H s := ⟨I.ok.unwish, I.os, I.bare, I.base, I.loc, I.cell, I.free, I.freeC, I.pin, I.hok, I.len⟩
theorem SP.unwish {D : Ends} {f : Flow} {s' : Shared} (h : SP (X.wish E) pins D f s') : SP X pins D f s' := by
  cases f with
  | next => obtain ⟨σ', H', I, q⟩ := h; exact ⟨σ', H', I.unwish, q⟩
  | brk => obtain ⟨σ', H', I, q⟩ := h; exact ⟨σ', H', I.unwish, q⟩
  | cont => obtain ⟨σ', H', I, q⟩ := h; exact ⟨σ', H', I.unwish, q⟩
  | ret u => obtain ⟨v, σ', H', I, r, q⟩ := h; exact ⟨v, σ', H', I.unwish, r, q⟩
theorem PE.nox {e : Expr} {t : TE} (h : PE X.nox e t) : PE X e t := fun pins s σ H Q I hw =>
  wpAny_mono (h pins s σ H Q (I.wish _) hw) (fun _ _ ⟨v, H', I', r, q⟩ => ⟨v, H', I'.unwish, r, q⟩) fun _ _ z => False.elim z
theorem PT.nox {e : Expr} {t : TT} (h : PT X.nox e t) : PT X e t := fun pins s σ H Q I hw =>
  wpAny_mono (h pins s σ H Q (I.wish _) hw) (fun _ _ ⟨H', I', q⟩ => ⟨H', I'.unwish, q⟩) fun _ _ z => False.elim z
theorem PSs.nox {st : List Stmt} {t : TS} (h : PSs X.nox st t) : PSs X st t := fun pins s σ H D I hw =>
  wpAny_mono (h pins s σ H D (I.wish _) hw) (fun _ _ q => q.unwish) fun _ _ z => False.elim z
end
section
variable {X : Cx} {st : Stmt} {rest : List Stmt} {t u : TS} {e : Expr} {te : TE} {pos : Pos}
def tNext : TS := fun D σ H => D.nx σ H
def tSeq (t u : TS) : TS := fun D σ H => t { D with nx := u D } σ H
theorem pss_nil : PSs X [] tNext := fun _ _ σ H _ I h => wpAny_execs_nil ⟨σ, H, I, h⟩
theorem pss_cons (h1 : PS X st t) (h2 : PSs X rest u) : PSs X (st :: rest) (tSeq t u) := by
  intro pins s σ H D I h
  refine wpAny_execs_cons (thn (h1 pins s σ H { D with nx := u D } I h) fun f s1 q => ?_)
  cases f with
  | next =>
    obtain ⟨σ', H', I', q⟩ := q
    exact h2 pins s1 σ' H' D I' q
  | ret v => exact q
  | brk => exact q
  | cont => exact q
theorem pss_one (h1 : PS X st t) : PSs X [st] t := by
  intro pins s σ H D I h
  refine wpAny_execs_cons (thn (h1 pins s σ H D I h) fun f s1 q => ?_)
  cases f with
  | next => exact wpAny_execs_nil q
  | ret v => exact q
  | brk => exact q
  | cont => exact q
theorem Inv.quiet {pins : List (Addr × Obj)} {σ : St} {H : Hp} {s : Shared} (I : Inv X pins σ H s) : interactive X.env = false := by simp [interactive, I.ok.kind]
def tDrop (te : TE) : TS := fun D σ H => te σ H fun _ H1 => D.nx σ H1
theorem ps_expr (he : PE X e te) (hs : swapsWith e none pos.line X.env = pure false := by rfl) : PS X (.Expr e pos) (tDrop te) := by
  intro pins s σ H D I h
  exact wpAny_Expr_any (thn (he pins s σ H _ I h) fun v s1 ⟨x, H1, I1, r1, q1⟩ => ⟨σ, H1, I1, q1⟩) I.quiet hs
def tRet (te : TE) : TS := fun D σ H => te σ H D.rt
theorem ps_ret (he : PE X e te) : PS X (.Return (some e) pos) (tRet te) := by
  intro pins s σ H D I h
  exact wpAny_Return_some (thn (he pins s σ H _ I h) fun v s1 ⟨x, H1, I1, r1, q1⟩ => ⟨x, σ, H1, I1, r1, q1⟩)
def tIfS (c : TT) (t u : TS) : TS := fun D σ H => c σ H fun b H1 => if b = true then t D σ H1 else u D σ H1
theorem ps_if {c : Expr} {a b : List Stmt} {tc : TT} (hc : PT X c tc) (ha : PSs X a t) (hb : PSs X b u) : PS X (.If c a b pos) (tIfS tc t u) := by
  intro pins s σ H D I h
  refine wpAny_If (thn (hc pins s σ H _ I h) fun d s1 ⟨H1, I1, q1⟩ => ?_)
  cases d with
  | true => exact ha pins s1 σ H1 D I1 q1
  | false => exact hb pins s1 σ H1 D I1 q1
end
abbrev TG := V → St → Hp → (St → Hp → Prop) → Prop
abbrev TGs := List V → St → Hp → (St → Hp → Prop) → Prop
def PG (X : Cx) (target : Expr) (t : TG) : Prop :=
  ∀ (pins : List (Addr × Obj)) (s : Shared) (σ : St) (H : Hp) (v : V) (u : Value) (Q : St → Hp → Prop), Inv X pins σ H s → RelV v u → t v σ H Q →
    wpAny (model X.prog X.w) X.A (assign target X.env u) (fun _ s' => ∃ σ' H', Inv X pins σ' H' s' ∧ Q σ' H') X.xe s
def PGs (X : Cx) (ts : List Expr) (t : TGs) : Prop :=
  ∀ (pins : List (Addr × Obj)) (s : Shared) (σ : St) (H : Hp) (vs : List V) (us : List Value) (Q : St → Hp → Prop), Inv X pins σ H s → Vals vs us → t vs σ H Q →
    wpAny (model X.prog X.w) X.A (assignInOrder ((assignEach ts X.env).map (·.2)) us) (fun _ s' => ∃ σ' H', Inv X pins σ' H' s' ∧ Q σ' H') X.xe s
abbrev TSet := V → V → V → Hp → (Hp → Prop) → Prop
def PSet (X : Cx) (t : TSet) : Prop :=
  ∀ (pins : List (Addr × Obj)) (s : Shared) (σ : St) (H : Hp) (o i v : V) (ov iv u : Value) (Q : Hp → Prop), Inv X pins σ H s → RelV o ov → RelV i iv → RelV v u → t o i v H Q →
    wpAny (model X.prog X.w) X.A (setItem ov iv u) (fun _ s' => ∃ H', Inv X pins σ H' s' ∧ Q H') X.xe s
section
variable {X : Cx} {pos : Pos}
def gName (i : Nat) : TG := fun v σ H Q => Q (σ.set i (some v)) H
theorem pg_name {i : Nat} {x : Str} (hN : X.N.Nodup) (hi : X.N[i]? = some x) (hx : Loc X.env.scope x) (hf : X.fn x = true ∨ X.env.scope.names.lookup x = some .local := by first | exact .inl rfl | exact .inr rfl | assumption) : PG X (.Name x pos) (gName i) := by
  intro pins s σ H v u Q I r h
  exact wpAny_assign_Name (store_ok I hN hi hx r (fun s' I' => ⟨_, H, I', h⟩) hf)
def gNil : TGs := fun vs σ H Q => vs = [] ∧ Q σ H
def gCons (t : TG) (u : TGs) : TGs := fun vs σ H Q => ∃ v r, vs = v :: r ∧ t v σ H fun σ' H' => u r σ' H' Q
theorem pgs_nil : PGs X [] gNil := by
  intro pins s σ H vs us Q I r h
  obtain ⟨e, h⟩ := h
  subst e
  cases r
  exact assignInOrder_nil ⟨σ, H, I, h⟩
theorem pgs_cons {e : Expr} {es : List Expr} {t : TG} {u : TGs} (h1 : PG X e t) (h2 : PGs X es u)
    (hs : (assignEach (e :: es) X.env).map (·.2) = assign e X.env :: (assignEach es X.env).map (·.2) := by rfl) : PGs X (e :: es) (gCons t u) := by
  intro pins s σ H vs us Q I r h
  obtain ⟨v, vr, e1, h⟩ := h
  subst e1
  cases r with
  | cons r rr =>
    rw [hs]
    refine assignInOrder_cons (thn (h1 pins s σ H _ _ _ I r h) fun _ s1 ⟨σ1, H1, I1, q1⟩ => ?_)
    exact h2 pins s1 σ1 H1 _ _ Q I1 rr q1
def gTup (K : PySem.W.Frag) (n : Nat) (t : TGs) : TG := fun v σ H Q => ∃ a xs, v = .ref a ∧ SqT K H a xs ∧ xs.length = n ∧ t xs σ H Q
theorem pg_tup {es : List Expr} {k : Nat} {t : TGs} {n : Nat} (hc : X.calm = true) (h : PGs X es t)
    (hn : (assignEach es X.env).length = n := by rfl) (hst : (assignEach es X.env).findIdx? (·.1) = none := by rfl) : PG X (.Tuple es k pos) (gTup X.K n t) := by
  intro pins s σ H v u Q I r hw
  obtain ⟨a, xs, e1, hq, hl, hw⟩ := hw
  subst e1
  cases r
  obtain ⟨its, rv, ht, hz⟩ := I.tuple hq
  refine assign_Tuple_tuple (I.ok.hd hc) ht (by simp [hn, ← hl, rv.length]) hst fun h' hx => ?_
  have I1 : Inv X pins σ H { s with heap := h' } := I.kept (t' := s.toks) fun b o e => hx b o (Nat.ne_of_lt (Heap.lt_size e)) e
  exact h pins _ σ H xs _ Q I1 (by simpa using rv) hw
def gSub (to ti : TE) (t : TSet) : TG := fun v σ H Q => to σ H fun o H1 => ti σ H1 fun i H2 => t o i v H2 fun H3 => Q σ H3
theorem pg_sub {o i : Expr} {to ti : TE} {t : TSet} (ho : PE X o to) (hi : PE X i ti) (hs : PSet X t)
    (ha : ∀ v, assign (.Subscript o i pos) X.env v = (do
      let ov ← holding [v] (eval o X.env)
      let iv ← holding [v, ov] (eval i X.env)
      standAt pos
      holding [v, ov, iv] (setItem ov iv v)
      release [v, ov, iv] []) := by intro _; rfl) : PG X (.Subscript o i pos) (gSub to ti t) := by
  intro pins s σ H v u Q I r h
  rw [ha]
  refine wpAny_bind (wpAny_holding (thn (ho pins s σ H _ I h) fun ov s1 ⟨x, H1, I1, r1, q1⟩ => ?_))
  refine wpAny_bind (wpAny_holding (thn (hi pins s1 σ H1 _ I1 q1) fun iv s2 ⟨y, H2, I2, r2, q2⟩ => ?_))
  refine wpAny_bind (wpAny_standAt (wpAny_bind (wpAny_holding (thn (hs pins s2 σ H2 x y v ov iv u _ I2 r1 r2 r q2) fun _ s3 ⟨H3, I3, q3⟩ => ?_))))
  exact wpAny_release ⟨σ, H3, I3, q3⟩
def tAsg (te : TE) (g : TG) : TS := fun D σ H => te σ H fun x H1 => g x σ H1 D.nx
theorem ps_asg {tg e : Expr} {te : TE} {g : TG} (he : PE X e te) (hg : PG X tg g) (hs : swapsWithSole [tg] e pos.line X.env = pure false := by rfl) (hw : swappedStores [tg] e X.env = pure none := by rfl)
    (h1 : (assignEach [tg] X.env).map (·.2) = [assign tg X.env] := by rfl) : PS X (.Assign [tg] e pos) (tAsg te g) := by
  intro pins s σ H D I h
  refine wpAny_Assign_stores (thn (he pins s σ H _ I h) fun v s1 ⟨x, H1, I1, r1, q1⟩ => ?_) hs hw
  rw [h1]
  exact thn (hg pins s1 σ H1 x v _ I1 r1 q1) fun _ s2 q => q
theorem ps_set {i : Nat} {x : Str} {e : Expr} {te : TE} {pos' : Pos} (hN : X.N.Nodup) (hi : X.N[i]? = some x) (hx : Loc X.env.scope x) (he : PE X e te) (hs : swapsWith e (some (.Name x pos')) pos.line X.env = pure false := by rfl) (hf : X.fn x = true ∨ X.env.scope.names.lookup x = some .local := by first | exact .inl rfl | exact .inr rfl | assumption) :
    PS X (.Assign [.Name x pos'] e pos) (tAsg te (gName i)) := by
  intro pins s σ H D I h
  refine wpAny_Assign_Name (thn (he pins s σ H _ I h) fun v s1 ⟨y, H1, I1, r1, q1⟩ => ?_) hs
  exact store_ok I1 hN hi hx r1 (fun s2 I2 => ⟨_, H1, I2, q1⟩) hf
def tPar (i j : Nat) (ta : TA) : TS := fun D σ H => ta σ H fun vs H1 => ∃ v w, vs = [v, w] ∧ D.nx ((σ.set i (some v)).set j (some w)) H1
theorem ps_par {i j : Nat} {x y : Str} {a b : Expr} {ta : TA} {px py pt : Pos} {kt k2 pt2} (hc : X.calm = true) (hN : X.N.Nodup) (hi : X.N[i]? = some x) (hj : X.N[j]? = some y) (hij : i ≠ j)
    (hx : X.env.scope.names.lookup x = some .local) (hy : X.env.scope.names.lookup y = some .local) (ha : PA X [a, b] ta)
    (hw : swappedStores [.Tuple [.Name x px, .Name y py] kt pt] (.Tuple [a, b] k2 pt2) X.env = pure (some [x, y]))
    (hs : swapsWithSole [.Tuple [.Name x px, .Name y py] kt pt] (.Tuple [a, b] k2 pt2) pos.line X.env = pure false := by rfl) :
    PS X (.Assign [.Tuple [.Name x px, .Name y py] kt pt] (.Tuple [a, b] k2 pt2) pos) (tPar i j ta) := by
  intro pins s σ H D I h
  rw [exec_Assign_arm]
  refine wpAny_bind (wpAny_standAt ?_)
  rw [hs]
  refine wpAny_bind (wpAny_pure ?_)
  rw [if_neg (by decide)]
  refine wpAny_bind (Tuple_ (thn (ha _ pins s σ H _ I h) fun us s1 ⟨vs, H1, I1, r1, q1⟩ => ?_))
  obtain ⟨v, w, e1, q1⟩ := q1
  subst e1
  obtain ⟨u1, u2, rfl, rv, rw'⟩ : ∃ u1 u2, us = [u1, u2] ∧ RelV v u1 ∧ RelV w u2 := by
    cases r1 with
    | cons p q =>
      cases q with
      | cons p' q' =>
        cases q'
        exact ⟨_, _, rfl, p, p'⟩
  refine wpAny_newObj_type ?_ (by show 2 ≤ sizeLine; decide)
  have I2 : Inv X pins σ H1 { s1 with heap := s1.heap.push { cls := .type "tuple", data := .seq [u1, u2].toArray } } := I1.kept (t' := s1.toks) fun b o e => Heap.get?_push_of_some _ e
  rw [hw]
  refine wpAny_bind (wpAny_pure ?_)
  show wpAny (model X.prog X.w) X.A (do rule "assign.swapped-stores"; let items ← unpackItems (.ref s1.heap.objs.size) 2 none; assignInOrder [fun v => bindName X.env y v, fun v => bindName X.env x v] items.reverse; pure Flow.next) _ _ _
  refine wpAny_bind (wpAny_rule (wpAny_bind (unpackItems_tuple (items := #[u1, u2]) (I.ok.hd hc) (IsTup.new s1.heap _) fun h' hx' => ?_)))
  have I3 := I2.kept (h' := h') (t' := s1.toks) fun b o e => hx' b o (Nat.ne_of_lt (Heap.lt_size e)) e
  show wpAny _ _ (assignInOrder [fun v => bindName X.env y v, fun v => bindName X.env x v] [u2, u1] >>= fun _ => pure Flow.next) _ _ _
  refine wpAny_bind (assignInOrder_cons (wpAny_bindName (store_ok I3 hN hj (.inl hy) rw' (fun s2 I4 => ?_) (.inr hy))))
  refine assignInOrder_cons (wpAny_bindName (store_ok I4 hN hi (.inl hx) rv (fun s3 I5 => assignInOrder_nil (wpAny_pure ?_)) (.inr hx)))
  rw [List.set_comm _ _ (Ne.symm hij)] at I5
  exact ⟨_, H1, I5, q1⟩
end
section
variable {X : Cx} {pos : Pos}
end
structure It where
  go : Nat → Hp → Prop
  yld : Nat → Hp → V → Hp → Prop
  stop : Nat → Hp → Prop
def FpOk (X : Cx) (pins : List (Addr × Obj)) (H : Hp) (b : Addr) : Prop :=
  H b = none ∧ b ≠ X.env.locals ∧ b ∉ X.fs ∧ (b ∈ X.ex ∨ X.s₀.heap.objs.size ≤ b) ∧ (∀ x c, X.env.cells.lookup x = some c → c ≠ b) ∧ ∀ p ∈ X.pn ++ pins, p.1 ≠ b
theorem Inv.fpOk {X : Cx} {pins : List (Addr × Obj)} {σ : St} {H H' : Hp} {s : Shared} {b : Addr} (I : Inv X pins σ H s) (hb : s.heap.objs.size ≤ b) (hn : H' b = none) : FpOk X pins H' b := by
  refine ⟨hn, Nat.ne_of_gt (Nat.lt_of_lt_of_le I.lt hb), I.nofs hb, .inr (Nat.le_trans I.sz hb), fun x c e z => ?_, fun p hp z => ?_⟩
  · obtain ⟨v, q⟩ := I.cell x c e
    exact absurd (Nat.lt_of_lt_of_le q.lt (by rw [z]; exact hb)) (Nat.lt_irrefl _)
  · exact absurd (Nat.lt_of_lt_of_le (Heap.lt_size (I.pin p hp).1) (by rw [z]; exact hb)) (Nat.lt_irrefl _)
structure Turn (P : Program) (w : World) (K : PySem.W.Frag) (tg : Expr) (J : It) (fp : List Addr) (it : Addr) (tn : Nat → Heap → Prop) : Prop where
  mem : it ∈ fp
  obj : ∀ i h, tn i h → ∀ b ∈ fp, ∃ o, h.get? b = some o ∧ ∀ v, o.data ≠ .cell v
  keep : ∀ i h h', tn i h → (∀ b ∈ fp, ∀ o, h.get? b = some o → h'.get? b = some o) → tn i h'
  item : ∀ (X : Cx), X.prog = P → X.w = w → X.K = K → X.calm = true → ∀ (i : Nat) (pins : List (Addr × Obj)) (s : Shared) (σ : St) (H : Hp) (E : Value → Shared → Prop), Inv X pins σ H s → (∀ b ∈ fp, FpOk X pins H b) → tn i s.heap → J.go i H →
    wpAny (model P w) X.A (pyNext (.ref it)) (fun r s1 => ∃ u, r = some u ∧
      wpAny (model P w) X.A (letOwnedTupleGo tg (.ref it) u) (fun _ s2 => ∃ x H', Inv X pins σ H' s2 ∧ RelV x u ∧ J.yld i H x H' ∧ tn (i + 1) s2.heap ∧ ∀ b ∈ fp, H' b = none) E s1) E s
  done : ∀ (X : Cx), X.prog = P → X.w = w → X.K = K → X.calm = true → ∀ (i : Nat) (pins : List (Addr × Obj)) (s : Shared) (σ : St) (H : Hp) (E : Value → Shared → Prop), Inv X pins σ H s → (∀ b ∈ fp, FpOk X pins H b) → tn i s.heap → J.stop i H →
    wpAny (model P w) X.A (pyNext (.ref it)) (fun r s1 => r = none ∧ Inv X pins σ H s1) E s
  self : ∀ (A : Around) (i : Nat) (s : Shared) (Q : Value → Shared → Prop) (E : Value → Shared → Prop), tn i s.heap → Q (.ref it) s → wpAny (model P w) A (pyIter (.ref it)) Q E s
abbrev TI := St → Hp → (It → Hp → Prop) → Prop
def PIE (X : Cx) (pins : List (Addr × Obj)) (σ : St) (tg : Expr) (R : It → Hp → Prop) (itv : Value) (s2 : Shared) : Prop :=
  ∃ (it : Addr) (fp : List Addr) (tn : Nat → Heap → Prop) (J : It) (H' : Hp), itv = .ref it ∧ Inv X pins σ H' s2 ∧ Turn X.prog X.w X.K tg J fp it tn ∧ tn 0 s2.heap ∧ (∀ b ∈ fp, FpOk X pins H' b) ∧ R J H'
def PI (X : Cx) (tg iter : Expr) (wi : TI) : Prop :=
  ∀ (pins : List (Addr × Obj)) (s : Shared) (σ : St) (H : Hp) (R : It → Hp → Prop), Inv X pins σ H s → wi σ H R →
    wpAny (model X.prog X.w) X.A (eval iter X.env) (fun v s1 => wpAny (model X.prog X.w) X.A (pyIter v) (PIE X pins σ tg R) X.xe s1) X.xe s
theorem go_of {M : Model} {A : Around} {E : Value → Shared → Prop} {s : Shared} {tg : Expr} {it : Addr} {u : Value} {o : Obj} {n : String} {vs : Array Value} {Q : Unit → Shared → Prop} (ho : s.heap.get? it = some o) (hc : o.cls = .type n) (hd : o.data = .fields vs)
    (hn : ["enumerate", "zip", "dict_itemiterator", "dict_reverseitemiterator", "odict_iterator", "itertools.zip_longest", "itertools.pairwise"].contains n = false) (hQ : Q () s) : wpAny M A (letOwnedTupleGo tg (.ref it) u) Q E s := by
  unfold letOwnedTupleGo
  cases tg <;> first
    | exact wpAny_pure hQ
    | (cases u <;> first
        | exact wpAny_pure hQ
        | (refine wpAny_bind (wpAny_load ho ?_)
           rw [hc, hd]
           show wpAny M A (if (["enumerate", "zip", "dict_itemiterator", "dict_reverseitemiterator", "odict_iterator", "itertools.zip_longest", "itertools.pairwise"].contains n && vs[0]? == some (rawInt _)) = true then _ else _) Q E s
           rw [if_neg (by intro h; rw [hn, Bool.false_and] at h; cases h)]
           exact wpAny_pure hQ))
def Itl (K : PySem.W.Frag) (a : Addr) : It :=
  ⟨fun i H => ∃ xs x, SqL K H a xs ∧ xs[i]? = some x, fun i H x H' => H' = H ∧ ∀ xs, SqL K H a xs → xs[i]? = some x, fun i H => ∃ xs, SqL K H a xs ∧ xs.length ≤ i⟩
theorem turn_list {P : Program} {w : World} {K : PySem.W.Frag} {tg : Expr} (a it : Addr) : Turn P w K tg (Itl K a) [it] it (fun i h => h.IsListIter it a i) where
  mem := by simp
  obj := fun i h st b hb => by
    have e : b = it := by simpa using hb
    subst e
    obtain ⟨o, e, c, d⟩ := st
    exact ⟨o, e, fun v z => by rw [d] at z; cases z⟩
  keep := fun i h h' st k => st.at fun o e => k it (by simp) o e
  item := by
    intro X hP hw hK hc i pins s σ H E I hf st hg
    subst hP hw hK
    obtain ⟨xs, x, hq, hx⟩ := hg
    obtain ⟨its, rv, p, hz⟩ := I.list hq
    obtain ⟨u, hu, ru⟩ := rv.get hx
    obtain ⟨f0, f1, f2, f3, f4, f5⟩ := hf it (by simp)
    refine wpAny_pyNext_list_item st p.isList (x := u) (by simpa using hu) fun h' st' sb => ?_
    have I1 : Inv X pins σ H { s with heap := h' } := I.turned (t' := s.toks) (fun b o hb e => (sb.2 b hb).trans e) f0 f1 f3 f4 f5
    obtain ⟨o, e, c, d⟩ := id st'
    exact ⟨u, rfl, go_of (s := { s with heap := h' }) e c d (by decide) ⟨x, H, I1, ru, ⟨rfl, fun ys hy => by rw [I.list_inj hy hq]; exact hx⟩, st', fun b hb => (hf b hb).1⟩⟩
  done := by
    intro X hP hw hK hc i pins s σ H E I hf st hg
    subst hP hw hK
    obtain ⟨xs, hq, hx⟩ := hg
    obtain ⟨its, rv, p, hz⟩ := I.list hq
    obtain ⟨f0, f1, f2, f3, f4, f5⟩ := hf it (by simp)
    have hl := rv.length
    exact wpAny_pyNext_list_end (I.ok.hd hc) st p.isList (by simp; omega) fun h' eb => ⟨rfl, I.turned (t' := s.toks) (fun b o hb e => eb b o hb e) f0 f1 f3 f4 f5⟩
  self := fun _ _ _ _ _ st h => wpAny_pyIter_listiter st h
end L2
namespace L2
open PySem PySem.Spec PyProof.Rows
section
variable {X : Cx} {tg : Expr}
def iList (K : PySem.W.Frag) (tl : TE) : TI := fun σ H R => tl σ H fun x H1 => ∃ a, x = .ref a ∧ (∃ xs, SqL K H1 a xs) ∧ R (Itl K a) H1
theorem pi_list {l : Expr} {tl : TE} (hl : PE X l tl) : PI X tg l (iList X.K tl) := by
  intro pins s σ H R I h
  refine thn (hl pins s σ H _ I h) fun v s1 ⟨x, H1, I1, r1, q1⟩ => ?_
  obtain ⟨a, e, ⟨xs, hq⟩, q⟩ := q1
  subst e
  cases r1
  obtain ⟨its, rv, p, hz⟩ := I1.list hq
  refine wpAny_pyIter_list p.isList ?_
  refine ⟨s1.heap.objs.size, [s1.heap.objs.size], _, _, H1, rfl, I1.kept (t' := s1.toks) fun b o e => Heap.get?_push_of_some _ e, turn_list a _, ⟨_, Heap.get?_push_size _ rfl, rfl, rfl⟩, fun b hb => ?_, q⟩
  have e : b = s1.heap.objs.size := by simpa using hb
  subst e
  exact I1.fpOk (Nat.le_refl _) (I1.hok.fresh (Nat.le_refl _))
def tFor (wi : TI) (g : TG) (tb : TS) : TS := fun D σ H => wi σ H fun J H1 => ∃ W : Nat → Nat → St → Hp → Prop, (∃ m, W 0 m σ H1) ∧ ∀ i m σ H, W i m σ H →
  (J.stop i H ∧ D.nx σ H) ∨ (J.go i H ∧ ∃ N : St → Hp → Prop, (∀ σ' H', N σ' H' → ∃ m', m' < m ∧ W (i + 1) m' σ' H') ∧ ∀ x H', J.yld i H x H' → g x σ H' fun σ2 H2 => tb { D with nx := N, ct := N, bk := D.nx } σ2 H2)
def pinsAt (fp : List Addr) (h : Heap) : List (Addr × Obj) := fp.filterMap fun b => (h.get? b).map fun o => (b, o)
theorem mem_pinsAt {fp : List Addr} {h : Heap} {b : Addr} {o : Obj} (hb : b ∈ fp) (e : h.get? b = some o) : (b, o) ∈ pinsAt fp h := List.mem_filterMap.mpr ⟨b, hb, by rw [e]; rfl⟩
theorem of_pinsAt {fp : List Addr} {h : Heap} {p : Addr × Obj} (hp : p ∈ pinsAt fp h) : p.1 ∈ fp ∧ h.get? p.1 = some p.2 := by
  obtain ⟨b, hb, e⟩ := List.mem_filterMap.mp hp
  cases q : h.get? b with
  | none => rw [q] at e; cases e
  | some o =>
    rw [q] at e
    have e' : (b, o) = p := Option.some.inj e
    subst e'
    exact ⟨hb, q⟩
theorem Inv.pinned {pins : List (Addr × Obj)} {σ : St} {H : Hp} {s : Shared} {fp : List Addr} (I : Inv X pins σ H s) (hf : ∀ b ∈ fp, FpOk X pins H b) (ho : ∀ b ∈ fp, ∃ o, s.heap.get? b = some o ∧ ∀ v, o.data ≠ .cell v) : Inv X (pins ++ pinsAt fp s.heap) σ H s :=
  I.pins_of fun p hp => (List.mem_append.mp hp).elim (fun z => I.pin p (List.mem_append_right _ z)) fun z => by
    obtain ⟨hb, e⟩ := of_pinsAt z
    obtain ⟨f0, f1, f2, _⟩ := hf p.1 hb
    obtain ⟨o, e', d⟩ := ho p.1 hb
    rw [e] at e'; cases e'
    exact ⟨e, f0, f1, f2, d⟩
theorem Inv.unpinned {pins pl : List (Addr × Obj)} {σ : St} {H : Hp} {s : Shared} (I : Inv X (pins ++ pl) σ H s) : Inv X pins σ H s := I.pins_of fun p hp => I.pin p (List.mem_append_right _ (List.mem_append_left _ hp))
theorem ps_for {iter : Expr} {body : List Stmt} {wi : TI} {g : TG} {tb : TS} {pos : Pos} (hp : PassesOwn (model X.prog X.w) X.A X.env X.xe) (hc : X.calm = true) (hi : PI X tg iter wi) (hg : PG X tg g) (hb : PSs X body tb)
    (hs : ∀ x, foldedSetIterable iter X.env x = pure x := by intro _; rfl) : PS X (.For tg iter body [] pos) (tFor wi g tb) := by
  intro pins s σ H D I h
  refine wpAny_For (thn (hi pins s σ H _ I h) fun v s1 h1 => thn h1 fun itv s2 h2 => ?_) hs
  obtain ⟨it, fp, tn, J, H2, e, I2, T, st2, f2, W, ⟨m0, w0⟩, turn⟩ := h2
  subst e
  -- what stays true of the iterator's objects through the loop
  have stat : ∀ {H' : Hp}, (∀ b ∈ fp, H' b = none) → ∀ b ∈ fp, FpOk X pins H' b := fun hn b hb => ⟨hn b hb, (f2 b hb).2⟩
  refine codeAny_forLoop_any (fun n s' => ∃ i σ' H', Inv X pins σ' H' s' ∧ tn i s'.heap ∧ (∀ b ∈ fp, H' b = none) ∧ W i n σ' H') ?_ m0 ⟨0, σ, H2, I2, st2, fun b hb => (f2 b hb).1, w0⟩
  rintro n s3 ⟨i, σ3, H3, I3, st3, fr3, w3⟩
  rcases turn i n σ3 H3 w3 with ⟨stop, qn⟩ | ⟨go, N, hN, step⟩
  · refine wpAny_passesOwn hp (thn (T.done X rfl rfl rfl hc i pins s3 σ3 H3 X.xe I3 (stat fr3) st3 stop) fun r s4 ⟨hr, I4⟩ => ?_)
    subst hr
    exact wpAny_execs_nil ⟨σ3, H3, I4, qn⟩
  · refine wpAny_passesOwn hp (thn (T.item X rfl rfl rfl hc i pins s3 σ3 H3 X.xe I3 (stat fr3) st3 go) fun r s4 ⟨u, hr, h4⟩ => ?_)
    subst hr
    refine wpAny_passesOwn hp (thn h4 fun _ s5 ⟨x, H5, I5, r5, y5, st5, fr5⟩ => ?_)
    have I5' := I5.pinned (stat fr5) (T.obj _ _ st5)
    refine wpAny_passesOwn hp (thn (hg _ s5 σ3 H5 x u _ I5' r5 (step x H5 y5)) fun _ s6 ⟨σ6, H6, I6, q6⟩ => ?_)
    refine wpAny_passesOwn hp (thn (hb _ s6 σ6 H6 _ I6 q6) fun f s7 q7 => ?_)
    have again : ∀ {σ7 : St} {H7 : Hp}, Inv X (pins ++ pinsAt fp s5.heap) σ7 H7 s7 → N σ7 H7 → ∃ m, m < n ∧ ∃ i σ' H', Inv X pins σ' H' s7 ∧ tn i s7.heap ∧ (∀ b ∈ fp, H' b = none) ∧ W i m σ' H' := fun {σ7 H7} I7 n7 => by
      obtain ⟨m', hm, w7⟩ := hN σ7 H7 n7
      refine ⟨m', hm, i + 1, σ7, H7, I7.unpinned, T.keep _ _ _ st5 fun b hb o e => (I7.pin (b, o) (List.mem_append_right _ (List.mem_append_right _ (mem_pinsAt hb e)))).1, fun b hb => ?_, w7⟩
      obtain ⟨o, e, d⟩ := T.obj _ _ st5 b hb
      exact (I7.pin (b, o) (List.mem_append_right _ (List.mem_append_right _ (mem_pinsAt hb e)))).2.1
    cases f with
    | next => obtain ⟨σ7, H7, I7, n7⟩ := q7; exact again I7 n7
    | cont => obtain ⟨σ7, H7, I7, n7⟩ := q7; exact again I7 n7
    | brk => obtain ⟨σ7, H7, I7, q7⟩ := q7; exact ⟨σ7, H7, I7.unpinned, q7⟩
    | ret v => obtain ⟨x7, σ7, H7, I7, r7, q7⟩ := q7; exact ⟨x7, σ7, H7, I7.unpinned, r7, q7⟩
end
theorem for_list {K : PySem.W.Frag} {a : Addr} {xs : List V} {g : TG} {tb : TS} {D : Ends} {σ : St} {H : Hp} (Pv : Nat → St → Hp → Prop) (h0 : Pv 0 σ H) (hl : ∀ i σ H, i ≤ xs.length → Pv i σ H → SqL K H a xs)
    (hs : ∀ i x σ H, xs[i]? = some x → Pv i σ H → g x σ H fun σ2 H2 => tb { D with nx := Pv (i + 1), ct := Pv (i + 1), bk := D.nx } σ2 H2) (hd : ∀ σ H, Pv xs.length σ H → D.nx σ H) :
    ∃ W : Nat → Nat → St → Hp → Prop, (∃ m, W 0 m σ H) ∧ ∀ i m σ H, W i m σ H →
      ((Itl K a).stop i H ∧ D.nx σ H) ∨ ((Itl K a).go i H ∧ ∃ N : St → Hp → Prop, (∀ σ' H', N σ' H' → ∃ m', m' < m ∧ W (i + 1) m' σ' H') ∧ ∀ x H', (Itl K a).yld i H x H' → g x σ H' fun σ2 H2 => tb { D with nx := N, ct := N, bk := D.nx } σ2 H2) := by
  refine ⟨fun i m σ H => m = xs.length - i ∧ i ≤ xs.length ∧ Pv i σ H, ⟨xs.length, by simp, Nat.zero_le _, h0⟩, ?_⟩
  rintro i m σ H ⟨rfl, hi, p⟩
  have q := hl i σ H hi p
  by_cases hlt : i < xs.length
  · refine .inr ⟨⟨xs, xs[i], q, by simp [hlt]⟩, Pv (i + 1), fun σ' H' p' => ⟨xs.length - (i + 1), by omega, rfl, hlt, p'⟩, fun x H' y => ?_⟩
    obtain ⟨e, y⟩ := y
    subst e
    exact hs i x σ _ (y xs q) p
  · have e : i = xs.length := by omega
    subst e
    exact .inl ⟨⟨xs, q, Nat.le_refl _⟩, hd σ H p⟩
end L2
namespace L2
open PySem PySem.Spec PyProof.Rows
abbrev R2 := V → V → Hp → VK → Prop
def OpR (X : Cx) (f : Value → Value → Sem Value) (r : R2) : Prop :=
  ∀ (pins : List (Addr × Obj)) (s : Shared) (σ : St) (H : Hp) (x y : V) (v u : Value) (Q : VK), Inv X pins σ H s → RelV x v → RelV y u → r x y H Q →
    wpAny (model X.prog X.w) X.A (f v u) (EP X pins σ Q) X.xe s
def UnR (X : Cx) (f : Value → Sem Value) (r : V → Hp → VK → Prop) : Prop :=
  ∀ (pins : List (Addr × Obj)) (s : Shared) (σ : St) (H : Hp) (x : V) (v : Value) (Q : VK), Inv X pins σ H s → RelV x v → r x H Q →
    wpAny (model X.prog X.w) X.A (f v) (EP X pins σ Q) X.xe s
def CallR (X : Cx) (f : Value) (r : List V → Hp → VK → Prop) : Prop :=
  ∀ (pins : List (Addr × Obj)) (s : Shared) (σ : St) (H : Hp) (xs : List V) (us : List Value) (Q : VK), Inv X pins σ H s → Vals xs us → r xs H Q →
    wpAny (model X.prog X.w) X.A (call f us) (EP X pins σ Q) X.xe s
def tOp (r : R2) (ta tb : TE) : TE := fun σ H Q => ta σ H fun x H1 => tb σ H1 fun y H2 => r x y H2 Q
def tUn (r : V → Hp → VK → Prop) (ta : TE) : TE := fun σ H Q => ta σ H fun x H1 => r x H1 Q
def rI (C : Int → Int → Prop) (g : Int → Int → V) : R2 := fun x y H Q => ∃ i j, x = .int i ∧ y = .int j ∧ C i j ∧ Q (g i j) H
def rI0 (g : Int → Int → V) : R2 := fun x y H Q => ∃ i j, x = .int i ∧ y = .int j ∧ Q (g i j) H
def rU (g : Int → V) : V → Hp → VK → Prop := fun x H Q => ∃ i, x = .int i ∧ Q (g i) H
section
variable {X : Cx} {a b c : Expr} {ta tb tc : TE} {pos : Pos}
theorem binT (ha : PE X a ta) (hb : PE X b tb) {pins : List (Addr × Obj)} {s : Shared} {σ : St} {H : Hp} {R : V → V → Hp → Prop} (I : Inv X pins σ H s)
    (h : ta σ H fun x H1 => tb σ H1 fun y H2 => R x y H2) {Q : Value → Shared → Prop} {f : Value → Value → Sem Value}
    (hf : ∀ v u s2 x y H2, Inv X pins σ H2 s2 → RelV x v → RelV y u → R x y H2 → wpAny (model X.prog X.w) X.A (f v u) Q X.xe s2) :
    wpAny (model X.prog X.w) X.A (eval a X.env) (fun v s₁ => wpAny (model X.prog X.w) X.A (eval b X.env) (fun u s₂ => wpAny (model X.prog X.w) X.A (f v u) Q X.xe s₂) X.xe s₁) X.xe s := by
  refine thn (ha pins s σ H _ I h) fun v s1 ⟨x, H1, I1, r1, q1⟩ => ?_
  refine thn (hb pins s1 σ H1 _ I1 q1) fun u s2 ⟨y, H2, I2, r2, q2⟩ => ?_
  exact hf v u s2 x y H2 I2 r1 r2 q2
theorem pe_op {op : Operator} {r : R2} (ho : OpR X (binaryOp op) r) (ha : PE X a ta) (hb : PE X b tb) : PE X (.BinOp a op b pos) (tOp r ta tb) := by
  intro pins s σ H Q I h
  exact wpAny_BinOp (binT ha hb I h fun v u s2 x y H2 I2 rx ry q => ho pins s2 σ H2 x y v u Q I2 rx ry q)
theorem pe_un {op : UnaryOp} {r : V → Hp → VK → Prop} (ho : UnR X (unaryOp op) r) (ha : PE X a ta) : PE X (.UnaryOp op a pos) (tUn r ta) := by
  intro pins s σ H Q I h
  exact UnaryOp_ (thn (ha pins s σ H _ I h) fun v s1 ⟨x, H1, I1, r1, q1⟩ => ho pins s1 σ H1 x v Q I1 r1 q1)
theorem opI {f : Value → Value → Sem Value} {C : Int → Int → Prop} {g : Int → Int → Int}
    (rule : ∀ (i j : Int) (t u : Tok) (s : Shared) (Q : Value → Shared → Prop) (E : Value → Shared → Prop), C i j → Q (.int (g i j) s.toks) { s with toks := s.toks + 1 } → wpAny (model X.prog X.w) X.A (f (.int i t) (.int j u)) Q E s) :
    OpR X f (rI C fun i j => .int (g i j)) := by
  intro pins s σ H x y v u Q I rx ry h
  obtain ⟨i, j, rfl, rfl, hc, q⟩ := h
  obtain ⟨t, rfl⟩ := rx
  obtain ⟨t', rfl⟩ := ry
  exact rule i j t t' s _ _ hc ⟨.int (g i j), H, I.tok _, ⟨_, rfl⟩, q⟩
theorem opI0 {f : Value → Value → Sem Value} {g : Int → Int → Int}
    (rule : ∀ (i j : Int) (t u : Tok) (s : Shared) (Q : Value → Shared → Prop) (E : Value → Shared → Prop), Q (.int (g i j) s.toks) { s with toks := s.toks + 1 } → wpAny (model X.prog X.w) X.A (f (.int i t) (.int j u)) Q E s) :
    OpR X f (rI0 fun i j => .int (g i j)) := by
  intro pins s σ H x y v u Q I rx ry h
  obtain ⟨i, j, rfl, rfl, q⟩ := h
  obtain ⟨t, rfl⟩ := rx
  obtain ⟨t', rfl⟩ := ry
  exact rule i j t t' s _ _ ⟨.int (g i j), H, I.tok _, ⟨_, rfl⟩, q⟩
theorem opB0 {f : Value → Value → Sem Value} {g : Int → Int → Bool}
    (rule : ∀ (i j : Int) (t u : Tok) (s : Shared) (Q : Value → Shared → Prop) (E : Value → Shared → Prop), Q (.bool (g i j)) s → wpAny (model X.prog X.w) X.A (f (.int i t) (.int j u)) Q E s) :
    OpR X f (rI0 fun i j => .bl (g i j)) := by
  intro pins s σ H x y v u Q I rx ry h
  obtain ⟨i, j, rfl, rfl, q⟩ := h
  obtain ⟨t, rfl⟩ := rx
  obtain ⟨t', rfl⟩ := ry
  exact rule i j t t' s _ _ ⟨.bl (g i j), H, I, rfl, q⟩
def CPow (i j : Int) : Prop := 0 ≤ j ∧ j ≤ 1000000 ∧ i.natAbs < 2 ^ 64
def CMul (i j : Int) : Prop := (-(2 ^ 64) < i ∧ i < 2 ^ 64) ∨ (-(2 ^ 64) < j ∧ j < 2 ^ 64)
theorem CMul.ok {i j : Int} (h : CMul i j) : IntMulOk i j := by
  rcases h with ⟨h1, h2⟩ | ⟨h1, h2⟩
  · exact .of_left (intBits_le_64 h1 h2)
  · exact .of_right (intBits_le_64 h1 h2)
theorem op_add : OpR X (binaryOp .Add) (rI0 fun i j => .int (i + j)) := opI0 fun _ _ _ _ _ _ _ q => add_int q
theorem op_sub : OpR X (binaryOp .Sub) (rI0 fun i j => .int (i - j)) := opI0 fun _ _ _ _ _ _ _ q => sub_int q
theorem op_mod : OpR X (binaryOp .Mod) (rI (fun _ j => 0 < j) fun i j => .int (i % j)) := opI fun i j _ _ _ _ _ hc q => by
  have h1 : (0 : Int) < j := hc
  exact mod_int' (by omega) (by rw [Int.fmod_eq_emod_of_nonneg i (by omega)]; exact q)
theorem op_pow : OpR X (binaryOp .Pow) (rI CPow fun i j => .int (i ^ j.toNat)) := opI fun _ _ _ _ _ _ _ hc q => pow_int_small hc.1 hc.2.1 hc.2.2 q
theorem unI {f : Value → Sem Value} {g : Int → Int}
    (rule : ∀ (i : Int) (t : Tok) (s : Shared) (Q : Value → Shared → Prop) (E : Value → Shared → Prop), Q (.int (g i) s.toks) { s with toks := s.toks + 1 } → wpAny (model X.prog X.w) X.A (f (.int i t)) Q E s) :
    UnR X f (rU fun i => .int (g i)) := by
  intro pins s σ H x v Q I rx h
  obtain ⟨i, rfl, q⟩ := h
  obtain ⟨t, rfl⟩ := rx
  exact rule i t s _ _ ⟨.int (g i), H, I.tok _, ⟨_, rfl⟩, q⟩
theorem un_neg : UnR X (unaryOp .USub) (rU fun i => .int (-i)) := unI fun _ _ _ _ _ q => neg_int q
end
def scal : V → V → Bool
  | .non, .non => true | .non, .int _ => true | .int _, .non => true | .non, .bl _ => true | .bl _, .non => true | .non, .str _ => true | .str _, .non => true
  | .int _, .int _ => true | .bl _, .bl _ => true | .str _, .str _ => true | .byt _, .byt _ => true
  | .int _, .str _ => true | .str _, .int _ => true | .bl _, .str _ => true | .str _, .bl _ => true
  | _, _ => false
def rEq : R2 := fun x y H Q => scal x y = true ∧ Q (.bl (decide (x = y))) H
def rNe : R2 := fun x y H Q => scal x y = true ∧ Q (.bl (!decide (x = y))) H
theorem dec_int {i j : Int} : decide (V.int i = V.int j) = (i == j) := by
  rw [Bool.eq_iff_iff]
  simp
theorem dec_bl {i j : Bool} : decide (V.bl i = V.bl j) = (i == j) := by
  rw [Bool.eq_iff_iff]
  simp
theorem dec_str {i j : Str} : decide (V.str i = V.str j) = (i == j) := by
  rw [Bool.eq_iff_iff]
  simp
theorem dec_byt {i j : Array UInt8} : decide (V.byt i = V.byt j) = (i.toList == j.toList) := by
  rw [Bool.eq_iff_iff]
  cases i
  cases j
  simp
section
variable {X : Cx} {a b c : Expr} {ta tb tc : TE} {pos : Pos}
theorem fin_bl {pins : List (Addr × Obj)} {σ : St} {H : Hp} {s : Shared} {Q : VK} {k k' : Bool} (I : Inv X pins σ H s) (q : Q (.bl k) H) (e : k = k') : EP X pins σ Q (.bool k') s := by
  subst e
  exact ⟨.bl k, H, I, rfl, q⟩
theorem op_eq : OpR X (compareOp .Eq) rEq := by
  intro pins s σ H x y v u Q I rx ry h
  obtain ⟨hs, q⟩ := h
  cases x with
  | non =>
    cases rx
    cases y with
    | non => cases ry; exact PySem.EqNone.eq_none_none (fin_bl I q (by simp))
    | bl j => cases ry; exact PySem.EqNone.eq_none_bool (fin_bl I q (by simp))
    | int j => obtain ⟨t', rfl⟩ := ry; exact PySem.EqNone.eq_none_int (fin_bl I q (by simp))
    | str j => obtain ⟨t', rfl⟩ := ry; exact PySem.EqNone.eq_none_str (fin_bl I q (by simp))
    | _ => exact absurd (show false = true from hs) Bool.false_ne_true
  | bl i =>
    cases rx
    cases y with
    | non => cases ry; exact PySem.EqNone.eq_bool_none (fin_bl I q (by simp))
    | bl j => cases ry; exact eq_bool (fin_bl I q dec_bl)
    | str j => obtain ⟨t', rfl⟩ := ry; exact PySem.EqMixed.eq_bool_str (fin_bl I q (by simp))
    | _ => exact absurd (show false = true from hs) Bool.false_ne_true
  | int i =>
    obtain ⟨t, rfl⟩ := rx
    cases y with
    | non => cases ry; exact PySem.EqNone.eq_int_none (fin_bl I q (by simp))
    | int j => obtain ⟨t', rfl⟩ := ry; exact eq_int (fin_bl I q dec_int)
    | str j => obtain ⟨t', rfl⟩ := ry; exact PySem.EqMixed.eq_int_str (fin_bl I q (by simp))
    | _ => exact absurd (show false = true from hs) Bool.false_ne_true
  | str i =>
    obtain ⟨t, rfl⟩ := rx
    cases y with
    | non => cases ry; exact PySem.EqNone.eq_str_none (fin_bl I q (by simp))
    | bl j => cases ry; exact PySem.EqMixed.eq_str_bool (fin_bl I q (by simp))
    | int j => obtain ⟨t', rfl⟩ := ry; exact PySem.EqMixed.eq_str_int (fin_bl I q (by simp))
    | str j => obtain ⟨t', rfl⟩ := ry; exact eq_str (fin_bl I q dec_str)
    | _ => exact absurd (show false = true from hs) Bool.false_ne_true
  | byt i =>
    obtain ⟨t, rfl⟩ := rx
    cases y with
    | byt j => obtain ⟨t', rfl⟩ := ry; exact PySem.W.eq_bytes (fin_bl I q dec_byt)
    | _ => exact absurd (show false = true from hs) Bool.false_ne_true
  | _ => cases y <;> exact absurd (show false = true from hs) Bool.false_ne_true
theorem op_ne : OpR X (compareOp .NotEq) rNe := by
  intro pins s σ H x y v u Q I rx ry h
  obtain ⟨hs, q⟩ := h
  cases x with
  | non =>
    cases rx
    cases y with
    | non => cases ry; exact PySem.EqNone.ne_none_none (fin_bl I q (by simp))
    | bl j => cases ry; exact PySem.EqNone.ne_none_bool (fin_bl I q (by simp))
    | int j => obtain ⟨t', rfl⟩ := ry; exact PySem.EqNone.ne_none_int (fin_bl I q (by simp))
    | str j => obtain ⟨t', rfl⟩ := ry; exact PySem.EqNone.ne_none_str (fin_bl I q (by simp))
    | _ => exact absurd (show false = true from hs) Bool.false_ne_true
  | bl i =>
    cases rx
    cases y with
    | non => cases ry; exact PySem.EqNone.ne_bool_none (fin_bl I q (by simp))
    | bl j => cases ry; exact ne_bool (fin_bl I q (congrArg not dec_bl))
    | str j => obtain ⟨t', rfl⟩ := ry; exact PySem.EqMixed.ne_bool_str (fin_bl I q (by simp))
    | _ => exact absurd (show false = true from hs) Bool.false_ne_true
  | int i =>
    obtain ⟨t, rfl⟩ := rx
    cases y with
    | non => cases ry; exact PySem.EqNone.ne_int_none (fin_bl I q (by simp))
    | int j => obtain ⟨t', rfl⟩ := ry; exact ne_int (fin_bl I q (congrArg not dec_int))
    | str j => obtain ⟨t', rfl⟩ := ry; exact PySem.EqMixed.ne_int_str (fin_bl I q (by simp))
    | _ => exact absurd (show false = true from hs) Bool.false_ne_true
  | str i =>
    obtain ⟨t, rfl⟩ := rx
    cases y with
    | non => cases ry; exact PySem.EqNone.ne_str_none (fin_bl I q (by simp))
    | bl j => cases ry; exact PySem.EqMixed.ne_str_bool (fin_bl I q (by simp))
    | int j => obtain ⟨t', rfl⟩ := ry; exact PySem.EqMixed.ne_str_int (fin_bl I q (by simp))
    | str j => obtain ⟨t', rfl⟩ := ry; exact ne_str (fin_bl I q (congrArg not dec_str))
    | _ => exact absurd (show false = true from hs) Bool.false_ne_true
  | byt i =>
    obtain ⟨t, rfl⟩ := rx
    cases y with
    | byt j => obtain ⟨t', rfl⟩ := ry; exact PySem.W.ne_bytes (fin_bl I q (congrArg not dec_byt))
    | _ => exact absurd (show false = true from hs) Bool.false_ne_true
  | _ => cases y <;> exact absurd (show false = true from hs) Bool.false_ne_true
theorem op_lt : OpR X (compareOp .Lt) (rI0 fun i j => .bl (decide (i < j))) := opB0 fun _ _ _ _ _ _ _ q => lt_int q
theorem op_gt : OpR X (compareOp .Gt) (rI0 fun i j => .bl (decide (j < i))) := opB0 fun _ _ _ _ _ _ _ q => gt_int q
theorem nomark (b : Expr) {op : CmpOp} (h : op ≠ .In := by decide) (h2 : op ≠ .NotIn := by decide) : behindInMarks op b = false := by
  have e1 : (op == CmpOp.In) = false := by cases op <;> first | rfl | exact absurd rfl h
  have e2 : (op == CmpOp.NotIn) = false := by cases op <;> first | rfl | exact absurd rfl h2
  cases b <;> simp [behindInMarks, e1, e2]
theorem pe_cmpR {op : CmpOp} {r : R2} (ho : OpR X (compareOp op) r) (ha : PE X a ta) (hb : PE X b tb) (hm : behindInMarks op b = false) : PE X (.Compare a [op] [b] pos) (tOp r ta tb) := by
  intro pins s σ H Q I h
  exact wpAny_Compare1 (binT ha hb I h fun v u s2 x y H2 I2 rx ry q => ho pins s2 σ H2 x y v u Q I2 rx ry q) hm
def tTest (t : TE) : TT := fun σ H Q => t σ H fun x H' => ∃ k, x = .bl k ∧ Q k H'
theorem pt_cmpR {op : CmpOp} {r : R2} (ho : OpR X (compareOp op) r) (ha : PE X a ta) (hb : PE X b tb) (hm : behindInMarks op b = false) : PT X (.Compare a [op] [b] pos) (tTest (tOp r ta tb)) := by
  intro pins s σ H Q I h
  refine wpAny_isTrue_Compare1 (thn (ha pins s σ H _ I h) fun v s1 ⟨x, H1, I1, r1, q1⟩ => thn (hb pins s1 σ H1 _ I1 q1) fun u s2 ⟨y, H2, I2, r2, q2⟩ =>
    thn (ho pins s2 σ H2 x y v u _ I2 r1 r2 q2) fun c s3 ⟨z, H3, I3, r3, k, e, q3⟩ => ?_) hm
  subst e
  cases r3
  exact wpAny_truthy_bool ⟨H3, I3, q3⟩
theorem line63 : (sizeLine : Nat) < 2 ^ 63 := by rw [sizeLine_eq]; decide
theorem vals1 {x : V} {us : List Value} (r : Vals [x] us) : ∃ u, us = [u] ∧ RelV x u := by
  cases r with
  | cons r1 r2 => cases r2; exact ⟨_, rfl, r1⟩
theorem vals2 {x y : V} {us : List Value} (r : Vals [x, y] us) : ∃ u w', us = [u, w'] ∧ RelV x u ∧ RelV y w' := by
  cases r with
  | cons r1 r2 =>
    cases r2 with
    | cons r3 r4 => cases r4; exact ⟨_, _, rfl, r1, r3⟩
end
end L2
namespace L2
open PySem PySem.Spec PyProof.Rows
structure ObjM (h : Heap) (x dx C : Addr) (mA : Str → Option Value) : Prop where
  obj : h.get? x = some (PySem.W.instObj C dx)
  ns : h.Ns1 dx mA
  ne : dx ≠ x
theorem lookIn_ns {h : Heap} {dx : Addr} {mA : Str → Option Value} (n : h.Ns1 dx mA) : ∃ od, h.get? dx = some od ∧ ∀ name, PySem.W.lookIn name od = some (mA name) := by
  obtain ⟨o, es, ep, ho, hd, hk, _, hm⟩ := n
  refine ⟨o, ho, fun name => ?_⟩
  have e := hm name
  unfold nsFind findBy at e
  rw [← Array.find?_toList] at e
  unfold PySem.W.lookIn
  rw [hd]
  dsimp only
  split
  · rename_i y q
    rw [q] at e
    exact congrArg some e
  · rename_i q
    rw [q] at e
    have a : es.toList.any (·.refKey) = false := by
      rw [List.any_eq_false]
      intro y hy
      obtain ⟨z, t, hkey⟩ := hk y (Array.mem_toList_iff.mp hy)
      simp [DictEntry.refKey, hkey]
    have a' : ¬ es.toList.any (·.refKey) = true := by rw [a]; exact Bool.false_ne_true
    rw [if_neg a']
    exact congrArg some e
theorem ObjM.look {h : Heap} {x dx C : Addr} {mA : Str → Option Value} (I : ObjM h x dx C mA) : ∃ od, PySem.W.InstAt h x (PySem.W.instObj C dx) C (some od) ∧ ∀ name, PySem.W.lookIn name od = some (mA name) :=
  let ⟨od, ho, hl⟩ := lookIn_ns I.ns
  ⟨od, ⟨I.obj, rfl, rfl, ho⟩, hl⟩
section
variable {prog : Program} {w : World} {A : Around} {E : Value → Shared → Prop} {s : Shared} {K : PySem.W.Frag} {x dx C f : Addr} {mA : Str → Option Value} {name : Str} {v : Value}
end
section
variable {P : Program} {w : World} {H H' : Hp} {h h' : Heap} {a C dx : Addr} {fs fs' : List (Str × V)}
theorem ins_get (hok : HOk P w H h) (e : H a = some (.ins C dx fs)) : ∃ mA, ObjM h a dx C mA ∧ (∀ f, RelO (fs.lookup f) (mA f)) ∧ PySem.Within mA (fs.map (·.1)) ∧ fs.length ≤ 1000 ∧ H dx = some (.own a) := by
  obtain ⟨d, z, ne, ob, mA, n, r, q⟩ := (show ObjOk P w H h a (.ins C dx fs) from hok a _ e)
  exact ⟨mA, ⟨ob, n, ne⟩, r, q, z, d⟩
end
structure Cls (K : PySem.W.Frag) (C : Addr) : Prop where
  pg : PySem.W.plainGet K C Str.empty = true
  hd : PySem.W.hasDictIn K C = true
  po : PySem.W.plainOver K C = true
  sa : PySem.W.findIn K (.ref C) "__setattr__" = some (some (.builtin "object.__setattr__"))
theorem Cls.get {K : PySem.W.Frag} {C : Addr} (c : Cls K C) (f : Str) : PySem.W.plainGet K C f = true := c.pg
section
variable {X : Cx} {pins : List (Addr × Obj)} {σ : St} {H : Hp} {s : Shared} {a C dx : Addr} {fs : List (Str × V)} {f : Str} {v : V} {A : Around} {E : Value → Shared → Prop}
theorem Inv.made (I : Inv X pins σ H s) : Inv X pins σ (upd (upd H s.heap.objs.size (.own (s.heap.objs.size + 1))) (s.heap.objs.size + 1) (.ins C s.heap.objs.size []))
    { s with heap := (s.heap.push PySem.W.emptyDict).push (PySem.W.instObj C s.heap.objs.size) } := by
  have e1 : (s.heap.push PySem.W.emptyDict).get? s.heap.objs.size = some PySem.W.emptyDict := Heap.get?_push_size s.heap rfl
  have e2 : ((s.heap.push PySem.W.emptyDict).push (PySem.W.instObj C s.heap.objs.size)).get? (s.heap.objs.size + 1) = some (PySem.W.instObj C s.heap.objs.size) := by
    have := Heap.get?_push_size (s.heap.push PySem.W.emptyDict) (o := PySem.W.instObj C s.heap.objs.size) rfl
    rwa [Heap.size_push] at this
  have e3 : (s.heap.push PySem.W.emptyDict).Ns s.heap.objs.size (fun _ => none) := ⟨PySem.W.emptyDict, #[], _, e1, rfl, (fun e he => absurd he (by simp)), fun _ => rfl⟩
  have I1 := I.laid (a := s.heap.objs.size) (o := .own (s.heap.objs.size + 1)) (h' := s.heap.push PySem.W.emptyDict) (t' := s.toks) (fun b u q => Heap.get?_push_of_some _ q) (Nat.le_refl _) ⟨_, e1⟩
  refine I1.laid (a := s.heap.objs.size + 1) (o := .ins C s.heap.objs.size []) (t' := s.toks) (fun b u q => Heap.get?_push_of_some _ q) (Nat.le_of_eq (Heap.size_push _ _)) ?_
  have ne : s.heap.objs.size ≠ s.heap.objs.size + 1 := Nat.ne_of_lt (Nat.lt_succ_self _)
  refine ⟨by rw [upd_ne ne, upd_same], Nat.zero_le _, ne, e2, fun _ => none, (Heap.Ns1.of_empty e3).at fun o q => Heap.get?_push_of_some _ q, fun _ => True.intro, fun y hy => absurd rfl hy⟩
end
section
variable {X : Cx} {o e value : Expr} {f : Str} {pos pos' tpos : Pos} {ta tv : TE}
end
section
variable {X : Cx} {pins : List (Addr × Obj)} {σ : St} {H : Hp} {s : Shared} {A : Around} {E : Value → Shared → Prop} {Q : Value → Shared → Prop} {c : Value} {b : Bool}
inductive TyOf (K : PySem.W.Frag) (H : Hp) : V → Value → Prop where
  | non : TyOf K H .non (.type "NoneType")
  | bl (x : Bool) : TyOf K H (.bl x) (.type "bool")
  | int (i : Int) : TyOf K H (.int i) (.type "int")
  | str (x : Str) : TyOf K H (.str x) (.type "str")
  | flt (x : UInt64) : TyOf K H (.flt x) (.type "float")
  | lst {a : Addr} {xs : List V} (e : H a = some (.lst xs)) : TyOf K H (.ref a) (.type "list")
  | frz {a : Addr} {o : Obj} {xs : List V} (e : H a = some (.frz o (.lst xs))) : TyOf K H (.ref a) (.type "list")
  | tup {a : Addr} {xs : List V} (e : H a = some (.tup xs)) : TyOf K H (.ref a) (.type "tuple")
  | dK {a : Addr} {kvs : List (Key × V)} (e : H a = some (.dK kvs)) : TyOf K H (.ref a) (.type "dict")
  | dT {a : Addr} {kvs : List (List Key × V)} (e : H a = some (.dT kvs)) : TyOf K H (.ref a) (.type "dict")
  | ins {a C dx : Addr} {fs : List (Str × V)} (e : H a = some (.ins C dx fs)) (cl : Cls K C) (ha : PySem.W.findIn K (.ref C) "__class__" = some (some (.builtin "object.__class__")))
      (hn : PySem.W.specialIn K (.builtin "object.__class__") "__get__" = some (some (.builtin "getset_descriptor.__get__"))) (htk : PySem.W.takesIn K (.builtin "object.__class__") = some true)
      (hm : PySem.W.mroIn K C (.type "object") = some true) : TyOf K H (.ref a) (.ref C)
end
end L2
namespace L2
open PySem PySem.Spec PyProof.Rows
structure Room (k : Nat) (A : Around) : Prop where
  hd : A.handled = none
  dp : A.depth + 3 * k + 5 < recursionLimit
  un : A.units + 16 * k + 200 < cLine
theorem Room.mono {j k : Nat} {A : Around} (r : Room k A) (h : j ≤ k) : Room j A := ⟨r.hd, by have := r.dp; omega, by have := r.un; omega⟩
theorem Room.deeper {k : Nat} {A : Around} (r : Room (k + 1) A) (env : Env) : Room k (A.deeper env) :=
  ⟨r.hd, by have := r.dp; show A.depth + 1 + 3 * k + 5 < _; omega, by have := r.un; show A.units + 3 + 16 * k + 200 < _; omega⟩
theorem Room.in1 {k : Nat} {A : Around} (r : Room (k + 1) A) : Room k A.in1 :=
  ⟨r.hd, by have := r.dp; show A.depth + 3 * k + 5 < _; omega, by have := r.un; show A.units + 1 + 16 * k + 200 < _; omega⟩
theorem Room.depth {k : Nat} {A : Around} (r : Room k A) : A.depth < recursionLimit := by have := r.dp; omega
theorem Room.units {k : Nat} {A : Around} (r : Room k A) : A.units + 64 < cLine := by have := r.un; omega
def tNil : TA := fun _ H Q => Q [] H
def tCons (ta : TE) (tr : TA) : TA := fun σ H Q => ta σ H fun x H1 => tr σ H1 fun xs H2 => Q (x :: xs) H2
section
variable {X : Cx} {e : Expr} {es : List Expr} {te : TE} {t : TA} {pos : Pos}
theorem pa_nil : PA X [] tNil := fun _ _ _ _ H Q I h => Calls.spliced_nil ⟨[], H, I, .nil, h⟩
theorem pa_cons (ha : PE X e te) (hr : PA X es t) (hs : starEach (e :: es) X.env = (false, eval e X.env) :: starEach es X.env := by rfl) : PA X (e :: es) (tCons te t) := by
  intro pos pins s σ H Q I h
  rw [hs]
  show wpAny _ _ (spliced ((false, eval e X.env) :: backTo pos (starEach es X.env))) _ _ s
  refine Calls.spliced_cons (thn (ha pins s σ H _ I h) fun u s1 ⟨x, H1, I1, r1, q1⟩ => ?_)
  exact thn (hr pos pins s1 σ H1 _ I1 q1) fun us s2 ⟨xs, H2, I2, r2, q2⟩ => ⟨x :: xs, H2, I2, .cons r1 r2, q2⟩
def tTup (t : TA) : TE := fun σ H Q => t σ H fun xs H1 => xs.length ≤ sizeLine ∧ ∀ p, H1 p = none → Q (.ref p) (upd H1 p (.tup xs))
def tLst (t : TA) : TE := fun σ H Q => t σ H fun xs H1 => xs.length ≤ sizeLine ∧ ∀ p, H1 p = none → Q (.ref p) (upd H1 p (.lst xs))
theorem pe_tup {x1} (h : PA X es t) : PE X (.Tuple es x1 pos) (tTup t) := by
  intro pins s σ H Q I hq
  refine wpAny_Tuple_spliced (thn (h pos pins s σ H _ I hq) fun us s1 ⟨xs, H1, I1, r, z, q⟩ => ⟨by rw [← r.length]; exact z, ?_⟩)
  have hf : H1 s1.heap.objs.size = none := I1.hok.fresh (Nat.le_refl _)
  refine ⟨.ref s1.heap.objs.size, upd H1 s1.heap.objs.size (.tup xs), I1.laid (t' := s1.toks) (fun b u e => Heap.get?_push_of_some _ e) (Nat.le_refl _) ?_, rfl, q _ hf⟩
  exact ⟨z, us, r, ⟨_, Heap.get?_push_size _ rfl, rfl, _, rfl⟩⟩
theorem pe_lst (h : PA X es t) : PE X (.List es pos) (tLst t) := by
  intro pins s σ H Q I hq
  refine wpAny_List_spliced (thn (h pos pins s σ H _ I hq) fun us s1 ⟨xs, H1, I1, r, z, q⟩ => ⟨by rw [← r.length]; exact z, ?_⟩)
  have hf : H1 s1.heap.objs.size = none := I1.hok.fresh (Nat.le_refl _)
  refine ⟨.ref s1.heap.objs.size, upd H1 s1.heap.objs.size (.lst xs), I1.laid (t' := s1.toks) (fun b u e => Heap.get?_push_of_some _ e) (Nat.le_refl _) ?_, rfl, q _ hf⟩
  exact ⟨z, us, 0, r, Heap.get?_push_size _ rfl⟩
end
abbrev Sp := List V → Hp → VK → XK → Prop
abbrev CXT := List Env → Hp → Shared → XK → Value → Shared → Prop
structure Env0 (P : Program) (w : World) (K : PySem.W.Frag) (mg : Str → Option Value) (base : Heap) (A : Around) (outer : List Env) (s : Shared) (H : Hp) : Prop where
  frames : A.frames = some outer
  mod : Mod K mg base
  bs : ∀ b o, base.get? b = some o → s.heap.get? b = some o ∧ H b = none
  bsz : base.objs.size ≤ s.heap.objs.size
  funs : s.heap.FunFrames base outer
  frf : ∀ b ∈ frs outer, H b = none
  hok : HOk P w H s.heap
  bare : AllBare s.gens
def CE (outer : List Env) (P : Program) (w : World) (H : Hp) (s : Shared) (Q : VK) (u : Value) (s' : Shared) : Prop :=
  ∃ v H', s'.os = s.os ∧ AllBare s'.gens ∧ Un (frs outer) [] H H' s.heap s'.heap ∧ HOk P w H' s'.heap ∧ RelV v u ∧ Q v H'
def CR (CX : CXT) (outer : List Env) (P : Program) (w : World) (H : Hp) (s : Shared) (Q : VK) (E : XK) (r : Result) (s' : Shared) : Prop :=
  match r with
  | .ok (.ret u) => CE outer P w H s Q u s'
  | .ok _ => False
  | .error e => CX outer H s E e s'
structure FnOk (P : Program) (w : World) (K : PySem.W.Frag) (mg : Str → Option Value) (base : Heap) (CX : CXT) (k : Nat) (f : Addr) (fd : FuncData) (ps : List Str) (sp : Sp) : Prop where
  len : ∀ vs H Q E, sp vs H Q E → vs.length = ps.length
  run : ∀ (A : Around) (outer : List Env) (s : Shared) (H : Hp) (args : Args) (us : List Value) (vs : List V) (Q : VK) (E : XK), Room k A → Env0 P w K mg base A outer s H → BindsTo s fd args (ps.zip us) → Vals vs us → sp vs H Q E →
    codeAny (model P w) A (.call (.ref f) args) (CR CX outer P w H s Q E) s
theorem FnOk.mono {P : Program} {w : World} {K : PySem.W.Frag} {mg : Str → Option Value} {base : Heap} {CX : CXT} {j k : Nat} {f : Addr} {fd : FuncData} {ps : List Str} {sp : Sp} (F : FnOk P w K mg base CX j f fd ps sp) (h : j ≤ k) :
    FnOk P w K mg base CX k f fd ps sp := ⟨F.len, fun A outer s H args us vs Q E hr => F.run A outer s H args us vs Q E (hr.mono h)⟩
theorem FnOk.imp {P : Program} {w : World} {K : PySem.W.Frag} {mg : Str → Option Value} {base : Heap} {CX : CXT} {k : Nat} {f : Addr} {fd : FuncData} {ps : List Str} {sp sp' : Sp} (F : FnOk P w K mg base CX k f fd ps sp)
    (h : ∀ vs H Q E, sp' vs H Q E → sp vs H Q E) : FnOk P w K mg base CX k f fd ps sp' :=
  ⟨fun vs H Q E q => F.len vs H Q E (h _ _ _ _ q), fun A outer s H args us vs Q E hr he hb hv hs => F.run A outer s H args us vs Q E hr he hb hv (h _ _ _ _ hs)⟩
theorem Env0.in1 {P : Program} {w : World} {K : PySem.W.Frag} {mg : Str → Option Value} {base : Heap} {A : Around} {outer : List Env} {s : Shared} {H : Hp} (e : Env0 P w K mg base A outer s H) :
    Env0 P w K mg base A.in1 outer s H := ⟨e.frames, e.mod, e.bs, e.bsz, e.funs, e.frf, e.hok, e.bare⟩
section
variable {X : Cx} {pins : List (Addr × Obj)} {σ : St} {H : Hp} {s s' : Shared}
theorem Inv.env0 (I : Inv X pins σ H s) : Env0 X.prog X.w X.K X.mg X.base X.A X.stack s H :=
  ⟨I.ok.frames, I.ok.mod, I.bs, Nat.le_trans I.ok.bsz I.sz, I.stack, I.stkFree, I.hok, I.bare⟩
theorem Inv.after {Q : VK} {u : Value} (I : Inv X pins σ H s) (h : CE X.stack X.prog X.w H s Q u s') : EP X pins σ Q u s' := by
  obtain ⟨v, H', os, bare, un, hok, r, q⟩ := h
  obtain ⟨hh, g, d, t, os'⟩ := s'
  obtain rfl : os' = s.os := os
  exact ⟨v, H', I.call (h' := hh) (g' := g) (d' := d) (t' := t) (ch := []) un hok bare (fun b z => absurd z (by simp)), r, q⟩
end
def tCall (sp : Sp) (dvs : List V) (E : XK) (t : TA) : TE := fun σ H Q => t σ H fun vs H1 => sp (vs ++ dvs) H1 Q E
def Binds (K : PySem.W.Frag) (fd : FuncData) (ps : List Str) (ds : List Value) : Prop :=
  ∀ (s : Shared) (us : List Value), K.In s.heap → (us ++ ds).length = ps.length → BindsTo s fd ⟨us, []⟩ (ps.zip (us ++ ds))
theorem Binds.all {K : PySem.W.Frag} {fd : FuncData} {ps : List Str} (h : ∀ us : List Value, us.length = ps.length → bindArgs fd ⟨us, []⟩ = pure (ps.zip us)) : Binds K fd ps [] := fun s us _ hl => by
  rw [List.append_nil] at hl ⊢
  exact .of_eq (h us hl)
def Passes (CX : CXT) (X : Cx) (E : XK) : Prop := ∀ (pins : List (Addr × Obj)) (σ : St) (H : Hp) (s : Shared) (e : Value) (s' : Shared), Inv X pins σ H s → CX X.stack H s E e s' → X.xe e s'
section
variable {X : Cx} {CX : CXT} {k : Nat} {f C : Addr} {fd : FuncData} {ps : List Str} {sp : Sp} {dvs : List V} {ds : List Value} {E : XK} {x m : Str} {p pos apos : Pos} {e o : Expr} {es : List Expr} {ta : TE} {t : TA}
theorem run_fn {pins : List (Addr × Obj)} {σ : St} {H : Hp} {s : Shared} {Q : VK} {us : List Value} {vs : List V} (F : FnOk X.prog X.w X.K X.mg X.base CX k f fd ps sp) (hr : Room k X.A) (hb : Binds X.K fd ps ds) (hd : Vals dvs ds) (hx : Passes CX X E)
    (I : Inv X pins σ H s) (r : Vals vs us) (h : sp (vs ++ dvs) H Q E) : wpAny (model X.prog X.w) X.A (call (.ref f) us) (EP X pins σ Q) X.xe s := by
  have r2 : Vals (vs ++ dvs) (us ++ ds) := r.append hd
  have hl : (us ++ ds).length = ps.length := by rw [← r2.length]; exact F.len _ _ _ _ h
  refine wpAny_call (codeAny_mono (F.run X.A X.stack s H ⟨us, []⟩ (us ++ ds) (vs ++ dvs) Q E hr I.env0 (hb s us I.kIn hl) r2 h) fun r s' hq => ?_)
  cases r with
  | error e => exact hx pins σ H s e s' I hq
  | ok fl =>
    cases fl with
    | ret u => exact I.after hq
    | next => exact False.elim hq
    | brk => exact False.elim hq
    | cont => exact False.elim hq
theorem pe_call (F : FnOk X.prog X.w X.K X.mg X.base CX k f fd ps sp) (hr : Room k X.A) (hg : Gl X x) (hm : X.mg x = some (.ref f)) (hk : PySem.W.keepIn X.K (.ref f) = true) (hb : Binds X.K fd ps ds) (hd : Vals dvs ds) (hx : Passes CX X E)
    (ha : PA X (e :: es) t) (hdb : (x == ("__debug__" : Str)) = false := by decide) (he : starEach (e :: es) X.env = (false, eval e X.env) :: starEach es X.env := by rfl) (hpl : (backTo pos (starEach es X.env)).any (·.1) = false := by rfl) :
    PE X (.Call (.Name x p) (e :: es) [] pos) (tCall sp dvs E t) := by
  intro pins s σ H Q I h
  refine wpAny_Call_Name_kw (ld_glob I hg hm ?_ hdb)
  refine PySem.W.callWith_K (h₀ := X.base) I.ok.mod.kin hk (thn (ha pos pins s σ H _ I h) fun us s1 ⟨vs, H1, I1, r, q⟩ => ⟨I1.kIn, ?_⟩) he hpl
  exact run_fn F hr hb hd hx I1 r q
end
def PK (X : Cx) (kws : List Keyword) (t : TA) : Prop :=
  ∀ (pos : Pos) (pins : List (Addr × Obj)) (s : Shared) (σ : St) (H : Hp) (Q : List V → Hp → Prop), Inv X pins σ H s → t σ H Q → wpAny (model X.prog X.w) X.A (evalAll ((backToKw pos (keywordEach kws X.env)).map (·.2))) (AP X pins σ Q) X.xe s
section
variable {X : Cx} {CX : CXT} {k : Nat} {f C : Addr} {fd : FuncData} {ps ks : List Str} {sp : Sp} {E : XK} {x m : Str} {p pos apos kpos : Pos} {e o : Expr} {es : List Expr} {kws : List Keyword} {te ta : TE} {t tk : TA} {nm : Option Str}
theorem pk_nil : PK X [] tNil := fun _ _ _ _ H Q I h => wpAny_evalAll_nil ⟨[], H, I, .nil, h⟩
theorem pk_cons (ha : PE X e te) (hr : PK X kws t) : PK X (⟨nm, e, kpos⟩ :: kws) (tCons te t) := by
  intro pos pins s σ H Q I h
  show wpAny _ _ (evalAll ((do let v ← eval e X.env; standAt pos; pure v) :: (backToKw pos (keywordEach kws X.env)).map (·.2))) _ _ s
  refine wpAny_evalAll_cons (wpAny_bind (thn (ha pins s σ H _ I h) fun u s1 ⟨x, H1, I1, r1, q1⟩ => wpAny_bind (wpAny_standAt (wpAny_pure ?_))))
  exact thn (hr pos pins s1 σ H1 _ I1 q1) fun us s2 ⟨xs, H2, I2, r2, q2⟩ => ⟨x :: xs, H2, I2, .cons r1 r2, q2⟩
variable {g : List Value → List Value → List Value} {gV : List V → List V → List V}
end
structure FnScope (N P : List Str) (sc : Scope) : Prop where
  kind : sc.kind = .function
  co : sc.isCoroutine = false
  gen : sc.isGenerator = false
  nd : N.Nodup
  pre : N.take P.length = P
  par : ∀ x ∈ P, sc.names.lookup x = some .local ∨ sc.names.lookup x = some .cell
  nofree : ∀ y ∈ sc.names, y.2 ≠ .free
theorem bindL_out {kindOf : Str → Option NameKind} {x : Str} : ∀ {binds : List (Str × Value)} {m : Str → Option Value}, (∀ v, (x, v) ∉ binds) → bindL kindOf binds m x = m x
  | [], _, _ => rfl
  | (n, v) :: r, m, h => by
    unfold bindL
    rw [bindL_out fun w hw => h w (List.mem_cons_of_mem _ hw)]
    split
    · have : x ≠ n := by rintro rfl; exact h v List.mem_cons_self
      simp [this]
    · rfl
theorem bindC_out {kindOf : Str → Option NameKind} {x : Str} : ∀ {binds : List (Str × Value)} {m : Str → Option Value}, (∀ v, (x, v) ∉ binds) → bindC kindOf binds m x = m x
  | [], _, _ => rfl
  | (n, v) :: r, m, h => by
    unfold bindC
    rw [bindC_out fun w hw => h w (List.mem_cons_of_mem _ hw)]
    split
    · rfl
    · have : x ≠ n := by rintro rfl; exact h v List.mem_cons_self
      simp [this]
theorem bindL_get {kindOf : Str → Option NameKind} {x : Str} {v : Value} : ∀ {P : List Str} {vs : List Value} {i : Nat} {m : Str → Option Value}, P.Nodup → P[i]? = some x → vs[i]? = some v → kindOf x = some .local →
    bindL kindOf (P.zip vs) m x = some v
  | [], _, _, _, _, h, _, _ => by simp at h
  | _ :: _, [], _, _, _, _, h, _ => by simp at h
  | p :: P, w :: vs, 0, m, nd, h1, h2, hk => by
    simp at h1 h2; subst h1; subst h2
    show bindL kindOf ((p, w) :: P.zip vs) m p = _
    unfold bindL
    rw [bindL_out fun v hv => (List.nodup_cons.mp nd).1 (List.of_mem_zip hv).1, if_pos hk]
    simp
  | p :: P, w :: vs, i + 1, m, nd, h1, h2, hk => by
    show bindL kindOf ((p, w) :: P.zip vs) m x = _
    unfold bindL
    exact bindL_get (i := i) (List.nodup_cons.mp nd).2 (by simpa using h1) (by simpa using h2) hk
theorem bindC_get {kindOf : Str → Option NameKind} {x : Str} {v : Value} : ∀ {P : List Str} {vs : List Value} {i : Nat} {m : Str → Option Value}, P.Nodup → P[i]? = some x → vs[i]? = some v → kindOf x ≠ some .local →
    bindC kindOf (P.zip vs) m x = some v
  | [], _, _, _, _, h, _, _ => by simp at h
  | _ :: _, [], _, _, _, _, h, _ => by simp at h
  | p :: P, w :: vs, 0, m, nd, h1, h2, hk => by
    simp at h1 h2; subst h1; subst h2
    show bindC kindOf ((p, w) :: P.zip vs) m p = _
    unfold bindC
    rw [bindC_out fun v hv => (List.nodup_cons.mp nd).1 (List.of_mem_zip hv).1, if_neg hk]
    simp
  | p :: P, w :: vs, i + 1, m, nd, h1, h2, hk => by
    show bindC kindOf ((p, w) :: P.zip vs) m x = _
    unfold bindC
    exact bindC_get (i := i) (List.nodup_cons.mp nd).2 (by simpa using h1) (by simpa using h2) hk
def start (N : List Str) (vs : List V) : St := vs.map some ++ List.replicate (N.length - vs.length) none
def cxOf (CX : CXT) (P : Program) (w : World) (K : PySem.W.Frag) (mg : Str → Option Value) (base : Heap) (N : List Str) (qual : Str) (scope : Scope) (f : Addr) (cd : Value) (A : Around) (outer : List Env) (s : Shared) (H : Hp) (E : XK) : Cx where
  prog := P
  w := w
  K := K
  mg := mg
  base := base
  A := A.deeper (envOfC qual scope s.heap.objs.size f cd)
  N := N
  s₀ := s
  H₀ := H
  env := envOfC qual scope s.heap.objs.size f cd
  outer := outer
  stack := envOfC qual scope s.heap.objs.size f cd :: outer
  ex := []
  calm := true
  fn := fun _ => true
  pn := []
  xe := fun e s' => wpAny (model P w) (A.deeper (envOfC qual scope s.heap.objs.size f cd)) (leaving (envOfC qual scope s.heap.objs.size f cd) e) (fun _ s'' => CX outer H s E e s'') (fun e' s'' => CX outer H s E e' s'') s'
theorem cell_has {sc : Scope} {n : Nat} {x : Str} (h : sc.names.lookup x = some .cell) : ∃ c, (cellsFrom n sc.names []).lookup x = some c := by
  have q := PySem.W.cellsFrom_some sc.names n [] (.inl h)
  exact Option.isSome_iff_exists.mp q
theorem inv_start {CX : CXT} {P : Program} {w : World} {K : PySem.W.Frag} {mg : Str → Option Value} {base : Heap} {N ps : List Str} {qual : Str} {scope : Scope} {f : Addr} {cd : Value} {A : Around} {outer : List Env} {s s1 : Shared} {H : Hp} {E : XK} {us : List Value} {vs : List V}
    (S : FnScope N ps scope) (hd : A.handled = none) (e0 : Env0 P w K mg base A outer s H) (hl : vs.length = ps.length) (r : Vals vs us)
    (x : InCallC s s.heap.objs.size (bindL (envOfC qual scope s.heap.objs.size f cd).kindOf (ps.zip us) fun _ => none) (cellsFrom (s.heap.objs.size + 1) scope.names []) (bindC (envOfC qual scope s.heap.objs.size f cd).kindOf (ps.zip us) fun _ => none) s1) :
    Inv (cxOf CX P w K mg base N qual scope f cd A outer s H E) [] (start N vs) H s1 := by
  have hpl : ps.length ≤ N.length := by have := congrArg List.length S.pre; rw [List.length_take] at this; omega
  obtain ⟨h1, tk, rfl, hk⟩ := x.done
  have noA : ∀ b : Addr, b ∉ (cxOf CX P w K mg base N qual scope f cd A outer s H E).ex := fun b z => absurd (show b ∈ ([] : List Addr) from z) (by simp)
  refine ⟨⟨e0.mod, S.kind, rfl, rfl, Nat.le_refl _, fun y z c h1 h2 => ?_, fun y hy => ?_, fun y c _ h => ?_, fun _ => hd, Around.frames_deeper e0.frames, .inr ⟨rfl, rfl⟩, fun b z => absurd z (noA b), e0.bs, e0.bsz, fun b _ _ => noA b, fun b z => absurd z (noA b), e0.funs, e0.frf⟩,
    rfl, e0.bare, Un.kept hk, ⟨_, x.toInCall.ns, fun i y v h1 h2 h3 => ?_⟩, fun y c h => ⟨_, x.cell y c h⟩, e0.hok.fresh (Nat.le_refl _), fun y c h => ?_, fun p hp => absurd (show p ∈ ([] : List (Addr × Obj)) from hp) (by simp), e0.hok.kept hk, ?_⟩
  · exact name_of_addr x.apart (PySem.mem_of_lookup h1) (PySem.mem_of_lookup h2)
  · have hy : scope.names.lookup y = some .cell ∨ scope.names.lookup y = some .free := hy
    rcases hy with hy | hy
    · exact cell_has hy
    · exact absurd rfl (S.nofree _ (PySem.mem_of_lookup hy))
  · exact Nat.le_of_lt (x.above y c (PySem.mem_of_lookup h))
  · have hi : i < vs.length := by
      unfold start at h2
      by_cases hi : i < vs.length
      · exact hi
      · rw [List.getElem?_append_right (by simpa using hi)] at h2
        rw [List.getElem?_replicate] at h2
        split at h2 <;> cases h2
    have ha : vs[i]? = some v := by
      unfold start at h2
      rw [List.getElem?_append_left (by simpa using hi), List.getElem?_map] at h2
      cases e : vs[i]? with
      | none => rw [e] at h2; cases h2
      | some a => rw [e] at h2; cases h2; rfl
    obtain ⟨u, hu, rv⟩ := r.get ha
    have hp : ps[i]? = some y := by
      rw [← S.pre, List.getElem?_take_of_lt (by omega)]; exact h1
    have ndP : ps.Nodup := by rw [← S.pre]; exact S.nd.sublist (List.take_sublist _ _)
    refine ⟨u, rv, ?_⟩
    rcases S.par y (List.mem_of_getElem? hp) with k | k
    · exact .inl ⟨k, bindL_get ndP hp hu k⟩
    · obtain ⟨c, e⟩ := cell_has (n := s.heap.objs.size + 1) k
      refine .inr ⟨.inl k, c, e, ?_⟩
      have q := x.cell y c e
      rw [bindC_get ndP hp hu (by show scope.names.lookup y ≠ _; rw [k]; decide)] at q
      exact q
  · exact e0.hok.fresh (Nat.le_of_lt (x.above y c (PySem.mem_of_lookup h)))
  · unfold start
    show _ = N.length
    rw [List.length_append, List.length_map, List.length_replicate]
    omega
theorem fn_of {CX : CXT} {P : Program} {w : World} {K : PySem.W.Frag} {mg : Str → Option Value} {base : Heap} {k : Nat} {f : Addr} {name qual : Str} {params : Arguments} {body : List Stmt} {scope : Scope} {dV kV doc pm cdv ct oc : Value} {an od : Option Addr}
    {osl : Array (Option Value)} {N ps : List Str} {sp : Sp} (lk : K.lookup f = some ⟨oc, od, .func (PySem.W.fnOf name qual params body scope dV kV doc pm an cdv ct), osl⟩) (hcd : PySem.W.codeIn K cdv qual = true) (S : FnScope N ps scope)
    (len : ∀ vs H Q E, sp vs H Q E → vs.length = ps.length)
    (hbody : ∀ (A : Around) (outer : List Env) (s : Shared) (H : Hp) (vs : List V) (Q : VK) (E : XK), Room k (A.deeper (envOfC qual scope s.heap.objs.size f cdv)) → sp vs H Q E →
      ∃ t, PSs (cxOf CX P w K mg base N qual scope f cdv A outer s H E) body t ∧ t { nx := fun _ H' => Q .non H', rt := Q } (start N vs) H) :
    FnOk P w K mg base CX (k + 1) f (PySem.W.fnOf name qual params body scope dV kV doc pm an cdv ct) ps sp := by
  refine ⟨len, fun A outer s H args us vs Q E hr e0 hb r hsp => ?_⟩
  have hl := len _ _ _ _ hsp
  have KX : K.In s.heap := e0.mod.kin.keeps fun b o e => (e0.bs b o e).1
  have lim : s.heap.NoLimit := e0.mod.nolimit.keeps fun b o e => (e0.bs b o e).1
  have hkind : ∀ y ∈ ps.zip us, scope.names.lookup y.1 = some .local ∨ (scope.names.lookup y.1 = some .cell ∧ ((cellsFrom (s.heap.objs.size + 1) scope.names []).lookup y.1).isSome = true) := fun ⟨n, v⟩ hy => by
    rcases S.par n (List.of_mem_zip hy).1 with q | q
    · exact .inl q
    · exact .inr ⟨q, PySem.W.cellsFrom_some _ _ _ (.inl q)⟩
  refine codeAny_call_function hr.depth (KX _ _ lk) rfl S.co S.gen rfl (PySem.W.codeRec_of KX hcd) (hb _ _ _ _ ?_)
  refine wpAny_newFunctionEnv_cells S.kind hkind fun env he s1 x => ?_
  subst he
  refine ⟨lim.keeps x.toInCall.keep, codeAny_func ?_⟩
  obtain ⟨t, ht, hq⟩ := hbody A outer s H vs Q E (hr.deeper _) hsp
  have I : Inv (cxOf CX P w K mg base N qual scope f cdv A outer s H E) [] (start N vs) H s1 := inv_start S hr.hd e0 hl r x
  refine wpAny_mono (ht [] s1 (start N vs) H _ I hq) (fun fl s' hs => ?_) fun e s' hs => hs
  have fin : ∀ {σ' : St} {H' : Hp} {v : V} {u : Value}, Inv (cxOf CX P w K mg base N qual scope f cdv A outer s H E) [] σ' H' s' → RelV v u → Q v H' → CE outer P w H s Q u s' :=
    fun {σ' H' v u} J rv q => ⟨v, H', J.os, J.bare, J.base, J.hok, rv, q⟩
  cases fl with
  | ret u =>
    obtain ⟨v, σ', H', J, rv, q⟩ := hs
    exact fin J rv q
  | next =>
    obtain ⟨σ', H', J, q⟩ := hs
    exact fin (v := V.non) (u := Value.none) J rfl q
  | brk =>
    obtain ⟨_, _, _, q⟩ := hs
    exact False.elim q
  | cont =>
    obtain ⟨_, _, _, q⟩ := hs
    exact False.elim q
end L2
namespace L2
open PySem PySem.Spec PyProof.Rows
section
variable {X : Cx} {x : Str} {p pos : Pos} {e : Expr} {es : List Expr} {t : TA} {id T : String} {r : List V → Hp → VK → Prop}
def tCB (r : List V → Hp → VK → Prop) (t : TA) : TE := fun σ H Q => t σ H fun vs H1 => r vs H1 Q
theorem pe_callB (hc : CallR X (.builtin id) r) (hg : Gl X x) (hm : X.mg x = none) (hv : bootBuiltins x = some (.builtin id)) (ha : PA X (e :: es) t) (hn : x ≠ "__name__" := by decide) (hdb : (x == ("__debug__" : Str)) = false := by decide)
    (he : starEach (e :: es) X.env = (false, eval e X.env) :: starEach es X.env := by rfl) (hpl : (backTo pos (starEach es X.env)).any (·.1) = false := by rfl) : PE X (.Call (.Name x p) (e :: es) [] pos) (tCB r t) := by
  intro pins s σ H Q I h
  refine wpAny_Call_Name_kw (ld_blt I hg hm hv ?_ hn hdb)
  exact PyProof.Rows.callWith_builtin1 (thn (ha pos pins s σ H _ I h) fun us s1 ⟨vs, H1, I1, r1, q1⟩ => hc pins s1 σ H1 vs us Q I1 r1 q1) he hpl
theorem pe_callTy (hc : CallR X (.type T) r) (hg : Gl X x) (hm : X.mg x = none) (hv : bootBuiltins x = some (.type T)) (ha : PA X (e :: es) t) (hn : x ≠ "__name__" := by decide) (hdb : (x == ("__debug__" : Str)) = false := by decide)
    (he : starEach (e :: es) X.env = (false, eval e X.env) :: starEach es X.env := by rfl) (hpl : (backTo pos (starEach es X.env)).any (·.1) = false := by rfl) : PE X (.Call (.Name x p) (e :: es) [] pos) (tCB r t) := by
  intro pins s σ H Q I h
  refine wpAny_Call_Name_kw (ld_blt I hg hm hv ?_ hn hdb)
  exact PyProof.Rows.callWith_type1 (thn (ha pos pins s σ H _ I h) fun us s1 ⟨vs, H1, I1, r1, q1⟩ => hc pins s1 σ H1 vs us Q I1 r1 q1) he hpl
end
end L2
namespace HT
open PySem PyProof.Rows
section
open PySem.SeqAt
open PySem.AutoSeq1 (wpAny_loadPart')
open PySem.MeetsSeq PySem.MeetsSeq2 PySem.MeetsSeq3
end
section
variable {prog : Program} {w : World} {A : Around} {E : Value → Shared → Prop} {s : Shared}
def sIx (n d : Nat) : Option Int → Nat
  | none => d
  | some v => if v < 0 then (v + (n : Int)).toNat else min v.toNat n
theorem sIx_none (n d : Nat) : sIx n d none = d := rfl
theorem sIx_nat (n d k : Nat) : sIx n d (some (k : Int)) = min k n := by
  show (if (k : Int) < 0 then ((k : Int) + (n : Int)).toNat else min (k : Int).toNat n) = min k n
  rw [if_neg (by omega), Int.toNat_natCast]
end
end HT
namespace L2
open PySem PySem.Spec PyProof.Rows
abbrev TO := St → Hp → (Option Int → Hp → Prop) → Prop
def PO (X : Cx) (e : Option Expr) (t : TO) : Prop :=
  ∀ (pins : List (Addr × Obj)) (s : Shared) (σ : St) (H : Hp) (Q : Option Int → Hp → Prop), Inv X pins σ H s → t σ H Q →
    wpAny (model X.prog X.w) X.A (evalPart e X.env) (fun u s' => ∃ o H', Inv X pins σ H' s' ∧ IsPart u o ∧ Q o H') X.xe s
def tNoPart : TO := fun _ H Q => Q none H
def tPart (t : TE) : TO := fun σ H Q => t σ H fun x H1 => ∃ i, x = .int i ∧ Q (some i) H1
theorem intsAre_of {ns : List Int} : ∀ {us : List Value}, Vals (ns.map V.int) us → IntsAre us ns := by
  induction ns with
  | nil => intro us r; rw [List.map_nil] at r; cases r; exact .nil
  | cons n ns ih =>
    intro us r
    rw [List.map_cons] at r
    cases r with
    | cons r1 r2 =>
      obtain ⟨t, e⟩ := r1
      subst e
      exact .cons n t (ih r2)
section
variable {X : Cx} {e : Expr} {te : TE} {lo hi : Option Expr} {tl th : TO} {pos p2 : Pos}
theorem po_none : PO X none tNoPart := by
  intro pins s σ H Q I h
  rw [evalPart_none]
  exact wpAny_pure ⟨none, H, I, .none, h⟩
theorem po_some (h : PE X e te) : PO X (some e) (tPart te) := by
  intro pins s σ H Q I hw
  rw [evalPart_some]
  refine thn (h pins s σ H _ I hw) fun u s1 ⟨x, H1, I1, r1, q1⟩ => ?_
  obtain ⟨i, rfl, q⟩ := q1
  obtain ⟨t, rfl⟩ := r1
  exact ⟨some i, H1, I1, .int i t, q⟩
def SlR (X : Cx) (r : V → Option Int → Option Int → Hp → VK → Prop) : Prop :=
  ∀ (pins : List (Addr × Obj)) (s : Shared) (σ : St) (H : Hp) (x : V) (v vl vu : Value) (lo hi : Option Int) (sl : Addr) (Q : VK), Inv X pins σ H s → RelV x v → s.heap.IsSliceOf sl vl vu .none → IsPart vl lo → IsPart vu hi → r x lo hi H Q →
    ∃ T id, typeLookup (.type T) "__getitem__" = pure (some (.builtin id)) ∧ s.TypeIs v T ∧ wpAny (model X.prog X.w) X.A (getItem v (.ref sl)) (EP X pins σ Q) X.xe s
def tSl (r : V → Option Int → Option Int → Hp → VK → Prop) (te : TE) (tl th : TO) : TE := fun σ H Q => te σ H fun x H1 => tl σ H1 fun l H2 => th σ H2 fun u H3 => r x l u H3 Q
theorem pe_slice {r : V → Option Int → Option Int → Hp → VK → Prop} (hr : SlR X r) (he : PE X e te) (hl : PO X lo tl) (hu : PO X hi th) : PE X (.Subscript e (.Slice lo hi none p2) pos) (tSl r te tl th) := by
  intro pins s σ H Q I h
  refine Subscript_ (thn (he pins s σ H _ I h) fun v s1 ⟨x, H1, I1, r1, q1⟩ => ?_)
  refine wpAny_Slice (thn (hl pins s1 σ H1 _ I1 q1) fun vl s2 ⟨l, H2, I2, pl, q2⟩ => thn (hu pins s2 σ H2 _ I2 q2) fun vu s3 ⟨u, H3, I3, pu, q3⟩ => ?_)
  rw [evalPart_none]
  refine wpAny_pure ?_
  have I4 : Inv X pins σ H3 { s3 with heap := s3.heap.push { cls := .type "slice", data := .fields #[vl, vu, .none] } } := I3.kept (t' := s3.toks) fun b ob q => Heap.get?_push_of_some _ q
  obtain ⟨T, id, hT, ht, hg⟩ := hr pins { s3 with heap := s3.heap.push { cls := .type "slice", data := .fields #[vl, vu, .none] } } σ H3 x v vl vu l u s3.heap.objs.size Q I4 r1 (Heap.IsSliceOf.new ..) pl pu q3
  show wpAny (model X.prog X.w) X.A (subscriptTail e (.Slice lo hi none p2) v (.ref s3.heap.objs.size)) (EP X pins σ Q) X.xe { s3 with heap := s3.heap.push { cls := .type "slice", data := .fields #[vl, vu, .none] } }
  exact tail_any (ops := [.ref s3.heap.objs.size, v]) ht hT hg (by with_unfolding_all rfl)
def cutV (xs : List V) (lo hi : Option Int) : List V := (xs.drop (HT.sIx xs.length 0 lo)).take (HT.sIx xs.length xs.length hi - HT.sIx xs.length 0 lo)
theorem cutV_length (xs : List V) (lo hi : Option Int) : (cutV xs lo hi).length ≤ xs.length := by
  unfold cutV
  rw [List.length_take, List.length_drop]
  omega
end
end L2
namespace L2
open PySem PySem.Spec PyProof.Rows
def ixN (n : Nat) (i : Int) : Option Nat := if 0 ≤ i then (if i < n then some i.toNat else none) else if -(n : Int) ≤ i then some (i + n).toNat else none
def atI {α : Type} (xs : List α) (i : Int) : Option α := (ixN xs.length i).bind fun j => xs[j]?
theorem ixN_seq {n : Nat} {i : Int} {j : Nat} (h : ixN n i = some j) : seqIndex? i n = some j ∧ j < n ∧ -(n : Int) ≤ i ∧ i < n := by
  unfold ixN at h
  by_cases h0 : 0 ≤ i
  · rw [if_pos h0] at h
    by_cases h1 : i < n
    · rw [if_pos h1] at h
      have e : i.toNat = j := Option.some.inj h
      exact ⟨by rw [seqIndex_of h0 h1, e], by omega, by omega, h1⟩
    · rw [if_neg h1] at h; cases h
  · rw [if_neg h0] at h
    by_cases h1 : -(n : Int) ≤ i
    · rw [if_pos h1] at h
      have e : (i + n).toNat = j := Option.some.inj h
      exact ⟨by rw [seqIndex_neg (by omega) h1, e], by omega, h1, by omega⟩
    · rw [if_neg h1] at h; cases h
theorem atI_get {α : Type} {xs : List α} {i : Int} {v : α} (h : atI xs i = some v) : ∃ j, seqIndex? i xs.length = some j ∧ xs[j]? = some v ∧ j < xs.length ∧ -(xs.length : Int) ≤ i ∧ i < xs.length := by
  unfold atI at h
  cases e : ixN xs.length i with
  | none => rw [e] at h; cases h
  | some j =>
    rw [e] at h
    obtain ⟨h1, h2, h3, h4⟩ := ixN_seq e
    exact ⟨j, h1, h, h2, h3, h4⟩
def PlainIx (b : Expr) : Prop := ∀ o i, subscripted b false o i = operate [o, i] (getItem o i)
def IxR (X : Cx) (r : R2) : Prop :=
  ∀ (value slice : Expr) (pins : List (Addr × Obj)) (s : Shared) (σ : St) (H : Hp) (x y : V) (v u : Value) (Q : VK), Inv X pins σ H s → RelV x v → RelV y u → r x y H Q →
    subscripted slice false v u = operate [v, u] (getItem v u) → wpAny (model X.prog X.w) X.A (subscriptTail value slice v u) (EP X pins σ Q) X.xe s
def MtR (X : Cx) (id : String) (r : V → List V → Hp → VK → Prop) : Prop :=
  ∀ (pins : List (Addr × Obj)) (s : Shared) (σ : St) (H : Hp) (x : V) (xs : List V) (v : Value) (us : List Value) (Q : VK), Inv X pins σ H s → RelV x v → Vals xs us → r x xs H Q →
    wpAny (model X.prog X.w) X.A (call (.builtin id) (v :: us)) (EP X pins σ Q) X.xe s
section
variable {X : Cx} {a b : Expr} {ta tb : TE} {pos : Pos}
theorem pe_ix {r : R2} (hr : IxR X r) (ha : PE X a ta) (hb : PE X b tb) (hs : PlainIx b) : PE X (.Subscript a b pos) (tOp r ta tb) := by
  intro pins s σ H Q I h
  exact Subscript_ (binT ha hb I h fun v u s2 x y H2 I2 rx ry q => hr a b pins s2 σ H2 x y v u Q I2 rx ry q (hs _ _))
def rIxL (K : PySem.W.Frag) : R2 := fun x y H Q => ∃ p xs i v, x = .ref p ∧ y = .int i ∧ SqL K H p xs ∧ atI xs i = some v ∧ Q v H
def rIxT (K : PySem.W.Frag) : R2 := fun x y H Q => ∃ p xs i v, x = .ref p ∧ y = .int i ∧ SqT K H p xs ∧ atI xs i = some v ∧ Q v H
theorem ix_list : IxR X (rIxL X.K) := by
  intro value slice pins s σ H x y v u Q I rx ry h hs
  obtain ⟨p, xs, i, z, rfl, rfl, hq, he, q⟩ := h
  cases rx
  obtain ⟨t, rfl⟩ := ry
  obtain ⟨its, r, pl, hz⟩ := I.list hq
  obtain ⟨j, h1, h2, h3, h4, h5⟩ := atI_get he
  obtain ⟨w, ew, rw'⟩ := r.get h2
  have hl := r.length
  have hn := line63
  have fin : EP X pins σ Q w s := ⟨z, H, I, rw', q⟩
  by_cases h0 : 0 ≤ i
  · have hj : i.toNat = j := by
      rw [seqIndex_of h0 h5] at h1
      exact Option.some.inj h1
    exact item_listR pl.isList h0 (by omega) (by rw [hj]; simpa using ew) fin hs
  · have hj : (i + (its.toArray.size : Int)).toNat = j := by
      rw [seqIndex_neg (by omega) h4] at h1
      rw [List.size_toArray, ← hl]
      exact Option.some.inj h1
    exact subscriptTail_builtinR (x := w) pl.isList.typeIs slot_list_getitem.lookup
      (wpAny_getItem_list_neg (Q := fun r s' => r = w ∧ EP X pins σ Q r s') pl.isList (by omega) (by rw [List.size_toArray] <;> omega) (by omega) (by rw [hj]; simpa using ew) ⟨rfl, fin⟩) hs
theorem ix_tup : IxR X (rIxT X.K) := by
  intro value slice pins s σ H x y v u Q I rx ry h hs
  obtain ⟨p, xs, i, z, rfl, rfl, hq, he, q⟩ := h
  cases rx
  obtain ⟨t, rfl⟩ := ry
  obtain ⟨its, r, pl, hz⟩ := I.tuple hq
  obtain ⟨j, h1, h2, h3, h4, h5⟩ := atI_get he
  obtain ⟨w, ew, rw'⟩ := r.get h2
  have hl := r.length
  have hn := line63
  have fin : EP X pins σ Q w s := ⟨z, H, I, rw', q⟩
  exact subscriptTail_builtinR (x := w) pl.typeIs slot_tuple_getitem.lookup
    (getItem_tuple (j := j) (Q := fun r s' => r = w ∧ EP X pins σ Q r s') pl (by omega) (by omega) (by rw [List.size_toArray, ← hl]; exact h1) (by simpa using ew) ⟨rfl, fin⟩) hs
theorem mapSeq_set (its : List Value) (n j : Nat) (u : Value) : Obj.mapSeq (·.setIfInBounds j u) { cls := .type "list", data := .seq its.toArray n } = { cls := .type "list", data := .seq (its.set j u).toArray n } := by
  simp [Obj.mapSeq]
theorem Inv.lst {pins : List (Addr × Obj)} {σ : St} {H : Hp} {s : Shared} {p : Addr} {xs : List V} (I : Inv X pins σ H s) (h : H p = some (.lst xs)) :
    ∃ (its : List Value) (n : Nat), Vals xs its ∧ s.heap.get? p = some { cls := .type "list", data := .seq its.toArray n } ∧ xs.length ≤ sizeLine := by
  obtain ⟨z, its, n, r, e⟩ := I.hok p _ h
  exact ⟨its, n, r, e, z⟩
theorem Inv.lstUpd {pins : List (Addr × Obj)} {σ : St} {H : Hp} {s : Shared} {p : Addr} {xs ys : List V} {its its' : List Value} {n n' : Nat} {f : Obj → Obj} (I : Inv X pins σ H s) (h : H p = some (.lst xs))
    (ho : s.heap.get? p = some { cls := .type "list", data := .seq its.toArray n }) (hf : f { cls := .type "list", data := .seq its.toArray n } = { cls := .type "list", data := .seq its'.toArray n' }) (r : Vals ys its') (hz : ys.length ≤ sizeLine) (t : Nat) :
    Inv X pins σ (upd H p (.lst ys)) { s with heap := s.heap.update p f, toks := t } := by
  have e : (s.heap.update p f).get? p = some { cls := .type "list", data := .seq its'.toArray n' } := by
    rw [Heap.get?_update_self f ho (by rw [hf] <;> rfl), hf]
  refine I.write (x := p) (e := p) (by rw [h]; trivial) (.inl rfl) (fun b u hb q => (Heap.get?_update_other _ _ (Ne.symm hb)).trans q) ⟨_, e⟩ ?_
  exact ⟨hz, its', n', r, e⟩
def rSetL : V → V → V → Hp → (Hp → Prop) → Prop := fun o i v H Q => ∃ p xs k j, o = .ref p ∧ i = .int k ∧ H p = some (.lst xs) ∧ ixN xs.length k = some j ∧ Q (upd H p (.lst (xs.set j v)))
theorem set_list : PSet X rSetL := by
  intro pins s σ H o i v ov iv u Q I ro ri rv h
  obtain ⟨p, xs, k, j, rfl, rfl, hp, hj, q⟩ := h
  cases ro
  obtain ⟨t, rfl⟩ := ri
  obtain ⟨its, n, r, ho, hz⟩ := I.lst hp
  obtain ⟨h1, h2, h3, h4⟩ := ixN_seq hj
  have hl := r.length
  have hn := line63
  have I' : Inv X pins σ (upd H p (.lst (xs.set j v))) { s with heap := s.heap.update p (Obj.mapSeq (·.setIfInBounds j u)) } :=
    I.lstUpd hp ho (mapSeq_set its n j u) (r.set rv j) (by rw [List.length_set]; exact hz) s.toks
  by_cases h0 : 0 ≤ k
  · have hk : k.toNat = j := by
      rw [seqIndex_of h0 h4] at h1
      exact Option.some.inj h1
    exact PySem.W.ki_setAt ho h0 (by omega) (by rw [List.size_toArray, ← hl]; exact h4) (by rw [hk]; exact ⟨_, I', q⟩)
  · have hk : (k + (its.toArray.size : Int)).toNat = j := by
      rw [seqIndex_neg (by omega) h3] at h1
      rw [List.size_toArray, ← hl]
      exact Option.some.inj h1
    exact PySem.W.ki_setBack ho (by omega) (by rw [List.size_toArray, ← hl]; exact h3) (by omega) (by rw [hk]; exact ⟨_, I', q⟩)
theorem slice_bounds (lo hi : Option Int) (n : Nat) : (sliceBounds lo hi none n).1 = ((HT.sIx n 0 lo : Nat) : Int) ∧ (sliceBounds lo hi none n).2.1 = ((HT.sIx n n hi : Nat) : Int) ∧ (sliceBounds lo hi none n).2.2 = 1 := by
  refine ⟨?_, ?_, rfl⟩
  · cases lo with
    | none => simp [sliceBounds, HT.sIx]
    | some i =>
      simp only [sliceBounds, HT.sIx, Option.getD_none, show (1 : Int) > 0 by decide, if_true]
      by_cases h : i < 0
      · simp only [h, if_true] <;> omega
      · simp only [h, if_false] <;> omega
  · cases hi with
    | none => simp [sliceBounds, HT.sIx]
    | some i =>
      simp only [sliceBounds, HT.sIx, Option.getD_none, show (1 : Int) > 0 by decide, if_true]
      by_cases h : i < 0
      · simp only [h, if_true] <;> omega
      · simp only [h, if_false] <;> omega
theorem slicePick_cut (its : List Value) (lo hi : Option Int) : slicePick its.toArray lo hi none = ((its.drop (HT.sIx its.length 0 lo)).take (HT.sIx its.length its.length hi - HT.sIx its.length 0 lo)).toArray := by
  obtain ⟨h1, h2, h3⟩ := slice_bounds lo hi its.toArray.size
  unfold slicePick
  rw [h1, h2, h3]
  simp only [sliceRange_one, pick_run, List.size_toArray] <;> rfl
def rSlL (K : PySem.W.Frag) : V → Option Int → Option Int → Hp → VK → Prop := fun x lo hi H Q => ∃ a xs, x = .ref a ∧ SqL K H a xs ∧ ∀ p, H p = none → Q (.ref p) (upd H p (.lst (cutV xs lo hi)))
theorem sl_list : SlR X (rSlL X.K) := by
  intro pins s σ H x v vl vu lo hi sl Q I rx hs pl pu h
  obtain ⟨a, xs, rfl, hx, q⟩ := h
  cases rx
  obtain ⟨its, r, ht, hz⟩ := I.list hx
  have hlen := r.length
  refine ⟨"list", _, slot_list_getitem.lookup, ht.isList.typeIs, ?_⟩
  refine wpAny_getItem_list_slice ht.isList hs pl pu .none (by simp) ?_ (by rw [List.size_toArray] <;> omega)
  rw [slicePick_cut, ← hlen]
  refine ⟨.ref s.heap.objs.size, _, I.laid (t' := s.toks) (o := .lst (cutV xs lo hi)) (fun b ob q => Heap.get?_push_of_some _ q) (Nat.le_refl _) ?_, rfl, q _ (I.hok.fresh (Nat.le_refl _))⟩
  exact ⟨Nat.le_trans (cutV_length xs lo hi) hz, _, 0, (r.drop (HT.sIx xs.length 0 lo)).take (HT.sIx xs.length xs.length hi - HT.sIx xs.length 0 lo), Heap.get?_push_size _ rfl⟩
def flatV : V → Bool
  | .non => true
  | .bl _ => true
  | .int _ => true
  | .str _ => true
  | _ => false
def eqV : V → V → Bool
  | .non, .non => true
  | .bl a, .bl b => a == b
  | .bl a, .int b => (if a then 1 else 0) == b
  | .int a, .bl b => a == (if b then 1 else 0)
  | .int a, .int b => a == b
  | .str a, .str b => a == b
  | _, _ => false
theorem eqAt_V {A : Around} {s : Shared} {y x : V} {u v : Value} (ry : RelV y u) (rx : RelV x v) (fy : flatV y = true) (fx : flatV x = true) : SeqAt.EqAt A s u v (eqV y x) := by
  cases y with
  | non =>
    cases ry
    cases x with
    | non => cases rx; exact SeqAt.EqAt.same _
    | bl b => cases rx; exact SeqAt.EqAt.none_bool b
    | int b => obtain ⟨t, rfl⟩ := rx; exact SeqAt.EqAt.none_int b t
    | str b => obtain ⟨t, rfl⟩ := rx; exact SeqAt.EqAt.none_str b t
    | _ => exact absurd (show false = true from fx) Bool.false_ne_true
  | bl a =>
    cases ry
    cases x with
    | non => cases rx; exact SeqAt.EqAt.bool_none a
    | bl b => cases rx; exact SeqAt.EqAt.bool_bool a b
    | int b => obtain ⟨t, rfl⟩ := rx; exact SeqAt.EqAt.bool_int a b t
    | str b => obtain ⟨t, rfl⟩ := rx; exact SeqAt.EqAt.bool_str a b t
    | _ => exact absurd (show false = true from fx) Bool.false_ne_true
  | int a =>
    obtain ⟨t', rfl⟩ := ry
    cases x with
    | non => cases rx; exact SeqAt.EqAt.int_none a t'
    | bl b => cases rx; exact SeqAt.EqAt.int_bool a t' b
    | int b => obtain ⟨t, rfl⟩ := rx; exact SeqAt.EqAt.int_int a t' b t
    | str b => obtain ⟨t, rfl⟩ := rx; exact SeqAt.EqAt.int_str a t' b t
    | _ => exact absurd (show false = true from fx) Bool.false_ne_true
  | str a =>
    obtain ⟨t', rfl⟩ := ry
    cases x with
    | non => cases rx; exact SeqAt.EqAt.str_none a t'
    | bl b => cases rx; exact SeqAt.EqAt.str_bool a t' b
    | int b => obtain ⟨t, rfl⟩ := rx; exact SeqAt.EqAt.str_int a t' b t
    | str b => obtain ⟨t, rfl⟩ := rx; exact SeqAt.EqAt.str_str a t' b t
    | _ => exact absurd (show false = true from fx) Bool.false_ne_true
  | _ => exact absurd (show false = true from fy) Bool.false_ne_true
def eqU (x : V) (u : Value) : Bool := match u with
  | .none => eqV .non x
  | .bool b => eqV (.bl b) x
  | .int i _ => eqV (.int i) x
  | .str z _ => eqV (.str z) x
  | _ => false
theorem eqU_of {x y : V} {u : Value} (r : RelV y u) (f : flatV y = true) : eqU x u = eqV y x := by
  cases y with
  | non => cases r; rfl
  | bl b => cases r; rfl
  | int i => obtain ⟨t, rfl⟩ := r; rfl
  | str z => obtain ⟨t, rfl⟩ := r; rfl
  | _ => exact absurd (show false = true from f) Bool.false_ne_true
theorem any_eqU {x : V} : ∀ {xs : List V} {us : List Value}, Vals xs us → xs.all flatV = true → us.any (eqU x) = xs.any fun y => eqV y x
  | _, _, .nil, _ => rfl
  | y :: xs, u :: us, .cons r t, f => by
    rw [List.all_cons, Bool.and_eq_true] at f
    rw [List.any_cons, List.any_cons, eqU_of r f.1, any_eqU t f.2]
theorem mem_eqAt {A : Around} {s : Shared} {x : V} {v : Value} (rx : RelV x v) (fx : flatV x = true) : ∀ {xs : List V} {us : List Value}, Vals xs us → xs.all flatV = true → ∀ u ∈ us, SeqAt.EqAt A s u v (eqU x u)
  | _, _, .nil, _ => fun u hu => by cases hu
  | y :: xs, u :: us, .cons r t, f => fun u' hu => by
    rw [List.all_cons, Bool.and_eq_true] at f
    rcases List.mem_cons.mp hu with rfl | hu
    · rw [eqU_of r f.1]; exact eqAt_V r rx f.1 fx
    · exact mem_eqAt rx fx t f.2 u' hu
def inV (x : V) (xs : List V) : Bool := xs.any fun y => eqV y x
def rIn (K : PySem.W.Frag) (neg : Bool) : R2 := fun x y H Q => ∃ p xs, y = .ref p ∧ (SqL K H p xs ∨ SqT K H p xs) ∧ flatV x = true ∧ xs.all flatV = true ∧ Q (.bl (if neg then !inV x xs else inV x xs)) H
theorem op_in_seq : OpR X (compareOp .In) (rIn X.K false) := by
  intro pins s σ H x y v u Q I rx ry h
  obtain ⟨p, xs, rfl, hq, fx, fs, q⟩ := h
  cases ry
  rcases hq with hq | hq
  · obtain ⟨its, r, pl, hz⟩ := I.list hq
    refine SeqAt.in_listAt (eqU x) pl.isList (fun w hw => mem_eqAt rx fx r fs w (by simpa using hw)) ⟨.bl _, H, I, rfl, ?_⟩
    rw [show its.toArray.any (eqU x) = its.any (eqU x) by simp, any_eqU r fs]
    exact q
  · obtain ⟨its, r, pl, hz⟩ := I.tuple hq
    refine SeqAt.in_tupleAt (eqU x) pl (fun w hw => mem_eqAt rx fx r fs w (by simpa using hw)) ⟨.bl _, H, I, rfl, ?_⟩
    rw [show its.toArray.any (eqU x) = its.any (eqU x) by simp, any_eqU r fs]
    exact q
theorem call_len_seq : CallR X (.builtin "len") (fun xs H Q => ∃ p ys, xs = [.ref p] ∧ (SqL X.K H p ys ∨ SqT X.K H p ys) ∧ Q (.int ys.length) H) := by
  intro pins s σ H xs us Q I r h
  obtain ⟨p, ys, rfl, hq, q⟩ := h
  obtain ⟨u, rfl, rx⟩ := vals1 r
  cases rx
  have hn := line63
  rcases hq with hq | hq
  · obtain ⟨its, r', pl, hz⟩ := I.list hq
    have hlen := r'.length
    exact Calls.call_len_list pl.isList (by simp only [List.size_toArray] <;> omega) ⟨.int ys.length, H, I.tok _, ⟨s.toks + 1, by rw [List.size_toArray, hlen]⟩, q⟩
  · obtain ⟨its, r', pl, hz⟩ := I.tuple hq
    have hlen := r'.length
    exact len_tuple pl (by simp only [List.size_toArray] <;> omega) ⟨.int ys.length, H, I.tok _, ⟨s.toks + 1, by rw [List.size_toArray, hlen]⟩, q⟩
theorem call_list_of : CallR X (.type "list") (fun xs H Q => ∃ p ys, xs = [.ref p] ∧ (SqL X.K H p ys ∨ SqT X.K H p ys) ∧ ∀ l, H l = none → Q (.ref l) (upd H l (.lst ys))) := by
  intro pins s σ H xs us Q I r h
  obtain ⟨p, ys, rfl, hq, q⟩ := h
  obtain ⟨u, rfl, rx⟩ := vals1 r
  cases rx
  have fin : ∀ (its : List Value), Vals ys its → ys.length ≤ sizeLine → ∀ (h' : Heap) (c' : Nat), (∀ b o', s.heap.get? b = some o' → h'.get? b = some o') →
      h'.get? s.heap.objs.size = some { cls := .type "list", dict := none, data := .seq its.toArray c', slots := #[] } → EP X pins σ Q (.ref s.heap.objs.size) { s with heap := h' } := fun its r' hz h' c' kp e =>
    ⟨.ref s.heap.objs.size, _, I.laid (t' := s.toks) kp (Nat.le_refl _) (show ObjOk X.prog X.w _ h' _ (.lst ys) from ⟨hz, its, c', r', e⟩), rfl, q _ (I.hok.fresh (Nat.le_refl _))⟩
  rcases hq with hq | hq
  · obtain ⟨its, r', pl, hz⟩ := I.list hq
    have hlen := r'.length
    obtain ⟨o, ho, hc, n, hd⟩ := pl.isList
    exact call_list_seq p (.inl rfl) ho hc hd (fun h' c' kp e => fin its r' hz h' c' kp e) (by simp only [List.size_toArray] <;> omega)
  · obtain ⟨its, r', pl, hz⟩ := I.tuple hq
    have hlen := r'.length
    obtain ⟨o, ho, hc, n, hd⟩ := pl
    exact call_list_seq p (.inr rfl) ho hc hd (fun h' c' kp e => fin its r' hz h' c' kp e) (by simp only [List.size_toArray] <;> omega)
def tyV (K : PySem.W.Frag) (T : String) (x : V) (H : Hp) : Prop := match x with
  | .str _ => T = "str"
  | .int _ => T = "int"
  | .ref p => (T = "list" ∧ ∃ xs, SqL K H p xs) ∨ (T = "tuple" ∧ ∃ o, K.lookup p = some o ∧ o.cls = .type "tuple" ∧ o.dict = none) ∨
      (T = "dict" ∧ ((∃ kvs, H p = some (.dK kvs)) ∨ ∃ kvs, H p = some (.dT kvs))) ∨ (T = "set" ∧ ∃ S n, H p = some (.set S n))
  | _ => False
theorem tyV_is {pins : List (Addr × Obj)} {σ : St} {H : Hp} {s : Shared} {T : String} {x : V} {v : Value} (I : Inv X pins σ H s) (r : RelV x v) (ty : tyV X.K T x H) :
    s.TypeIs v T ∧ ∀ a, v = .ref a → ∃ ob, s.heap.get? a = some ob ∧ ob.dict = none := by
  cases x with
  | str z =>
    obtain ⟨t, rfl⟩ := r
    cases (show T = "str" from ty)
    exact ⟨typeIs_str s z t, fun _ e => nomatch e⟩
  | int i =>
    obtain ⟨t, rfl⟩ := r
    cases (show T = "int" from ty)
    exact ⟨typeIs_int s i t, fun _ e => nomatch e⟩
  | ref p =>
    cases r
    rcases ty with ⟨rfl, xs, hq⟩ | ⟨rfl, o, hk, hc, hd⟩ | ⟨rfl, hk⟩ | ⟨rfl, S, n, hk⟩
    · obtain ⟨its, _, pl, _⟩ := I.list hq
      refine ⟨pl.isList.typeIs, fun a e => ?_⟩
      cases e
      obtain ⟨o, n, e, c, hd, _⟩ := pl
      exact ⟨o, e, hd⟩
    · refine ⟨⟨o, I.kIn p o hk, hc⟩, fun a e => ?_⟩
      cases e
      exact ⟨o, I.kIn _ o hk, hd⟩
    · have z : ∃ o, s.heap.get? p = some o ∧ o.ExactDict := by
        rcases hk with ⟨kvs, hk⟩ | ⟨kvs, hk⟩
        · obtain ⟨_, _, _, _, o, _, _, e, ex, _⟩ := I.hok p _ hk
          exact ⟨o, e, ex⟩
        · obtain ⟨_, _, _, _, o, _, _, e, ex, _⟩ := I.hok p _ hk
          exact ⟨o, e, ex⟩
      obtain ⟨o, e, ex⟩ := z
      refine ⟨⟨o, e, ex.1⟩, fun a e2 => ?_⟩
      cases e2
      exact ⟨o, e, ex.2.1⟩
    · obtain ⟨o, _, _, _, e, ex, _⟩ := I.hok p _ hk
      refine ⟨⟨o, e, ex.1⟩, fun a e2 => ?_⟩
      cases e2
      exact ⟨o, e, ex.2.1⟩
  | _ => exact False.elim ty
def tBM (K : PySem.W.Frag) (T : String) (r : V → List V → Hp → VK → Prop) (to : TE) (t : TA) : TE := fun σ H Q => to σ H fun x H1 => tyV K T x H1 ∧ t σ H1 fun xs H2 => r x xs H2 Q
variable {o e : Expr} {es : List Expr} {to : TE} {t : TA} {name : Str} {apos cpos : Pos} {T id : String} {r : V → List V → Hp → VK → Prop}
theorem pe_bm (pa : PlainAttrs T) (slot : Slot T name id) (hty : typeOf (.builtin id) = pure (.type "method_descriptor")) (hm : MtR X id r) (ho : PE X o to) (ha : PA X (e :: es) t)
    (hbase : attributeBase o name X.env (eval o X.env) = eval o X.env := by rfl)
    (hfew : ((backTo cpos (starEach (e :: es) X.env)).all (fun x => !x.1) && (backToKw cpos (keywordEach [] X.env)).all (fun x => x.1.isSome)
      && decide ((e :: es).length + ([] : List Keyword).length + (if ([] : List Keyword).isEmpty then 0 else 1) < 30)) = true := by rfl)
    (hline : (apos.endLine == cpos.line) = true := by rfl) (hs : starEach (e :: es) X.env = (false, eval e X.env) :: starEach es X.env := by rfl) (hplain : (backTo cpos (starEach es X.env)).any (·.1) = false := by rfl) :
    PE X (.Call (.Attribute o name apos) (e :: es) [] cpos) (tBM X.K T r to t) := by
  intro pins s σ H Q I h
  refine wpAny_Call_method_late hbase hfew hline rfl (thn (ho pins s σ H _ I h) fun v s1 ⟨x, H1, I1, r1, ty, q1⟩ => ?_)
  obtain ⟨h1, h2⟩ := tyV_is I1 r1 ty
  refine ⟨T, id, pa, slot, hty, h1, h2, ?_⟩
  have hA := ha cpos pins s1 σ H1 _ I1 q1
  rw [hs] at hA ⊢
  refine Calls.callWith_builtin (by show (false || (backTo cpos (starEach es X.env)).any (·.1)) = false; rw [hplain] <;> rfl) (Calls.evalArgs_plain ?_)
  exact thn hA fun us s2 ⟨vs, H2, I2, r2, q2⟩ => hm pins s2 σ H2 x vs v us Q I2 r1 r2 q2
end
end L2
namespace L2
open PySem PySem.Spec PyProof.Rows
def MtM (X : Cx) (id : String) (r : V → List V → Hp → VK → Prop) : Prop :=
  ∀ (pins : List (Addr × Obj)) (s : Shared) (σ : St) (H : Hp) (x : V) (xs : List V) (v : Value) (us : List Value) (Q : VK), Inv X pins σ H s → RelV x v → Vals xs us → r x xs H Q →
    wpAny (model X.prog X.w) X.A (call (.builtin id) (v :: us)) (EP X pins σ Q) X.xe s
theorem Vals.one : ∀ {x : V} {us : List Value}, Vals [x] us → ∃ u, us = [u] ∧ RelV x u
  | _, _, .cons r .nil => ⟨_, rfl, r⟩
theorem Vals.zero : ∀ {us : List Value}, Vals [] us → us = []
  | _, .nil => rfl
theorem Vals.dropLast {xs : List V} {us : List Value} (h : Vals xs us) : Vals xs.dropLast us.dropLast := by
  induction h with
  | nil => exact .nil
  | cons r t ih =>
    cases t with
    | nil => exact .nil
    | cons q t' => exact .cons r ih
theorem Vals.reverse {xs : List V} {us : List Value} (h : Vals xs us) : Vals xs.reverse us.reverse := by
  induction h with
  | nil => exact .nil
  | cons r t ih => rw [List.reverse_cons, List.reverse_cons]; exact Vals.append ih (.cons r .nil)
section
variable {X : Cx} {pins : List (Addr × Obj)} {σ : St} {H : Hp} {s : Shared} {l b : Addr} {xs ys zs : List V}
theorem Inv.lset {its its' : List Value} {n : Nat} {f : Array Value → Array Value} {t' : Nat} (I : Inv X pins σ H s) (hH : H l = some (.lst xs))
    (e : s.heap.get? l = some { cls := .type "list", data := .seq its.toArray n }) (hf : f its.toArray = its'.toArray) (hv : Vals ys its') (hz : ys.length ≤ sizeLine) :
    Inv X pins σ (upd H l (.lst ys)) { s with heap := s.heap.update l (Obj.mapSeq f), toks := t' } := by
  have q := PySem.IsL.update e f
  rw [hf] at q
  refine I.write (x := l) (e := l) (by rw [hH]; exact trivial) (.inl rfl) (fun b' u hb hu => (Heap.get?_update_other s.heap (Obj.mapSeq f) (Ne.symm hb)).trans hu) ⟨_, q⟩ ?_
  exact ⟨hz, its', _, hv, q⟩
theorem Inv.lnew {its : List Value} {t' : Nat} (I : Inv X pins σ H s) (hv : Vals ys its) (hz : ys.length ≤ sizeLine) :
    Inv X pins σ (upd H s.heap.objs.size (.lst ys)) { s with heap := s.heap.push { cls := .type "list", data := .seq its.toArray }, toks := t' } :=
  I.laid (fun _ _ q => Heap.get?_push_of_some _ q) (Nat.le_refl _) ⟨hz, its, 0, hv, Heap.get?_push_size _ rfl⟩
theorem Inv.fresh (I : Inv X pins σ H s) : H s.heap.objs.size = none := I.hok.fresh (Nat.le_refl _)
theorem Inv.lstM (I : Inv X pins σ H s) (hH : H l = some (.lst xs)) : xs.length ≤ sizeLine ∧ ∃ (its : List Value) (n : Nat), Vals xs its ∧ xs.length = its.length ∧ s.heap.get? l = some { cls := .type "list", data := .seq its.toArray n } := by
  obtain ⟨z, its, n, r, e⟩ := I.hok l _ hH
  exact ⟨z, its, n, r, r.length, e⟩
end
section
variable {X : Cx}
def rAppend : V → List V → Hp → VK → Prop := fun x vs H Q => ∃ l xs y, x = .ref l ∧ vs = [y] ∧ H l = some (.lst xs) ∧ xs.length < sizeLine ∧ Q .non (upd H l (.lst (xs ++ [y])))
theorem mt_append : MtM X "list.append" rAppend := by
  intro pins s σ H x vs v us Q I rx rv h
  obtain ⟨l, xs, y, rfl, rfl, hH, hz, q⟩ := h
  cases rx
  obtain ⟨u, rfl, ru⟩ := rv.one
  obtain ⟨z, its, n, r, hl, e⟩ := I.lstM hH
  refine call_meets F.slot_list_append ⟨_, e, rfl⟩ F.entry_list_append (F.args_list_append_2 _ _) (PySem.list_append l its.toArray n u (by rw [List.size_toArray]; omega)) ⟨e, ?_⟩
  refine ⟨.non, _, I.lset (its' := its ++ [u]) hH e (by simp) (r.append (.cons ru .nil)) ?_, rfl, q⟩
  rw [List.length_append, List.length_singleton]
  omega
def rCat : R2 := fun x y H Q => ∃ l b xs zs, x = .ref l ∧ y = .ref b ∧ H l = some (.lst xs) ∧ H b = some (.lst zs) ∧ xs.length + zs.length ≤ sizeLine ∧ ∀ p, H p = none → Q (.ref p) (upd H p (.lst (xs ++ zs)))
theorem op_cat : OpR X (binaryOp .Add) rCat := by
  intro pins s σ H x y v u Q I rx ry h
  obtain ⟨l, b, xs, zs, rfl, rfl, hH, hB, hz, q⟩ := h
  cases rx
  cases ry
  obtain ⟨z, its, n, r, hl, e⟩ := I.lstM hH
  obtain ⟨z2, its2, n2, r2, hl2, e2⟩ := I.lstM hB
  refine PySem.P.add_list e e2 ?_ (by rw [List.size_toArray, List.size_toArray]; omega)
  have ea : its.toArray ++ its2.toArray = (its ++ its2).toArray := by simp
  rw [ea]
  exact ⟨.ref _, _, I.lnew (t' := s.toks) (r.append r2) (by rw [List.length_append]; omega), rfl, q _ I.fresh⟩
end
section
variable {prog : Program} {w : World} {A : Around} {E : Value → Shared → Prop} {s : Shared}
end
section
variable {X : Cx}
end
end L2
namespace Att
open PySem PySem.W PySem.Calls PyProof.Rows
theorem ints_of_wellAll {P : Params} {h : Heap} : ∀ (ns : List Int) (vs : List Value), WellAll P h vs (ns.map WData.int) → IntsAre vs ns := by
  intro ns
  induction ns with
  | nil =>
    intro vs w
    rw [List.map_nil] at w
    cases w
    exact .nil
  | cons n ns ih =>
    intro vs w
    rw [List.map_cons] at w
    cases w with
    | cons a b =>
      cases a
      exact .cons _ _ (ih _ b)
theorem script_of {l : OpenLaw} {n : Nat} (hn : l.most = some n) {P : Params} {h : Heap} {args : List WData} {vals : List Value}
    (hpre : l.row.toRowW.claim.pre args = true) (hwl : WellAll P h vals args) :
    ∃ a vs ns, vals = [Value.ref a] ∧ args = [WData.list (ns.map WData.int)] ∧ h.get? a = some { cls := .type "list", data := .seq vs.toArray } ∧ IntsAre vs ns ∧ ns.length ≤ n := by
  have hsh : WShape.hasAll [] args [.list .int] = true := (pre_splitW hpre).1
  have hc : l.pre.holds [] { args := args } = true := (pre_splitW hpre).2
  obtain ⟨d, r, rfl, h1, h2⟩ := hasAllW_cons hsh
  obtain rfl := hasAllW_nil h2
  obtain ⟨xs, rfl, h3⟩ := hasW_list h1
  obtain ⟨ns, rfl⟩ := items_int h3
  have hlen : ns.length ≤ n := by
    unfold OpenLaw.pre at hc
    have h4 : (WTm.not (.lt (.lit (.int (n : Int))) (.len (.arg 0)))).holds [] { args := [.list (ns.map .int)] } = true := by
      have h4 := (holds_andW hc).1
      rw [hn] at h4
      exact h4
    have h5 := condW_of h4 (w_not (w_lt w_lit (w_len_list (w_arg rfl))))
    rw [List.length_map] at h5
    refine Nat.le_of_not_lt fun q => ?_
    have q' : (n : Int) < ((ns.length : Nat) : Int) := by omega
    first
      | (rw [decide_eq_true q'] at h5; exact absurd h5 (by decide))
      | (simp at h5; omega)
  cases hwl with
  | cons w1 w2 =>
    cases w2
    cases w1 with
    | list ho hall => exact ⟨_, _, ns, rfl, rfl, ho, ints_of_wellAll ns _ hall, hlen⟩
theorem post_true (l : OpenLaw) (args : List WData) : l.row.toRowW.claim.post args (.bool true) args = true :=
  postW_of (r := l.row.toRowW) (X := (true == true))
    (show WShape.has [] (.bool true) .bool = true by first | rfl | decide | simp [WShape.has, WShape.arms, WShape.armsAll])
    (show (WTm.eq .res (.lit (.bool true))).value [] { args := args, res := some (.bool true), after := args } = some (.bool (true == true)) from w_eq_bool (w_res rfl) w_lit) rfl
section
variable {prog : Program} {w : World} {A : Around} {E : Value → Shared → Prop} {s : Shared} {K : Frag}
end
end Att
namespace L2
open PySem PySem.Spec PyProof.Rows
theorem vals_ints : ∀ {vs : List Value} {ns : List Int}, IntsAre vs ns → Vals (ns.map V.int) vs
  | _, _, .nil => .nil
  | _, _, .cons n t h => .cons ⟨t, rfl⟩ (vals_ints h)
def Only (H : Hp) : Prop := ∀ b, H b = none ∨ ∃ o xs, H b = some (.frz o (.lst xs))
theorem law_call {P : Program} {w : World} {K : PySem.W.Frag} {mg mb : Str → Option Value} {CX : CXT} {k : Nat} {fa a : Addr} {fd : FuncData} {x : Str} {sp : Sp} {s₁ : Shared} {vs : List Value} {ns : List Int}
    (KX : K.In s₁.heap) (hns : s₁.heap.Ns mainGlobals mg) (hb : s₁.heap.Ns builtinsNs mb) (hbb : ∀ x : Str, x ≠ "__name__" → mb x = bootBuiltins x) (hlim : s₁.heap.NoLimit) (hg : s₁.gens = #[])
    (ha : s₁.heap.get? a = some { cls := .type "list", data := .seq vs.toArray }) (hi : IntsAre vs ns) (hl : ns.length ≤ sizeLine) (hr : Room k callerA)
    (F : ∀ base : Heap, K.In base → base.Ns mainGlobals mg → FnOk P w K mg base CX k fa fd [x] sp) (hbind : ∀ (s : Shared) (u : Value), BindsTo s fd ⟨[u], []⟩ [(x, u)])
    (hsp : ∀ H : Hp, Only H → SqL K H a (ns.map V.int) → sp [.ref a] H (fun v _ => v = .bl true) fun _ _ _ => False)
    (hCX : ∀ H e s', CX [] H s₁ (fun _ _ _ => False) e s' → False) :
    codeAny (model P w) callerA (.call (.ref fa) ⟨[.ref a], []⟩) (fun r s' => r = .ok (.ret (.bool true)) ∧ OldK s₁.heap s'.heap ∧ s'.os = s₁.os ∧ AllBare s'.gens) s₁ := by
  have rv := vals_ints hi
  have lenV := hi.length
  -- from an abstract heap in which nothing but the script may be tracked
  have core : ∀ H : Hp, Only H → SqL K H a (ns.map V.int) → HOk P w H s₁.heap → (∀ b, H b ≠ none → b = a) → (H a ≠ none → K.lookup a = none) →
      codeAny (model P w) callerA (.call (.ref fa) ⟨[.ref a], []⟩) (fun r s' => r = .ok (.ret (.bool true)) ∧ OldK s₁.heap s'.heap ∧ s'.os = s₁.os ∧ AllBare s'.gens) s₁ := by
    intro H hO hS hok hA hK
    have base_of : ∀ {b : Addr} {o : Obj}, s₁.heap.get? b = some o → H b = none → (hidT s₁.heap H).get? b = some o := fun e n => hidT_get e n
    have noA : ∀ {b : Addr} {o : Obj} {es : Array DictEntry} {ep : Nat}, s₁.heap.get? b = some o → o.data = .dict es ep → H b = none := fun {b o es ep} e d => by
      cases q : H b with
      | none => rfl
      | some u =>
        have e' : b = a := hA b (by rw [q]; simp)
        subst e'
        rw [ha] at e; cases e
        have d' : Data.seq vs.toArray _ = Data.dict es ep := d
        cases d'
    have nsK : ∀ {b : Addr} {m : Str → Option Value}, s₁.heap.Ns b m → (hidT s₁.heap H).Ns b m := fun {b m} ⟨o, es, ep, e, d, r⟩ => ⟨o, es, ep, base_of e (noA e d), d, r⟩
    have hKb : K.In (hidT s₁.heap H) := fun b o e => base_of (KX b o e) (by
      cases q : H b with
      | none => rfl
      | some u =>
        have e' : b = a := hA b (by rw [q]; simp)
        subst e'
        rw [hK (by rw [q]; simp)] at e; cases e)
    have hM : Mod K mg (hidT s₁.heap H) := ⟨hKb, nsK hns, ⟨mb, nsK hb, hbb⟩, let ⟨mc, h1, h2⟩ := hlim; ⟨mc, nsK h1, h2⟩⟩
    have e0 : Env0 P w K mg (hidT s₁.heap H) callerA [] s₁ H := ⟨rfl, hM, fun b o e => of_hidT e, Nat.le_of_eq (hidT_size _ _), trivial, fun b hb => absurd (show b ∈ ([] : List Addr) from hb) (by simp), hok, .of_eq hg⟩
    refine codeAny_mono ((F _ hKb (nsK hns)).run callerA [] s₁ H ⟨[.ref a], []⟩ [.ref a] [.ref a] _ _ hr e0 (hbind s₁ (.ref a)) (.cons rfl .nil) (hsp H hO hS)) fun r s' h => ?_
    cases r with
    | error e => exact (hCX H e s' h).elim
    | ok fl =>
      cases fl with
      | next => exact False.elim h
      | brk => exact False.elim h
      | cont => exact False.elim h
      | ret u =>
        obtain ⟨v, H', os, bare, un, hok', r', q⟩ := h
        have q' : v = .bl true := q
        subst q'
        obtain rfl : u = Value.bool true := r'
        refine ⟨rfl, OldK.of_keep fun b o e => ?_, os, bare⟩
        cases q : H b with
        | none => exact un.keep b o e q (by intro z; exact absurd (show b ∈ ([] : List Addr) from z) (by simp)) (by simp)
        | some u =>
          rcases hO b with z | ⟨ob, xs, z⟩
          · rw [q] at z; cases z
          · have z2 := un.frzs b ob _ z
            obtain ⟨e1, _⟩ := hok b _ z
            obtain ⟨e2, _⟩ := hok' b _ z2
            rw [e] at e1; cases e1
            exact e2
  cases hk : K.lookup a with
  | some o =>
    -- the script is one of the module's own objects
    have e := KX a o hk
    rw [ha] at e
    cases e
    refine core (fun _ => none) (fun _ => .inl rfl) (.inr ⟨_, vs.toArray, _, hk, rfl, rfl, rfl, by rw [List.size_toArray, lenV]; exact hl, by simpa using rv⟩) (fun b u z => by have z' : (none : Option HO) = some u := z; cases z') (fun b z => absurd rfl z) fun z => absurd rfl z
  | none =>
    refine core (fun b => if b = a then some (.frz { cls := .type "list", data := .seq vs.toArray } (.lst (ns.map V.int))) else none) (fun b => ?_) (.inl (.inr ⟨{ cls := .type "list", data := .seq vs.toArray }, if_pos rfl⟩)) (fun b u z => ?_) (fun b z => ?_) fun _ => hk
    · by_cases hb : b = a
      · exact .inr ⟨_, _, if_pos hb⟩
      · exact .inl (if_neg hb)
    · by_cases hb : b = a
      · have z' := (if_pos hb).symm.trans z
        cases z'
        subst hb
        exact ⟨ha, by rw [List.length_map]; exact hl, vs, _, rv, ha⟩
      · have z' := (if_neg hb).symm.trans z
        cases z'
    · by_cases hb : b = a
      · exact hb
      · exact absurd (if_neg hb) z
end L2
namespace L2
open PySem PySem.Spec PyProof.Rows
end L2
namespace L2
open PySem PySem.Spec PyProof.Rows
def defArgs (s : Stmt) : Arguments := match s with
  | .FunctionDef _ a _ _ _ _ _ _ _ _ => a
  | _ => { posonlyargs := [], args := [], vararg := none, kwonlyargs := [], kw_defaults := [], kwarg := none, defaults := [] }
def defBody (s : Stmt) : List Stmt := match s with
  | .FunctionDef _ _ b _ _ _ _ _ _ _ => b
  | _ => []
def defScope (s : Stmt) : Scope := match s with
  | .FunctionDef _ _ _ _ _ _ sc _ _ _ => sc
  | _ => { kind := .function, names := [], isGenerator := false, isCoroutine := false }
abbrev CX0 : CXT := fun _ _ _ _ _ _ => False
abbrev E0 : XK := fun _ _ _ => False
structure Fun (K : PySem.W.Frag) (x qual : Str) (st : Stmt) (f : Addr) (fd : FuncData) : Prop where
  ex : ∃ (oc : Value) (od : Option Addr) (kV doc pm : Value) (an : Option Addr) (cdv ct : Value) (osl : Array (Option Value)),
    fd = PySem.W.fnOf x qual (defArgs st) (defBody st) (defScope st) .none kV doc pm an cdv ct ∧ K.lookup f = some ⟨oc, od, .func fd, osl⟩ ∧ PySem.W.codeIn K cdv qual = true
  kp : PySem.W.keepIn K (.ref f) = true
section
variable {P : Program} {w : World} {K : PySem.W.Frag} {mg : Str → Option Value} {base : Heap}
theorem Fun.ok {x qual : Str} {st : Stmt} {f : Addr} {fd : FuncData} {N ps : List Str} {k : Nat} {sp : Sp} (F : Fun K x qual st f fd) (S : FnScope N ps (defScope st)) (len : ∀ vs H Q E, sp vs H Q E → vs.length = ps.length)
    (hbody : ∀ (cdv : Value) (A : Around) (outer : List Env) (s : Shared) (H : Hp) (vs : List V) (Q : VK) (E : XK), Room k (A.deeper (envOfC qual (defScope st) s.heap.objs.size f cdv)) → sp vs H Q E →
      ∃ t, PSs (cxOf CX0 P w K mg base N qual (defScope st) f cdv A outer s H E).nox (defBody st) t ∧ t { nx := fun _ H' => Q .non H', rt := Q } (start N vs) H) : FnOk P w K mg base CX0 (k + 1) f fd ps sp := by
  obtain ⟨oc, od, kV, doc, pm, an, cdv, ct, osl, rfl, lk, hcd⟩ := F.ex
  refine fn_of lk hcd S len fun A outer s H vs Q E hr hsp => ?_
  obtain ⟨t, h, q⟩ := hbody cdv A outer s H vs Q E hr hsp
  exact ⟨t, h.nox, q⟩
theorem Fun.binds {x qual : Str} {st : Stmt} {f : Addr} {fd : FuncData} {ps : List Str} (F : Fun K x qual st f fd)
    (h : ∀ (kV doc pm : Value) (an : Option Addr) (cdv ct : Value) (us : List Value), us.length = ps.length → bindArgs (PySem.W.fnOf x qual (defArgs st) (defBody st) (defScope st) .none kV doc pm an cdv ct) ⟨us, []⟩ = pure (ps.zip us)) : Binds K fd ps [] := by
  obtain ⟨oc, od, kV, doc, pm, an, cdv, ct, osl, rfl, lk, hcd⟩ := F.ex
  exact .all (h kV doc pm an cdv ct)
theorem fun_mk {x qual : Str} {st : Stmt} {f : Addr} {oc : Value} {od an : Option Addr} {osl : Array (Option Value)} {kV doc pm cdv ct : Value} (l : K.lookup f = some ⟨oc, od, .func (PySem.W.fnOf x qual (defArgs st) (defBody st) (defScope st) .none kV doc pm an cdv ct), osl⟩)
    (c : PySem.W.codeIn K cdv qual = true) (k : PySem.W.keepIn K (.ref f) = true) : Fun K x qual st f (PySem.W.fnOf x qual (defArgs st) (defBody st) (defScope st) .none kV doc pm an cdv ct) := ⟨⟨oc, od, kV, doc, pm, an, cdv, ct, osl, rfl, l, c⟩, k⟩
end
section
variable {X : Cx}
theorem pv (i : Nat) {x : Str} {pos : Pos} (hN : X.N[i]? = some x := by rfl) (hv : Vis X.env.scope x := by first | exact Or.inl rfl | exact Or.inr (Or.inl rfl) | exact Or.inr (Or.inr rfl)) (hd : (x == ("__debug__" : Str)) = false := by decide)
    (hcd : (x == ("__classdict__" : Str)) = false := by decide) : PE X (.Name x pos) (tVar i) := pe_var hN hv hd hcd
end
def Same (H H' : Hp) : Prop := ∀ b o, H b = some o → H' b = some o
theorem Same.refl (H : Hp) : Same H H := fun _ _ h => h
theorem Same.trans {H H1 H2 : Hp} (a : Same H H1) (b : Same H1 H2) : Same H H2 := fun c o h => b c o (a c o h)
theorem Same.free {H H' : Hp} (e : Same H H') {l : Addr} (h : H' l = Option.none) : H l = Option.none := by
  cases q : H l with
  | none => rfl
  | some o =>
    rw [e l o q] at h
    cases h
theorem Same.seq {K : PySem.W.Frag} {H H' : Hp} {a : Addr} {xs : List V} (e : Same H H') (h : SqL K H a xs) : SqL K H' a xs := by
  rcases h with (h | ⟨o, h⟩) | h
  · exact .inl (.inl (e _ _ h))
  · exact .inl (.inr ⟨o, e _ _ h⟩)
  · exact .inr h
end L2
set_option Elab.async false
set_option linter.all false
set_option maxRecDepth 100000
set_option maxHeartbeats 4000000
namespace L2
open PySem PySem.Spec PyProof.Rows
theorem ObjOk.there {P : Program} {w : World} {H : Hp} {h : Heap} {a : Addr} {o : HO} (x : ObjOk P w H h a o) : ∃ ob, h.get? a = some ob := by
  cases o with
  | lst xs => obtain ⟨_, _, _, _, e⟩ := x; exact ⟨_, e⟩
  | tup xs => obtain ⟨_, _, _, p⟩ := x; obtain ⟨o, e, _⟩ := p; exact ⟨_, e⟩
  | dK kvs => obtain ⟨_, _, _, _, o, _, _, e, _⟩ := x; exact ⟨_, e⟩
  | dT kvs => obtain ⟨_, _, _, _, o, _, _, e, _⟩ := x; exact ⟨_, e⟩
  | set S n => obtain ⟨o, _, _, _, e, _⟩ := x; exact ⟨_, e⟩
  | ins C dx fs => obtain ⟨_, _, _, e, _⟩ := x; exact ⟨_, e⟩
  | own y => obtain ⟨_, e⟩ := x; exact ⟨_, e⟩
  | xd fs => obtain ⟨_, ⟨_, _, _, e, _⟩, _⟩ := x; exact ⟨_, e⟩
  | rng lo hi => obtain ⟨_, _, _, e⟩ := x; exact ⟨_, e⟩
  | frz ob u => obtain ⟨e, _⟩ := x; exact ⟨_, e⟩
  | tbl ps => exact ⟨_, (show h.get? a = some _ from x)⟩
  | met f y => exact ⟨_, (show h.get? a = some _ from x)⟩
  | ext φ => obtain ⟨_, ⟨_, e⟩, _⟩ := x; exact ⟨_, e⟩
def Imp (X : Cx) (pins : List (Addr × Obj)) (H : Hp) (b : Addr) : Prop := H b ≠ none ∨ (b ∉ X.ex ∧ ∃ o, X.s₀.heap.get? b = some o) ∨ ∃ p ∈ X.pn ++ pins, p.1 = b
def ctxV : Option Addr → Value
  | none => .none
  | some a => .ref a
def TrX (h B : Heap) (e : Addr) (cls : Value) (cx : Option Addr) (fl : Value) : Prop :=
  ∃ oe vs T oT ts, (h.get? e = some oe ∧ oe.cls = cls ∧ oe.data = .fields vs) ∧ (vs[1]? = some (.ref T) ∧ vs[2]? = some (ctxV cx)) ∧ (B.get? T = none ∧ T ≠ e) ∧ h.get? T = some oT ∧ oT.data = .fields ts ∧ ts[3]? = some fl
theorem ref_not_none (T : Addr) : (Value.ref T != Value.none) = true := by simp
inductive Ph where | new | fly | any
def XTr (B h : Heap) (a : Addr) (cls : Value) (cx : Option Addr) : Ph → Prop
  | .new => ∃ oe vs, h.get? a = some oe ∧ oe.cls = cls ∧ oe.data = .fields vs ∧ vs[1]? = some .none ∧ vs[2]? = some (ctxV cx)
  | .fly => TrX h B a cls cx .none
  | .any => ∃ fl, TrX h B a cls cx fl
theorem XTr.there {B h : Heap} {a : Addr} {cls : Value} {cx : Option Addr} {ph : Ph} (x : XTr B h a cls cx ph) : ∃ oe vs, h.get? a = some oe ∧ oe.cls = cls ∧ oe.data = .fields vs ∧ vs[2]? = some (ctxV cx) := by
  cases ph with
  | new => obtain ⟨oe, vs, h1, h2, h3, _, h4⟩ := x; exact ⟨oe, vs, h1, h2, h3, h4⟩
  | fly => obtain ⟨oe, vs, _, _, _, ⟨h1, h2, h3⟩, ⟨_, h4⟩, _⟩ := x; exact ⟨oe, vs, h1, h2, h3, h4⟩
  | any => obtain ⟨_, oe, vs, _, _, _, ⟨h1, h2, h3⟩, ⟨_, h4⟩, _⟩ := x; exact ⟨oe, vs, h1, h2, h3, h4⟩
section
variable {M : Model} {A : Around} {E : Value → Shared → Prop} {s : Shared}
def NoteX (B : Heap) (l : List Env) (e : Addr) (cls : Value) (cx : Option Addr) (fl : Value) (h h' : Heap) : Prop := B.StaysIn h' ∧ h'.FunFrames B l ∧ TrX h' B e cls cx fl ∧ h.UpToSlots h'
theorem entry_x {B : Heap} {env : Env} {outer : List Env} {L e : Addr} {oe : Obj} {vs : Array Value} {head : Value} {cx : Option Addr} {nx : Bool} {Q : Unit → Shared → Prop} (fr : A.frames = some (env :: outer)) (ff : s.heap.FunFrames B (env :: outer)) (hf : env.frame = some L)
    (ge : s.heap.get? e = some oe) (st : B.StaysIn s.heap) (be : B.get? e = none) (de : oe.data = .fields vs) (z1 : 1 < vs.size) (z2 : vs[2]? = some (ctxV cx)) (q : ∀ h', NoteX B (env :: outer) e oe.cls cx (rawInt L) s.heap h' → Q () { s with heap := h' }) :
    wpAny M A (do let a ← frameOf env; let pl ← entryPlaceOf L nx; let b ← EntryCells.newEntry head a .none (rawInt L) .none pl; setField (.ref e) 1 b) Q E s := by
  have nf : ∀ b o, s.heap.get? b = some o → (∀ ws, o.data ≠ .fields ws) → b ≠ e := fun b o gb nb zb => by subst zb; rw [ge] at gb; cases gb; exact nb vs de
  have out : e ∉ (env :: outer).filterMap (·.frame) := fun m => by obtain ⟨_, o, go, no⟩ := ff.mem m; exact nf e o go no rfl
  refine wpAny_bind (wpAny_frameOf_fun fr ff hf fun h1 only => wpAny_bind (wpAny_entryPlaceOf fun pl place => ?_))
  unfold EntryCells.newEntry newFields
  refine wpAny_bind (wpAny_newObj_type ?_ (place.sizeOk5 _ _ _ _ _))
  have ge1 : h1.get? e = some oe := (only.2.1 e out).trans ge
  have st1 : B.StaysIn h1 := fun b o gb => (only.2.1 b fun m => by have := (ff.mem m).1; rw [this] at gb; cases gb).trans (st b o gb)
  have ne1 : h1.objs.size ≠ e := fun z => absurd (Heap.lt_size ge1) (by rw [z]; exact Nat.lt_irrefl _)
  refine wpAny_setField (Heap.get?_push_of_some _ ge1) de z1 (q _ ?_)
  have far : ∀ {ob : Obj} {g : Obj → Obj} {b : Addr} {o : Obj}, b ≠ e → h1.get? b = some o → ((h1.push ob).update e g).get? b = some o := fun ne gb => (Heap.get?_update_other _ _ (Ne.symm ne)).trans (Heap.get?_push_of_some _ gb)
  refine ⟨fun b o gb => far (fun z => by rw [z, be] at gb; cases gb) (st1 b o gb), ff.of_keeps fun b o gb nb => ?_, ?_, fun b o gb nb => ?_⟩
  · obtain ⟨sl, g⟩ := only.2.2 b o gb; exact ⟨_, far (nf b o gb nb) g, rfl⟩
  · have dd := Obj.data_mapFields de (·.setIfInBounds 1 (Value.ref h1.objs.size))
    refine ⟨_, _, h1.objs.size, _, _, ⟨Heap.get?_update_self _ (Heap.get?_push_of_some _ ge1) (Obj.isFreed_of_fields dd), Obj.cls_mapFields _ _, dd⟩, ⟨by simp [z1], by rw [Array.getElem?_setIfInBounds_ne (by decide)]; exact z2⟩, ⟨st1.fresh, ne1⟩, (Heap.get?_update_other _ _ (Ne.symm ne1)).trans (Heap.get?_push_size h1 rfl), rfl, ?_⟩
    first | (simp; done) | (rcases place with rfl | ⟨_, _, _, _, _, _, _, rfl⟩ <;> simp)
  · obtain ⟨sl, g⟩ := only.2.2 b o gb; exact ⟨sl, far (nf b o gb nb) g⟩
theorem note_first {B : Heap} {env : Env} {outer : List Env} {L e : Addr} {oe : Obj} {vs : Array Value} {cx : Option Addr} {Q : Unit → Shared → Prop} (fr : A.frames = some (env :: outer)) (ff : s.heap.FunFrames B (env :: outer)) (hf : env.frame = some L)
    (ge : s.heap.get? e = some oe) (st : B.StaysIn s.heap) (be : B.get? e = none) (de : oe.data = .fields vs) (z1 : vs[1]? = some .none) (z2 : vs[2]? = some (ctxV cx)) (q : ∀ h', NoteX B (env :: outer) e oe.cls cx (rawInt L) s.heap h' → Q () { s with heap := h' }) : wpAny M A (noteFrame (.ref e) env) Q E s := by
  unfold noteFrame
  simp only [hf]
  refine wpAny_bind (wpAny_field ge de z1 ?_)
  rw [if_neg (by decide)]
  exact entry_x fr ff hf ge st be de (Array.getElem?_eq_some_iff.mp z1).1 z2 q
theorem note_on {B : Heap} {env : Env} {outer : List Env} {L e : Addr} {cls : Value} {cx : Option Addr} {Q : Unit → Shared → Prop} (fr : A.frames = some (env :: outer)) (ff : s.heap.FunFrames B (env :: outer)) (hf : env.frame = some L)
    {fl : Value} (t : TrX s.heap B e cls cx fl) (nl : ¬ (fl == rawInt L) = true) (st : B.StaysIn s.heap) (be : B.get? e = none) (q : ∀ h', NoteX B (env :: outer) e cls cx (rawInt L) s.heap h' → Q () { s with heap := h' }) : wpAny M A (noteFrame (.ref e) env) Q E s := by
  obtain ⟨oe, vs, T, oT, ts, ⟨ge, rfl, de⟩, ⟨z1, z2⟩, ⟨bT, nT⟩, gT, dT, z3⟩ := t
  unfold noteFrame
  simp only [hf]
  refine wpAny_bind (wpAny_field ge de z1 ?_)
  rw [if_pos (ref_not_none T)]
  refine wpAny_bind (wpAny_field gT dT z3 ?_)
  rw [if_neg nl]
  refine wpAny_bind (wpAny_setField gT dT (Array.getElem?_eq_some_iff.mp z3).1 ?_)
  have far : ∀ {g : Obj → Obj} b, b ≠ T → (s.heap.update T g).get? b = s.heap.get? b := fun b ne => Heap.get?_update_other _ _ (Ne.symm ne)
  have nf : ∀ b o, s.heap.get? b = some o → (∀ ws, o.data ≠ .fields ws) → b ≠ T := fun b o gb nb zb => by subst zb; rw [gT] at gb; cases gb; exact nb ts dT
  refine entry_x fr (ff.of_keeps fun b o gb nb => ⟨o, (far b (nf b o gb nb)).trans gb, rfl⟩) hf ((far e (Ne.symm nT)).trans ge) (fun b o gb => (far b fun z => by rw [z, bT] at gb; cases gb).trans (st b o gb)) be de (Array.getElem?_eq_some_iff.mp z1).1 z2 fun h' x => q h' ⟨x.1, x.2.1, x.2.2.1, fun b o gb nb => ?_⟩
  exact x.2.2.2 b o ((far b (nf b o gb nb)).trans gb) nb
theorem note_again {B : Heap} {env : Env} {L e : Addr} {cls : Value} {cx : Option Addr} {fl : Value} {Q : Unit → Shared → Prop} (hf : env.frame = some L) (t : TrX s.heap B e cls cx fl) (el : (fl == rawInt L) = true) (q : Q () s) : wpAny M A (noteFrame (.ref e) env) Q E s := by
  obtain ⟨oe, vs, T, oT, ts, ⟨ge, rfl, de⟩, ⟨z1, z2⟩, ⟨bT, nT⟩, gT, dT, z3⟩ := t
  unfold noteFrame
  simp only [hf]
  refine wpAny_bind (wpAny_field ge de z1 ?_)
  rw [if_pos (ref_not_none T)]
  refine wpAny_bind (wpAny_field gT dT z3 ?_)
  rw [if_pos el]
  exact wpAny_pure q
theorem flight_x {B : Heap} {l : List Env} {e : Addr} {cls fl : Value} {cx fr : Option Addr} {Q : Unit → Shared → Prop} (st : B.StaysIn s.heap) (ff : s.heap.FunFrames B l) (t : TrX s.heap B e cls cx fl)
    (q : ∀ h', NoteX B l e cls cx (fr.elim Value.none fun f => rawInt f) s.heap h' → Q () { s with heap := h' }) : wpAny M A (setFlight (.ref e) fr) Q E s := by
  obtain ⟨oe, vs, T, oT, ts, ⟨ge, rfl, de⟩, ⟨z1, z2⟩, ⟨bT, nT⟩, gT, dT, z3⟩ := t
  have z4 : 3 < ts.size := (Array.getElem?_eq_some_iff.mp z3).1
  have far : ∀ {g : Obj → Obj} b, b ≠ T → (s.heap.update T g).get? b = s.heap.get? b := fun b ne => Heap.get?_update_other _ _ (Ne.symm ne)
  have nf : ∀ b o, s.heap.get? b = some o → (∀ ws, o.data ≠ .fields ws) → b ≠ T := fun b o gb nb zb => by subst zb; rw [gT] at gb; cases gb; exact nb ts dT
  unfold setFlight
  refine wpAny_bind (wpAny_field ge de z1 ?_)
  rw [if_pos (ref_not_none T)]
  refine wpAny_setField gT dT z4 (q _ ⟨fun b o gb => (far b fun z => by rw [z, bT] at gb; cases gb).trans (st b o gb), ff.of_keeps fun b o gb nb => ⟨o, (far b (nf b o gb nb)).trans gb, rfl⟩, ?_, fun b o gb nb => ⟨o.slots, (far b (nf b o gb nb)).trans gb⟩⟩)
  have dd := Obj.data_mapFields dT (·.setIfInBounds 3 (fr.elim Value.none fun f => rawInt f))
  exact ⟨oe, vs, T, _, _, ⟨(far e (Ne.symm nT)).trans ge, rfl, de⟩, ⟨z1, z2⟩, ⟨bT, nT⟩, Heap.get?_update_self _ gT (Obj.isFreed_of_fields dd), dd, by simp [z4]⟩
end
structure XAt (X : Cx) (pins : List (Addr × Obj)) (H : Hp) (s : Shared) (a : Addr) (cls : Value) (cx : Option Addr) (B : Heap) (ph : Ph) : Prop where
  free : H a = none
  stays : B.StaysIn s.heap
  fresh : B.get? a = none
  frames : s.heap.FunFrames B X.stack
  cov : ∀ b o, s.heap.get? b = some o → Imp X pins H b → b ∉ frs X.stack → B.get? b = some o
  tr : XTr B s.heap a cls cx ph
section
variable {X : Cx} {pins : List (Addr × Obj)} {σ : St} {H : Hp} {s : Shared} {a : Addr} {cls : Value} {cx : Option Addr} {B h' : Heap} {ph : Ph}
theorem Imp.there (I : Inv X pins σ H s) {b : Addr} (i : Imp X pins H b) : ∃ o, s.heap.get? b = some o := by
  rcases i with i | ⟨hx, o, i⟩ | ⟨p, hp, e⟩
  · cases q : H b with
    | none => exact absurd q i
    | some u => exact (I.hok b u q).there
  · exact I.base.there b o i hx
  · exact ⟨p.2, by rw [← e]; exact (I.pin p hp).1⟩
theorem Inv.exc (I : Inv X pins σ H s) (cov : ∀ b o, s.heap.get? b = some o → Imp X pins H b → b ∉ frs X.stack → B.get? b = some o) (st : B.StaysIn h') (ups : s.heap.UpToSlots h') :
    Inv X pins σ H { s with heap := h' } := by
  have fr : ∀ b, b ∈ frs X.stack → ∀ o, s.heap.get? b = some o → ∃ sl, h'.get? b = some { o with slots := sl } := fun b hb o e => by
    obtain ⟨_, o', e', d⟩ := I.stack.mem hb
    rw [e] at e'; cases e'
    exact ups b o e d
  have nfr : ∀ b, b ∉ X.fs → b ≠ X.env.locals → b ∉ frs X.stack := fun b h1 h2 z => (List.mem_cons.mp (I.stkSub b z)).elim h2 h1
  have neL : ∀ b o, X.s₀.heap.get? b = some o → b ≠ X.env.locals := fun b o e => Nat.ne_of_lt (Nat.lt_of_lt_of_le (Heap.lt_size e) I.ok.above)
  have cellK : ∀ c v, s.heap.IsCell c v → h'.IsCell c v := fun c v ⟨o, ho, hd⟩ => by
    obtain ⟨sl, q⟩ := ups c o ho (fun vs z => by rw [hd] at z; cases z)
    exact ⟨_, q, hd⟩
  refine ⟨I.ok, I.os, I.bare, ⟨fun b o e n hb hx => ?_, fun b o e n hb hx => ?_, I.base.free, fun b o e hx => ?_, I.base.tups, I.base.frzs, I.base.tbls⟩, ?_, fun x c e => ?_, I.free, I.freeC, fun p hp => ?_, ?_, I.len⟩
  · exact st _ _ (cov b o (I.base.keep b o e n hb hx) (.inr (.inl ⟨hx, o, e⟩)) (nfr b hb (neL b o e)))
  · obtain ⟨sl, e1⟩ := I.base.slot b o e n hb hx
    have hb' : b ∈ frs X.stack := by
      rcases I.ok.stk with q | ⟨q, hf⟩
      · rw [q]; exact hb
      · rw [q]; unfold frs; rw [List.filterMap_cons, hf]; exact List.mem_cons_of_mem _ hb
    obtain ⟨sl', e2⟩ := fr b hb' _ e1
    exact ⟨sl', e2⟩
  · obtain ⟨o', e1⟩ := I.base.there b o e hx
    by_cases hb : b ∈ frs X.stack
    · obtain ⟨sl, q⟩ := fr b hb _ e1
      exact ⟨_, q⟩
    · exact ⟨o', st _ _ (cov b o' e1 (.inr (.inl ⟨hx, o, e⟩)) hb)⟩
  · obtain ⟨m, hn, hl⟩ := I.loc
    refine ⟨m, ups.ns hn, fun i x v e1 e2 e3 => ?_⟩
    obtain ⟨u, r, l⟩ := hl i x v e1 e2 e3
    refine ⟨u, r, ?_⟩
    rcases l with l | ⟨k, c, e, z⟩
    · exact .inl l
    · exact .inr ⟨k, c, e, cellK c _ z⟩
  · obtain ⟨v, z⟩ := I.cell x c e
    exact ⟨v, cellK c v z⟩
  · obtain ⟨e, n, ne, nf, d⟩ := I.pin p hp
    exact ⟨st _ _ (cov p.1 p.2 e (.inr (.inr ⟨p, hp, rfl⟩)) (nfr p.1 nf ne)), n, ne, nf, d⟩
  · intro b u e
    refine (I.hok b u e).stay (fun c v hc q => ?_) (fun _ q => q) fun _ _ q => q
    have hc' : H c ≠ none := by
      rcases hc with z | z
      · rw [z, e]; exact fun q => nomatch q
      · rw [z]; exact fun q => nomatch q
    exact st _ _ (cov c v q (.inl hc') fun z => hc' (I.stkFree c z))
theorem XAt.cov' (x : XAt X pins H s a cls cx B ph) (I : Inv X pins σ H s) (st : B.StaysIn h') : ∀ b o, h'.get? b = some o → Imp X pins H b → b ∉ frs X.stack → B.get? b = some o := fun b o e i n => by
  obtain ⟨o1, e1⟩ := i.there I
  have q := x.cov b o1 e1 i n
  have q2 := st _ _ q
  rw [e] at q2; cases q2
  exact q
variable {M : Model} {A : Around} {E : Value → Shared → Prop} {Q : Unit → Shared → Prop}
theorem note_env {e : Value} {env env0 : Env} (h : env0.frame = env.frame) : noteFrame e env = noteFrame e env0 := by
  unfold noteFrame PySem.frameOf
  rw [h]
theorem note_ok {env0 : Env} {out0 : List Env} {F : Addr} (hA : A.frames = some X.stack) (hs : X.stack = env0 :: out0) (h0 : env0.frame = X.env.frame) (hf : X.env.frame = some F) (I : Inv X pins σ H s) (x : XAt X pins H s a cls cx B ph)
    (hQ : ∀ h', Inv X pins σ H { s with heap := h' } → XAt X pins H { s with heap := h' } a cls cx B .any → Q () { s with heap := h' }) : wpAny M A (noteFrame (.ref a) X.env) Q E s := by
  have hfr : A.frames = some (env0 :: out0) := by rw [hA, hs]
  have hl : s.heap.FunFrames B (env0 :: out0) := by rw [← hs]; exact x.frames
  rw [note_env h0]
  have hf : env0.frame = some F := h0.trans hf
  have fin : ∀ {fl : Value} h', NoteX B (env0 :: out0) a cls cx fl s.heap h' → Q () { s with heap := h' } := fun h' ⟨k1, k2, k3, k4⟩ =>
    hQ h' (I.exc x.cov k1 k4) ⟨x.free, k1, x.fresh, by rw [hs]; exact k2, x.cov' I k1, _, k3⟩
  have on : ∀ fl, TrX s.heap B a cls cx fl → wpAny M A (noteFrame (.ref a) env0) Q E s := fun fl t => by
    by_cases z : (fl == rawInt F) = true
    · exact note_again hf t z (hQ s.heap I ⟨x.free, x.stays, x.fresh, x.frames, x.cov, fl, t⟩)
    · exact note_on hfr hl hf t z x.stays x.fresh fin
  cases ph with
  | new =>
    obtain ⟨oe, vs, he, hc, hd, h1, h2⟩ := x.tr
    refine note_first hfr hl hf he x.stays x.fresh hd h1 h2 fun h' hN => ?_
    rw [hc] at hN
    exact fin h' hN
  | fly => exact on _ x.tr
  | any => obtain ⟨fl, t⟩ := x.tr; exact on fl t
theorem land_ok (I : Inv X pins σ H s) (x : XAt X pins H s a cls cx B ph) (hn : ph ≠ .new)
    (hQ : ∀ h', Inv X pins σ H { s with heap := h' } → XAt X pins H { s with heap := h' } a cls cx B .fly → Q () { s with heap := h' }) : wpAny M A (setFlight (.ref a) none) Q E s := by
  have go : ∀ fl, TrX s.heap B a cls cx fl → wpAny M A (setFlight (.ref a) none) Q E s := fun fl ht =>
    flight_x x.stays x.frames ht fun h' ⟨k1, k2, k3, k4⟩ => hQ h' (I.exc x.cov k1 k4) ⟨x.free, k1, x.fresh, k2, x.cov' I k1, k3⟩
  cases ph with
  | new => exact absurd rfl hn
  | fly => exact go _ x.tr
  | any => obtain ⟨fl, t⟩ := x.tr; exact go fl t
end
def CXe (P : Program) (w : World) : CXT := fun outer H s E e s' =>
  ∃ (a : Addr) (cls : Value) (cx : Option Addr) (H' : Hp) (B : Heap), e = .ref a ∧ s'.os = s.os ∧ AllBare s'.gens ∧ Un (frs outer) [] H H' s.heap s'.heap ∧ HOk P w H' s'.heap ∧ B.StaysIn s'.heap ∧ B.get? a = none ∧ s'.heap.FunFrames B outer ∧
    TrX s'.heap B a cls cx .none ∧ H' a = none ∧ (∀ b o, s'.heap.get? b = some o → (H' b ≠ none ∨ ∃ o', s.heap.get? b = some o') → b ∉ frs outer → B.get? b = some o) ∧ E cls cx H'
def XAcc (X : Cx) (E : XK) : Prop := ∀ (pins : List (Addr × Obj)) (σ : St) (H : Hp) (s : Shared) (a : Addr) (cls : Value) (cx : Option Addr) (B : Heap) (ph : Ph), Inv X pins σ H s → XAt X pins H s a cls cx B ph → E cls cx H → X.xe (.ref a) s
theorem acc_def {P : Program} {w : World} {K : PySem.W.Frag} {mg : Str → Option Value} {base : Heap} {N : List Str} {qual : Str} {scope : Scope} {f : Addr} {cd : Value} {A : Around} {outer : List Env} {s : Shared} {H : Hp} {E : XK} :
    XAcc (cxOf (CXe P w) P w K mg base N qual scope f cd A outer s H E) E := by
  intro pins σ H1 s1 a cls cx B ph I x e
  show wpAny (model P w) (A.deeper (envOfC qual scope s.heap.objs.size f cd)) (leaving (envOfC qual scope s.heap.objs.size f cd) (.ref a)) _ _ s1
  unfold leaving
  refine wpAny_bind (note_ok (X := cxOf (CXe P w) P w K mg base N qual scope f cd A outer s H E) I.ok.frames rfl rfl rfl I x fun h1 I1 x1 => ?_)
  refine land_ok I1 x1 (fun z => nomatch z) fun h2 I2 x2 => ?_
  refine ⟨a, cls, cx, H1, B, rfl, I2.os, I2.bare, I2.base, I2.hok, x2.stays, x2.fresh, x2.frames.2.2, x2.tr, x2.free, fun b o e1 i n => ?_, e⟩
  have nl : b ≠ (envOfC qual scope s.heap.objs.size f cd).locals := fun z => by
    rcases i with i | ⟨o', i⟩
    · exact i (by rw [z]; exact I2.free)
    · have := Heap.lt_size i
      rw [z] at this
      exact absurd this (Nat.lt_irrefl _)
  refine x2.cov b o e1 (i.elim .inl fun z => .inr (.inl ⟨List.not_mem_nil, z⟩)) fun z => ?_
  rcases List.mem_cons.mp (I2.stkSub b z) with q | q
  · exact nl q
  · exact n q
theorem XAcc.passes {X : Cx} {E : XK} (acc : XAcc X E) : Passes (CXe X.prog X.w) X E := by
  intro pins σ H s e s' I h
  obtain ⟨a, cls, cx, H', B, rfl, os, bare, un, hok, st, fr, ff, tr, free, cov, hE⟩ := h
  have I' : Inv X pins σ H' s' := I.call' (ch := []) os un hok bare (fun b z => absurd z (by simp))
  refine acc pins σ H' s' a cls cx B .fly I' ⟨free, st, fr, ff, fun b o e i n => cov b o e ?_ n, tr⟩ hE
  rcases i with i | ⟨hx, o', i⟩ | ⟨p, hp, q⟩
  · exact .inl i
  · exact .inr (I.base.there b o' i hx)
  · exact .inr ⟨p.2, by rw [← q]; exact (I.pin p hp).1⟩
end L2
set_option Elab.async false
set_option linter.all false
set_option maxRecDepth 100000
set_option maxHeartbeats 4000000
namespace PySem.W
open PySem PySem.Spec PySem.Calls PyProof.Rows
structure ExcT (K : Frag) (C : Addr) : Prop where
  ga : findIn K (.ref C) "__getattribute__" = some (some (.builtin "BaseException.__getattribute__"))
  gt : findIn K (.ref C) "__getattr__" = some none
  cl : findIn K (.ref C) "__class__" = some (some (.builtin "object.__class__"))
  mo : mroIn K C (.type "object") = some true
  sb : subIn K (.ref C) (.type "BaseException") = some true
section
variable {prog : Program} {w : World} {A : Around} {E : Value → Shared → Prop} {h : Heap} {g : Array GenState} {d : Drawn} {t : Nat} {os : OsState} {K : Frag} {x C : Addr} {o : Obj} {R : Result → Shared → Prop}
theorem exc_class_get {tp : Value} (X : K.In h) (hx : h.get? x = some o) (hc : o.cls = .ref C) (hm : mroIn K C (.type "object") = some true)
    (q : R (.ok (.ret (.ref C))) ⟨h, g, d, t, os⟩) : codeAny (model prog w) A (.call (.builtin "getset_descriptor.__get__") ⟨[.builtin "object.__class__", .ref x, tp], []⟩) R ⟨h, g, d, t, os⟩ := by
  have L0 : Looks (model prog w) h (typeOf (.ref x)) (.ref C) := hc ▸ (Looks.ld hx).andThen .now
  have L1 := looks_mroIn (M := model prog w) X hm
  refine codeAny_call_builtin KF.slot_gs.plain KF.entry_gs (KF.slot_gs.check _ _ _ _ _ _ _ _ KF.type_class (KF.args_gs _ _ _) ?_)
  unfold Builtin.«getset_descriptor.__get__» Builtin.Getset_descriptor.descrGet
  rw [dga_obj]
  refine wpAny_bind (wpAny_pure ?_)
  unfold Builtin.Getset_descriptor.descrGetter Builtin.Getset_descriptor.descrCheckInstance Builtin.Getset_descriptor.descrNameAndClass isInstance
  simp only [KF.owner_class]
  repeat lk
  refine ⟨Code.quiet_builtin _ (by decide +kernel), codeAny_builtin KF.entry_class ?_⟩
  unfold Builtin.«object.__class__» shownTypeOf
  repeat lk
  exact q
theorem exc_class_entry {tk : Tok} {Q : Fin → Shared → Prop} (X : K.In h) (T : ExcT K C) (hx : h.get? x = some o) (hc : o.cls = .ref C) (q : Q (.done (.ret (.ref C))) ⟨h, g, d, t, os⟩) :
    wpAny (model prog w) A (Builtin.«object.__getattribute__» ⟨[.ref x, .str "__class__" tk], []⟩) Q E ⟨h, g, d, t, os⟩ := by
  have L0 : Looks (model prog w) h (typeOf (.ref x)) (.ref C) := hc ▸ (Looks.ld hx).andThen .now
  have L1 := looks_findIn (M := model prog w) X T.cl
  have hT5 : (⟨h, g, d, t, os⟩ : Shared).TypeIs (.builtin "object.__class__") "getset_descriptor" := F.typeOf_object_class
  have f5 := F.typeOf_object_class
  have f6 := F.slot_gs_get.lookup
  have f7 := F.slot_gs_set.lookup
  repeat (any_goals (first | assumption | (with_reducible refine L0.at ?_) | (with_reducible refine wpAny_bind (L0.at ?_)) | (with_reducible refine L1.at ?_) | (with_reducible refine wpAny_bind (L1.at ?_)) | wp_step))
  refine exc_class_get X hx hc T.mo ?_
  repeat (any_goals (first | assumption | wp_step))
theorem exc_check_ga {M : Model} {nameV : Value} {Q : Unit → Shared → Prop} (X : K.In h) (T : ExcT K C) (hx : h.get? x = some o) (hc : o.cls = .ref C) (hq : Q () ⟨h, g, d, t, os⟩) : wpAny M A (checkBuiltinCall "BaseException.__getattribute__" ⟨[.ref x, nameV], []⟩) Q E ⟨h, g, d, t, os⟩ := by
  have hk : builtinKind "BaseException.__getattribute__" = some .slot := by decide +kernel
  have hsplit : splitId "BaseException.__getattribute__" = some ("BaseException", "__getattribute__") := by decide +kernel
  have L0 : Looks M h (typeOf (.ref x)) (.ref C) := hc ▸ (Looks.ld hx).andThen .now
  have L1 := looks_subIn (M := M) X T.sb
  have L2 : Looks M h (isInstance (.ref x) (.type "BaseException")) true := L0.andThen L1
  have ha := F.args_bexc_ga (.ref x) nameV
  simp only [checkBuiltinCall, hk, hsplit]
  refine wpAny_bind (L2.at ?_)
  repeat (first | assumption | wp_step)
theorem exc_class_by {tk : Tok} {Q : Value → Shared → Prop} (X : K.In h) (T : ExcT K C) (hx : h.get? x = some o) (hc : o.cls = .ref C) (hq : Q (.ref C) ⟨h, g, d, t, os⟩) : wpAny (model prog w) A (getAttrBy (.ref x) (.str "__class__" tk) false) Q E ⟨h, g, d, t, os⟩ := by
  have L0 : Looks (model prog w) h (typeOf (.ref x)) (.ref C) := hc ▸ (Looks.ld hx).andThen .now
  have L1 := looks_findIn (M := model prog w) X T.ga
  have L2 := looks_findIn (M := model prog w) X T.gt
  have f3 := F.attr_ValueError.ga.bind (.ref x)
  have hx2 : (Value.builtin "BaseException.__getattribute__" == Value.builtin "object.__getattribute__") = false := by decide +kernel
  have hx1 : (onTheHeap (Value.ref C) && Value.builtin "BaseException.__getattribute__" == Value.builtin "object.__getattribute__") = false := by rw [hx2]; rfl
  repeat (any_goals (first | assumption | (with_reducible refine L0.at ?_) | (with_reducible refine wpAny_bind (L0.at ?_)) | (with_reducible refine L1.at ?_) | (with_reducible refine wpAny_bind (L1.at ?_)) | (with_reducible refine L2.at ?_) | (with_reducible refine wpAny_bind (L2.at ?_)) | wp_step))
  refine codeAny_call_builtin F.attr_ValueError.ga.plain F.entry_bexc_ga (exc_check_ga X T hx hc (exc_class_entry X T hx hc ?_))
  repeat (any_goals (first | assumption | wp_step))
theorem exc_class_attr {Q : Option Value → Shared → Prop} (X : K.In h) (T : ExcT K C) (hx : h.get? x = some o) (hc : o.cls = .ref C) (hq : Q (some (.ref C)) ⟨h, g, d, t + 1, os⟩) : wpAny (model prog w) A (getAttr? (.ref x) "__class__") Q E ⟨h, g, d, t, os⟩ := by
  unfold getAttr? getAttrBy?
  repeat (any_goals (first | assumption | with_reducible apply exc_class_by X T hx hc | wp_step))
end
def ExcAtC (x C : Addr) (h : Heap) : Prop := ∃ o vs, h.get? x = some o ∧ o.cls = .ref C ∧ o.data = .fields vs
theorem kitx_exc {K : Frag} {x C : Addr} (T : ExcT K C) : KitX K (.ref x) (.ref C) (ExcAtC x C) where
  ty := fun _ _ _ ⟨_, _, hx, hc, _⟩ => hc ▸ (Looks.ld hx).andThen .now
  it := fun M h X _ => by
    have hm := T.mo
    unfold mroIn at hm
    obtain ⟨cd, hcd⟩ : ∃ cd, clsIn K C = some cd := by
      cases q : clsIn K C with
      | none => rw [q] at hm; cases hm
      | some cd => exact ⟨cd, rfl⟩
    unfold clsIn at hcd
    split at hcd
    · rename_i c' d' cd' sl' ho
      intro A' Q' E' s' k q
      unfold isType loadHead
      exact wpAny_bind (wpAny_loadPart (k _ _ (X _ _ ho)) (wpAny_pure q))
    · cases hcd
  ne := fun h tp dd its n sl X htp => by
    have hm := T.mo
    unfold mroIn at hm
    obtain ⟨cd, hcd⟩ : ∃ cd, clsIn K C = some cd := by
      cases q : clsIn K C with
      | none => rw [q] at hm; cases hm
      | some cd => exact ⟨cd, rfl⟩
    refine Bool.eq_false_iff.mpr fun q => ?_
    have e : C = tp := Value.ref.inj (beq_iff_eq.mp q)
    subst e
    unfold clsIn at hcd
    split at hcd
    · rename_i c' d' cd' sl' ho
      have z := (X _ _ ho).symm.trans htp
      cases z
    · cases hcd
  ca := fun {_ _ _ _ _ s} X ⟨_, _, hx, hc, _⟩ k => by
    obtain ⟨h, g, d, t, os⟩ := s
    exact exc_class_attr X T hx hc k
end PySem.W
set_option Elab.async false
set_option linter.all false
set_option maxRecDepth 100000
set_option maxHeartbeats 4000000
namespace L2
open PySem PySem.Spec PyProof.Rows
abbrev TJ := St → Hp → Str → (Str → Hp → Prop) → Prop
section
variable {X : Cx} {e : Expr} {es : List Expr} {te : TE} {t : TJ} {pos : Pos}
end
def vErr : List Value := [.type "ValueError", .type "Exception", .type "BaseException", .type "object"]
theorem exc_obj {K : PySem.W.Frag} {h₀ : Heap} {C : Addr} (KX : K.In h₀) (q : PySem.W.excIn K C vErr "ValueError.__new__" = true) :
    ∃ bm N nm q bs hdct sn sub ab col dd k0 k1 k2 k3 k5 mN, h₀.get? C = some (excClassObj nm q C N bs bm hdct sn sub ab col dd k0 k1 k2 k3 k5 "ValueError.__new__") ∧ h₀.Ns N mN ∧ mN "__init__" = none ∧ OwnTail h₀ vErr bm := by
  unfold PySem.W.excIn at q
  split at q
  · rename_i dd cd sl ho
    split at q
    · rename_i C' bm k0 k1 k2 k3 n k5 hm hs
      simp only [Bool.and_eq_true, beq_iff_eq, Bool.not_eq_true'] at q
      obtain ⟨⟨⟨⟨⟨rfl, rfl⟩, hdel⟩, ht⟩, hok⟩, hni⟩ := q
      obtain ⟨nm, bs, mro, ns, qn, hd, sn, sub, ab, col, del⟩ := cd
      dsimp only at hm hdel hok hni
      subst hm hdel
      have hsl : sl = #[k0, k1, k2, k3, some (.builtin "ValueError.__new__"), k5] := by
        obtain ⟨l⟩ := sl
        simp only at hs
        rw [hs]
      subst hsl
      exact ⟨bm, ns, nm, qn, bs, hd, sn, sub, ab, col, dd, k0, k1, k2, k3, k5, _, KX _ _ ho, .of_isNs (PySem.W.isNs_of_in KX hok), PySem.W.nsMap_none_of_in KX hok hni, PySem.W.tail_of_in KX ht⟩
    · cases q
  · cases q
section
variable {X : Cx} {E : XK}
theorem XAt.first {pins : List (Addr × Obj)} {σ : St} {H : Hp} {s : Shared} {h' : Heap} {a : Addr} {cls : Value} {cx : Option Addr} {oe : Obj} {vs : Array Value} (I : Inv X pins σ H s) (k : ∀ b o, s.heap.get? b = some o → h'.get? b = some o)
    (n : s.heap.get? a = none) (g : h'.get? a = some oe) (hc : oe.cls = cls) (hd : oe.data = .fields vs) (z1 : vs[1]? = some .none) (z2 : vs[2]? = some (ctxV cx)) :
    Inv X pins σ H { s with heap := h' } ∧ XAt X pins H { s with heap := h' } a cls cx (PySem.W.hideAll s.heap (frs X.stack)) .new := by
  have I' : Inv X pins σ H { s with heap := h' } := I.kept (t' := s.toks) k
  have fr : H a = none := by
    cases q : H a with
    | none => rfl
    | some u => obtain ⟨o, e⟩ := (I.hok a u q).there; rw [n] at e; cases e
  refine ⟨I', fr, fun b o e => k b o (PySem.W.of_hideAll _ e), ?_, (PySem.W.funFrames_hide I.stack fun env he b hb => List.mem_filterMap.mpr ⟨env, he, hb⟩).of_keeps fun b o e _ => ⟨o, k b o e, rfl⟩, fun b o e i n => ?_, ⟨oe, vs, g, hc, hd, z1, z2⟩⟩
  · cases q : (PySem.W.hideAll s.heap (frs X.stack)).get? a with
    | none => rfl
    | some o => have := PySem.W.of_hideAll _ q; rw [n] at this; cases this
  · obtain ⟨o1, e1⟩ := i.there I
    have e2 := k _ _ e1
    rw [e] at e2; cases e2
    exact PySem.W.hideAll_get _ e1 n
theorem XAt.made {pins : List (Addr × Obj)} {σ : St} {H : Hp} {s : Shared} {h' : Heap} {a : Addr} {cls : Value} {vs : List Value} (I : Inv X pins σ H s) (m : Heap.MadeExcOf s.heap h' a cls vs) :
    Inv X pins σ H { s with heap := h' } ∧ XAt X pins H { s with heap := h' } a cls none (PySem.W.hideAll s.heap (frs X.stack)) .new := by
  obtain ⟨t, he, _, _⟩ := m.there
  exact XAt.first I m.keeps m.new he rfl rfl rfl rfl
def tRaise (C : Addr) (E : XK) (ta : TA) : TS := fun _ σ H => ta σ H fun vs H1 => vs.length ≤ sizeLine ∧ E (.ref C) none H1
theorem ps_raise {x : Str} {C : Addr} {e₀ : Expr} {rest : List Expr} {np cpos pos : Pos} {ta : TA} (acc : XAcc X E) (q : PySem.W.excIn X.K C vErr "ValueError.__new__" = true) (hg : Gl X x) (hm : X.mg x = some (.ref C)) (ha : PA X (e₀ :: rest) ta)
    (hc : X.calm = true := by rfl) (hex : X.ex = [] := by rfl)
    (he : starEach (e₀ :: rest) X.env = (false, eval e₀ X.env) :: starEach rest X.env := by rfl) (hplain : (backTo cpos (starEach rest X.env)).any (·.1) = false := by rfl) (hd : (x == ("__debug__" : Str)) = false := by decide) :
    PS X (.Raise (some (.Call (.Name x np) (e₀ :: rest) [] cpos)) none pos) (tRaise C E ta) := by
  intro pins s σ H D I h
  obtain ⟨tl, N, nm, qn, bs, hdct, sn, sub, ab, col, dd, k0, k1, k2, k3, k5, mN, hC, hN, hni, T⟩ := exc_obj I.mod.kin q
  have hp := ha cpos pins s σ H _ I h
  rw [he] at hp
  refine wpAny_Raise_call_subT (C := C) (nm := nm) (q := qn) (N := N) (bs := bs) (bm := tl) (hdct := hdct) (sn := sn) (sub := sub) (ab := ab) (col := col) (dd := dd) (k0 := k0) (k1 := k1) (k2 := k2) (k3 := k3) (k5 := k5)
    PySem.F.excBase_ValueError (mN := mN) (T.hasType PySem.F.excBase_ValueError.hasBase) (I.ok.hd hc) (by rw [he]; show (false || (backTo cpos (starEach rest X.env)).any (·.1)) = false; rw [hplain]; rfl) hni (ld_glob I hg hm ⟨rfl, ?_⟩ hd)
  rw [he]
  refine Calls.evalArgs_plain (thn hp fun us s2 ⟨vs, H2, I2, rv, z, hE⟩ => ⟨rfl, by rw [← rv.length]; exact z, I2.bk _ _ hC, hN.keeps I2.bk, T.keeps I2.bk, fun h' e m => ?_⟩)
  obtain ⟨I3, x3⟩ := XAt.made I2 m
  exact acc pins σ H2 _ e _ none _ .new I3 x3 hE
end
def ExcO (a : Addr) (cls : Value) (cx : Option Addr) : HO := .ext fun h => ∃ o vs, h.get? a = some o ∧ o.cls = cls ∧ o.data = .fields vs ∧ vs[2]? = some (ctxV cx)
section
variable {X : Cx} {pins : List (Addr × Obj)} {σ : St} {H : Hp} {s : Shared} {a : Addr} {cls : Value} {cx : Option Addr} {B : Heap} {ph : Ph}
theorem XAt.nofr (x : XAt X pins H s a cls cx B ph) : a ∉ frs X.stack := fun z => by
  obtain ⟨oe, vs, e, _, d, _⟩ := x.tr.there
  obtain ⟨_, o, e', d'⟩ := x.frames.mem z
  rw [e] at e'; cases e'
  exact d' vs d
theorem XAt.noimp (x : XAt X pins H s a cls cx B ph) : ¬ Imp X pins H a := fun i => by
  obtain ⟨oe, vs, e, _, d, _⟩ := x.tr.there
  have := x.cov a oe e i x.nofr
  rw [x.fresh] at this; cases this
theorem Inv.track (I : Inv X pins σ H s) (x : XAt X pins H s a cls cx B ph) : Inv X pins σ (upd H a (ExcO a cls cx)) s := by
  obtain ⟨oe, vs, e, hc, d, d2⟩ := x.tr.there
  have ni := x.noimp
  refine ⟨I.ok, I.os, I.bare, ⟨I.base.keep, I.base.slot, fun b o e1 n hx => ?_, I.base.there, fun b xs q => ?_, fun b o u q => ?_, fun b ps q => ?_⟩, I.loc, I.cell, ?_, fun y c q => ?_, fun p hp => ?_, fun b u q => ?_, I.len⟩
  · rw [upd_ne (fun z => ni (.inr (.inl ⟨by rw [← z]; exact hx, o, by rw [← z]; exact e1⟩)))]
    exact I.base.free b o e1 n hx
  · have q1 := I.base.tups b xs q
    rw [upd_ne (ne_of_none q1 x.free)]; exact q1
  · have q1 := I.base.frzs b o u q
    rw [upd_ne (ne_of_none q1 x.free)]; exact q1
  · obtain ⟨more, q1⟩ := I.base.tbls b ps q
    exact ⟨more, by rw [upd_ne (ne_of_none q1 x.free)]; exact q1⟩
  · rw [upd_ne fun z => ?_]
    · exact I.free
    · obtain ⟨m, ⟨o, es, ep, ho, hd, _⟩, _⟩ := I.loc
      rw [z, e] at ho; cases ho
      rw [d] at hd; cases hd
  · rw [upd_ne fun z => ?_]
    · exact I.freeC y c q
    · obtain ⟨v, o, ho, hd⟩ := I.cell y c q
      rw [z, e] at ho; cases ho
      rw [d] at hd; cases hd
  · obtain ⟨h1, h2, h3, h4, h5⟩ := I.pin p hp
    exact ⟨h1, by rw [upd_ne (fun z => ni (.inr (.inr ⟨p, hp, z⟩)))]; exact h2, h3, h4, h5⟩
  · by_cases hb : b = a
    · subst hb
      rw [upd_same] at q; cases q
      exact ⟨⟨oe, vs, e, hc, d, d2⟩, ⟨oe, e⟩, fun h1 h2 ⟨o, ws, z1, z2, z3⟩ k => ⟨o, ws, k o z1, z2, z3⟩⟩
    · rw [upd_ne hb] at q
      refine (I.hok b u q).stay (fun _ _ _ z => z) (fun c z => ?_) fun c xs z => ?_
      · rw [upd_ne (ne_of_none z x.free)]; exact z
      · rw [upd_ne (ne_of_none z x.free)]; exact z
end
abbrev Cx.tryCx (X : Cx) (E2 : Value → Shared → Prop) (pins : List (Addr × Obj)) : Cx := { X with xe := E2, pn := X.pn ++ pins }
abbrev Cx.inExc (X : Cx) (a : Addr) : Cx := { X with A := X.A.mark (some (.ref a)), calm := false }
def blank (n : Nat) : St := List.replicate n none
section
variable {X : Cx} {pins : List (Addr × Obj)} {σ : St} {H : Hp} {s : Shared} {a : Addr} {E2 : Value → Shared → Prop}
theorem Cx.Ok.tryCx (ok : X.Ok) : (X.tryCx E2 pins).Ok := ⟨ok.mod, ok.kind, ok.glob, ok.blt, ok.above, ok.inj, ok.has, ok.cab, ok.hd, ok.frames, ok.stk, ok.exf, ok.bs, ok.bsz, ok.noex, ok.exfs, ok.funs, ok.frf⟩
theorem Cx.Ok.inExc (ok : X.Ok) : (X.inExc a).Ok := ⟨ok.mod, ok.kind, ok.glob, ok.blt, ok.above, ok.inj, ok.has, ok.cab, (fun z => nomatch z), ok.frames, ok.stk, ok.exf, ok.bs, ok.bsz, ok.noex, ok.exfs, ok.funs, ok.frf⟩
theorem Inv.toTry (I : Inv X pins σ H s) : Inv (X.tryCx E2 pins) [] σ H s :=
  ⟨I.ok.tryCx, I.os, I.bare, I.base, I.loc, I.cell, I.free, I.freeC, fun p hp => I.pin p (by rw [List.append_nil] at hp; exact hp), I.hok, I.len⟩
theorem Inv.ofTry {pins' : List (Addr × Obj)} (ok : X.Ok) (I : Inv (X.tryCx E2 pins) pins' σ H s) : Inv X pins σ H s :=
  ⟨ok, I.os, I.bare, I.base, I.loc, I.cell, I.free, I.freeC, fun p hp => I.pin p (List.mem_append_left _ hp), I.hok, I.len⟩
theorem Inv.toExc (I : Inv X pins σ H s) : Inv (X.inExc a) pins σ H s :=
  ⟨I.ok.inExc, I.os, I.bare, I.base, I.loc, I.cell, I.free, I.freeC, I.pin, I.hok, I.len⟩
theorem Inv.ofExc (ok : X.Ok) (I : Inv (X.inExc a) pins σ H s) : Inv X pins σ H s :=
  ⟨ok, I.os, I.bare, I.base, I.loc, I.cell, I.free, I.freeC, I.pin, I.hok, I.len⟩
theorem Inv.forget (I : Inv X pins σ H s) : Inv X pins (blank X.N.length) H s := I.weak (by unfold blank; rw [List.length_replicate, I.len]) fun i v q => by
  unfold blank at q
  rw [List.getElem?_replicate] at q
  split at q <;> cases q
theorem SP.ofTry {pins' : List (Addr × Obj)} {D : Ends} {f : Flow} {s' : Shared} (ok : X.Ok) (h : SP (X.tryCx E2 pins) pins' D f s') : SP X pins D f s' := by
  cases f with
  | next => obtain ⟨σ', H', I, q⟩ := h; exact ⟨σ', H', I.ofTry ok, q⟩
  | brk => obtain ⟨σ', H', I, q⟩ := h; exact ⟨σ', H', I.ofTry ok, q⟩
  | cont => obtain ⟨σ', H', I, q⟩ := h; exact ⟨σ', H', I.ofTry ok, q⟩
  | ret u => obtain ⟨v, σ', H', I, r, q⟩ := h; exact ⟨v, σ', H', I.ofTry ok, r, q⟩
theorem SP.ofExc {D : Ends} {f : Flow} {s' : Shared} (ok : X.Ok) (h : SP (X.inExc a) pins D f s') : SP X pins D f s' := by
  cases f with
  | next => obtain ⟨σ', H', I, q⟩ := h; exact ⟨σ', H', I.ofExc ok, q⟩
  | brk => obtain ⟨σ', H', I, q⟩ := h; exact ⟨σ', H', I.ofExc ok, q⟩
  | cont => obtain ⟨σ', H', I, q⟩ := h; exact ⟨σ', H', I.ofExc ok, q⟩
  | ret u => obtain ⟨v, σ', H', I, r, q⟩ := h; exact ⟨v, σ', H', I.ofExc ok, r, q⟩
theorem XAcc.inExc {E : XK} {a : Addr} (acc : XAcc X E) (ok : X.Ok) : XAcc (X.inExc a) E := fun pins σ H s b cls cx B ph I x e => acc pins σ H s b cls cx B ph (I.ofExc ok) ⟨x.free, x.stays, x.fresh, x.frames, x.cov, x.tr⟩ e
end
section
variable {M : Model} {A : Around} {E : Value → Shared → Prop} {env : Env}
variable {nm q : Str} {C N : Addr} {bs bm : List Value} {hdct : Bool} {sn : List Str} {sub : List Value} {ab : Bool} {col : Option Bool} {dd : Option Addr} {k0 k1 k2 k3 k5 : Option Value} {newId : String}
end
section
variable {X : Cx} {E : XK} {a : Addr}
end
section
variable {X : Cx} {pins : List (Addr × Obj)} {σ : St} {H : Hp} {s : Shared} {a : Addr} {E2 : Value → Shared → Prop}
def tTryAs (K : PySem.W.Frag) (C : Addr) (n i : Nat) (tb : XK → TS) (ts : Addr → TS) : TS := fun D σ H => ∃ Eh : XK, tb Eh D σ H ∧ ∀ cls cx H', Eh cls cx H' → PySem.W.exmOne K cls (.ref C) = some true ∧ ∀ a, H' a = none →
  ts a { nx := fun σ' H2 => D.nx (σ'.set i none) H2, rt := D.rt, bk := fun σ' H2 => D.bk (σ'.set i none) H2, ct := fun σ' H2 => D.ct (σ'.set i none) H2 } ((blank n).set i (some (.ref a))) (upd H' a (ExcO a cls cx))
theorem Inv.nameGoes {M : Model} {A : Around} {E : Value → Shared → Prop} {n : Str} {i : Nat} {pos : Pos} {Q : Unit → Shared → Prop} (I : Inv X pins σ H s) (hN : X.N.Nodup) (hi : X.N[i]? = some n) (hl : X.env.scope.names.lookup n = some .local)
    (h : ∀ h', Inv X pins (σ.set i none) H { s with heap := h', toks := s.toks + 1 } → Q () { s with heap := h', toks := s.toks + 1 }) : wpAny M A (do bindName X.env n .none; unbindBehindTheSuite X.env n pos) Q E s := by
  obtain ⟨m, hn, hlo⟩ := id I.loc
  have hcls : (X.env.scope.kind == .class || (X.env.scope.kind == .module && X.env.locals != X.env.globals)) = false := by rw [I.ok.kind]; rfl
  refine wpAny_nameGoes_keeps hl hn hcls fun h' v hn' hs => h h' ?_
  obtain ⟨oL, _, _, hoL, _⟩ := id hn
  have cne := I.cne
  have neL : ∀ b o, X.s₀.heap.get? b = some o → b ≠ X.env.locals := fun b o e => Nat.ne_of_lt (Nat.lt_of_lt_of_le (Heap.lt_size e) I.ok.above)
  refine ⟨I.ok, I.os, I.bare, ⟨fun b o e k hb hx => (hs.2 b (neL b o e)).trans (I.base.keep b o e k hb hx), fun b o e k hb hx => ?_, I.base.free, fun b o e hx => ?_, I.base.tups, I.base.frzs, I.base.tbls⟩, ⟨_, hn', fun j y v' e1 e2 e3 => ?_⟩, fun y c e => ?_, I.free, I.freeC, fun p hp => ?_, ?_, by simpa using I.len⟩
  · obtain ⟨sl, e1⟩ := I.base.slot b o e k hb hx
    exact ⟨sl, (hs.2 b (neL b o e)).trans e1⟩
  · obtain ⟨o', e1⟩ := I.base.there b o e hx
    exact ⟨o', (hs.2 b (neL b o e)).trans e1⟩
  · by_cases hj : j = i
    · subst hj
      by_cases hlt : j < σ.length
      · rw [List.getElem?_set_self hlt] at e2; cases e2
      · rw [List.getElem?_eq_none (by rw [List.length_set]; omega)] at e2; cases e2
    · rw [List.getElem?_set_ne (Ne.symm hj)] at e2
      obtain ⟨u', r', q⟩ := hlo j y v' e1 e2 e3
      refine ⟨u', r', ?_⟩
      rcases q with ⟨k, e⟩ | ⟨k, c, e, z⟩
      · refine .inl ⟨k, ?_⟩
        have : y ≠ n := fun e => hj (nodup_ix hN e1 (e ▸ hi))
        simp [this, e]
      · exact .inr ⟨k, c, e, z.sameBut hs (cne y c e)⟩
  · obtain ⟨w', z⟩ := I.cell y c e
    exact ⟨w', z.sameBut hs (cne y c e)⟩
  · obtain ⟨e, n', ne, nf, d⟩ := I.pin p hp
    exact ⟨(hs.2 p.1 ne).trans e, n', ne, nf, d⟩
  · intro b ob e
    refine (I.hok b ob e).stay (fun c w' hc q => (hs.2 c ?_).trans q) (fun _ q => q) fun _ _ q => q
    rintro rfl
    rcases hc with rfl | hc
    · rw [I.free] at e; cases e
    · rw [I.free] at hc; cases hc
theorem ps_tryAs {x n : Str} {i : Nat} {C : Addr} {body suite : List Stmt} {b₀ : Stmt} {np hpos pos : Pos} {tb : XK → TS} {ts : Addr → TS} (hg : Gl X x) (hm : X.mg x = some (.ref C)) (hN : X.N.Nodup) (hi : X.N[i]? = some n)
    (hb : ∀ (Eh : XK) (E2 : Value → Shared → Prop) (pins : List (Addr × Obj)), XAcc (X.tryCx E2 pins) Eh → PassesOwn (model X.prog X.w) X.A X.env E2 → PSs (X.tryCx E2 pins) body (tb Eh))
    (hh : ∀ a, PSs (X.inExc a).nox (b₀ :: suite) (ts a))
    (hl : X.env.scope.names.lookup n = some .local := by rfl)
    (hs : X.stack = X.env :: X.outer := by rfl) (hf : X.env.frame = some X.env.locals := by rfl) (hex : X.ex = [] := by rfl) (hd : (x == ("__debug__" : Str)) = false := by decide) :
    PS X (.Try body [.ExceptHandler (some (.Name x np)) (some n) (b₀ :: suite) hpos] [] [] pos) (tTryAs X.K C X.N.length i tb ts) := by
  intro pins s σ H D I h
  obtain ⟨Eh, h1, h2⟩ := h
  refine wpAny_Try_except ?_
  have ok := I.ok
  have acc : XAcc (X.tryCx (fun e s₁ => wpAny (model X.prog X.w) X.A (noteFrame e X.env) (fun _ s₂ => wpAny (model X.prog X.w) X.A (setFlight e none) (fun _ s₃ =>
      wpAny (model X.prog X.w) X.A (handleBy e X.env [.ExceptHandler (some (.Name x np)) (some n) (b₀ :: suite) hpos]) (SP X pins D) X.xe s₃) X.xe s₂) X.xe s₁) pins) Eh := by
    intro pins' σ' H' s1 a cls cx B ph I1 x1 hE
    have I2 : Inv X pins (blank X.N.length) H' s1 := (I1.ofTry ok).forget
    have x2 : XAt X pins H' s1 a cls cx B ph := ⟨x1.free, x1.stays, x1.fresh, x1.frames, fun b o e i n => x1.cov b o e (i.elim .inl fun z => .inr (z.elim .inl fun ⟨p, hp, q⟩ => .inr ⟨p, List.mem_append_left _ hp, q⟩)) n, x1.tr⟩
    obtain ⟨hx, hsu⟩ := h2 cls cx H' hE
    refine note_ok ok.frames hs rfl hf I2 x2 fun h3 I3 x3 => ?_
    refine land_ok I3 x3 (fun z => nomatch z) fun h4 I4 x4 => ?_
    refine wpAny_handleBy_cons (codeAny_handlers_test (ld_glob (I4.toExc (a := a)) hg hm ?_ hd)) (by intro q; cases q)
    obtain ⟨oe, vs, e, hc, d, _⟩ := x4.tr.there
    have LT : PySem.W.Looks (model X.prog X.w) h4 (typeOf (.ref a)) cls := hc ▸ (PySem.W.Looks.ld e).andThen .now
    refine (PySem.W.exm_one I4.kIn LT hx).here ?_
    refine codeAny_handlers_suite_as ?_
    refine land_ok I4 x4 (fun z => nomatch z) fun h5 I5 x5 => ?_
    have I6 := (I5.track x5).toExc (a := a)
    refine store_ok (X := X.inExc a) (v := .ref a) I6 hN hi (.inl hl) rfl (fun s6 I7 => ?_) (.inr hl)
    refine wpAny_mono (hh a pins s6 _ _ _ (I7.wish _) (hsu a x5.free)) (fun f s7 q => ?_) fun _ _ z => z.elim
    have q := (q.unwish).ofExc ok
    cases f with
    | next =>
      obtain ⟨σ7, H7, I8, q⟩ := q
      exact I8.nameGoes hN hi hl fun h8 I9 => ⟨_, H7, I9, q⟩
    | brk =>
      obtain ⟨σ7, H7, I8, q⟩ := q
      exact I8.nameGoes hN hi hl fun h8 I9 => ⟨_, H7, I9, q⟩
    | cont =>
      obtain ⟨σ7, H7, I8, q⟩ := q
      exact I8.nameGoes hN hi hl fun h8 I9 => ⟨_, H7, I9, q⟩
    | ret u =>
      obtain ⟨v7, σ7, H7, I8, r, q⟩ := q
      exact I8.nameGoes hN hi hl fun h8 I9 => ⟨v7, _, H7, I9, r, q⟩
  refine wpAny_mono (hb Eh _ pins acc PassesOwn.looking [] s σ H D I.toTry h1) (fun f s1 q => ?_) fun e s1 q => q
  have q' := q.ofTry ok
  cases f with
  | next => exact wpAny_execs_nil q'
  | brk => exact q'
  | cont => exact q'
  | ret u => exact q'
end
end L2
set_option Elab.async false
set_option linter.all false
set_option maxRecDepth 100000
set_option maxHeartbeats 4000000
namespace L2
open PySem PySem.Spec PyProof.Rows
theorem pass0e {X : Cx} {P : Program} {w : World} : Passes (CXe P w) X E0 := fun _ _ _ _ _ _ _ h => by
  obtain ⟨_, _, _, _, _, _, _, _, _, _, _, _, _, _, _, _, hE⟩ := h
  exact hE.elim
section
variable {P : Program} {w : World} {K : PySem.W.Frag} {mg : Str → Option Value} {base : Heap}
theorem Fun.okE {x qual : Str} {st : Stmt} {f : Addr} {fd : FuncData} {N ps : List Str} {k : Nat} {sp : Sp} (F : Fun K x qual st f fd) (S : FnScope N ps (defScope st)) (len : ∀ vs H Q E, sp vs H Q E → vs.length = ps.length)
    (hbody : ∀ (cdv : Value) (A : Around) (outer : List Env) (s : Shared) (H : Hp) (vs : List V) (Q : VK) (E : XK), Room k (A.deeper (envOfC qual (defScope st) s.heap.objs.size f cdv)) → sp vs H Q E →
      ∃ t, PSs (cxOf (CXe P w) P w K mg base N qual (defScope st) f cdv A outer s H E) (defBody st) t ∧ t { nx := fun _ H' => Q .non H', rt := Q } (start N vs) H) : FnOk P w K mg base (CXe P w) (k + 1) f fd ps sp := by
  obtain ⟨oc, od, kV, doc, pm, an, cdv, ct, osl, rfl, lk, hcd⟩ := F.ex
  exact fn_of lk hcd S len fun A outer s H vs Q E hr hsp => hbody cdv A outer s H vs Q E hr hsp
structure FunD (K : PySem.W.Frag) (x qual : Str) (st : Stmt) (dT : Addr) (f : Addr) (fd : FuncData) : Prop where
  ex : ∃ (oc : Value) (od : Option Addr) (kV doc pm : Value) (an : Option Addr) (cdv ct : Value) (osl : Array (Option Value)),
    fd = PySem.W.fnOf x qual (defArgs st) (defBody st) (defScope st) (.ref dT) kV doc pm an cdv ct ∧ K.lookup f = some ⟨oc, od, .func fd, osl⟩ ∧ PySem.W.codeIn K cdv qual = true
  kp : PySem.W.keepIn K (.ref f) = true
theorem FunD.okE {x qual : Str} {st : Stmt} {dT f : Addr} {fd : FuncData} {N ps : List Str} {k : Nat} {sp : Sp} (F : FunD K x qual st dT f fd) (S : FnScope N ps (defScope st)) (len : ∀ vs H Q E, sp vs H Q E → vs.length = ps.length)
    (hbody : ∀ (cdv : Value) (A : Around) (outer : List Env) (s : Shared) (H : Hp) (vs : List V) (Q : VK) (E : XK), Room k (A.deeper (envOfC qual (defScope st) s.heap.objs.size f cdv)) → sp vs H Q E →
      ∃ t, PSs (cxOf (CXe P w) P w K mg base N qual (defScope st) f cdv A outer s H E) (defBody st) t ∧ t { nx := fun _ H' => Q .non H', rt := Q } (start N vs) H) : FnOk P w K mg base (CXe P w) (k + 1) f fd ps sp := by
  obtain ⟨oc, od, kV, doc, pm, an, cdv, ct, osl, rfl, lk, hcd⟩ := F.ex
  exact fn_of lk hcd S len fun A outer s H vs Q E hr hsp => hbody cdv A outer s H vs Q E hr hsp
theorem FunD.binds {x qual : Str} {st : Stmt} {dT f : Addr} {fd : FuncData} {ps : List Str} {ds : List Value} {items : List Value} {o : Obj} {nn : Nat} (F : FunD K x qual st dT f fd) (ho : K.lookup dT = some o) (hs : o.data = .seq items.toArray nn)
    (h : ∀ (kV doc pm : Value) (an : Option Addr) (cdv ct : Value) (us : List Value), (us ++ ds).length = ps.length → ∃ k : Option (Array Value) → Sem (List (Str × Value)),
      bindArgs (PySem.W.fnOf x qual (defArgs st) (defBody st) (defScope st) (.ref dT) kV doc pm an cdv ct) ⟨us, []⟩ = seqItems? (.ref dT) >>= k ∧ k (some items.toArray) = pure (ps.zip (us ++ ds))) : Binds K fd ps ds := by
  obtain ⟨oc, od, kV, doc, pm, an, cdv, ct, osl, rfl, lk, hcd⟩ := F.ex
  intro s us KX hl
  obtain ⟨k, h1, h2⟩ := h kV doc pm an cdv ct us hl
  exact PySem.W.binds_K KX rfl ho hs h1 h2
end
structure RoomW (k : Nat) (A : Around) : Prop where
  dp : A.depth + 3 * k + 5 < recursionLimit
  un : A.units + 16 * k + 200 < cLine
theorem Room.w {k : Nat} {A : Around} (r : Room k A) (h : Option Value) : RoomW k (A.mark h) := ⟨r.dp, r.un⟩
theorem RoomW.deeper {k : Nat} {A : Around} (r : RoomW (k + 1) A) (env : Env) : RoomW k (A.deeper env) :=
  ⟨by have := r.dp; show A.depth + 1 + 3 * k + 5 < _; omega, by have := r.un; show A.units + 3 + 16 * k + 200 < _; omega⟩
structure FnOkW (P : Program) (w : World) (K : PySem.W.Frag) (mg : Str → Option Value) (base : Heap) (k : Nat) (f : Addr) (fd : FuncData) (ps : List Str) (sp : Sp) : Prop where
  len : ∀ vs H Q E, sp vs H Q E → vs.length = ps.length
  run : ∀ (A : Around) (outer : List Env) (s : Shared) (H : Hp) (args : Args) (us : List Value) (vs : List V) (Q : VK), RoomW k A → Env0 P w K mg base A outer s H → BindsTo s fd args (ps.zip us) → Vals vs us → sp vs H Q E0 →
    codeAny (model P w) A (.call (.ref f) args) (CR CX0 outer P w H s Q E0) s
abbrev cxOfW (P : Program) (w : World) (K : PySem.W.Frag) (mg : Str → Option Value) (base : Heap) (N : List Str) (qual : Str) (scope : Scope) (f : Addr) (cd : Value) (A : Around) (outer : List Env) (s : Shared) (H : Hp) : Cx :=
  { cxOf CX0 P w K mg base N qual scope f cd A outer s H E0 with calm := false, xe := fun _ _ => False }
theorem inv_startW {P : Program} {w : World} {K : PySem.W.Frag} {mg : Str → Option Value} {base : Heap} {N ps : List Str} {qual : Str} {scope : Scope} {f : Addr} {cd : Value} {A : Around} {outer : List Env} {s s1 : Shared} {H : Hp} {us : List Value} {vs : List V}
    (S : FnScope N ps scope) (e0 : Env0 P w K mg base A outer s H) (hl : vs.length = ps.length) (r : Vals vs us)
    (x : InCallC s s.heap.objs.size (bindL (envOfC qual scope s.heap.objs.size f cd).kindOf (ps.zip us) fun _ => none) (cellsFrom (s.heap.objs.size + 1) scope.names []) (bindC (envOfC qual scope s.heap.objs.size f cd).kindOf (ps.zip us) fun _ => none) s1) :
    Inv (cxOfW P w K mg base N qual scope f cd A outer s H) [] (start N vs) H s1 := by
  have hpl : ps.length ≤ N.length := by have := congrArg List.length S.pre; rw [List.length_take] at this; omega
  obtain ⟨h1, tk, rfl, hk⟩ := x.done
  have noA : ∀ b : Addr, b ∉ (cxOfW P w K mg base N qual scope f cd A outer s H).ex := fun b z => absurd (show b ∈ ([] : List Addr) from z) (by simp)
  refine ⟨⟨e0.mod, S.kind, rfl, rfl, Nat.le_refl _, fun y z c h1 h2 => ?_, fun y hy => ?_, fun y c _ h => ?_, (fun z => nomatch z), Around.frames_deeper e0.frames, .inr ⟨rfl, rfl⟩, fun b z => absurd z (noA b), e0.bs, e0.bsz, fun b _ _ => noA b, fun b z => absurd z (noA b), e0.funs, e0.frf⟩,
    rfl, e0.bare, Un.kept hk, ⟨_, x.toInCall.ns, fun i y v h1 h2 h3 => ?_⟩, fun y c h => ⟨_, x.cell y c h⟩, e0.hok.fresh (Nat.le_refl _), fun y c h => ?_, fun p hp => absurd (show p ∈ ([] : List (Addr × Obj)) from hp) (by simp), e0.hok.kept hk, ?_⟩
  · exact name_of_addr x.apart (PySem.mem_of_lookup h1) (PySem.mem_of_lookup h2)
  · have hy : scope.names.lookup y = some .cell ∨ scope.names.lookup y = some .free := hy
    rcases hy with hy | hy
    · exact cell_has hy
    · exact absurd rfl (S.nofree _ (PySem.mem_of_lookup hy))
  · exact Nat.le_of_lt (x.above y c (PySem.mem_of_lookup h))
  · have hi : i < vs.length := by
      unfold start at h2
      by_cases hi : i < vs.length
      · exact hi
      · rw [List.getElem?_append_right (by simpa using hi)] at h2
        rw [List.getElem?_replicate] at h2
        split at h2 <;> cases h2
    have ha : vs[i]? = some v := by
      unfold start at h2
      rw [List.getElem?_append_left (by simpa using hi), List.getElem?_map] at h2
      cases e : vs[i]? with
      | none => rw [e] at h2; cases h2
      | some a => rw [e] at h2; cases h2; rfl
    obtain ⟨u, hu, rv⟩ := r.get ha
    have hp : ps[i]? = some y := by
      rw [← S.pre, List.getElem?_take_of_lt (by omega)]; exact h1
    have ndP : ps.Nodup := by rw [← S.pre]; exact S.nd.sublist (List.take_sublist _ _)
    refine ⟨u, rv, ?_⟩
    rcases S.par y (List.mem_of_getElem? hp) with k | k
    · exact .inl ⟨k, bindL_get ndP hp hu k⟩
    · obtain ⟨c, e⟩ := cell_has (n := s.heap.objs.size + 1) k
      refine .inr ⟨.inl k, c, e, ?_⟩
      have q := x.cell y c e
      rw [bindC_get ndP hp hu (by show scope.names.lookup y ≠ _; rw [k]; decide)] at q
      exact q
  · exact e0.hok.fresh (Nat.le_of_lt (x.above y c (PySem.mem_of_lookup h)))
  · unfold start
    show _ = N.length
    rw [List.length_append, List.length_map, List.length_replicate]
    omega
section
variable {P : Program} {w : World} {K : PySem.W.Frag} {mg : Str → Option Value} {base : Heap}
theorem Fun.okW {x qual : Str} {st : Stmt} {f : Addr} {fd : FuncData} {N ps : List Str} {k : Nat} {sp : Sp} (F : Fun K x qual st f fd) (S : FnScope N ps (defScope st)) (len : ∀ vs H Q E, sp vs H Q E → vs.length = ps.length)
    (hbody : ∀ (cdv : Value) (A : Around) (outer : List Env) (s : Shared) (H : Hp) (vs : List V) (Q : VK), RoomW k (A.deeper (envOfC qual (defScope st) s.heap.objs.size f cdv)) → sp vs H Q E0 →
      ∃ t, PSs (cxOfW P w K mg base N qual (defScope st) f cdv A outer s H) (defBody st) t ∧ t { nx := fun _ H' => Q .non H', rt := Q } (start N vs) H) : FnOkW P w K mg base (k + 1) f fd ps sp := by
  obtain ⟨oc, od, kV, doc, pm, an, cdv, ct, osl, rfl, lk, hcd⟩ := F.ex
  refine ⟨len, fun A outer s H args us vs Q hr e0 hb r hsp => ?_⟩
  have hl := len _ _ _ _ hsp
  have KX : K.In s.heap := e0.mod.kin.keeps fun b o e => (e0.bs b o e).1
  have lim : s.heap.NoLimit := e0.mod.nolimit.keeps fun b o e => (e0.bs b o e).1
  have hkind : ∀ y ∈ ps.zip us, (defScope st).names.lookup y.1 = some .local ∨ ((defScope st).names.lookup y.1 = some .cell ∧ ((cellsFrom (s.heap.objs.size + 1) (defScope st).names []).lookup y.1).isSome = true) := fun ⟨n, v⟩ hy => by
    rcases S.par n (List.of_mem_zip hy).1 with q | q
    · exact .inl q
    · exact .inr ⟨q, PySem.W.cellsFrom_some _ _ _ (.inl q)⟩
  refine codeAny_call_function (by have := hr.dp; omega) (KX _ _ lk) rfl S.co S.gen rfl (PySem.W.codeRec_of KX hcd) (hb _ _ _ _ ?_)
  refine wpAny_newFunctionEnv_cells S.kind hkind fun env he s1 x => ?_
  subst he
  refine ⟨lim.keeps x.toInCall.keep, codeAny_func ?_⟩
  obtain ⟨t, ht, hq⟩ := hbody cdv A outer s H vs Q (hr.deeper _) hsp
  have I := inv_startW S e0 hl r x
  refine wpAny_mono (ht [] s1 (start N vs) H _ I hq) (fun fl s' hs => ?_) fun e s' hs => hs.elim
  have fin : ∀ {σ' : St} {H' : Hp} {v : V} {u : Value}, Inv (cxOfW P w K mg base N qual (defScope st) f cdv A outer s H) [] σ' H' s' → RelV v u → Q v H' → CE outer P w H s Q u s' :=
    fun {σ' H' v u} J rv q => ⟨v, H', J.os, J.bare, J.base, J.hok, rv, q⟩
  cases fl with
  | ret u =>
    obtain ⟨v, σ', H', J, rv, q⟩ := hs
    exact fin J rv q
  | next =>
    obtain ⟨σ', H', J, q⟩ := hs
    exact fin (v := V.non) (u := Value.none) J rfl q
  | brk =>
    obtain ⟨_, _, _, q⟩ := hs
    exact False.elim q
  | cont =>
    obtain ⟨_, _, _, q⟩ := hs
    exact False.elim q
end
section
variable {X : Cx} {k : Nat} {f : Addr} {fd : FuncData} {ps : List Str} {sp : Sp} {x : Str} {p pos : Pos} {e : Expr} {es : List Expr} {t : TA}
def tCallW (sp : Sp) (t : TA) : TE := fun σ H Q => t σ H fun vs H1 => sp vs H1 Q E0
theorem pe_callW (F : FnOkW X.prog X.w X.K X.mg X.base k f fd ps sp) (hr : RoomW k X.A) (hg : Gl X x) (hm : X.mg x = some (.ref f)) (hk : PySem.W.keepIn X.K (.ref f) = true) (hb : Binds X.K fd ps [])
    (ha : PA X (e :: es) t) (hdb : (x == ("__debug__" : Str)) = false := by decide) (he : starEach (e :: es) X.env = (false, eval e X.env) :: starEach es X.env := by rfl) (hp : (backTo pos (starEach es X.env)).any (·.1) = false := by rfl) :
    PE X (.Call (.Name x p) (e :: es) [] pos) (tCallW sp t) := by
  intro pins s σ H Q I hq
  refine wpAny_Call_Name_kw (ld_glob I hg hm ?_ hdb)
  refine PySem.W.callWith_K (h₀ := X.base) I.ok.mod.kin hk (thn (ha pos pins s σ H _ I hq) fun us s1 ⟨vs, H1, I1, r, q⟩ => ⟨I1.kIn, ?_⟩) he hp
  have hl : us.length = ps.length := by rw [← r.length]; exact F.len _ _ _ _ q
  have hl' : (us ++ ([] : List Value)).length = ps.length := by rw [List.append_nil]; exact hl
  refine wpAny_call (codeAny_mono (F.run X.A X.stack s1 H1 ⟨us, []⟩ us vs Q hr I1.env0 (by have := hb s1 us I1.kIn hl'; rw [List.append_nil] at this; exact this) r q) fun r s' hq => ?_)
  cases r with
  | error e => exact False.elim hq
  | ok fl =>
    cases fl with
    | ret u => exact I1.after hq
    | next => exact False.elim hq
    | brk => exact False.elim hq
    | cont => exact False.elim hq
end
end L2
set_option Elab.async false
set_option linter.all false
set_option maxRecDepth 100000
set_option maxHeartbeats 4000000
namespace L2
open PySem PySem.Spec PyProof.Rows
def clsV : V → Option Value
  | .ty n => some (.type n)
  | .ref a => some (.ref a)
  | _ => none
theorem clsV_of {y : V} {c u : Value} (e : clsV y = some c) (r : RelV y u) : u = c := by
  cases y with
  | ty n => cases e; exact r
  | ref a => cases e; exact r
  | _ => cases e
theorem clsVs_of : ∀ {ys : List V} {cs us : List Value}, ys.mapM clsV = some cs → Vals ys us → us = cs
  | [], cs, _, e, .nil => by cases e; rfl
  | y :: ys, cs, u :: us, e, .cons r t => by
    rw [List.mapM_cons] at e
    cases h1 : clsV y with
    | none => rw [h1] at e; cases e
    | some c =>
      cases h2 : ys.mapM clsV with
      | none => rw [h1, h2] at e; cases e
      | some cr =>
        rw [h1, h2] at e
        have e' : c :: cr = cs := Option.some.inj e
        subst e'
        rw [clsV_of h1 r, clsVs_of h2 t]
inductive TyX (K : PySem.W.Frag) (H : Hp) : V → Value → Prop where
  | of {x : V} {t : Value} (h : TyOf K H x t) : TyX K H x t
  | exc {a C : Addr} {cx : Option Addr} (h : H a = some (ExcO a (.ref C) cx)) (T : PySem.W.ExcT K C) : TyX K H (.ref a) (.ref C)
section
variable {X : Cx} {pins : List (Addr × Obj)} {σ : St} {H : Hp} {s : Shared} {A : Around} {E : Value → Shared → Prop} {Q : Value → Shared → Prop}
theorem TyX.kit {x : V} {u t : Value} (I : Inv X pins σ H s) (rx : RelV x u) (ty : TyX X.K H x t) : ∃ Φ : Heap → Prop, PySem.W.KitX X.K u t Φ ∧ Φ s.heap ∧ u ≠ .builtin "__main__.__loader__#opaque" := by
  cases ty with
  | @exc a C cx h T =>
    cases (show u = Value.ref a from rx)
    obtain ⟨⟨o, vs, h1, h2, h3, _⟩, _⟩ := (show ObjOk X.prog X.w H s.heap a (ExcO a (.ref C) cx) from I.hok a _ h)
    exact ⟨_, PySem.W.kitx_exc T, ⟨o, vs, h1, h2, h3⟩, fun z => nomatch z⟩
  | of h =>
  cases h with
  | non => cases (show u = Value.none from rx); exact ⟨_, PySem.W.kitx_none, True.intro, fun z => nomatch z⟩
  | bl y => cases (show u = Value.bool y from rx); exact ⟨_, PySem.W.kitx_bool, True.intro, fun z => nomatch z⟩
  | int i => obtain ⟨t, q⟩ := (show ∃ t, u = Value.int i t from rx); cases q; exact ⟨_, PySem.W.kitx_int, True.intro, fun z => nomatch z⟩
  | str y => obtain ⟨t, q⟩ := (show ∃ t, u = Value.str y t from rx); cases q; exact ⟨_, PySem.W.kitx_str, True.intro, fun z => nomatch z⟩
  | flt y => obtain ⟨t, q⟩ := (show ∃ t, u = Value.float y t from rx); cases q; exact ⟨_, PySem.W.kitx_float, True.intro, fun z => nomatch z⟩
  | @lst a xs ea =>
    cases (show u = Value.ref a from rx)
    obtain ⟨_, _, n, _, h1⟩ := (show ObjOk X.prog X.w H s.heap a (.lst xs) from I.hok a _ ea)
    exact ⟨_, PySem.W.kitx_list, ⟨_, h1, rfl⟩, fun z => nomatch z⟩
  | @frz a ob xs ea =>
    cases (show u = Value.ref a from rx)
    obtain ⟨_, _, _, n, _, h1⟩ := (show ObjOk X.prog X.w H s.heap a (.frz ob (.lst xs)) from I.hok a _ ea)
    exact ⟨_, PySem.W.kitx_list, ⟨_, h1, rfl⟩, fun z => nomatch z⟩
  | @tup a xs ea =>
    cases (show u = Value.ref a from rx)
    obtain ⟨_, _, _, p⟩ := (show ObjOk X.prog X.w H s.heap a (.tup xs) from I.hok a _ ea)
    obtain ⟨o, h1, h2, _⟩ := p
    exact ⟨_, PySem.W.kitx_tuple, ⟨o, h1, h2⟩, fun z => nomatch z⟩
  | @dK a kvs ea =>
    cases (show u = Value.ref a from rx)
    obtain ⟨_, _, vs, _, p⟩ := (show ObjOk X.prog X.w H s.heap a (.dK kvs) from I.hok a _ ea)
    obtain ⟨o, es, ep, h1, h2, _⟩ := p
    exact ⟨_, PySem.W.kitx_dict, ⟨o, h1, h2.1⟩, fun z => nomatch z⟩
  | @dT a kvs ea =>
    cases (show u = Value.ref a from rx)
    obtain ⟨_, _, xs, _, o, es, ep, h1, h2, _⟩ := (show ObjOk X.prog X.w H s.heap a (.dT kvs) from I.hok a _ ea)
    exact ⟨_, PySem.W.kitx_dict, ⟨o, h1, h2.1⟩, fun z => nomatch z⟩
  | @ins a C dx fs ea cl ha hn htk hm =>
    cases (show u = Value.ref a from rx)
    obtain ⟨mA, O, _⟩ := ins_get I.hok ea
    obtain ⟨od, J, _⟩ := O.look
    exact ⟨_, PySem.W.kitx_own (cl.get _) cl.hd ha hn htk hm, J, fun z => nomatch z⟩
def rIsi (K : PySem.W.Frag) : List V → Hp → VK → Prop := fun xs H Q => ∃ x y t c b, xs = [x, y] ∧ clsV y = some c ∧ TyX K H x t ∧ PySem.W.kitOne K t c = some b ∧ Q (.bl b) H
theorem call_isi : CallR X (.builtin "isinstance") (rIsi X.K) := by
  intro pins s σ H xs us Q I r h
  obtain ⟨x, y, t, c, b, rfl, e1, e2, e3, q⟩ := h
  obtain ⟨u, v, rfl, r1, r2⟩ := vals2 r
  obtain rfl := clsV_of e1 r2
  obtain ⟨Φ, Z, p, n⟩ := e2.kit I r1
  exact PySem.W.kia_one Z I.kIn p e3 n fun tk => ⟨.bl b, H, I.tok _, rfl, q⟩
def rIsiT (K : PySem.W.Frag) : List V → Hp → VK → Prop := fun xs H Q => ∃ x p ys t cs b, xs = [x, .ref p] ∧ H p = some (.tup ys) ∧ ys.mapM clsV = some cs ∧ TyX K H x t ∧ PySem.W.kitAny K t cs = some b ∧ Q (.bl b) H
theorem call_isiT : CallR X (.builtin "isinstance") (rIsiT X.K) := by
  intro pins s σ H xs us Q I r h
  obtain ⟨x, p, ys, t, cs, b, rfl, e0, e1, e2, e3, q⟩ := h
  obtain ⟨u, v, rfl, r1, r2⟩ := vals2 r
  cases (show v = Value.ref p from r2)
  obtain ⟨_, its, rv, o, ho, hc, n, hd⟩ := (show ObjOk X.prog X.w H s.heap p (.tup ys) from I.hok p _ e0)
  obtain rfl := clsVs_of e1 rv
  obtain ⟨Φ, Z, pp, nn⟩ := e2.kit I r1
  obtain ⟨oc, od, oda, osl⟩ := o
  dsimp only at hc hd
  subst hc hd
  exact PySem.W.kia_tup Z I.kIn pp ho e3 nn fun tk => ⟨.bl b, H, I.tok _, rfl, q⟩
end
def eqVs : List V → List V → Bool
  | [], [] => true
  | x :: xs, y :: ys => eqV x y && eqVs xs ys
  | _, _ => false
section
variable {X : Cx} {pins : List (Addr × Obj)} {σ : St} {H : Hp} {s : Shared}
theorem op_mulB : OpR X (binaryOp .Mult) (rI IntMulOk fun i j => .int (i * j)) := opI fun _ _ _ _ _ _ _ hc q => mul_int q hc
theorem op_fdivB : OpR X (binaryOp .FloorDiv) (rI (fun _ j => 0 < j ∧ j.natAbs.log2 < 9000) fun i j => .int (i / j)) := opI fun i j _ _ _ _ _ hc q => by
  have h0 : j ≠ 0 := by have := hc.1; omega
  refine floordiv_int h0 ?_ (.inl (PyProof.noPylong_of_log2 hc.2))
  rw [Int.fdiv_eq_ediv_of_nonneg _ (Int.le_of_lt hc.1)]
  exact q
end
end L2
namespace L2
open PySem PySem.W PySem.Calls PyProof.Rows
theorem script_bits {ns : List Int} (h : WData.layableAll [WData.list (ns.map WData.int)] = true) : ∀ n ∈ ns, Builtin.Int.intBits n ≤ 2 ^ 20 := fun n hn => by
  have h1 : (WData.list (ns.map WData.int)).layable = true := layableW_arg h _ (List.mem_singleton.mpr rfl)
  have h2 := layableW_item h1 (WData.int n) (List.mem_map.mpr ⟨n, hn, rfl⟩)
  have h3 := (layableW_iff.mp h2).2.2
  simpa only [WData.weight, Builtin.Int.intBits] using h3
theorem walk_ofB {l : OpenLaw} {n k : Nat} {q : Program} {loose : List Str} {XP : (Str → Option Value) → Heap → Prop} {YP : World → Heap → Prop} {d : DefRec} {K : Params → Frag} {CX : World → CXT} {sp : World → Sp} {x : Str}
    (hn : l.most = some n) (hn2 : n ≤ sizeLine) (hdf : d.params.defaults = []) (hr : Room k callerA)
    (hY : ∀ (w : World) (h : Heap), YP w h → (K w.params).In h)
    (F : ∀ (w : World) (mg : Str → Option Value) (fa : Addr) (h : Heap), (K w.params).In h → h.Ns mainGlobals mg → mg d.name = some (.ref fa) →
      ∃ fd : FuncData, (∀ (s : Shared) (u : Value), BindsTo s fd ⟨[u], []⟩ [(x, u)]) ∧
        ∀ base : Heap, (K w.params).In base → base.Ns mainGlobals mg → FnOk l.prog w (K w.params) mg base (CX w) k fa fd [x] (sp w))
    (hsp : ∀ (w : World) (H : Hp) (a : Addr) (ns : List Int), ns.length ≤ n → (∀ m ∈ ns, Builtin.Int.intBits m ≤ 2 ^ 20) → Only H → SqL (K w.params) H a (ns.map V.int) → sp w [.ref a] H (fun v _ => v = .bl true) fun _ _ _ => False)
    (hCX : ∀ (w : World) (H : Hp) (s : Shared) (e : Value) (s' : Shared), CX w [] H s (fun _ _ _ => False) e s' → False) :
    WalkO q loose XP YP l.row.toRowW d [] (fun f vs => PySem.call f vs) := by
  intro w s₀ s₁ mg mb G Y fa o pm cd doc dV kV ho hd hcd hD hmg hg args vals as hpre hlay hrd hwl hlo
  obtain rfl : dV = .none := Dflts.none hD hdf
  obtain rfl : kV = .none := Dflts.noKw hD
  obtain ⟨a, vs, ns, rfl, rfl, hobj, hints, hlen⟩ := Att.script_of hn hpre hwl
  have KX := hY w _ Y
  obtain ⟨fd, hb, hF⟩ := F w mg fa _ KX G.T.g hmg
  refine enter_call (codeAny_mono (law_call KX G.T.g G.T.b G.T.builtins G.T.nolimit hg hobj hints (Nat.le_trans hlen hn2) hr hF hb (fun H hO hS => hsp w H a ns hlen (script_bits hlay) hO hS) fun H e s' => hCX w H s₁ e s') fun r s' hq => ?_)
  obtain ⟨rfl, h2, h3, h4⟩ := hq
  exact ⟨.inl ⟨.bool true, .bool true, [], rfl, fun _ => rfl, .bool true, Att.post_true l _, fun _ => ⟨List.Pairwise.nil, fun _ hm => (nomatch hm)⟩⟩, h2, h3, h4⟩
theorem noCXe {P : Program} {w : World} {outer : List Env} (H : Hp) (s : Shared) (e : Value) (s' : Shared) (h : CXe P w outer H s (fun _ _ _ => False) e s') : False := by
  obtain ⟨_, _, _, _, _, _, _, _, _, _, _, _, _, _, _, _, hE⟩ := h
  exact hE
end L2
set_option Elab.async false
set_option linter.all false
set_option maxRecDepth 100000
set_option maxHeartbeats 4000000
namespace L2
open PySem PySem.Spec PyProof.Rows
structure Own (P : Program) (w : World) (K : PySem.W.Frag) (mg : Str → Option Value) (base : Heap) (k : Nat) (x : Str) (ps : List Str) (sp : Sp) : Prop where
  ex : ∃ f fd, FnOk P w K mg base (CXe P w) k f fd ps sp ∧ Binds K fd ps [] ∧ PySem.W.keepIn K (.ref f) = true ∧ mg x = some (.ref f)
structure OwnW (P : Program) (w : World) (K : PySem.W.Frag) (mg : Str → Option Value) (base : Heap) (k : Nat) (x : Str) (ps : List Str) (sp : Sp) : Prop where
  ex : ∃ f fd, FnOkW P w K mg base k f fd ps sp ∧ Binds K fd ps [] ∧ PySem.W.keepIn K (.ref f) = true ∧ mg x = some (.ref f)
section
variable {X : Cx} {k k' : Nat} {ps : List Str} {sp : Sp} {x : Str} {p pos : Pos} {e : Expr} {es : List Expr} {t : TA} {E : XK} {d : V}
theorem pe_own (G : Own X.prog X.w X.K X.mg X.base k x ps sp) (hr : Room k' X.A) (hk : k ≤ k') (hx : Passes (CXe X.prog X.w) X E) (ha : PA X (e :: es) t) (hg : Gl X x := by rfl)
    (hdb : (x == ("__debug__" : Str)) = false := by decide) (he : starEach (e :: es) X.env = (false, eval e X.env) :: starEach es X.env := by rfl) (hpl : (backTo pos (starEach es X.env)).any (·.1) = false := by rfl) :
    PE X (.Call (.Name x p) (e :: es) [] pos) (tCall sp [] E t) := by
  obtain ⟨f, fd, F, b, kp, m⟩ := G.ex
  exact pe_call F (hr.mono hk) hg m kp b .nil hx ha hdb he hpl
theorem pe_ownW (G : OwnW X.prog X.w X.K X.mg X.base k x ps sp) (hr : RoomW k' X.A) (ha : PA X (e :: es) t) (hk : k ≤ k' := by decide) (hg : Gl X x := by rfl)
    (hdb : (x == ("__debug__" : Str)) = false := by decide) (he : starEach (e :: es) X.env = (false, eval e X.env) :: starEach es X.env := by rfl) (hpl : (backTo pos (starEach es X.env)).any (·.1) = false := by rfl) :
    PE X (.Call (.Name x p) (e :: es) [] pos) (tCallW sp t) := by
  obtain ⟨f, fd, F, b, kp, m⟩ := G.ex
  exact pe_callW F ⟨by have := hr.dp; omega, by have := hr.un; omega⟩ hg m kp b ha hdb he hpl
end
theorem bt_int : bootBuiltins "int" = some (.type "int") := by decide +kernel
theorem bt_bool : bootBuiltins "bool" = some (.type "bool") := by decide +kernel
theorem bt_list : bootBuiltins "list" = some (.type "list") := by decide +kernel
theorem bt_tuple : bootBuiltins "tuple" = some (.type "tuple") := by decide +kernel
theorem bt_ValueError : bootBuiltins "ValueError" = some (.type "ValueError") := by decide +kernel
theorem bt_isinstance : bootBuiltins "isinstance" = some (.builtin "isinstance") := by decide +kernel
theorem bt_len : bootBuiltins "len" = some (.builtin "len") := by decide +kernel
theorem same_new {H : Hp} {p : Addr} (h : H p = none) (o : HO) : Same H (upd H p o) := fun b u q => by rw [upd_ne (ne_of_none q h)]; exact q
def Scr (K : PySem.W.Frag) (H : Hp) (a : Addr) (xs : List V) : Prop := (∃ o, H a = some (.frz o (.lst xs))) ∨
    ∃ (o : Obj) (its : Array Value) (n : Nat), K.lookup a = some o ∧ o.cls = .type "list" ∧ o.dict = none ∧ o.data = .seq its n ∧ its.size ≤ sizeLine ∧ Vals xs its.toList
theorem Scr.seq {K : PySem.W.Frag} {H : Hp} {a : Addr} {xs : List V} (h : Scr K H a xs) : SqL K H a xs := h.elim (fun z => .inl (.inr z)) .inr
theorem Scr.of {K : PySem.W.Frag} {H : Hp} {a : Addr} {xs : List V} (h : SqL K H a xs) (o : Only H) : Scr K H a xs := by
  rcases h with (h | h) | h
  · rcases o a with z | ⟨o, ys, z⟩
    · rw [h] at z; cases z
    · rw [h] at z; cases z
  · exact .inl h
  · exact .inr h
theorem Scr.same {K : PySem.W.Frag} {H H' : Hp} {a : Addr} {xs : List V} (g : Same H H') (h : Scr K H a xs) : Scr K H' a xs := h.elim (fun ⟨o, z⟩ => .inl ⟨o, g _ _ z⟩) .inr
theorem Scr.upd {K : PySem.W.Frag} {H : Hp} {a l : Addr} {xs ys : List V} {o : HO} (hl : H l = some (.lst ys)) (h : Scr K H a xs) : Scr K (L2.upd H l o) a xs := h.elim (fun ⟨ob, z⟩ => .inl ⟨ob, by rw [upd_ne (ne_of z hl (by intro q; cases q))]; exact z⟩) .inr
end L2
set_option Elab.async false
set_option linter.all false
set_option maxRecDepth 100000
set_option maxHeartbeats 4000000
namespace L2
open PySem PySem.Spec PyProof.Rows
section
variable {prog : Program} {w : World} {A : Around} {R : Result → Shared → Prop} {s : Shared}
theorem compLoop_go {elt target iter : Expr} {ifs : List Expr} {scope : Scope} {pos : Pos} {it acc : Value} {env : Env} {N : Value → Shared → Prop} (hN : N = notedBy (model prog w) A env fun e s' => R (.error e) s') (I : Nat → Shared → Prop)
    (turn : ∀ n s, I n s → wpAny (model prog w) A (pyNext it) (fun r s₁ => match r with
      | none => R (.ok .next) s₁
      | some v => wpAny (model prog w) A (letOwnedTupleGo target it v) (fun _ s₁' => wpAny (model prog w) A (assign target env v) (fun _ s₂ =>
          wpAny (model prog w) A (forIn ifs true fun c r => if r = true then do let ok ← isTrue c env (eval c env); pure (ForInStep.yield ok) else pure (ForInStep.yield r)) (fun ok s₃ =>
            if ok = true then wpAny (model prog w) A (eval elt env) (fun x s₄ =>
              wpAny (model prog w) A (call (.builtin "list.append") [acc, x]) (fun _ s₅ => ∃ m, m < n ∧ I m s₅) N s₄) N s₃
            else ∃ m, m < n ∧ I m s₃) N s₂) N s₁') N s₁) N s)
    (n : Nat) (h : I n s) :
    codeAny (model prog w) A (.compLoop (.ListComp elt [⟨target, iter, ifs, 0⟩] scope pos) 0 it acc env) R s := by
  subst hN
  refine codeAny_loop rfl I (fun k z q => ?_) n h
  show wpAny _ A ((compTurn (.ListComp elt [⟨target, iter, ifs, 0⟩] scope pos) 0 it acc env).onRaise (fun ex => do noteFrame ex env; theTreesLotGoes ex)) _ _ z
  refine wpAny_noted ?_
  rw [compTurn_list]
  refine wpAny_bind (wpAny_standAt (wpAny_bind (thn (turn k z q) fun r z1 q1 => ?_)))
  cases r with
  | none => exact wpAny_pure q1
  | some v =>
    refine wpAny_bind (thn q1 fun _ z2 q2 => ?_)
    refine wpAny_bind (thn q2 fun _ z3 q3 => ?_)
    refine wpAny_bind (thn q3 fun ok z4 q4 => ?_)
    cases ok with
    | false => exact wpAny_pure ⟨rfl, q4⟩
    | true => exact wpAny_bind (wpAny_bind (thn q4 fun x z5 q5 => wpAny_bind (thn q5 fun _ z6 q6 => wpAny_pure (wpAny_pure ⟨rfl, q6⟩))))
end
def capOf (cells : List (Str × Addr)) : List (Str × NameKind) → List (Str × Addr) → List (Str × Addr)
  | [], acc => acc
  | (n, k) :: r, acc => if k == .free then (match cells.lookup n with
      | some c => capOf cells r ((n, c) :: acc)
      | none => capOf cells r acc) else capOf cells r acc
theorem capOf_acc {cells : List (Str × Addr)} {x : Str} {c : Addr} : ∀ {names : List (Str × NameKind)} {acc : List (Str × Addr)}, (∀ d, acc.lookup x = some d → cells.lookup x = some d) → (capOf cells names acc).lookup x = some c → cells.lookup x = some c
  | [], acc, h, e => h c e
  | (n, k) :: r, acc, h, e => by
    unfold capOf at e
    split at e
    · split at e
      · rename_i c' hc'
        refine capOf_acc (fun d q => ?_) e
        rw [List.lookup_cons] at q
        split at q
        · rename_i hx
          have hx' : x = n := by simpa using hx
          cases q
          rw [hx']; exact hc'
        · exact h d q
      · exact capOf_acc h e
    · exact capOf_acc h e
theorem capOf_keeps {cells : List (Str × Addr)} {x : Str} : ∀ {names : List (Str × NameKind)} {acc : List (Str × Addr)}, (∃ d, acc.lookup x = some d) → ∃ d, (capOf cells names acc).lookup x = some d
  | [], acc, h => h
  | (n, k) :: r, acc, h => by
    unfold capOf
    split
    · split
      · refine capOf_keeps ?_
        rw [List.lookup_cons]
        split
        · exact ⟨_, rfl⟩
        · exact h
      · exact capOf_keeps h
    · exact capOf_keeps h
theorem capOf_has {cells : List (Str × Addr)} {x : Str} : ∀ {names : List (Str × NameKind)} {acc : List (Str × Addr)}, (x, NameKind.free) ∈ names → (∃ c, cells.lookup x = some c) → ∃ d, (capOf cells names acc).lookup x = some d
  | [], acc, h, _ => by simp at h
  | (n, k) :: r, acc, h, hc => by
    unfold capOf
    rcases List.mem_cons.mp h with e | h
    · cases e
      obtain ⟨c, hc⟩ := hc
      rw [if_pos (by rfl), hc]
      exact capOf_keeps ⟨c, by simp [List.lookup_cons]⟩
    · split
      · split
        · exact capOf_has h hc
        · exact capOf_has h hc
      · exact capOf_has h hc
theorem closure_go {env : Env} : ∀ (names : List (Str × NameKind)) (acc : List (Str × Addr)), (∀ y ∈ names, y.2 = .free → ∃ c, env.cells.lookup y.1 = some c) →
    (forIn names acc fun (x : Str × NameKind) (cs : List (Str × Addr)) => if (x.2 == NameKind.free) = true then do let a ← cellOf env x.1; pure (ForInStep.yield ((x.1, a) :: cs)) else pure (ForInStep.yield cs) : Sem (List (Str × Addr))) = pure (capOf env.cells names acc)
  | [], acc, _ => rfl
  | (n, k) :: r, acc, h => by
    rw [List.forIn_cons]
    unfold capOf
    by_cases hk : (k == NameKind.free) = true
    · obtain ⟨c, hc⟩ := h (n, k) List.mem_cons_self (by simpa using hk)
      have e : cellOf env n = pure c := by unfold cellOf; rw [hc]
      rw [if_pos hk, if_pos hk, hc, e]
      exact closure_go r _ fun y hy => h y (List.mem_cons_of_mem _ hy)
    · rw [if_neg hk, if_neg hk]
      exact closure_go r acc fun y hy => h y (List.mem_cons_of_mem _ hy)
theorem closure_cap {scope : Scope} {env : Env} (h : ∀ y ∈ scope.names, y.2 = .free → ∃ c, env.cells.lookup y.1 = some c) : closureFor scope env = pure (capOf env.cells scope.names []) := by
  have := closure_go (env := env) scope.names [] h
  unfold closureFor
  exact (congrArg (· >>= pure) this).trans (by first | rfl | simp)
theorem lookup_relabel {env : Env} : ∀ {names : List (Str × NameKind)} {x : Str} {k' : NameKind},
    (names.map fun (n, k) => if (k == NameKind.free && env.scope.kind == .function && env.kindOf n == some .cell) then (n, NameKind.cell) else (n, k)).lookup x = some k' →
    ∃ k, names.lookup x = some k ∧ (k' = k ∨ (k = .free ∧ k' = .cell))
  | [], _, _, h => by simp at h
  | (n, k) :: r, x, k', h => by
    rw [List.map_cons] at h
    dsimp only at h
    by_cases hc : (k == NameKind.free && env.scope.kind == .function && env.kindOf n == some .cell) = true
    · rw [if_pos hc, List.lookup_cons] at h
      rw [List.lookup_cons]
      split at h
      · rename_i hx
        cases h
        have hk : k = .free := by
          have := (Bool.and_eq_true _ _ ▸ (Bool.and_eq_true _ _ ▸ hc).1).1
          simpa using this
        exact ⟨k, rfl, .inr ⟨hk, rfl⟩⟩
      · rename_i hx
        obtain ⟨k2, q1, q2⟩ := lookup_relabel h
        exact ⟨k2, q1, q2⟩
    · rw [if_neg hc, List.lookup_cons] at h
      rw [List.lookup_cons]
      split at h
      · rename_i hx
        cases h
        exact ⟨k, rfl, .inl rfl⟩
      · rename_i hx
        obtain ⟨k2, q1, q2⟩ := lookup_relabel h
        exact ⟨k2, q1, q2⟩
theorem lookup_relabel_free {env : Env} : ∀ {names : List (Str × NameKind)} {x : Str}, names.lookup x = some .free →
    (names.map fun (n, k) => if (k == NameKind.free && env.scope.kind == .function && env.kindOf n == some .cell) then (n, NameKind.cell) else (n, k)).lookup x = some .cell ∨
    (names.map fun (n, k) => if (k == NameKind.free && env.scope.kind == .function && env.kindOf n == some .cell) then (n, NameKind.cell) else (n, k)).lookup x = some .free
  | [], _, h => by simp at h
  | (n, k) :: r, x, h => by
    rw [List.map_cons]
    dsimp only
    rw [List.lookup_cons] at h
    by_cases hc : (k == NameKind.free && env.scope.kind == .function && env.kindOf n == some .cell) = true
    · rw [if_pos hc, List.lookup_cons]
      split at h
      · rename_i hx
        left; rfl
      · rename_i hx
        exact lookup_relabel_free (env := env) h
    · rw [if_neg hc, List.lookup_cons]
      split at h
      · rename_i hx
        right; exact h
      · rename_i hx
        exact lookup_relabel_free (env := env) h
structure CompSc (Sc scope : Scope) (N Nc : List Str) (k : Nat) (js : List Nat) : Prop where
  cell : ∀ y ∈ scope.names, y.2 ≠ .cell
  kind : scope.kind = .function
  names : ∀ y ∈ scope.names, y.2 = .local → scope.names.lookup y.1 = some .local
  free : ∀ y ∈ scope.names, y.2 = .free → Sc.names.lookup y.1 = some .cell ∨ Sc.names.lookup y.1 = some .free
  nd : Nc.Nodup
  len : Nc.length = k + js.length
  cap : (Nc.drop k).map some = js.map fun j => N[j]?
  caps : ∀ x ∈ Nc.drop k, scope.names.lookup x = some .free
def compSt (k : Nat) (js : List Nat) (σ : St) : St := List.replicate k none ++ js.map fun j => (σ[j]?).getD none
theorem mem_free {names : List (Str × NameKind)} {x : Str} {k : NameKind} (h : names.lookup x = some k) : (x, k) ∈ names := PySem.mem_of_lookup h
abbrev compCx (X : Cx) (scope : Scope) (Nc : List Str) (C : Addr) (s3 : Shared) (H3 : Hp) (fp : List Addr) (xe : Value → Shared → Prop) : Cx :=
  { X with N := Nc, s₀ := s3, H₀ := H3, env := compEnvC scope (capOf X.env.cells scope.names []) C X.env, outer := X.stack, ex := fp, fn := fun _ => false, pn := [], xe := xe }
section
variable {X : Cx} {pins : List (Addr × Obj)} {σ : St} {H3 : Hp} {s3 : Shared} {scope : Scope} {Nc : List Str} {k : Nat} {js : List Nat} {fp : List Addr} {xe : Value → Shared → Prop} {h₁ : Heap} {m₀ : Str → Option Value} {tk : Nat}
theorem comp_cells (I : Inv X pins σ H3 s3) (S : CompSc X.env.scope scope X.N Nc k js) : ∀ y ∈ scope.names, y.2 = .free → ∃ c, X.env.cells.lookup y.1 = some c := fun y hy hk => I.ok.has y.1 (S.free y hy hk)
theorem comp_sub {x : Str} {c : Addr} (e : (capOf X.env.cells scope.names []).lookup x = some c) : X.env.cells.lookup x = some c := capOf_acc (fun d q => by simp at q) e
theorem comp_inv (I : Inv X pins σ H3 s3) (S : CompSc X.env.scope scope X.N Nc k js) (hf : ∀ b ∈ fp, FpOk X pins H3 b) (hfo : ∀ b ∈ fp, b < s3.heap.objs.size) (hns : h₁.Ns s3.heap.objs.size m₀) (old : ∀ b o, s3.heap.get? b = some o → h₁.get? b = some o) :
    Inv (compCx X scope Nc s3.heap.objs.size s3 H3 fp xe) [] (compSt k js σ) H3 { s3 with heap := h₁, toks := tk } := by
  have ok := I.ok
  have hb0 : ∀ b o, X.base.get? b = some o → b < X.s₀.heap.objs.size := fun b o e => Nat.lt_of_lt_of_le (Heap.lt_size e) ok.bsz
  refine ⟨⟨ok.mod, S.kind, ok.glob, ok.blt, Nat.le_refl _, fun x y c h1 h2 => ok.inj x y c (comp_sub h1) (comp_sub h2), fun x hx => ?_, (fun x c z => nomatch z), ok.hd, ok.frames, .inl rfl, fun b hb => ⟨Nat.ne_of_lt (hfo b hb), fun x c e => (hf b hb).2.2.2.2.1 x c (comp_sub e)⟩, I.bs, Nat.le_trans ok.bsz I.sz, fun b o e hb => ?_, fun b hb z => ?_, I.stack, I.stkFree⟩,
    rfl, I.bare, Un.kept old, ⟨m₀, hns, fun i x v e1 e2 e3 => ?_⟩, fun x c e => ?_, I.hok.fresh (Nat.le_refl _), fun x c e => I.freeC x c (comp_sub e), fun p hp => absurd (show p ∈ ([] : List (Addr × Obj)) from hp) (by simp), I.hok.kept old, ?_⟩
  · have hx : (relabel scope X.env).names.lookup x = some .cell ∨ (relabel scope X.env).names.lookup x = some .free := hx
    have hfree : scope.names.lookup x = some .free := by
      rcases hx with hx | hx
      · obtain ⟨k2, q1, q2⟩ := lookup_relabel (env := X.env) hx
        rcases q2 with q2 | ⟨q2, _⟩
        · subst q2; exact absurd rfl (S.cell _ (mem_free q1))
        · rw [q2] at q1; exact q1
      · obtain ⟨k2, q1, q2⟩ := lookup_relabel (env := X.env) hx
        rcases q2 with q2 | ⟨q2, q3⟩
        · subst q2; exact q1
        · cases q3
    exact capOf_has (mem_free hfree) (ok.has x (S.free _ (mem_free hfree) rfl))
  · rcases (hf b hb).2.2.2.1 with z | z
    · exact ok.noex b o e z
    · exact absurd (Nat.lt_of_lt_of_le (hb0 b o e) z) (Nat.lt_irrefl _)
  · rcases List.mem_cons.mp (I.stkSub b z) with q | q
    · exact (hf b hb).2.1 q
    · exact (hf b hb).2.2.1 q
  · have hlen : (List.replicate k (none : Option V)).length = k := List.length_replicate
    by_cases hi : i < k
    · unfold compSt at e2
      rw [List.getElem?_append_left (by omega), List.getElem?_replicate] at e2
      split at e2 <;> cases e2
    · unfold compSt at e2
      rw [List.getElem?_append_right (by omega), hlen, List.getElem?_map] at e2
      cases hj : js[i - k]? with
      | none => rw [hj] at e2; cases e2
      | some j =>
        rw [hj] at e2
        have e2' : (σ[j]?).getD none = some v := Option.some.inj e2
        have hσ : σ[j]? = some (some v) := by
          cases q : σ[j]? with
          | none => rw [q] at e2'; cases e2'
          | some y => rw [q] at e2'; simp at e2'; rw [e2']
        have hx : (Nc.drop k)[i - k]? = some x := by rw [List.getElem?_drop]; rw [show k + (i - k) = i by omega]; exact e1
        have hNj : X.N[j]? = some x := by
          have := congrArg (fun l => l[i - k]?) S.cap
          simp only [List.getElem?_map, hx, hj, Option.map_some] at this
          exact (Option.some.inj this).symm
        have hfr : scope.names.lookup x = some .free := S.caps x (List.mem_of_getElem? hx)
        have hk := S.free _ (mem_free hfr) rfl
        obtain ⟨m, hn, hl⟩ := I.loc
        obtain ⟨u, r, l⟩ := hl j x v hNj hσ (.inr hk)
        refine ⟨u, r, .inr ⟨lookup_relabel_free hfr, ?_⟩⟩
        rcases l with ⟨l1, _⟩ | ⟨_, c, hc, hcell⟩
        · have l1 : X.env.scope.names.lookup x = some .local := l1
          rcases hk with hk | hk
          · rw [l1] at hk; cases hk
          · rw [l1] at hk; cases hk
        · obtain ⟨d, hd⟩ := capOf_has (cells := X.env.cells) (acc := []) (mem_free hfr) ⟨c, hc⟩
          have := comp_sub hd
          rw [hc] at this; cases this
          obtain ⟨o, ho, hdd⟩ := hcell
          exact ⟨c, hd, ⟨o, old _ _ ho, hdd⟩⟩
  · obtain ⟨v, o, ho, hd⟩ := I.cell x c (comp_sub e)
    exact ⟨v, o, old _ _ ho, hd⟩
  · unfold compSt
    rw [List.length_append, List.length_replicate, List.length_map]
    exact S.len.symm
end
def PF (X : Cx) (ifs : List Expr) (t : TT) : Prop :=
  ∀ (pins : List (Addr × Obj)) (s : Shared) (σ : St) (H : Hp) (Q : Bool → Hp → Prop), Inv X pins σ H s → t σ H Q →
    wpAny (model X.prog X.w) X.A (forIn ifs true fun c r => if r = true then do let ok ← isTrue c X.env (eval c X.env); pure (ForInStep.yield ok) else pure (ForInStep.yield r)) (TP X pins σ Q) X.xe s
def tTrue : TT := fun _ H Q => Q true H
theorem pf_nil {X : Cx} : PF X [] tTrue := fun pins s σ H Q I h => wpAny_tests_nil ⟨H, I, h⟩
def tCompR (J : It) (g : TG) (tf : TT) (te : TE) (k : Nat) (σ0 : St) (D : Addr) (Fin : Hp → Prop) (H1 : Hp) : Prop :=
  ∃ W : Nat → Nat → List V → Hp → Prop, (∃ m, W 0 m [] (upd H1 D (.lst []))) ∧ ∀ i m ys H, W i m ys H →
    (J.stop i H ∧ Fin H) ∨ (J.go i H ∧ ∃ N : List V → Hp → Prop, (∀ ys' H', N ys' H' → ∃ m', m' < m ∧ W (i + 1) m' ys' H') ∧ ∀ x H', J.yld i H x H' → g x σ0 H' fun σ2 H2 => (σ2.drop k = σ0.drop k ∧ σ2.length = σ0.length) ∧ tf σ2 H2 fun b H3 =>
      if b = true then te σ2 H3 fun y H4 => H4 D = some (.lst ys) ∧ ys.length < sizeLine ∧ N (ys ++ [y]) (upd H4 D (.lst (ys ++ [y]))) else N ys H3)
section
variable {X : Cx} {pins : List (Addr × Obj)} {σ : St} {H : Hp} {s : Shared} {elt tg iter : Expr} {ifs : List Expr} {scope : Scope} {pos : Pos} {Nc : List Str} {k : Nat} {js : List Nat} {g : TG} {tf : TT} {te : TE}
theorem comp_block {J : It} {fp : List Addr} {it : Addr} {tn : Nat → Heap → Prop} {E : Value → Shared → Prop} {RR : Value → Addr → Result → Shared → Prop} {Fin : Addr → Hp → Prop} (hc : X.calm = true) (S : CompSc X.env.scope scope X.N Nc k js)
    (hg : ∀ C s3 H3 fp xe, PG (compCx X scope Nc C s3 H3 fp xe) tg g) (hf : ∀ C s3 H3 fp xe, PF (compCx X scope Nc C s3 H3 fp xe) ifs tf) 
    (he : ∀ C D H3, ∃ xe : Value → Shared → Prop, (∀ e s', xe e s' → notedBy (model X.prog X.w) X.A (compEnvC scope (capOf X.env.cells scope.names []) C X.env) (fun e s' => RR (.ref D) C (.error e) s') e s') ∧
      ∀ s3, Inv X pins σ H3 s3 → C = s3.heap.objs.size → (∀ b ∈ fp, FpOk X pins H3 b) → PE (compCx X scope Nc C s3 H3 fp xe) elt te)
    (I2 : Inv X pins σ H s) (T : Turn X.prog X.w X.K tg J fp it tn) (st2 : tn 0 s.heap) (f2 : ∀ b ∈ fp, FpOk X pins H b) (hR : ∀ D, H D = none → tCompR J g tf te k (compSt k js σ) D (Fin D) H)
    (hRR : ∀ D C H' s' m', Inv X pins σ H' s' → s'.heap.Ns C m' → H' C = none → C ≠ X.env.locals → X.s₀.heap.objs.size ≤ C → (∀ x c, X.env.cells.lookup x = some c → c ≠ C) → (∀ p ∈ X.pn ++ pins, p.1 ≠ C) → Fin D H' → RR (.ref D) C (.ok .next) s') :
    wpAny (model X.prog X.w) X.A (newList []) (fun acc s₃ => wpAny (model X.prog X.w) X.A (newFunctionEnv scope X.env.globals (capOf X.env.cells scope.names []) [] X.env.qual none .none (some X.env)) (fun cenv s₄ =>
      codeAny (model X.prog X.w) X.A (.compStart (.ListComp elt [⟨tg, iter, ifs, 0⟩] scope pos) 0 (.ref it) acc { cenv with scope := relabel scope X.env }) (RR acc cenv.locals) s₄) E s₃) E s := by
  refine wpAny_newObj_type (wpAny_newFunctionEnv S.cell (by intro y hy; simp at hy) (fun h₁ hns₁ hsb₁ => ?_) S.kind)
  dsimp only at hns₁ hsb₁ ⊢
  have I3 : Inv X pins σ (upd H s.heap.objs.size (.lst [])) { s with heap := s.heap.push { cls := .type "list", data := .seq ([] : List Value).toArray }, toks := s.toks } := I2.lnew (its := []) .nil (Nat.zero_le _)
  have hDn : H s.heap.objs.size = none := I2.fresh
  obtain ⟨W, ⟨m0, w0⟩, turn⟩ := hR _ hDn
  generalize hs3 : ({ s with heap := s.heap.push { cls := .type "list", data := .seq ([] : List Value).toArray }, toks := s.toks } : Shared) = s3 at I3
  have e3 : s3.heap = s.heap.push { cls := .type "list", dict := none, data := .seq ([] : List Value).toArray } := by rw [← hs3]
  rw [← e3] at hns₁ hsb₁ ⊢
  have fpo : ∀ b ∈ fp, b < s.heap.objs.size := fun b hb => by obtain ⟨o, e, _⟩ := T.obj _ _ st2 b hb; exact Heap.lt_size e
  have sz3 : s3.heap.objs.size = s.heap.objs.size + 1 := by rw [e3, Heap.size_push]
  have fpo3 : ∀ b ∈ fp, b < s3.heap.objs.size := fun b hb => by rw [sz3]; exact Nat.lt_succ_of_lt (fpo b hb)
  have f3 : ∀ b ∈ fp, FpOk X pins (upd H s.heap.objs.size (.lst [])) b := fun b hb => ⟨by rw [upd_ne (Nat.ne_of_lt (fpo b hb))]; exact (f2 b hb).1, (f2 b hb).2⟩
  have old : ∀ b o, s3.heap.get? b = some o → h₁.get? b = some o := fun b o e => hsb₁.extBut b o (Nat.ne_of_lt (Heap.lt_size e)) (Heap.get?_push_of_some _ e)
  have oldS : ∀ b o, s.heap.get? b = some o → h₁.get? b = some o := fun b o e => old b o (by rw [e3]; exact Heap.get?_push_of_some _ e)
  obtain ⟨xe, hxe, hel⟩ := he s3.heap.objs.size s.heap.objs.size (upd H s.heap.objs.size (.lst []))
  have hel := hel s3 I3 rfl f3
  have I4 : Inv (compCx X scope Nc s3.heap.objs.size s3 (upd H s.heap.objs.size (.lst [])) fp xe) [] (compSt k js σ) (upd H s.heap.objs.size (.lst [])) { s3 with heap := h₁, toks := s.toks + ([] : List (Str × Value)).length } :=
    comp_inv I3 S f3 fpo3 hns₁ old
  have st4 : tn 0 h₁ := T.keep _ _ _ st2 fun b hb o e => oldS b o e
  have es3 : ({ s3 with heap := h₁, toks := s.toks + ([] : List (Str × Value)).length } : Shared) = { s with heap := h₁, toks := s.toks + ([] : List (Str × Value)).length } := by rw [← hs3]
  rw [es3] at I4
  have ok := I2.ok
  have lk := I3.lt
  have hCL : s3.heap.objs.size ≠ X.env.locals := Nat.ne_of_gt lk
  have stat : ∀ {H' : Hp}, (∀ b ∈ fp, H' b = none) → ∀ b ∈ fp, FpOk (compCx X scope Nc s3.heap.objs.size s3 (upd H s.heap.objs.size (.lst [])) fp xe) [] H' b := fun hn b hb =>
    ⟨hn b hb, Nat.ne_of_lt (fpo3 b hb), fun z => (List.mem_cons.mp (I3.stkSub b z)).elim (fun q => (f3 b hb).2.1 q) fun q => (f3 b hb).2.2.1 q, .inl hb, fun x c e => (f3 b hb).2.2.2.2.1 x c (comp_sub e), fun p hp => absurd (show p ∈ ([] : List (Addr × Obj)) from hp) (by simp)⟩
  have loop : codeAny (model X.prog X.w) X.A (.compLoop (.ListComp elt [⟨tg, iter, ifs, 0⟩] scope pos) 0 (.ref it) (.ref s.heap.objs.size) (compEnvC scope (capOf X.env.cells scope.names []) s3.heap.objs.size X.env))
        (RR (.ref s.heap.objs.size) s3.heap.objs.size) { s with heap := h₁, toks := s.toks + ([] : List (Str × Value)).length } := by
    refine compLoop_go rfl (fun n s' => ∃ i ys H', Inv (compCx X scope Nc s3.heap.objs.size s3 (upd H s.heap.objs.size (.lst [])) fp xe) [] (compSt k js σ) H' s' ∧ tn i s'.heap ∧ (∀ b ∈ fp, H' b = none) ∧ W i n ys H') ?_ m0 ⟨0, [], _, I4, st4, fun b hb => (f3 b hb).1, w0⟩
    rintro n s5 ⟨i, ys, H5, I5, st5, fr5, w5⟩
    rcases turn i n ys H5 w5 with ⟨stop, fin⟩ | ⟨go, Nx, hNx, step⟩
    · refine thn (T.done (compCx X scope Nc s3.heap.objs.size s3 (upd H s.heap.objs.size (.lst [])) fp xe) rfl rfl rfl hc i [] s5 (compSt k js σ) H5 _ I5 (stat fr5) st5 stop) fun r s6 ⟨hr, I6⟩ => ?_
      subst hr
      obtain ⟨m6, hn6, _⟩ := I6.loc
      have J : Inv X pins σ H5 s6 := I3.call' (ch := fp) (I6.os.trans rfl) I6.base I6.hok I6.bare fun b hb => ⟨(f3 b hb).2.2.2.1, (f3 b hb).2.1, (f3 b hb).2.2.2.2.1, (f3 b hb).2.2.2.2.2⟩
      refine hRR _ _ H5 s6 m6 J hn6 I6.free hCL (I3.sz) (fun x c e z => ?_) (fun p hp z => ?_) fin
      · obtain ⟨v, q⟩ := I3.cell x c e
        exact absurd q.lt (by rw [z]; exact Nat.lt_irrefl _)
      · exact absurd (Heap.lt_size (I3.pin p hp).1) (by rw [z]; exact Nat.lt_irrefl _)
    · refine thn (T.item (compCx X scope Nc s3.heap.objs.size s3 (upd H s.heap.objs.size (.lst [])) fp xe) rfl rfl rfl hc i [] s5 (compSt k js σ) H5 _ I5 (stat fr5) st5 go) fun r s6 ⟨u, hr, h6⟩ => ?_
      subst hr
      refine thn h6 fun _ s7 ⟨x, H7, I7, r7, y7, st7, fr7⟩ => ?_
      have I7' := I7.pinned (stat fr7) (T.obj _ _ st7)
      refine wpAny_mono (hg _ _ _ _ _ _ s7 _ H7 x u _ I7' r7 (step x H7 y7)) (fun _ s8 ⟨σ8, H8, I8, ⟨d8, l8⟩, q8⟩ => ?_) fun e s' z => hxe e s' z
      refine wpAny_mono (hf _ _ _ _ _ _ s8 σ8 H8 _ I8 q8) (fun b s9 ⟨H9, I9, q9⟩ => ?_) fun e s' z => hxe e s' z
      have again : ∀ {H' : Hp} {s' : Shared} {ys' : List V}, Inv (compCx X scope Nc s3.heap.objs.size s3 (upd H s.heap.objs.size (.lst [])) fp xe) ([] ++ pinsAt fp s7.heap) σ8 H' s' → Nx ys' H' →
          ∃ m, m < n ∧ ∃ i ys H', Inv (compCx X scope Nc s3.heap.objs.size s3 (upd H s.heap.objs.size (.lst [])) fp xe) [] (compSt k js σ) H' s' ∧ tn i s'.heap ∧ (∀ b ∈ fp, H' b = none) ∧ W i m ys H' := fun {H' s' ys'} I' hw => by
        obtain ⟨m', hm, w'⟩ := hNx _ _ hw
        refine ⟨m', hm, i + 1, ys', H', (I'.unpinned).weak l8.symm fun j v e => ?_, T.keep _ _ _ st7 fun b hb o e => (I'.pin (b, o) (List.mem_append_right _ (List.mem_append_right _ (mem_pinsAt hb e)))).1, fun b hb => ?_, w'⟩
        · by_cases hj : j < k
          · unfold compSt at e
            rw [List.getElem?_append_left (by rw [List.length_replicate]; exact hj), List.getElem?_replicate] at e
            split at e <;> cases e
          · have e' : ((compSt k js σ).drop k)[j - k]? = some (some v) := by rw [List.getElem?_drop, show k + (j - k) = j by omega]; exact e
            rw [← d8, List.getElem?_drop, show k + (j - k) = j by omega] at e'
            exact e'
        · obtain ⟨o, e, d⟩ := T.obj _ _ st7 b hb
          exact (I'.pin (b, o) (List.mem_append_right _ (List.mem_append_right _ (mem_pinsAt hb e)))).2.1
      cases b with
      | false =>
        rw [if_neg Bool.false_ne_true] at q9 ⊢
        exact again I9 q9
      | true =>
        rw [if_pos rfl] at q9 ⊢
        refine wpAny_mono (hel _ s9 σ8 H9 _ I9 q9) (fun v s10 ⟨y, H10, I10, r10, hD, hz, w'⟩ => ?_) fun e s' z => hxe e s' z
        refine wpAny_mono (mt_append (X := compCx X scope Nc s3.heap.objs.size s3 (upd H s.heap.objs.size (.lst [])) fp xe) _ s10 σ8 H10 (.ref s.heap.objs.size) [y] (.ref s.heap.objs.size) [v] (fun _ H' => H' = upd H10 s.heap.objs.size (.lst (ys ++ [y]))) I10 rfl (.cons r10 .nil)
          ⟨_, ys, y, rfl, rfl, hD, hz, rfl⟩) (fun _ s11 ⟨_, H11, I11, _, q11⟩ => ?_) fun e s' z => hxe e s' z
        subst q11
        exact again I11 w'
  exact codeAny_compStart_list loop (T.self _ 0 _ _ _ st4 loop)
end
end L2
set_option Elab.async false
set_option linter.all false
set_option maxRecDepth 100000
set_option maxHeartbeats 4000000
namespace L2
open PySem PySem.Spec PyProof.Rows
def tComp (wi : TI) (g : TG) (tf : TT) (te : TE) (k : Nat) (js : List Nat) : TE := fun σ H Q => wi σ H fun J H1 => ∀ D, H1 D = none → tCompR J g tf te k (compSt k js σ) D (fun H' => Q (.ref D) H') H1
section
variable {X : Cx} {elt tg iter : Expr} {ifs : List Expr} {scope : Scope} {pos : Pos} {Nc : List Str} {k : Nat} {js : List Nat} {wi : TI} {g : TG} {tf : TT} {te : TE}
theorem pe_comp (hc : X.calm = true) (S : CompSc X.env.scope scope X.N Nc k js) (hi : PI X tg iter wi) (hg : ∀ C s3 H3 fp xe, PG (compCx X scope Nc C s3 H3 fp xe) tg g) (hf : ∀ C s3 H3 fp xe, PF (compCx X scope Nc C s3 H3 fp xe) ifs tf)
    (he : ∀ C s3 H3 fp xe, PE (compCx X scope Nc C s3 H3 fp xe) elt te) (hs : ∀ x, foldedSetIterable iter X.env x = pure x := by intro _; rfl) : PE X (.ListComp elt [⟨tg, iter, ifs, 0⟩] scope pos) (tComp wi g tf te k js) := by
  intro pins s σ H Q I h
  rw [eval_ListComp]
  refine wpAny_comprehension_free (use := none) rfl hs (closure_cap (comp_cells I S)) S.kind S.names (thn (hi pins s σ H _ I h) fun v s1 h1 => thn h1 fun itv s2 h2 => ?_)
  obtain ⟨it, fp, tn, J, H2, rfl, I2, T, st2, f2, hR⟩ := h2
  refine comp_block (RR := fun acc C => compPost (model X.prog X.w) X.A X.xe none (EP X pins σ Q) acc C) (Fin := fun D H' => Q (.ref D) H') hc S hg hf (fun C D H3 => ⟨fun _ _ => False, fun _ _ z => z.elim, fun s3 _ _ _ => he _ _ _ _ _⟩) I2 T st2 f2 hR ?_
  intro D C H' s' m' I' hn hC hCL hsz hcl hpn q
  exact ⟨m', hn, fun h' hs' => ⟨.ref D, H', I'.turned (t' := s'.toks) (fun b o hb e => (hs'.2 b hb).trans e) hC hCL (.inr hsz) hcl hpn, rfl, q⟩⟩
end
theorem comp_list {K : PySem.W.Frag} {a : Addr} {xs : List V} {g : TG} {tf : TT} {te : TE} {k : Nat} {σ0 : St} {D : Addr} {Fin : Hp → Prop} {H1 : Hp} (Pv : Nat → List V → Hp → Prop) (h0 : Pv 0 [] (upd H1 D (.lst []))) (hl : ∀ i ys H, i ≤ xs.length → Pv i ys H → SqL K H a xs)
    (hs : ∀ i x ys H, xs[i]? = some x → Pv i ys H → g x σ0 H fun σ2 H2 => (σ2.drop k = σ0.drop k ∧ σ2.length = σ0.length) ∧ tf σ2 H2 fun b H3 =>
      if b = true then te σ2 H3 fun y H4 => H4 D = some (.lst ys) ∧ ys.length < sizeLine ∧ Pv (i + 1) (ys ++ [y]) (upd H4 D (.lst (ys ++ [y]))) else Pv (i + 1) ys H3)
    (hd : ∀ ys H, Pv xs.length ys H → Fin H) : tCompR (Itl K a) g tf te k σ0 D Fin H1 := by
  refine ⟨fun i m ys H => m = xs.length - i ∧ i ≤ xs.length ∧ Pv i ys H, ⟨xs.length, by simp, Nat.zero_le _, h0⟩, ?_⟩
  rintro i m ys H ⟨rfl, hi, p⟩
  have q := hl i ys H hi p
  by_cases hlt : i < xs.length
  · refine .inr ⟨⟨xs, xs[i], q, by simp [hlt]⟩, Pv (i + 1), fun ys' H' z => ⟨xs.length - (i + 1), by omega, rfl, hlt, z⟩, fun x H' y => ?_⟩
    obtain ⟨e, y⟩ := y
    subst e
    exact hs i x ys _ (y xs q) p
  · have e : i = xs.length := by omega
    subst e
    exact .inl ⟨⟨xs, q, Nat.le_refl _⟩, hd ys H p⟩
section
variable {X : Cx} {pins : List (Addr × Obj)} {σ : St} {H : Hp} {s : Shared}
theorem Inv.turnedL {h' : Heap} {t' : Nat} {ch : List Addr} {p : Addr} {o : HO} (I : Inv X pins σ H s) (k : ∀ b u, b ∉ ch → s.heap.get? b = some u → h'.get? b = some u) (hf : ∀ b ∈ ch, FpOk X pins H b) (hp : s.heap.objs.size ≤ p) (new : ObjOk X.prog X.w (upd H p o) h' p o) :
    Inv X pins σ (upd H p o) { s with heap := h', toks := t' } := by
  have hn := I.hok.fresh hp
  have nch : ∀ b u, H b = some u → b ∉ ch := fun b u q z => by rw [(hf b z).1] at q; cases q
  refine I.call (g' := s.gens) (d' := s.drawn) (ch := ch) ⟨fun b u q _ _ hx => k b u hx q, fun b u q _ _ hx => ⟨u.slots, k b u hx q⟩, fun b u q n _ => ?_, fun b u q hx => ⟨u, k b u hx q⟩, fun b xs q => ?_, fun b u xs q => ?_, fun b ps q => ⟨#[], ?_⟩⟩ (fun b u q => ?_) I.bare
    fun b hb => ⟨(hf b hb).2.2.2.1, (hf b hb).2.1, (hf b hb).2.2.2.2.1, (hf b hb).2.2.2.2.2⟩
  · rw [upd_ne (Nat.ne_of_lt (Nat.lt_of_lt_of_le (Heap.lt_size q) hp))]; exact n
  · rw [upd_ne (ne_of_none q hn)]; exact q
  · rw [upd_ne (ne_of_none q hn)]; exact q
  · rw [upd_ne (ne_of_none q hn), q]; simp
  · by_cases hb : b = p
    · subst hb; rw [upd_same] at q; cases q; exact new
    · rw [upd_ne hb] at q
      refine (I.hok b u q).stay (fun c v hc r => k c v ?_ r) (fun c z => ?_) fun c xs z => ?_
      · rcases hc with hc | hc
        · rw [hc]; exact nch b u q
        · exact nch c _ hc
      · rw [upd_ne (ne_of_none z hn)]; exact z
      · rw [upd_ne (ne_of_none z hn)]; exact z
theorem Inv.turnedN {h' : Heap} {t' : Nat} {ch : List Addr} (I : Inv X pins σ H s) (k : ∀ b u, b ∉ ch → s.heap.get? b = some u → h'.get? b = some u) (hf : ∀ b ∈ ch, FpOk X pins H b) : Inv X pins σ H { s with heap := h', toks := t' } := by
  have nch : ∀ b u, H b = some u → b ∉ ch := fun b u q z => by rw [(hf b z).1] at q; cases q
  refine I.call (g' := s.gens) (d' := s.drawn) (ch := ch) ⟨fun b u q _ _ hx => k b u hx q, fun b u q _ _ hx => ⟨u.slots, k b u hx q⟩, fun b u q n _ => n, fun b u q hx => ⟨u, k b u hx q⟩, fun b xs q => q, fun b u xs q => q, fun b ps q => ⟨#[], by rw [q]; simp⟩⟩ (fun b u q => ?_) I.bare
    fun b hb => ⟨(hf b hb).2.2.2.1, (hf b hb).2.1, (hf b hb).2.2.2.2.1, (hf b hb).2.2.2.2.2⟩
  refine (I.hok b u q).stay (fun c v hc r => k c v ?_ r) (fun c z => z) fun c xs z => z
  rcases hc with hc | hc
  · rw [hc]; exact nch b u q
  · exact nch c _ hc
end
section
variable {X : Cx}
end
section
variable {X : Cx}
end
end L2
set_option Elab.async false
set_option linter.all false
set_option maxRecDepth 100000
set_option maxHeartbeats 4000000
namespace L2
open PySem PySem.Spec PyProof.Rows
def TopOf (ns : List Int) (d M : Int) : Prop := (ns = [] ∧ M = d) ∨ (M ∈ ns ∧ ∀ a ∈ ns, a ≤ M)
def BestIs (ns : List Int) (j : Nat) (best : Array Value) : Prop := (j = 0 ∧ best = #[]) ∨ ∃ M t, best = #[.int M t, .int M t] ∧ M ∈ ns.take j ∧ ∀ a ∈ ns.take j, a ≤ M
theorem args_maxD (a d : Value) : argsOk "max" ⟨[a], [(Str.ofString "default", d)]⟩ := by unfold argsOk; kernel_rfl
theorem take_snoc {ns : List Int} {j : Nat} {n : Int} (h : ns[j]? = some n) : ns.take (j + 1) = ns.take j ++ [n] := by rw [List.take_add_one, h]; rfl
theorem intsAre_len : ∀ {us : List Value} {ns : List Int}, IntsAre us ns → us.length = ns.length
  | _, _, .nil => rfl
  | _, _, .cons _ _ r => by simp [intsAre_len r]
theorem intsAre_at : ∀ {us : List Value} {ns : List Int} {j : Nat} {v : Value}, IntsAre us ns → us[j]? = some v → ∃ n t, v = .int n t ∧ ns[j]? = some n
  | _, _, _, _, .nil, h => by simp at h
  | _, _, 0, _, .cons n t r, h => by simp at h; exact ⟨n, t, h.symm, rfl⟩
  | _, _, j + 1, _, .cons n t r, h => by
    obtain ⟨m, u, e1, e2⟩ := intsAre_at (j := j) r (by simpa using h)
    exact ⟨m, u, e1, by simpa using e2⟩
section
variable {prog : Program} {w : World} {A : Around} {R : Result → Shared → Prop}
theorem maxD_loop (hh : A.in1.handled = none) {I S l : Addr} {us : List Value} {ns : List Int} (hI : IntsAre us ns) (d : Int) (td : Tok) (hIS : I ≠ S) (hlS : l ≠ S) (hlI : l ≠ I) : ∀ (k j : Nat) (z : Shared) (best : Array Value) (c : Nat), us.length - j = k → j ≤ us.length →
    z.heap.IsListIter I l j → z.heap.IsList l us.toArray → z.heap.get? S = some { cls := .type "list", dict := none, data := .seq best c, slots := #[] } → BestIs ns j best →
    (∀ M t h' tk, TopOf ns d M → (∀ b o, b ≠ I → b ≠ S → z.heap.get? b = some o → h'.get? b = some o) → R (.ok (.ret (.int M t))) { z with heap := h', toks := tk }) →
    codeAny (model prog w) A (.builtin "max.loop" ⟨[.ref I, .none, .ref S], [(Str.ofString "default", .int d td)]⟩) R z := by
  have hname : (toString "max" ++ toString ".loop" : String) = "max.loop" := by decide
  have W := Walks.list (prog := prog) (w := w) (A := A.in1) hh I l hlI us.toArray
  have hln : us.length = ns.length := intsAre_len hI
  intro k
  induction k with
  | zero =>
    intro j z best c hk hj hit hl hS hB hR
    have hjn : j = us.toArray.size := by rw [List.size_toArray]; omega
    refine codeAny_builtin F.entry_max_loop ?_
    rw [Around.under_plainId F.plain_max_loop _]
    show wpAny _ A.in1 (seqItems? (.ref S) >>= _) _ _ z
    refine wpAny_bind (wpAny_seqItems hS rfl ?_)
    show wpAny _ A.in1 (tryCatch (pyNext (.ref I)) _ >>= _) _ _ z
    refine wpAny_bind (wpAny_tryCatch (W.done z _ _ (hjn ▸ ⟨hit, hl⟩) fun h' tk hk' => ?_))
    have hS' := hk' S _ (by simpa using Ne.symm hIS) hS
    rcases hB with ⟨rfl, rfl⟩ | ⟨M, t, rfl, hM, hM2⟩
    · have e : ns = [] := List.eq_nil_of_length_eq_zero (by rw [← hln]; rw [List.size_toArray] at hjn; omega)
      refine wpAny_bind (wpAny_rule (wpAny_pure ?_))
      exact hR d td h' tk (.inl ⟨e, rfl⟩) fun b o hb _ q => hk' b o (by simpa using hb) q
    · show wpAny _ A.in1 (updateSeq S (fun _ => #[]) >>= _) _ _ _
      refine wpAny_bind ?_
      refine wpAny_updateSeq hS' rfl (wpAny_bind (wpAny_letGo (wpAny_pure ?_)))
      have e : ns.take j = ns := List.take_of_length_le (by rw [List.size_toArray] at hjn; omega)
      rw [e] at hM hM2
      exact hR M t _ tk (.inr ⟨hM, hM2⟩) fun b o hb hbS q => (Heap.get?_update_other _ _ (Ne.symm hbS)).trans (hk' b o (by simpa using hb) q)
  | succ k ih =>
    intro j z best c hk hj hit hl hS hB hR
    have hjn : j < us.toArray.size := by rw [List.size_toArray]; omega
    refine codeAny_builtin F.entry_max_loop ?_
    rw [Around.under_plainId F.plain_max_loop _]
    show wpAny _ A.in1 (seqItems? (.ref S) >>= _) _ _ z
    refine wpAny_bind (wpAny_seqItems hS rfl ?_)
    show wpAny _ A.in1 (tryCatch (pyNext (.ref I)) _ >>= _) _ _ z
    refine wpAny_bind (wpAny_tryCatch (W.item j z _ _ hjn ⟨hit, hl⟩ fun v h' tk hP hst' hk' => ?_))
    have hS' := hk' S _ (by simpa using Ne.symm hIS) hS
    have hPv : us[j]? = some v := by simpa using hP
    obtain ⟨n, t, rfl, hn⟩ := intsAre_at hI hPv
    have kept : ∀ b o, b ≠ I → z.heap.get? b = some o → h'.get? b = some o := fun b o hb q => hk' b o (by simpa using hb) q
    rcases hB with ⟨rfl, rfl⟩ | ⟨M, t2, rfl, hM, hM2⟩
    · show wpAny _ A.in1 (updateSeq S (fun _ => #[.int n t, .int n t]) >>= _) _ _ _
      refine wpAny_bind ?_
      refine wpAny_updateSeq hS' rfl ?_
      rw [hname]
      refine wpAny_pure ⟨plainId_quiet F.plain_max_loop _, ih 1 _ #[.int n t, .int n t] _ (by omega) (by omega) ?_ ?_ (Heap.get?_update_self _ hS' rfl) (.inr ⟨n, t, rfl, ?_, ?_⟩) fun M t' h2 tk2 hT hk2 => ?_⟩
      · exact hst'.1.at fun o q => (Heap.get?_update_other _ _ (Ne.symm hIS)).trans q
      · exact hst'.2.at fun o q => (Heap.get?_update_other _ _ (Ne.symm hlS)).trans q
      · rw [take_snoc hn]; simp
      · rw [take_snoc hn]; intro a ha; simp at ha; omega
      · exact hR M t' h2 tk2 hT fun b o hb hbS q => hk2 b o hb hbS ((Heap.get?_update_other _ _ (Ne.symm hbS)).trans (kept b o hb q))
    · show wpAny _ A.in1 (tryCatch (holding [.int n t, .int n t] (richCompare .Gt (.int n t) (.int M t2) >>= _)) _ >>= _) _ _ _
      refine wpAny_bind (wpAny_tryCatch (wpAny_holding (wpAny_bind (CmpOf.ints_gt (P := fun i v => ∃ t, v = .int ([n, M].getD i 0) t) (fun i => [n, M].getD i 0) (fun _ _ q => q) 0 1 (.int n t) (.int M t2) _ _ _ ⟨t, rfl⟩ ⟨t2, rfl⟩ ?_))))
      refine wpAny_bind (wpAny_holding (wpAny_truthy_bool ?_))
      refine wpAny_bind (wpAny_letGo (wpAny_pure ?_))
      cases hb : decide ([n, M].getD 0 0 > [n, M].getD 1 0) with
      | true =>
        have hc : n > M := of_decide_eq_true hb
        rw [if_pos hb]
        refine wpAny_bind ?_
        refine wpAny_updateSeq hS' rfl (wpAny_bind (wpAny_letGo ?_))
        rw [hname]
        refine wpAny_pure ⟨plainId_quiet F.plain_max_loop _, ih (j + 1) _ #[.int n t, .int n t] _ (by omega) (by omega) ?_ ?_ (Heap.get?_update_self _ hS' rfl) (.inr ⟨n, t, rfl, ?_, ?_⟩) fun M' t' h2 tk2 hT hk2 => ?_⟩
        · exact hst'.1.at fun o q => (Heap.get?_update_other _ _ (Ne.symm hIS)).trans q
        · exact hst'.2.at fun o q => (Heap.get?_update_other _ _ (Ne.symm hlS)).trans q
        · rw [take_snoc hn]; simp
        · rw [take_snoc hn]; intro a ha
          rcases List.mem_append.mp ha with ha | ha
          · have := hM2 a ha; omega
          · simp at ha; omega
        · exact hR M' t' h2 tk2 hT fun b o hb hbS q => hk2 b o hb hbS ((Heap.get?_update_other _ _ (Ne.symm hbS)).trans (kept b o hb q))
      | false =>
        have hc : ¬ n > M := of_decide_eq_false hb
        rw [if_neg (Bool.eq_false_iff.mp hb)]
        refine wpAny_bind (wpAny_letGo ?_)
        rw [hname]
        refine wpAny_pure ⟨plainId_quiet F.plain_max_loop _, ih (j + 1) _ #[.int M t2, .int M t2] c (by omega) (by omega) hst'.1 hst'.2 hS' (.inr ⟨M, t2, rfl, ?_, ?_⟩) fun M' t' h2 tk2 hT hk2 => ?_⟩
        · rw [take_snoc hn]; simp [hM]
        · rw [take_snoc hn]; intro a ha
          rcases List.mem_append.mp ha with ha | ha
          · exact hM2 a ha
          · simp at ha; omega
        · exact hR M' t' h2 tk2 hT fun b o hb hbS q => hk2 b o hb hbS (kept b o hb q)
end
section
variable {X : Cx}
theorem call_maxD {pins : List (Addr × Obj)} {σ : St} {H : Hp} {s : Shared} {Q : VK} {a : Addr} {ns : List Int} {d : Int} {td : Tok} (hc : X.calm = true) (I : Inv X pins σ H s) (hq : SqL X.K H a (ns.map V.int)) (q : ∀ M, TopOf ns d M → Q (.int M) H) :
    wpAny (model X.prog X.w) X.A (call (.builtin "max") [.ref a] [(Str.ofString "default", .int d td)]) (EP X pins σ Q) X.xe s := by
  obtain ⟨its, r, pl, hz⟩ := I.list hq
  have hI := intsAre_of r
  have hlt : a < s.heap.objs.size := by obtain ⟨_, e, _⟩ := pl.isList; exact Heap.lt_size e
  have hname : (toString "max" ++ toString ".loop" : String) = "max.loop" := by decide
  refine kmk_tree F.kind_max F.plain_max F.entry_max (args_maxD _ _) ?_
  show wpAny _ X.A.in1 (Builtin.Builtins.bindParams "max" ["key", "default"] 0 ⟨[], [(Str.ofString "default", .int d td)]⟩ >>= _) _ _ s
  refine wpAny_bind (wpAny_of_eq (show Builtin.Builtins.bindParams "max" ["key", "default"] 0 ⟨[], [(Str.ofString "default", .int d td)]⟩ = pure [none, some (.int d td)] from rfl) ?_)
  refine wpAny_bind (wpAny_pure ?_)
  refine wpAny_bind (wpAny_pyIter_list pl.isList ?_)
  refine wpAny_bind (wpAny_newList ?_ (Nat.zero_le _))
  rw [hname]
  have e1 : (s.heap.push { cls := .type "list_iterator", data := .fields #[.ref a, .int 0 0] }).objs.size = s.heap.objs.size + 1 := Heap.size_push ..
  refine wpAny_pure ⟨plainId_quiet F.plain_max_loop _, maxD_loop (I.ok.hd hc) hI d td (I := s.heap.objs.size) (l := a) (by rw [e1]; exact Nat.ne_of_lt (Nat.lt_succ_self _)) (by rw [e1]; exact Nat.ne_of_lt (Nat.lt_succ_of_lt hlt)) (Nat.ne_of_lt hlt) its.length 0 _ #[] _ (by omega) (Nat.zero_le _)
    ⟨_, Heap.get?_push_of_some _ (Heap.get?_push_size _ rfl), rfl, rfl⟩ ((pl.isList.push _).push _) (Heap.get?_push_size _ rfl) (.inl ⟨rfl, rfl⟩) fun M t h' tk hT hk => ?_⟩
  have I' : Inv X pins σ H { s with heap := h', toks := tk } := I.kept fun b o e => hk b o (Nat.ne_of_lt (Heap.lt_size e)) (by rw [e1]; exact Nat.ne_of_lt (Nat.lt_succ_of_lt (Heap.lt_size e))) (Heap.get?_push_of_some _ (Heap.get?_push_of_some _ e))
  exact ⟨.int M, H, I', ⟨t, rfl⟩, q M hT⟩
theorem bt_max : bootBuiltins "max" = some (.builtin "max") := by decide +kernel
def tMaxD (K : PySem.W.Frag) (t tk : TA) : TE := fun σ H Q => t σ H fun vs H1 => tk σ H1 fun zs H2 => ∃ a ns d, vs = [.ref a] ∧ zs = [.int d] ∧ SqL K H2 a (ns.map V.int) ∧ ∀ M, TopOf ns d M → Q (.int M) H2
theorem pe_maxD {e d : Expr} {p pos kpos : Pos} {t tk : TA} (hc : X.calm = true) (hg : Gl X "max") (hm : X.mg "max" = none) (ha : PA X [e] t) (hk : PK X [⟨some "default", d, kpos⟩] tk)
    (he : backTo pos (starEach [e] X.env) = (false, eval e X.env) :: backTo pos (starEach [] X.env) := by rfl) (hplain : (backTo pos (starEach [e] X.env)).any (·.1) = false := by rfl) :
    PE X (.Call (.Name "max" p) [e] [⟨some "default", d, kpos⟩] pos) (tMaxD X.K t tk) := by
  intro pins s σ H Q I h
  refine wpAny_Call_Name_kw (ld_blt I hg hm bt_max ?_)
  refine callWith_kw (thn (ha pos pins s σ H _ I h) fun us s1 ⟨vs, H1, I1, r1, q1⟩ => thn (hk pos pins s1 σ H1 _ I1 q1) fun ws s2 ⟨zs, H2, I2, r2, q2⟩ => ?_) he hplain
  obtain ⟨a, ns, n, rfl, rfl, hq, q⟩ := q2
  obtain ⟨u, rfl, ru⟩ := r1.one
  obtain ⟨z, rfl, rz⟩ := r2.one
  cases (show u = Value.ref a from ru)
  obtain ⟨tz, rfl⟩ := rz
  exact call_maxD hc I2 hq q
end
section
variable {X : Cx}
end
end L2
set_option Elab.async false
set_option linter.all false
set_option maxRecDepth 100000
set_option maxHeartbeats 4000000
namespace L2
open PySem PySem.Spec PyProof.Rows
section
variable {X : Cx} {K : PySem.W.Frag}
theorem ixK_list (hK : X.K = K := by rfl) : IxR X (rIxL K) := hK ▸ ix_list
theorem ixK_tup (hK : X.K = K := by rfl) : IxR X (rIxT K) := hK ▸ ix_tup
theorem slK_list (hK : X.K = K := by rfl) : SlR X (rSlL K) := hK ▸ sl_list
theorem opK_in (hK : X.K = K := by rfl) : OpR X (compareOp .In) (rIn K false) := hK ▸ op_in_seq
def rLenSeq (K : PySem.W.Frag) : List V → Hp → VK → Prop := fun xs H Q => ∃ p ys, xs = [.ref p] ∧ (SqL K H p ys ∨ SqT K H p ys) ∧ Q (.int ys.length) H
theorem callK_len_seq (hK : X.K = K := by rfl) : CallR X (.builtin "len") (rLenSeq K) := hK ▸ call_len_seq
def rListOf (K : PySem.W.Frag) : List V → Hp → VK → Prop := fun xs H Q => ∃ p ys, xs = [.ref p] ∧ (SqL K H p ys ∨ SqT K H p ys) ∧ ∀ l, H l = none → Q (.ref l) (upd H l (.lst ys))
theorem callK_list_of (hK : X.K = K := by rfl) : CallR X (.type "list") (rListOf K) := hK ▸ call_list_of
theorem callK_isi (hK : X.K = K := by rfl) : CallR X (.builtin "isinstance") (rIsi K) := hK ▸ call_isi
theorem callK_isiT (hK : X.K = K := by rfl) : CallR X (.builtin "isinstance") (rIsiT K) := hK ▸ call_isiT
theorem pgK_tup {es : List Expr} {k : Nat} {t : TGs} {n : Nat} {pos : Pos} (hc : X.calm = true) (h : PGs X es t) (hK : X.K = K := by rfl) (hn : (assignEach es X.env).length = n := by rfl) (hst : (assignEach es X.env).findIdx? (·.1) = none := by rfl) :
    PG X (.Tuple es k pos) (gTup K n t) := hK ▸ pg_tup hc h hn hst
variable {o e : Expr} {es : List Expr} {to : TE} {t : TA} {name : Str} {apos cpos : Pos} {T id : String} {r : V → List V → Hp → VK → Prop}
theorem pe_bmK (pa : PlainAttrs T) (slot : Slot T name id) (hty : typeOf (.builtin id) = pure (.type "method_descriptor")) (hm : MtR X id r) (ho : PE X o to) (ha : PA X (e :: es) t) (hK : X.K = K := by rfl)
    (hbase : attributeBase o name X.env (eval o X.env) = eval o X.env := by rfl)
    (hfew : ((backTo cpos (starEach (e :: es) X.env)).all (fun x => !x.1) && (backToKw cpos (keywordEach [] X.env)).all (fun x => x.1.isSome)
      && decide ((e :: es).length + ([] : List Keyword).length + (if ([] : List Keyword).isEmpty then 0 else 1) < 30)) = true := by rfl)
    (hline : (apos.endLine == cpos.line) = true := by rfl) (hs : starEach (e :: es) X.env = (false, eval e X.env) :: starEach es X.env := by rfl) (hplain : (backTo cpos (starEach es X.env)).any (·.1) = false := by rfl) :
    PE X (.Call (.Attribute o name apos) (e :: es) [] cpos) (tBM K T r to t) := hK ▸ pe_bm pa slot hty hm ho ha hbase hfew hline hs hplain
end
end L2
set_option Elab.async false
set_option linter.all false
set_option maxRecDepth 100000
set_option maxHeartbeats 4000000
namespace L2
open PySem PySem.Spec PyProof.Rows
section
variable {X : Cx}
end
section
variable {X : Cx} {tg : Expr}
end
end L2
set_option Elab.async false
set_option linter.all false
set_option maxRecDepth 100000
set_option maxHeartbeats 4000000
namespace L2
open PySem PySem.Spec PyProof.Rows
theorem frames_mono {h h' B B' : Heap} : ∀ {l : List Env}, h.FunFrames B l → (∀ b ∈ frs l, h'.get? b = h.get? b) → (∀ b, B.get? b = none → B'.get? b = none) → h'.FunFrames B' l
  | [], _, _, _ => trivial
  | env :: rest, ⟨k, ⟨L, o, f, b, g, n⟩, r⟩, hk, hb => by
    refine ⟨k, ⟨L, o, f, hb L b, (hk L ?_).trans g, n⟩, frames_mono r (fun c hc => hk c ?_) hb⟩
    · exact List.mem_filterMap.mpr ⟨env, List.mem_cons_self, f⟩
    · obtain ⟨e, he, q⟩ := List.mem_filterMap.mp hc
      exact List.mem_filterMap.mpr ⟨e, List.mem_cons_of_mem _ he, q⟩
section
variable {X : Cx} {E : XK} {pins pins' : List (Addr × Obj)} {σ σ' : St} {H3 H' : Hp} {s3 s' : Shared} {scope : Scope} {Nc : List Str} {C a : Addr} {fp : List Addr} {xe : Value → Shared → Prop} {cls : Value} {cx : Option Addr} {B : Heap}
theorem comp_error (acc : XAcc X E) (I3 : Inv X pins σ H3 s3) (hC : C = s3.heap.objs.size) (hfp : ∀ b ∈ fp, FpOk X pins H3 b) (I : Inv (compCx X scope Nc C s3 H3 fp xe) pins' σ' H' s') (x : XAt (compCx X scope Nc C s3 H3 fp xe) pins' H' s' a cls cx B .any) (hE : E cls cx H') :
    ∃ m, s'.heap.Ns C m ∧ ∀ h', Heap.SameBut C s'.heap h' → ∀ cenv : Env, cenv.locals = C → wpAny (model X.prog X.w) X.A (passOn "comprehension.variables-let-go" (.ref a) cenv : Sem Value) (fun _ _ => False) X.xe { s' with heap := h' } := by
  obtain ⟨m, hn, _⟩ := id I.loc
  refine ⟨m, hn, fun h' hs cenv _ => ?_⟩
  have J : Inv X pins σ H' s' := I3.call' (ch := fp) (I.os.trans rfl) I.base I.hok I.bare fun b hb => ⟨(hfp b hb).2.2.2.1, (hfp b hb).2.1, (hfp b hb).2.2.2.2.1, (hfp b hb).2.2.2.2.2⟩
  have lt3 : ∀ b o, s3.heap.get? b = some o → b ≠ C := fun b o g z => absurd (Heap.lt_size g) (by rw [z, hC]; exact Nat.lt_irrefl _)
  have hCL : C ≠ X.env.locals := by rw [hC]; exact Nat.ne_of_gt I3.lt
  have hsz : X.s₀.heap.objs.size ≤ C := by rw [hC]; exact I3.sz
  have hcl : ∀ y c, X.env.cells.lookup y = some c → c ≠ C := fun y c e z => by
    obtain ⟨v, o, ho, _⟩ := I3.cell y c e
    exact lt3 c o ho z
  have hpn : ∀ p ∈ X.pn ++ pins, p.1 ≠ C := fun p hp z => lt3 p.1 p.2 (I3.pin p hp).1 z
  have hC0 : H' C = none := I.free
  have J' : Inv X pins σ H' { s' with heap := h' } := J.turned (t' := s'.toks) (fun b o hb e => (hs.2 b hb).trans e) hC0 hCL (.inr hsz) hcl hpn
  have nC : ∀ b ∈ frs X.stack, b ≠ C := fun b hb => by
    obtain ⟨_, o, g, _⟩ := I3.stack.mem hb
    exact lt3 b o g
  obtain ⟨fl, oe, vs, T, oT, ts, ⟨ge, ec, de⟩, ⟨z1, z2⟩, ⟨bT, nT⟩, gT, dT, z3⟩ := x.tr
  have nf : ∀ {b : Addr} {o : Obj} {ws : Array Value}, s'.heap.get? b = some o → o.data = .fields ws → b ≠ C := fun g d z => by
    obtain ⟨o, es, ep, ho, hd, _⟩ := id hn
    rw [z] at g
    have : s'.heap.get? C = some o := ho
    rw [g] at this; cases this
    rw [d] at hd; cases hd
  have ge' := (hs.2 a (nf ge de)).trans ge
  have gT' := (hs.2 T (nf gT dT)).trans gT
  have hid : ∀ {b : Addr}, B.get? b = none → (PySem.W.hideAll B [C]).get? b = none := fun {b} q => by
    cases w : (PySem.W.hideAll B [C]).get? b with
    | none => rfl
    | some o => rw [PySem.W.of_hideAll _ w] at q; cases q
  have st : (PySem.W.hideAll B [C]).StaysIn h' := fun b o e => by
    have hb : b ≠ C := fun z => by rw [z, PySem.W.hideAll_none [C] (by simp)] at e; cases e
    exact (hs.2 b hb).trans (x.stays b o (PySem.W.of_hideAll _ e))
  have ff : h'.FunFrames (PySem.W.hideAll B [C]) X.stack := frames_mono x.frames (fun b hb => hs.2 b (nC b hb)) fun b q => hid q
  have tr : TrX h' (PySem.W.hideAll B [C]) a cls cx fl := ⟨oe, vs, T, oT, ts, ⟨ge', ec, de⟩, ⟨z1, z2⟩, ⟨hid bT, nT⟩, gT', dT, z3⟩
  have xx : XAt X pins H' { s' with heap := h' } a cls cx (PySem.W.hideAll B [C]) .any := by
    refine ⟨x.free, st, hid x.fresh, ff, fun b o e i n => ?_, fl, tr⟩
    have hb : b ≠ C := by
      rcases i with i | ⟨_, o', i⟩ | ⟨p, hp, q⟩
      · exact fun z => i (by rw [z]; exact hC0)
      · exact Nat.ne_of_lt (Nat.lt_of_lt_of_le (Heap.lt_size i) hsz)
      · rw [← q]; exact hpn p hp
    refine PySem.W.hideAll_get _ (x.cov b o ((hs.2 b hb).symm.trans e) ?_ n) (by simpa using hb)
    by_cases hh : H' b = none
    · refine .inr (.inl ⟨fun hf => ?_, ?_⟩)
      · obtain ⟨_, _, _, f4, _, f6⟩ := hfp b hf
        rcases i with i | ⟨hx, o', i⟩ | ⟨p, hp, q⟩
        · exact i hh
        · rcases f4 with f4 | f4
          · exact hx f4
          · exact absurd (Nat.lt_of_lt_of_le (Heap.lt_size i) f4) (Nat.lt_irrefl _)
        · exact f6 p hp q
      · rcases i with i | ⟨hx, o', i⟩ | ⟨p, hp, q⟩
        · exact absurd hh i
        · exact I3.base.there b o' i hx
        · exact ⟨p.2, by rw [← q]; exact (I3.pin p hp).1⟩
    · exact .inl hh
  unfold PySem.passOn
  refine wpAny_bind (wpAny_field (s := { s' with heap := h' }) ge' de z1 ?_)
  rw [if_neg (by simp)]
  refine wpAny_bind (flight_x (s := { s' with heap := h' }) st ff tr fun h2 k => wpAny_throw ?_)
  exact acc pins σ H' _ a cls cx _ .any (J'.exc xx.cov k.1 k.2.2.2) ⟨xx.free, k.1, xx.fresh, k.2.1, xx.cov' J' k.1, _, k.2.2.1⟩ hE
end
def compXe (X : Cx) (scope : Scope) (Nc : List Str) (C : Addr) (H3 : Hp) (fp : List Addr) (pins : List (Addr × Obj)) (σ : St) (E : XK) : Value → Shared → Prop := fun e s' =>
  ∃ s3 a cls cx H' B ph pins' σ', e = .ref a ∧ Inv X pins σ H3 s3 ∧ C = s3.heap.objs.size ∧ (∀ b ∈ fp, FpOk X pins H3 b) ∧ Inv (compCx X scope Nc C s3 H3 fp fun _ _ => False) pins' σ' H' s' ∧ XAt (compCx X scope Nc C s3 H3 fp fun _ _ => False) pins' H' s' a cls cx B ph ∧ E cls cx H'
section
variable {X : Cx} {E : XK} {elt tg iter : Expr} {ifs : List Expr} {scope : Scope} {pos : Pos} {Nc : List Str} {k : Nat} {js : List Nat} {wi : TI} {g : TG} {tf : TT} {te : TE}
theorem comp_acc {pins : List (Addr × Obj)} {σ : St} {H3 : Hp} {s3 : Shared} {C : Addr} {fp : List Addr} (I3 : Inv X pins σ H3 s3) (hC : C = s3.heap.objs.size) (hfp : ∀ b ∈ fp, FpOk X pins H3 b) : XAcc (compCx X scope Nc C s3 H3 fp (compXe X scope Nc C H3 fp pins σ E)) E :=
  fun pins' σ' H' s' a cls cx B ph I x hE => ⟨s3, a, cls, cx, H', B, ph, pins', σ', rfl, I3, hC, hfp, I.wish _, ⟨x.free, x.stays, x.fresh, x.frames, x.cov, x.tr⟩, hE⟩
theorem comp_noted {pins : List (Addr × Obj)} {σ : St} {H3 : Hp} {C F : Addr} {fp : List Addr} {env0 : Env} {out0 : List Env} {R : Value → Shared → Prop} (acc : XAcc X E) (hs0 : X.stack = env0 :: out0) (h0 : env0.frame = X.env.frame) (hF : X.env.frame = some F)
    (hR : ∀ a s', (∃ m, s'.heap.Ns C m ∧ ∀ h', Heap.SameBut C s'.heap h' → ∀ cenv : Env, cenv.locals = C → wpAny (model X.prog X.w) X.A (passOn "comprehension.variables-let-go" (.ref a) cenv : Sem Value) (fun _ _ => False) X.xe { s' with heap := h' }) → R (.ref a) s') :
    ∀ e s', compXe X scope Nc C H3 fp pins σ E e s' → notedBy (model X.prog X.w) X.A (compEnvC scope (capOf X.env.cells scope.names []) C X.env) R e s' := by
  rintro e s' ⟨s3, a, cls, cx, H', B, ph, pins', σ', rfl, I3, hC, hfp, I, x, hE⟩
  unfold notedBy
  exact note_ok (X := compCx X scope Nc C s3 H3 fp fun _ _ => False) I.ok.frames hs0 h0 hF I x fun h1 I1 x1 => hR a _ (comp_error acc I3 hC hfp I1 x1 hE)
theorem pe_compX {env0 : Env} {out0 : List Env} {F : Addr} (acc : XAcc X E) (hc : X.calm = true) (S : CompSc X.env.scope scope X.N Nc k js) (hi : PI X tg iter wi) (hg : ∀ C s3 H3 fp xe, PG (compCx X scope Nc C s3 H3 fp xe) tg g) (hf : ∀ C s3 H3 fp xe, PF (compCx X scope Nc C s3 H3 fp xe) ifs tf)
    (he : ∀ C s3 H3 fp xe, XAcc (compCx X scope Nc C s3 H3 fp xe) E → PE (compCx X scope Nc C s3 H3 fp xe) elt te) (hs : ∀ x, foldedSetIterable iter X.env x = pure x := by intro _; rfl)
    (hs0 : X.stack = env0 :: out0 := by rfl) (h0 : env0.frame = X.env.frame := by rfl) (hF : X.env.frame = some F := by rfl) : PE X (.ListComp elt [⟨tg, iter, ifs, 0⟩] scope pos) (tComp wi g tf te k js) := by
  intro pins s σ H Q I h
  rw [eval_ListComp]
  refine wpAny_comprehension_free (use := none) rfl hs (closure_cap (comp_cells I S)) S.kind S.names (thn (hi pins s σ H _ I h) fun v s1 h1 => thn h1 fun itv s2 h2 => ?_)
  obtain ⟨it, fp, tn, J, H2, rfl, I2, T, st2, f2, hR⟩ := h2
  refine comp_block (RR := fun acc C => compPost (model X.prog X.w) X.A X.xe none (EP X pins σ Q) acc C) (Fin := fun D H' => Q (.ref D) H') hc S hg hf
    (fun C D H3 => ⟨compXe X scope Nc C H3 fp pins σ E, comp_noted acc hs0 h0 hF fun a s' z => z, fun s3 I3 hC hfp => he _ _ _ _ _ (comp_acc I3 hC hfp)⟩) I2 T st2 f2 hR ?_
  intro D C H' s' m' I' hn hC hCL hsz hcl hpn q
  exact ⟨m', hn, fun h' hs' => ⟨.ref D, H', I'.turned (t' := s'.toks) (fun b o hb e => (hs'.2 b hb).trans e) hC hCL (.inr hsz) hcl hpn, rfl, q⟩⟩
end
end L2
set_option Elab.async false
set_option linter.all false
set_option maxRecDepth 100000
set_option maxHeartbeats 4000000
namespace L2
open PySem PySem.Spec PyProof.Rows
def Itz (K : PySem.W.Frag) (a b : Addr) : It :=
  ⟨fun i H => ∃ xs ys x y, SqL K H a xs ∧ SqL K H b ys ∧ xs[i]? = some x ∧ ys[i]? = some y, fun i H v H' => ∃ p x y, v = .ref p ∧ H p = none ∧ H' = upd H p (.tup [x, y]) ∧ (∀ xs, SqL K H a xs → xs[i]? = some x) ∧ ∀ ys, SqL K H b ys → ys[i]? = some y,
   fun i H => ∃ xs ys, SqL K H a xs ∧ SqL K H b ys ∧ (xs.length ≤ i ∨ ys.length ≤ i)⟩
theorem turn_zip {P : Program} {w : World} {K : PySem.W.Frag} {elts : List Expr} {x1} {tpos : Pos} (l1 l2 z TI TO i1 i2 : Addr) (D : ZipApart z TI TO i1 i2 l1 l2) : Turn P w K (.Tuple elts x1 tpos) (Itz K l1 l2) [z, TI, TO, i1, i2] z
    (fun i h => IsZip h z TI TO .none ∧ IsPair h TI (.ref i1) (.ref i2) ∧ (∃ a b, IsPair h TO a b) ∧ h.IsListIter i1 l1 i ∧ h.IsListIter i2 l2 i) where
  mem := by simp
  obj := fun i h ⟨hz, hTI, ⟨a, b, hTO⟩, h1, h2⟩ c hc => by
    simp only [List.mem_cons, List.not_mem_nil, or_false] at hc
    rcases hc with rfl | rfl | rfl | rfl | rfl
    · exact ⟨_, hz, fun v z => nomatch (show Data.fields _ = Data.cell v from z)⟩
    · exact ⟨_, hTI, fun v z => nomatch (show Data.seq _ _ = Data.cell v from z)⟩
    · exact ⟨_, hTO, fun v z => nomatch (show Data.seq _ _ = Data.cell v from z)⟩
    · obtain ⟨o, e1, c, d⟩ := h1; exact ⟨o, e1, fun v z => by rw [d] at z; cases z⟩
    · obtain ⟨o, e1, c, d⟩ := h2; exact ⟨o, e1, fun v z => by rw [d] at z; cases z⟩
  keep := fun i h h' ⟨hz, hTI, ⟨a, b, hTO⟩, h1, h2⟩ k => ⟨k z (by simp) _ hz, k TI (by simp) _ hTI, ⟨a, b, k TO (by simp) _ hTO⟩, h1.at fun o q => k i1 (by simp) o q, h2.at fun o q => k i2 (by simp) o q⟩
  item := by
    intro X hP hw hK hc i pins s σ H E I hf st hg
    subst hP hw hK
    obtain ⟨hz, hTI, ⟨a, b, hTO⟩, h1, h2⟩ := st
    obtain ⟨xs, ys, x, y, hq, hq', hx, hy⟩ := hg
    obtain ⟨its, rv, p, _⟩ := I.list hq
    obtain ⟨u, hu, ru⟩ := rv.get hx
    obtain ⟨its', rv', p', _⟩ := I.list hq'
    obtain ⟨u', hu', ru'⟩ := rv'.get hy
    refine wpAny_pyNext_zip_item D hz hTI hTO h1 h2 p.isList p'.isList (x := u) (y := u') (by simpa using hu) (by simpa using hu') fun h' q1 q2 q3 q4 q5 q6 q7 => ⟨_, rfl, ?_⟩
    refine wpAny_letOwnedTupleGo_zip (s := { s with heap := h', toks := s.toks }) q1 fun h3 r1 r2 => ?_
    have nez : s.heap.objs.size ≠ z := Nat.ne_of_gt (Heap.lt_size hz)
    have k2 : ∀ c o, c ∉ [z, TI, TO, i1, i2] → s.heap.get? c = some o → h3.get? c = some o := fun c o hb q =>
      (r2.2 c fun e => hb (by simp [e])).trans (q7 c o (fun e => hb (by simp [e])) (fun e => hb (by simp [e])) (fun e => hb (by simp [e])) (fun e => hb (by simp [e])) q)
    have I1 : Inv X pins σ (upd H s.heap.objs.size (.tup [x, y])) { s with heap := h3, toks := s.toks } := I.turnedL k2 hf (Nat.le_refl _)
      ⟨by show 2 ≤ sizeLine; decide, [u, u'], .cons ru (.cons ru' .nil), ⟨_, (r2.2 _ nez).trans q5, rfl, _, rfl⟩⟩
    refine ⟨.ref s.heap.objs.size, _, I1, rfl, ⟨_, x, y, rfl, I.fresh, rfl, (fun zs hs => by rw [I.list_inj hs hq]; exact hx), fun zs hs => by rw [I.list_inj hs hq']; exact hy⟩,
      ⟨r1, (r2.2 _ D.TIz).trans (q7 _ _ D.TIz D.TITO D.TIi1 D.TIi2 hTI), ⟨_, _, (r2.2 _ D.TOz).trans q2⟩, q3.extBut r2.extBut D.i1z, q4.extBut r2.extBut D.i2z⟩, fun c hc => ?_⟩
    have : ∃ o, s.heap.get? c = some o := by
      simp only [List.mem_cons, List.not_mem_nil, or_false] at hc
      rcases hc with rfl | rfl | rfl | rfl | rfl
      · exact ⟨_, hz⟩
      · exact ⟨_, hTI⟩
      · exact ⟨_, hTO⟩
      · obtain ⟨o, e1, _⟩ := h1; exact ⟨o, e1⟩
      · obtain ⟨o, e1, _⟩ := h2; exact ⟨o, e1⟩
    obtain ⟨o, e1⟩ := this
    rw [upd_ne (Nat.ne_of_lt (Heap.lt_size e1))]
    exact (hf c hc).1
  done := by
    intro X hP hw hK hc i pins s σ H E I hf st hg
    subst hP hw hK
    obtain ⟨hz, hTI, ⟨a, b, hTO⟩, h1, h2⟩ := st
    obtain ⟨xs, ys, hq, hq', hx⟩ := hg
    obtain ⟨its, rv, p, _⟩ := I.list hq
    obtain ⟨its', rv', p', _⟩ := I.list hq'
    have hl := rv.length
    have hl' := rv'.length
    refine wpAny_pyNext_zip_end (I.ok.hd hc) D hz hTI hTO h1 h2 p.isList p'.isList (hx.imp (fun h => by simp; omega) fun h => by simp; omega) fun h' eb => ⟨rfl, I.turnedN (t' := s.toks) (fun c o hb q => ?_) hf⟩
    exact eb c o (fun e => hb (by simp [e])) (fun e => hb (by simp [e])) (fun e => hb (by simp [e])) (fun e => hb (by simp [e])) q
  self := fun _ _ _ _ _ st h => wpAny_pyIter_zip st.1 h
theorem comp_zip {K : PySem.W.Frag} {a b : Addr} {xs ys : List V} {g : TG} {tf : TT} {te : TE} {k : Nat} {σ0 : St} {D : Addr} {Fin : Hp → Prop} {H1 : Hp} (Pv : Nat → List V → Hp → Prop) (h0 : Pv 0 [] (upd H1 D (.lst []))) (hl : ∀ i zs H, Pv i zs H → SqL K H a xs ∧ SqL K H b ys)
    (hs : ∀ i x y zs H p, xs[i]? = some x → ys[i]? = some y → Pv i zs H → H p = none → g (.ref p) σ0 (upd H p (.tup [x, y])) fun σ2 H2 => (σ2.drop k = σ0.drop k ∧ σ2.length = σ0.length) ∧ tf σ2 H2 fun b H3 =>
      if b = true then te σ2 H3 fun y H4 => H4 D = some (.lst zs) ∧ zs.length < sizeLine ∧ Pv (i + 1) (zs ++ [y]) (upd H4 D (.lst (zs ++ [y]))) else Pv (i + 1) zs H3)
    (hd : ∀ zs H, Pv (min xs.length ys.length) zs H → Fin H) : tCompR (Itz K a b) g tf te k σ0 D Fin H1 := by
  refine ⟨fun i m zs H => m = min xs.length ys.length - i ∧ i ≤ min xs.length ys.length ∧ Pv i zs H, ⟨min xs.length ys.length, by simp, Nat.zero_le _, h0⟩, ?_⟩
  rintro i m zs H ⟨rfl, hi, p⟩
  obtain ⟨q, q'⟩ := hl i zs H p
  by_cases hlt : i < min xs.length ys.length
  · have h1 : i < xs.length := by omega
    have h2 : i < ys.length := by omega
    refine .inr ⟨⟨xs, ys, xs[i], ys[i], q, q', by simp [h1], by simp [h2]⟩, Pv (i + 1), fun ys' H' z => ⟨_, by omega, rfl, hlt, z⟩, fun v H' y => ?_⟩
    obtain ⟨c, x, y', rfl, hc, rfl, e1, e2⟩ := y
    exact hs i x y' zs _ c (e1 xs q) (e2 ys q') p hc
  · have e : i = min xs.length ys.length := by omega
    subst e
    exact .inl ⟨⟨xs, ys, q, q', by omega⟩, hd zs H p⟩
theorem for_zip {K : PySem.W.Frag} {a b : Addr} {xs ys : List V} {g : TG} {tb : TS} {D : Ends} {σ : St} {H : Hp} (Pv : Nat → St → Hp → Prop) (h0 : Pv 0 σ H) (hl : ∀ i σ H, Pv i σ H → SqL K H a xs ∧ SqL K H b ys)
    (hs : ∀ i x y σ H p, xs[i]? = some x → ys[i]? = some y → Pv i σ H → H p = none → g (.ref p) σ (upd H p (.tup [x, y])) fun σ2 H2 => tb { D with nx := Pv (i + 1), ct := Pv (i + 1), bk := D.nx } σ2 H2) (hd : ∀ σ H, Pv (min xs.length ys.length) σ H → D.nx σ H) :
    ∃ W : Nat → Nat → St → Hp → Prop, (∃ m, W 0 m σ H) ∧ ∀ i m σ H, W i m σ H →
      ((Itz K a b).stop i H ∧ D.nx σ H) ∨ ((Itz K a b).go i H ∧ ∃ N : St → Hp → Prop, (∀ σ' H', N σ' H' → ∃ m', m' < m ∧ W (i + 1) m' σ' H') ∧ ∀ x H', (Itz K a b).yld i H x H' → g x σ H' fun σ2 H2 => tb { D with nx := N, ct := N, bk := D.nx } σ2 H2) := by
  refine ⟨fun i m σ H => m = min xs.length ys.length - i ∧ i ≤ min xs.length ys.length ∧ Pv i σ H, ⟨min xs.length ys.length, by simp, Nat.zero_le _, h0⟩, ?_⟩
  rintro i m σ H ⟨rfl, hi, p⟩
  obtain ⟨q, q'⟩ := hl i σ H p
  by_cases hlt : i < min xs.length ys.length
  · have h1 : i < xs.length := by omega
    have h2 : i < ys.length := by omega
    refine .inr ⟨⟨xs, ys, xs[i], ys[i], q, q', by simp [h1], by simp [h2]⟩, Pv (i + 1), fun ys' H' z => ⟨_, by omega, rfl, hlt, z⟩, fun v H' y => ?_⟩
    obtain ⟨c, x, y', rfl, hc, rfl, e1, e2⟩ := y
    exact hs i x y' σ _ c (e1 xs q) (e2 ys q') p hc
  · have e : i = min xs.length ys.length := by omega
    subst e
    exact .inl ⟨⟨xs, ys, q, q', by omega⟩, hd σ H p⟩
theorem bt_zip : bootBuiltins "zip" = some (.type "zip") := by decide +kernel
def iZip (K : PySem.W.Frag) (ta : TA) : TI := fun σ H R => ta σ H fun vs H1 => ∃ a b, vs = [.ref a, .ref b] ∧ (∃ xs, SqL K H1 a xs) ∧ (∃ ys, SqL K H1 b ys) ∧ R (Itz K a b) H1
section
variable {X : Cx}
theorem pi_zip {elts : List Expr} {x1} {tpos : Pos} {l l' : Expr} {ta : TA} {p pos : Pos} (hg : Gl X "zip") (hm : X.mg "zip" = none) (ha : PA X [l, l'] ta) (hs : starEach [l, l'] X.env = (false, eval l X.env) :: starEach [l'] X.env := by rfl) (hpl : (backTo pos (starEach [l'] X.env)).any (·.1) = false := by rfl) :
    PI X (.Tuple elts x1 tpos) (.Call (.Name "zip" p) [l, l'] [] pos) (iZip X.K ta) := by
  intro pins s σ H R I h
  refine Call_ (ld_blt I hg hm bt_zip (PyProof.Rows.callWith_type1 (thn (ha pos pins s σ H _ I h) fun us s1 ⟨vs, H1, I1, r1, q1⟩ => ?_) hs hpl))
  obtain ⟨a, b, e, ⟨xs, hq⟩, ⟨ys, hq'⟩, q⟩ := q1
  subst e
  obtain ⟨u, u', rfl, ru, ru'⟩ : ∃ u u', us = [u, u'] ∧ RelV (.ref a) u ∧ RelV (.ref b) u' := by
    cases r1 with
    | cons r t => cases t with
      | cons r' t' => cases t'; exact ⟨_, _, rfl, r, r'⟩
  cases (show u = Value.ref a from ru)
  cases (show u' = Value.ref b from ru')
  obtain ⟨its, rv, pl, hz⟩ := I1.list hq
  obtain ⟨its', rv', pl', hz'⟩ := I1.list hq'
  refine call_zip_2 pl.isList pl'.isList fun h' q1 q2 q3 q4 q5 q6 q7 => ?_
  have I2 : Inv X pins σ H1 { s1 with heap := h' } := I1.kept (t' := s1.toks) q7
  refine wpAny_pyIter_zip (s := { s1 with heap := h' }) q1 ?_
  have la : a < s1.heap.objs.size := by obtain ⟨o, n, e, _⟩ := pl; exact Heap.lt_size e
  have lb : b < s1.heap.objs.size := by obtain ⟨o, n, e, _⟩ := pl'; exact Heap.lt_size e
  refine ⟨s1.heap.objs.size + 4, [s1.heap.objs.size + 4, s1.heap.objs.size + 2, s1.heap.objs.size + 3, s1.heap.objs.size, s1.heap.objs.size + 1], _, _, H1, rfl, I2, turn_zip a b (s1.heap.objs.size + 4) (s1.heap.objs.size + 2) (s1.heap.objs.size + 3) s1.heap.objs.size (s1.heap.objs.size + 1) ?_, ⟨q1, q2, ⟨_, _, q3⟩, q4, q5⟩, fun c hc => ?_, q⟩
  · constructor <;> (simp only [Addr, ne_eq] at *; omega)
  · have hb' : s1.heap.objs.size ≤ c := by
      simp only [List.mem_cons, List.not_mem_nil, or_false] at hc
      rcases hc with rfl | rfl | rfl | rfl | rfl <;> (simp only [Addr] at *; omega)
    exact I1.fpOk hb' (I1.hok.fresh hb')
end
end L2
set_option Elab.async false
set_option linter.all false
set_option maxRecDepth 100000
set_option maxHeartbeats 4000000
namespace L2
open PySem PySem.Spec PyProof.Rows
section
variable {X : Cx}
end
end L2
namespace L2
open PySem PySem.Spec PyProof.Rows
end L2
set_option Elab.async false
set_option linter.all false
set_option maxRecDepth 100000
set_option maxHeartbeats 4000000
namespace L2
open PySem PySem.Spec PyProof.Rows
abbrev IsTri (h : Heap) (T : Addr) (a b c : Value) : Prop := h.get? T = some { cls := .type "tuple", data := .seq #[a, b, c] }
structure Zip3 (z TI TO i1 i2 i3 l1 l2 l3 : Addr) : Prop where
  TIz : TI ≠ z
  TOz : TO ≠ z
  i1z : i1 ≠ z
  i2z : i2 ≠ z
  i3z : i3 ≠ z
  TITO : TI ≠ TO
  TIi1 : TI ≠ i1
  TIi2 : TI ≠ i2
  TIi3 : TI ≠ i3
  TOi1 : TO ≠ i1
  TOi2 : TO ≠ i2
  TOi3 : TO ≠ i3
  i12 : i1 ≠ i2
  i13 : i1 ≠ i3
  i23 : i2 ≠ i3
  l1z : l1 ≠ z
  l1TO : l1 ≠ TO
  l1i1 : l1 ≠ i1
  l1i2 : l1 ≠ i2
  l2z : l2 ≠ z
  l2TO : l2 ≠ TO
  l2i1 : l2 ≠ i1
  l2i2 : l2 ≠ i2
  l3z : l3 ≠ z
  l3TO : l3 ≠ TO
  l3i1 : l3 ≠ i1
  l3i2 : l3 ≠ i2
section
variable {prog : Program} {w : World} {A : Around} {E : Value → Shared → Prop} {s : Shared}
theorem wpAny_updateSeq_tri {T : Addr} {a b c x : Value} {k : Nat} {Q : Unit → Shared → Prop} (hT : IsTri s.heap T a b c)
    (h : ∀ h', h'.get? T = some { cls := .type "tuple", data := .seq ((#[a, b, c] : Array Value).setIfInBounds k x) } → Heap.SameBut T s.heap h' → Q () { s with heap := h' }) :
    wpAny (model prog w) A (updateSeq T (·.setIfInBounds k x)) Q E s := by
  refine wpAny_updateSeq hT rfl (h _ ?_ (Heap.SameBut.update ..))
  rw [Heap.get?_update_self _ hT rfl]
  simp [Obj.mapSeq]
theorem zip3_next_item {z TI TO i1 i2 i3 l1 l2 l3 : Addr} {k1 k2 k3 : Nat} {xs ys zs : Array Value} {x y v a b c : Value} {Q : Value → Shared → Prop} (D : Zip3 z TI TO i1 i2 i3 l1 l2 l3)
    (hz : IsZip s.heap z TI TO .none) (hTI : IsTri s.heap TI (.ref i1) (.ref i2) (.ref i3)) (hTO : IsTri s.heap TO a b c)
    (h1 : s.heap.IsListIter i1 l1 k1) (h2 : s.heap.IsListIter i2 l2 k2) (h3 : s.heap.IsListIter i3 l3 k3) (hl1 : s.heap.IsList l1 xs) (hl2 : s.heap.IsList l2 ys) (hl3 : s.heap.IsList l3 zs) (hx : xs[k1]? = some x) (hy : ys[k2]? = some y) (hv : zs[k3]? = some v)
    (hQ : ∀ h', IsZip h' z TI TO (rawInt s.heap.objs.size) → IsTri h' TO x y v → h'.IsListIter i1 l1 (k1 + 1) → h'.IsListIter i2 l2 (k2 + 1) → h'.IsListIter i3 l3 (k3 + 1) → IsTri h' s.heap.objs.size x y v → h'.objs.size = s.heap.objs.size + 1 →
      (∀ c o, c ≠ z → c ≠ TO → c ≠ i1 → c ≠ i2 → c ≠ i3 → s.heap.get? c = some o → h'.get? c = some o) → Q (.ref s.heap.objs.size) { s with heap := h' }) :
    wpAny (model prog w) A (Builtin.«zip.__next__» ⟨[.ref z], []⟩) (fun fin s' => ∃ v, fin = .done (.ret v) ∧ Q v s') E s := by
  show wpAny _ _ (field (.ref z) 2 >>= _) _ _ _
  refine wpAny_bind (wpAny_field hz rfl (x := .bool false) rfl ?_)
  show wpAny _ _ (field (.ref z) 3 >>= _) _ _ _
  refine wpAny_bind (wpAny_field hz rfl (x := .ref TI) rfl ?_)
  refine wpAny_bind (wpAny_seqItems hTI rfl ?_)
  show wpAny _ _ (Builtin.SmallTypes.ownedTupleIsFree (.ref z) >>= _) _ _ _
  refine wpAny_bind ?_
  unfold Builtin.SmallTypes.ownedTupleIsFree
  refine wpAny_bind (wpAny_field hz rfl (x := .none) rfl (wpAny_pure ?_))
  simp only [if_true]
  refine wpAny_bind (wpAny_rule ?_)
  refine wpAny_bind (wpAny_field hz rfl (x := .ref TO) rfl ?_)
  refine wpAny_bind (wpAny_setField_rec hz (by simp) fun h₁ hz₁ hs₁ => ?_)
  replace hz₁ : IsZip h₁ z TI TO .ellipsis := hz₁
  refine wpAny_bind ?_
  simp only [List.zipIdx_cons, List.zipIdx_nil, List.forIn_cons, List.forIn_nil]
  refine wpAny_bind (wpAny_bind (wpAny_onRaise ?_))
  show wpAny _ _ (Builtin.SmallTypes.nextOf (.ref i1) >>= _) _ _ _
  refine wpAny_bind (wpAny_nextOf_list_item (h1.extBut hs₁.extBut D.i1z) (hl1.extBut hs₁.extBut D.l1z) hx fun h₂ h1₂ hs₂ => wpAny_pure ?_)
  have hTO₂ : IsTri h₂ TO a b c := hs₂.extBut _ _ D.TOi1 (hs₁.extBut _ _ D.TOz hTO)
  refine wpAny_bind (wpAny_seqItems hTO₂ rfl ?_)
  refine wpAny_bind (wpAny_updateSeq_tri hTO₂ fun h₃ hTO₃ hs₃ => ?_)
  replace hTO₃ : IsTri h₃ TO x b c := hTO₃
  refine wpAny_bind (wpAny_letGo (wpAny_pure ?_))
  refine wpAny_bind (wpAny_bind (wpAny_onRaise ?_))
  show wpAny _ _ (Builtin.SmallTypes.nextOf (.ref i2) >>= _) _ _ _
  refine wpAny_bind (wpAny_nextOf_list_item (((h2.extBut hs₁.extBut D.i2z).extBut hs₂.extBut D.i12.symm).extBut hs₃.extBut D.TOi2.symm)
    (((hl2.extBut hs₁.extBut D.l2z).extBut hs₂.extBut D.l2i1).extBut hs₃.extBut D.l2TO) hy fun h₄ h2₄ hs₄ => wpAny_pure ?_)
  have hTO₄ : IsTri h₄ TO x b c := hs₄.extBut _ _ D.TOi2 hTO₃
  refine wpAny_bind (wpAny_seqItems hTO₄ rfl ?_)
  refine wpAny_bind (wpAny_updateSeq_tri hTO₄ fun h₅ hTO₅ hs₅ => ?_)
  replace hTO₅ : IsTri h₅ TO x y c := hTO₅
  refine wpAny_bind (wpAny_letGo (wpAny_pure ?_))
  refine wpAny_bind (wpAny_bind (wpAny_onRaise ?_))
  show wpAny _ _ (Builtin.SmallTypes.nextOf (.ref i3) >>= _) _ _ _
  refine wpAny_bind (wpAny_nextOf_list_item (((((h3.extBut hs₁.extBut D.i3z).extBut hs₂.extBut D.i13.symm).extBut hs₃.extBut D.TOi3.symm).extBut hs₄.extBut D.i23.symm).extBut hs₅.extBut D.TOi3.symm)
    (((((hl3.extBut hs₁.extBut D.l3z).extBut hs₂.extBut D.l3i1).extBut hs₃.extBut D.l3TO).extBut hs₄.extBut D.l3i2).extBut hs₅.extBut D.l3TO) hv fun h₆ h3₆ hs₆ => wpAny_pure ?_)
  have hTO₆ : IsTri h₆ TO x y c := hs₆.extBut _ _ D.TOi3 hTO₅
  refine wpAny_bind (wpAny_seqItems hTO₆ rfl ?_)
  refine wpAny_bind (wpAny_updateSeq_tri hTO₆ fun h₇ hTO₇ hs₇ => ?_)
  replace hTO₇ : IsTri h₇ TO x y v := hTO₇
  refine wpAny_bind (wpAny_letGo (wpAny_pure (wpAny_pure ?_)))
  refine wpAny_bind (wpAny_seqItems hTO₇ rfl ?_)
  refine wpAny_bind (wpAny_newTuple ?_)
  have hsz : h₇.objs.size = s.heap.objs.size := by rw [hs₇.1, hs₆.1, hs₅.1, hs₄.1, hs₃.1, hs₂.1, hs₁.1]
  have hz₇ : IsZip h₇ z TI TO .ellipsis := hs₇.extBut _ _ D.TOz.symm (hs₆.extBut _ _ D.i3z.symm (hs₅.extBut _ _ D.TOz.symm (hs₄.extBut _ _ D.i2z.symm (hs₃.extBut _ _ D.TOz.symm (hs₂.extBut _ _ D.i1z.symm hz₁)))))
  have hk₇ : ∀ c o, c ≠ z → c ≠ TO → c ≠ i1 → c ≠ i2 → c ≠ i3 → s.heap.get? c = some o → h₇.get? c = some o := fun c o c1 c2 c3 c4 c5 e =>
    hs₇.extBut _ _ c2 (hs₆.extBut _ _ c5 (hs₅.extBut _ _ c2 (hs₄.extBut _ _ c4 (hs₃.extBut _ _ c2 (hs₂.extBut _ _ c3 (hs₁.extBut _ _ c1 e))))))
  have h1₇ : h₇.IsListIter i1 l1 (k1 + 1) := ((((h1₂.extBut hs₃.extBut D.TOi1.symm).extBut hs₄.extBut D.i12).extBut hs₅.extBut D.TOi1.symm).extBut hs₆.extBut D.i13).extBut hs₇.extBut D.TOi1.symm
  have h2₇ : h₇.IsListIter i2 l2 (k2 + 1) := ((h2₄.extBut hs₅.extBut D.TOi2.symm).extBut hs₆.extBut D.i23).extBut hs₇.extBut D.TOi2.symm
  have h3₇ : h₇.IsListIter i3 l3 (k3 + 1) := h3₆.extBut hs₇.extBut D.TOi3.symm
  have hzlt : z < h₇.objs.size := Heap.lt_size hz₇
  show wpAny _ _ (Builtin.SmallTypes.ownedTupleHandOut (.ref z) (.ref h₇.objs.size) >>= _) _ _ _
  refine wpAny_bind ?_
  unfold Builtin.SmallTypes.ownedTupleHandOut
  have hz₈ : IsZip (h₇.push { cls := .type "tuple", data := .seq #[x, y, v] }) z TI TO .ellipsis := Heap.get?_push_of_some _ hz₇
  refine wpAny_bind (wpAny_setField_rec hz₈ (by simp) fun h₉ hz₉ hs₉ => ?_)
  replace hz₉ : IsZip h₉ z TI TO (rawInt h₇.objs.size) := hz₉
  refine wpAny_setField_rec hz₉ (by simp) fun h₁₀ hz₁₀ hs₁₀ => ?_
  replace hz₁₀ : IsZip h₁₀ z TI TO (rawInt h₇.objs.size) := hz₁₀
  have up : ∀ c o, c ≠ z → h₇.get? c = some o → h₁₀.get? c = some o := fun c o c1 e => hs₁₀.extBut _ _ c1 (hs₉.extBut _ _ c1 (Heap.get?_push_of_some _ e))
  have hT₁₀ : IsTri h₁₀ h₇.objs.size x y v := hs₁₀.extBut _ _ (Nat.ne_of_gt hzlt) (hs₉.extBut _ _ (Nat.ne_of_gt hzlt) (Heap.get?_push_size _ rfl))
  have hz10 : h₁₀.objs.size = h₇.objs.size + 1 := by rw [hs₁₀.1, hs₉.1, Heap.size_push]
  rw [hsz] at hz₁₀ hT₁₀ hz10
  refine wpAny_pure ⟨_, rfl, ?_⟩
  show Q (.ref h₇.objs.size) _
  rw [hsz]
  exact hQ h₁₀ hz₁₀ (up _ _ D.TOz hTO₇) (h1₇.at fun o e => up _ o D.i1z e) (h2₇.at fun o e => up _ o D.i2z e) (h3₇.at fun o e => up _ o D.i3z e) hT₁₀ hz10 fun c o c1 c2 c3 c4 c5 e => up c o c1 (hk₇ c o c1 c2 c3 c4 c5 e)
theorem zip3_next_end {z TI TO i1 i2 i3 l1 l2 l3 : Addr} {k1 k2 k3 : Nat} {xs ys zs : Array Value} {a b c : Value} {Q : Fin → Shared → Prop} (hh : A.handled = none) (D : Zip3 z TI TO i1 i2 i3 l1 l2 l3)
    (hz : IsZip s.heap z TI TO .none) (hTI : IsTri s.heap TI (.ref i1) (.ref i2) (.ref i3)) (hTO : IsTri s.heap TO a b c)
    (h1 : s.heap.IsListIter i1 l1 k1) (h2 : s.heap.IsListIter i2 l2 k2) (h3 : s.heap.IsListIter i3 l3 k3) (hl1 : s.heap.IsList l1 xs) (hl2 : s.heap.IsList l2 ys) (hl3 : s.heap.IsList l3 zs) (hend : xs[k1]? = none ∨ ys[k2]? = none ∨ zs[k3]? = none)
    (hE : ∀ h' e, (∀ c o, c ≠ z → c ≠ TO → c ≠ i1 → c ≠ i2 → c ≠ i3 → s.heap.get? c = some o → h'.get? c = some o) → (∃ o, h'.get? e = some o ∧ o.cls = .type "StopIteration") → E (.ref e) { s with heap := h' }) :
    wpAny (model prog w) A (Builtin.«zip.__next__» ⟨[.ref z], []⟩) Q E s := by
  show wpAny _ _ (field (.ref z) 2 >>= _) _ _ _
  refine wpAny_bind (wpAny_field hz rfl (x := .bool false) rfl ?_)
  show wpAny _ _ (field (.ref z) 3 >>= _) _ _ _
  refine wpAny_bind (wpAny_field hz rfl (x := .ref TI) rfl ?_)
  refine wpAny_bind (wpAny_seqItems hTI rfl ?_)
  show wpAny _ _ (Builtin.SmallTypes.ownedTupleIsFree (.ref z) >>= _) _ _ _
  refine wpAny_bind ?_
  unfold Builtin.SmallTypes.ownedTupleIsFree
  refine wpAny_bind (wpAny_field hz rfl (x := .none) rfl (wpAny_pure ?_))
  simp only [if_true]
  refine wpAny_bind (wpAny_rule ?_)
  refine wpAny_bind (wpAny_field hz rfl (x := .ref TO) rfl ?_)
  refine wpAny_bind (wpAny_setField_rec hz (by simp) fun h₁ hz₁ hs₁ => ?_)
  replace hz₁ : IsZip h₁ z TI TO .ellipsis := hz₁
  refine wpAny_bind ?_
  simp only [List.zipIdx_cons, List.zipIdx_nil, List.forIn_cons, List.forIn_nil]
  refine wpAny_bind (wpAny_bind (wpAny_onRaise ?_))
  show wpAny _ _ (Builtin.SmallTypes.nextOf (.ref i1) >>= _) _ _ _
  cases hx : xs[k1]? with
  | none =>
    refine wpAny_bind (wpAny_nextOf_list_end hh (h1.extBut hs₁.extBut D.i1z) (hl1.extBut hs₁.extBut D.l1z) hx fun h₂ e hs₂ he => ?_)
    obtain ⟨oe, hoe, hce⟩ := he
    have hz₂ : IsZip h₂ z TI TO .ellipsis := hs₂ _ _ D.i1z.symm hz₁
    have hez : e ≠ z := fun x => by subst x; rw [hz₂] at hoe; cases hoe; simp at hce
    refine wpAny_setField_rec hz₂ (by simp) fun h₃ _ hs₃ => hE h₃ e (fun c o c1 _ c3 _ _ x => hs₃.extBut _ _ c1 (hs₂ _ _ c3 (hs₁.extBut _ _ c1 x))) ⟨oe, hs₃.extBut _ _ hez hoe, hce⟩
  | some x =>
    refine wpAny_bind (wpAny_nextOf_list_item (h1.extBut hs₁.extBut D.i1z) (hl1.extBut hs₁.extBut D.l1z) hx fun h₂ h1₂ hs₂ => wpAny_pure ?_)
    have hTO₂ : IsTri h₂ TO a b c := hs₂.extBut _ _ D.TOi1 (hs₁.extBut _ _ D.TOz hTO)
    refine wpAny_bind (wpAny_seqItems hTO₂ rfl ?_)
    refine wpAny_bind (wpAny_updateSeq_tri hTO₂ fun h₃ hTO₃ hs₃ => ?_)
    replace hTO₃ : IsTri h₃ TO x b c := hTO₃
    refine wpAny_bind (wpAny_letGo (wpAny_pure ?_))
    refine wpAny_bind (wpAny_bind (wpAny_onRaise ?_))
    show wpAny _ _ (Builtin.SmallTypes.nextOf (.ref i2) >>= _) _ _ _
    have k2' := ((h2.extBut hs₁.extBut D.i2z).extBut hs₂.extBut D.i12.symm).extBut hs₃.extBut D.TOi2.symm
    have m2' := ((hl2.extBut hs₁.extBut D.l2z).extBut hs₂.extBut D.l2i1).extBut hs₃.extBut D.l2TO
    cases hy : ys[k2]? with
    | none =>
      refine wpAny_bind (wpAny_nextOf_list_end hh k2' m2' hy fun h₄ e hs₄ he => ?_)
      obtain ⟨oe, hoe, hce⟩ := he
      have hz₄ : IsZip h₄ z TI TO .ellipsis := hs₄ _ _ D.i2z.symm (hs₃.extBut _ _ D.TOz.symm (hs₂.extBut _ _ D.i1z.symm hz₁))
      have hez : e ≠ z := fun x => by subst x; rw [hz₄] at hoe; cases hoe; simp at hce
      refine wpAny_setField_rec hz₄ (by simp) fun h₅ _ hs₅ => hE h₅ e (fun c o c1 c2 c3 c4 _ x => hs₅.extBut _ _ c1 (hs₄ _ _ c4 (hs₃.extBut _ _ c2 (hs₂.extBut _ _ c3 (hs₁.extBut _ _ c1 x))))) ⟨oe, hs₅.extBut _ _ hez hoe, hce⟩
    | some y =>
      have hv : zs[k3]? = none := by rcases hend with h | h | h; rw [hx] at h; cases h; rw [hy] at h; cases h; exact h
      refine wpAny_bind (wpAny_nextOf_list_item k2' m2' hy fun h₄ h2₄ hs₄ => wpAny_pure ?_)
      have hTO₄ : IsTri h₄ TO x b c := hs₄.extBut _ _ D.TOi2 hTO₃
      refine wpAny_bind (wpAny_seqItems hTO₄ rfl ?_)
      refine wpAny_bind (wpAny_updateSeq_tri hTO₄ fun h₅ hTO₅ hs₅ => ?_)
      refine wpAny_bind (wpAny_letGo (wpAny_pure ?_))
      refine wpAny_bind (wpAny_bind (wpAny_onRaise ?_))
      show wpAny _ _ (Builtin.SmallTypes.nextOf (.ref i3) >>= _) _ _ _
      refine wpAny_bind (wpAny_nextOf_list_end hh (((((h3.extBut hs₁.extBut D.i3z).extBut hs₂.extBut D.i13.symm).extBut hs₃.extBut D.TOi3.symm).extBut hs₄.extBut D.i23.symm).extBut hs₅.extBut D.TOi3.symm)
        (((((hl3.extBut hs₁.extBut D.l3z).extBut hs₂.extBut D.l3i1).extBut hs₃.extBut D.l3TO).extBut hs₄.extBut D.l3i2).extBut hs₅.extBut D.l3TO) hv fun h₆ e hs₆ he => ?_)
      obtain ⟨oe, hoe, hce⟩ := he
      have hz₆ : IsZip h₆ z TI TO .ellipsis := hs₆ _ _ D.i3z.symm (hs₅.extBut _ _ D.TOz.symm (hs₄.extBut _ _ D.i2z.symm (hs₃.extBut _ _ D.TOz.symm (hs₂.extBut _ _ D.i1z.symm hz₁))))
      have hez : e ≠ z := fun x => by subst x; rw [hz₆] at hoe; cases hoe; simp at hce
      refine wpAny_setField_rec hz₆ (by simp) fun h₇ _ hs₇ => hE h₇ e (fun c o c1 c2 c3 c4 c5 x => hs₇.extBut _ _ c1 (hs₆ _ _ c5 (hs₅.extBut _ _ c2 (hs₄.extBut _ _ c4 (hs₃.extBut _ _ c2 (hs₂.extBut _ _ c3 (hs₁.extBut _ _ c1 x))))))) ⟨oe, hs₇.extBut _ _ hez hoe, hce⟩
theorem wpAny_pyNext_zip3_item {z TI TO i1 i2 i3 l1 l2 l3 : Addr} {k1 k2 k3 : Nat} {xs ys zs : Array Value} {x y v a b c : Value} {Q : Option Value → Shared → Prop} (D : Zip3 z TI TO i1 i2 i3 l1 l2 l3)
    (hz : IsZip s.heap z TI TO .none) (hTI : IsTri s.heap TI (.ref i1) (.ref i2) (.ref i3)) (hTO : IsTri s.heap TO a b c)
    (h1 : s.heap.IsListIter i1 l1 k1) (h2 : s.heap.IsListIter i2 l2 k2) (h3 : s.heap.IsListIter i3 l3 k3) (hl1 : s.heap.IsList l1 xs) (hl2 : s.heap.IsList l2 ys) (hl3 : s.heap.IsList l3 zs) (hx : xs[k1]? = some x) (hy : ys[k2]? = some y) (hv : zs[k3]? = some v)
    (hQ : ∀ h', IsZip h' z TI TO (rawInt s.heap.objs.size) → IsTri h' TO x y v → h'.IsListIter i1 l1 (k1 + 1) → h'.IsListIter i2 l2 (k2 + 1) → h'.IsListIter i3 l3 (k3 + 1) → IsTri h' s.heap.objs.size x y v → h'.objs.size = s.heap.objs.size + 1 →
      (∀ c o, c ≠ z → c ≠ TO → c ≠ i1 → c ≠ i2 → c ≠ i3 → s.heap.get? c = some o → h'.get? c = some o) → Q (some (.ref s.heap.objs.size)) { s with heap := h' }) :
    wpAny (model prog w) A (pyNext (.ref z)) Q E s := by
  have hT : s.TypeIs (.ref z) "zip" := ⟨_, hz, rfl⟩
  unfold pyNext
  exact wpAny_bind (wpAny_attempt (wpAny_callSpecial?_slot (name := Str.ofString "__next__") hT F.slot_zip_next
    (wpAny_call_entry F.slot_zip_next hT F.entry_zip_next
      (zip3_next_item D hz hTI hTO h1 h2 h3 hl1 hl2 hl3 hx hy hv fun h' a1 a2 a3 a4 a5 a6 a7 a8 => wpAny_pure (hQ h' a1 a2 a3 a4 a5 a6 a7 a8)) (F.args_zip_next_1 _))))
theorem wpAny_pyNext_zip3_end {z TI TO i1 i2 i3 l1 l2 l3 : Addr} {k1 k2 k3 : Nat} {xs ys zs : Array Value} {a b c : Value} {Q : Option Value → Shared → Prop} (hh : A.handled = none) (D : Zip3 z TI TO i1 i2 i3 l1 l2 l3)
    (hz : IsZip s.heap z TI TO .none) (hTI : IsTri s.heap TI (.ref i1) (.ref i2) (.ref i3)) (hTO : IsTri s.heap TO a b c)
    (h1 : s.heap.IsListIter i1 l1 k1) (h2 : s.heap.IsListIter i2 l2 k2) (h3 : s.heap.IsListIter i3 l3 k3) (hl1 : s.heap.IsList l1 xs) (hl2 : s.heap.IsList l2 ys) (hl3 : s.heap.IsList l3 zs) (hend : xs[k1]? = none ∨ ys[k2]? = none ∨ zs[k3]? = none)
    (hQ : ∀ h', (∀ c o, c ≠ z → c ≠ TO → c ≠ i1 → c ≠ i2 → c ≠ i3 → s.heap.get? c = some o → h'.get? c = some o) → Q none { s with heap := h' }) : wpAny (model prog w) A (pyNext (.ref z)) Q E s := by
  have hT : s.TypeIs (.ref z) "zip" := ⟨_, hz, rfl⟩
  unfold pyNext
  refine wpAny_bind (wpAny_attempt (wpAny_callSpecial?_slot (name := Str.ofString "__next__") hT F.slot_zip_next
    (wpAny_call_entry F.slot_zip_next hT F.entry_zip_next (zip3_next_end hh D hz hTI hTO h1 h2 h3 hl1 hl2 hl3 hend fun h' e hk he => ?_) (F.args_zip_next_1 _))))
  obtain ⟨o, ho, hc⟩ := he
  refine wpAny_bind (wpAny_isInstance (T := "StopIteration") (b := true) ⟨o, ho, hc⟩ isSubtype_stop ?_)
  exact wpAny_pure (hQ _ hk)
end
theorem typeCall_zip_3 (a b c : Value) : checkTypeCall "zip" ⟨[a, b, c], []⟩ = pure () := by kernel_rfl
theorem newCall_zip_3 (a b c : Value) : checkBuiltinCall "zip.__new__" ⟨[.type "zip", a, b, c], []⟩ = pure () := by kernel_rfl
theorem args_object_init_4 (a b c d : Value) : argsOk "object.__init__" ⟨[a, b, c, d], []⟩ := by
  unfold argsOk; rw [signature?_of (id := "object.__init__") (n := ['_', '_', 't', 'i', 'n', 'i', '_', '_']) (o := ['t', 'c', 'e', 'j', 'b', 'o']) (by kernel_rfl) F.owner_object]; kernel_rfl
abbrev zq1 (h : Heap) (l1 : Addr) : Heap := h.push { cls := .type "list_iterator", data := .fields #[.ref l1, .int 0 0] }
abbrev zq3 (h : Heap) (l1 l2 l3 : Addr) : Heap := (zq1 (zq1 h l1) l2).push { cls := .type "list_iterator", data := .fields #[.ref l3, .int 0 0] }
abbrev zq4 (h : Heap) (l1 l2 l3 : Addr) : Heap := (zq3 h l1 l2 l3).push { cls := .type "tuple", data := .seq #[.ref h.objs.size, .ref (zq1 h l1).objs.size, .ref (zq1 (zq1 h l1) l2).objs.size] }
abbrev zq5 (h : Heap) (l1 l2 l3 : Addr) : Heap := (zq4 h l1 l2 l3).push { cls := .type "tuple", data := .seq #[.none, .none, .none] }
abbrev zq6 (h : Heap) (l1 l2 l3 : Addr) : Heap := (zq5 h l1 l2 l3).push { cls := .type "zip", data := .fields #[.none, .bool false, .bool false, .ref (zq3 h l1 l2 l3).objs.size, .ref (zq4 h l1 l2 l3).objs.size] }
theorem meets_zip3_new (l1 l2 l3 : Addr) (xs ys zs : Array Value) :
    Meets (Builtin.«zip.__new__» ⟨[.type "zip", .ref l1, .ref l2, .ref l3], []⟩) (fun _ R s => s.heap.IsList l1 xs ∧ s.heap.IsList l2 ys ∧ s.heap.IsList l3 zs ∧
      R (.ok (.ret (.ref (zq5 s.heap l1 l2 l3).objs.size))) { s with heap := zq6 s.heap l1 l2 l3 }) :=
  .of_wp fun prog w A R s h => by
    obtain ⟨hp, g, d, tk, os⟩ := s; obtain ⟨hl1, hl2, hl3, h⟩ := h
    have hsub := sub_zip
    have hL1 : Heap.IsList (Shared.heap ⟨hp, g, d, tk, os⟩) l1 xs := hl1
    have hL2 : Heap.IsList (Shared.heap ⟨hp.push { cls := .type "list_iterator", data := .fields #[.ref l1, .int 0 0] }, g, d, tk, os⟩) l2 ys := Heap.IsList.push hl2 _
    have hL3 : Heap.IsList (Shared.heap ⟨(hp.push { cls := .type "list_iterator", data := .fields #[.ref l1, .int 0 0] }).push { cls := .type "list_iterator", data := .fields #[.ref l2, .int 0 0] }, g, d, tk, os⟩) l3 zs := Heap.IsList.push (Heap.IsList.push hl3 _) _
    wp_walk using wpAny_pyIter_list hL1, wpAny_pyIter_list hL2, wpAny_pyIter_list hL3
    exact ⟨_, rfl, h⟩
section
variable {prog : Program} {w : World} {A : Around} {E : Value → Shared → Prop} {s : Shared}
theorem call_zip_3 {l1 l2 l3 : Addr} {xs ys zs : Array Value} {Q : Value → Shared → Prop} (hl1 : s.heap.IsList l1 xs) (hl2 : s.heap.IsList l2 ys) (hl3 : s.heap.IsList l3 zs)
    (h : ∀ h', IsZip h' (s.heap.objs.size + 5) (s.heap.objs.size + 3) (s.heap.objs.size + 4) .none → IsTri h' (s.heap.objs.size + 3) (.ref s.heap.objs.size) (.ref (s.heap.objs.size + 1)) (.ref (s.heap.objs.size + 2)) →
      IsTri h' (s.heap.objs.size + 4) .none .none .none → h'.IsListIter s.heap.objs.size l1 0 → h'.IsListIter (s.heap.objs.size + 1) l2 0 → h'.IsListIter (s.heap.objs.size + 2) l3 0 → h'.objs.size = s.heap.objs.size + 6 →
      (∀ c o, s.heap.get? c = some o → h'.get? c = some o) → Q (.ref (s.heap.objs.size + 5)) { s with heap := h' }) :
    wpAny (model prog w) A (call (.type "zip") [.ref l1, .ref l2, .ref l3]) Q E s := by
  refine callType_new F.called_zip (by decide) (typeCall_zip_3 _ _ _) (newCall_zip_3 _ _ _) (fun obj => args_object_init_4 obj _ _ _) F.entry_zip_new
    (meets_zip3_new l1 l2 l3 xs ys zs) ⟨hl1, hl2, hl3, ?_⟩
  have z1 : (zq1 s.heap l1).objs.size = s.heap.objs.size + 1 := Heap.size_push ..
  have z2 : (zq1 (zq1 s.heap l1) l2).objs.size = s.heap.objs.size + 2 := by rw [Heap.size_push, z1]
  have z3 : (zq3 s.heap l1 l2 l3).objs.size = s.heap.objs.size + 3 := by rw [Heap.size_push, z2]
  have z4 : (zq4 s.heap l1 l2 l3).objs.size = s.heap.objs.size + 4 := by rw [Heap.size_push, z3]
  have z5 : (zq5 s.heap l1 l2 l3).objs.size = s.heap.objs.size + 5 := by rw [Heap.size_push, z4]
  have z6 : (zq6 s.heap l1 l2 l3).objs.size = s.heap.objs.size + 6 := by rw [Heap.size_push, z5]
  have p : ∀ {h : Heap} {o o' : Obj} {c : Addr}, h.get? c = some o → (h.push o').get? c = some o := fun e => Heap.get?_push_of_some _ e
  have g6 : (zq6 s.heap l1 l2 l3).get? (zq5 s.heap l1 l2 l3).objs.size = some _ := Heap.get?_push_size _ rfl
  have g5 : (zq6 s.heap l1 l2 l3).get? (zq4 s.heap l1 l2 l3).objs.size = some _ := p (Heap.get?_push_size _ rfl)
  have g4 : (zq6 s.heap l1 l2 l3).get? (zq3 s.heap l1 l2 l3).objs.size = some _ := p (p (Heap.get?_push_size _ rfl))
  have g3 : (zq6 s.heap l1 l2 l3).get? (zq1 (zq1 s.heap l1) l2).objs.size = some _ := p (p (p (Heap.get?_push_size _ rfl)))
  have g2 : (zq6 s.heap l1 l2 l3).get? (zq1 s.heap l1).objs.size = some _ := p (p (p (p (Heap.get?_push_size _ rfl))))
  have g1 : (zq6 s.heap l1 l2 l3).get? s.heap.objs.size = some _ := p (p (p (p (p (Heap.get?_push_size _ rfl)))))
  show _ ∧ _
  rw [z3, z4, z5] at g6
  rw [z4] at g5
  rw [z1, z2, z3] at g4
  rw [z2] at g3
  rw [z1] at g2
  rw [z5]
  exact ⟨⟨_, g6, rfl⟩, h _ g6 g4 g5 ⟨_, g1, rfl, rfl⟩ ⟨_, g2, rfl, rfl⟩ ⟨_, g3, rfl, rfl⟩ z6 fun c o x => p (p (p (p (p (p x)))))⟩
end
def Itz3 (K : PySem.W.Frag) (a b c : Addr) : It :=
  ⟨fun i H => ∃ xs ys zs x y z, SqL K H a xs ∧ SqL K H b ys ∧ SqL K H c zs ∧ xs[i]? = some x ∧ ys[i]? = some y ∧ zs[i]? = some z, fun i H v H' => ∃ p x y z, v = .ref p ∧ H p = none ∧ H' = upd H p (.tup [x, y, z]) ∧ (∀ xs, SqL K H a xs → xs[i]? = some x) ∧ (∀ ys, SqL K H b ys → ys[i]? = some y) ∧ ∀ zs, SqL K H c zs → zs[i]? = some z,
   fun i H => ∃ xs ys zs, SqL K H a xs ∧ SqL K H b ys ∧ SqL K H c zs ∧ (xs.length ≤ i ∨ ys.length ≤ i ∨ zs.length ≤ i)⟩
theorem turn_zip3 {P : Program} {w : World} {K : PySem.W.Frag} {elts : List Expr} {x1} {tpos : Pos} (l1 l2 l3 z TI TO i1 i2 i3 : Addr) (D : Zip3 z TI TO i1 i2 i3 l1 l2 l3) : Turn P w K (.Tuple elts x1 tpos) (Itz3 K l1 l2 l3) [z, TI, TO, i1, i2, i3] z
    (fun i h => IsZip h z TI TO .none ∧ IsTri h TI (.ref i1) (.ref i2) (.ref i3) ∧ (∃ a b c, IsTri h TO a b c) ∧ h.IsListIter i1 l1 i ∧ h.IsListIter i2 l2 i ∧ h.IsListIter i3 l3 i) where
  mem := by simp
  obj := fun i h ⟨hz, hTI, ⟨a, b, c, hTO⟩, h1, h2, h3⟩ c hc => by
    simp only [List.mem_cons, List.not_mem_nil, or_false] at hc
    rcases hc with rfl | rfl | rfl | rfl | rfl | rfl
    · exact ⟨_, hz, fun v z => nomatch (show Data.fields _ = Data.cell v from z)⟩
    · exact ⟨_, hTI, fun v z => nomatch (show Data.seq _ _ = Data.cell v from z)⟩
    · exact ⟨_, hTO, fun v z => nomatch (show Data.seq _ _ = Data.cell v from z)⟩
    · obtain ⟨o, e1, c, d⟩ := h1; exact ⟨o, e1, fun v z => by rw [d] at z; cases z⟩
    · obtain ⟨o, e1, c, d⟩ := h2; exact ⟨o, e1, fun v z => by rw [d] at z; cases z⟩
    · obtain ⟨o, e1, c, d⟩ := h3; exact ⟨o, e1, fun v z => by rw [d] at z; cases z⟩
  keep := fun i h h' ⟨hz, hTI, ⟨a, b, c, hTO⟩, h1, h2, h3⟩ k => ⟨k z (by simp) _ hz, k TI (by simp) _ hTI, ⟨a, b, c, k TO (by simp) _ hTO⟩, h1.at fun o q => k i1 (by simp) o q, h2.at fun o q => k i2 (by simp) o q, h3.at fun o q => k i3 (by simp) o q⟩
  item := by
    intro X hP hw hK hc i pins s σ H E I hf st hg
    subst hP hw hK
    obtain ⟨hz, hTI, ⟨a, b, c, hTO⟩, h1, h2, h3⟩ := st
    obtain ⟨xs, ys, zs, x, y, v, hq, hq', hq3, hx, hy, hv⟩ := hg
    obtain ⟨its, rv, p, _⟩ := I.list hq
    obtain ⟨u, hu, ru⟩ := rv.get hx
    obtain ⟨its', rv', p', _⟩ := I.list hq'
    obtain ⟨u', hu', ru'⟩ := rv'.get hy
    obtain ⟨its3, rv3, p3, _⟩ := I.list hq3
    obtain ⟨u3, hu3, ru3⟩ := rv3.get hv
    refine wpAny_pyNext_zip3_item D hz hTI hTO h1 h2 h3 p.isList p'.isList p3.isList (x := u) (y := u') (v := u3) (by simpa using hu) (by simpa using hu') (by simpa using hu3) fun h' q1 q2 q3 q4 q4' q5 q6 q7 => ⟨_, rfl, ?_⟩
    refine wpAny_letOwnedTupleGo_zip (s := { s with heap := h', toks := s.toks }) q1 fun hB r1 r2 => ?_
    have nez : s.heap.objs.size ≠ z := Nat.ne_of_gt (Heap.lt_size hz)
    have k2 : ∀ c o, c ∉ [z, TI, TO, i1, i2, i3] → s.heap.get? c = some o → hB.get? c = some o := fun c o hb q =>
      (r2.2 c fun e => hb (by simp [e])).trans (q7 c o (fun e => hb (by simp [e])) (fun e => hb (by simp [e])) (fun e => hb (by simp [e])) (fun e => hb (by simp [e])) (fun e => hb (by simp [e])) q)
    have I1 : Inv X pins σ (upd H s.heap.objs.size (.tup [x, y, v])) { s with heap := hB, toks := s.toks } := I.turnedL k2 hf (Nat.le_refl _)
      ⟨by show 3 ≤ sizeLine; decide, [u, u', u3], .cons ru (.cons ru' (.cons ru3 .nil)), ⟨_, (r2.2 _ nez).trans q5, rfl, _, rfl⟩⟩
    refine ⟨.ref s.heap.objs.size, _, I1, rfl, ⟨_, x, y, v, rfl, I.fresh, rfl, (fun zs hs => by rw [I.list_inj hs hq]; exact hx), (fun zs hs => by rw [I.list_inj hs hq']; exact hy), fun zs hs => by rw [I.list_inj hs hq3]; exact hv⟩,
      ⟨r1, (r2.2 _ D.TIz).trans (q7 _ _ D.TIz D.TITO D.TIi1 D.TIi2 D.TIi3 hTI), ⟨_, _, _, (r2.2 _ D.TOz).trans q2⟩, q3.extBut r2.extBut D.i1z, q4.extBut r2.extBut D.i2z, q4'.extBut r2.extBut D.i3z⟩, fun c hc => ?_⟩
    have : ∃ o, s.heap.get? c = some o := by
      simp only [List.mem_cons, List.not_mem_nil, or_false] at hc
      rcases hc with rfl | rfl | rfl | rfl | rfl | rfl
      · exact ⟨_, hz⟩
      · exact ⟨_, hTI⟩
      · exact ⟨_, hTO⟩
      · obtain ⟨o, e1, _⟩ := h1; exact ⟨o, e1⟩
      · obtain ⟨o, e1, _⟩ := h2; exact ⟨o, e1⟩
      · obtain ⟨o, e1, _⟩ := h3; exact ⟨o, e1⟩
    obtain ⟨o, e1⟩ := this
    rw [upd_ne (Nat.ne_of_lt (Heap.lt_size e1))]
    exact (hf c hc).1
  done := by
    intro X hP hw hK hc i pins s σ H E I hf st hg
    subst hP hw hK
    obtain ⟨hz, hTI, ⟨a, b, c, hTO⟩, h1, h2, h3⟩ := st
    obtain ⟨xs, ys, zs, hq, hq', hq3, hx⟩ := hg
    obtain ⟨its, rv, p, _⟩ := I.list hq
    obtain ⟨its', rv', p', _⟩ := I.list hq'
    obtain ⟨its3, rv3, p3, _⟩ := I.list hq3
    have hl := rv.length
    have hl' := rv'.length
    have hl3 := rv3.length
    refine wpAny_pyNext_zip3_end (I.ok.hd hc) D hz hTI hTO h1 h2 h3 p.isList p'.isList p3.isList (hx.imp (fun h => by simp; omega) fun h => h.imp (fun h => by simp; omega) fun h => by simp; omega) fun h' eb => ⟨rfl, I.turnedN (t' := s.toks) (fun c o hb q => ?_) hf⟩
    exact eb c o (fun e => hb (by simp [e])) (fun e => hb (by simp [e])) (fun e => hb (by simp [e])) (fun e => hb (by simp [e])) (fun e => hb (by simp [e])) q
  self := fun _ _ _ _ _ st h => wpAny_pyIter_zip st.1 h
theorem for_zip3 {K : PySem.W.Frag} {a b c : Addr} {xs ys zs : List V} {g : TG} {tb : TS} {D : Ends} {σ : St} {H : Hp} (Pv : Nat → St → Hp → Prop) (h0 : Pv 0 σ H) (hl : ∀ i σ H, Pv i σ H → SqL K H a xs ∧ SqL K H b ys ∧ SqL K H c zs)
    (hs : ∀ i x y z σ H p, xs[i]? = some x → ys[i]? = some y → zs[i]? = some z → Pv i σ H → H p = none → g (.ref p) σ (upd H p (.tup [x, y, z])) fun σ2 H2 => tb { D with nx := Pv (i + 1), ct := Pv (i + 1), bk := D.nx } σ2 H2) (hd : ∀ σ H, Pv (min xs.length (min ys.length zs.length)) σ H → D.nx σ H) :
    ∃ W : Nat → Nat → St → Hp → Prop, (∃ m, W 0 m σ H) ∧ ∀ i m σ H, W i m σ H →
      ((Itz3 K a b c).stop i H ∧ D.nx σ H) ∨ ((Itz3 K a b c).go i H ∧ ∃ N : St → Hp → Prop, (∀ σ' H', N σ' H' → ∃ m', m' < m ∧ W (i + 1) m' σ' H') ∧ ∀ x H', (Itz3 K a b c).yld i H x H' → g x σ H' fun σ2 H2 => tb { D with nx := N, ct := N, bk := D.nx } σ2 H2) := by
  refine ⟨fun i m σ H => m = min xs.length (min ys.length zs.length) - i ∧ i ≤ min xs.length (min ys.length zs.length) ∧ Pv i σ H, ⟨min xs.length (min ys.length zs.length), by simp, Nat.zero_le _, h0⟩, ?_⟩
  rintro i m σ H ⟨rfl, hi, p⟩
  obtain ⟨q, q', q3⟩ := hl i σ H p
  by_cases hlt : i < min xs.length (min ys.length zs.length)
  · have h1 : i < xs.length := by omega
    have h2 : i < ys.length := by omega
    have h3 : i < zs.length := by omega
    refine .inr ⟨⟨xs, ys, zs, xs[i], ys[i], zs[i], q, q', q3, by simp [h1], by simp [h2], by simp [h3]⟩, Pv (i + 1), fun ys' H' z => ⟨_, by omega, rfl, hlt, z⟩, fun v H' y => ?_⟩
    obtain ⟨c, x, y', z', rfl, hc, rfl, e1, e2, e3⟩ := y
    exact hs i x y' z' σ _ c (e1 xs q) (e2 ys q') (e3 zs q3) p hc
  · have e : i = min xs.length (min ys.length zs.length) := by omega
    subst e
    exact .inl ⟨⟨xs, ys, zs, q, q', q3, by omega⟩, hd σ H p⟩
def iZip3 (K : PySem.W.Frag) (ta : TA) : TI := fun σ H R => ta σ H fun vs H1 => ∃ a b c, vs = [.ref a, .ref b, .ref c] ∧ (∃ xs, SqL K H1 a xs) ∧ (∃ ys, SqL K H1 b ys) ∧ (∃ zs, SqL K H1 c zs) ∧ R (Itz3 K a b c) H1
section
variable {X : Cx}
theorem pi_zip3 {elts : List Expr} {x1} {tpos : Pos} {l l' l3 : Expr} {ta : TA} {p pos : Pos} (hg : Gl X "zip") (hm : X.mg "zip" = none) (ha : PA X [l, l', l3] ta) (hs : starEach [l, l', l3] X.env = (false, eval l X.env) :: starEach [l', l3] X.env := by rfl) (hpl : (backTo pos (starEach [l', l3] X.env)).any (·.1) = false := by rfl) :
    PI X (.Tuple elts x1 tpos) (.Call (.Name "zip" p) [l, l', l3] [] pos) (iZip3 X.K ta) := by
  intro pins s σ H R I h
  refine Call_ (ld_blt I hg hm bt_zip (PyProof.Rows.callWith_type1 (thn (ha pos pins s σ H _ I h) fun us s1 ⟨vs, H1, I1, r1, q1⟩ => ?_) hs hpl))
  obtain ⟨a, b, c, e, ⟨xs, hq⟩, ⟨ys, hq'⟩, ⟨zs, hq3⟩, q⟩ := q1
  subst e
  obtain ⟨u, u', u3, rfl, ru, ru', ru3⟩ : ∃ u u' u3, us = [u, u', u3] ∧ RelV (.ref a) u ∧ RelV (.ref b) u' ∧ RelV (.ref c) u3 := by
    cases r1 with
    | cons r t => cases t with
      | cons r' t' => cases t' with
        | cons r3 t3 => cases t3; exact ⟨_, _, _, rfl, r, r', r3⟩
  cases (show u = Value.ref a from ru)
  cases (show u' = Value.ref b from ru')
  cases (show u3 = Value.ref c from ru3)
  obtain ⟨its, rv, pl, hz⟩ := I1.list hq
  obtain ⟨its', rv', pl', hz'⟩ := I1.list hq'
  obtain ⟨its3, rv3, pl3, hz3⟩ := I1.list hq3
  refine call_zip_3 pl.isList pl'.isList pl3.isList fun h' q1 q2 q3 q4 q5 q5' q6 q7 => ?_
  have I2 : Inv X pins σ H1 { s1 with heap := h' } := I1.kept (t' := s1.toks) q7
  refine wpAny_pyIter_zip (s := { s1 with heap := h' }) q1 ?_
  have la : a < s1.heap.objs.size := by obtain ⟨o, n, e, _⟩ := pl; exact Heap.lt_size e
  have lb : b < s1.heap.objs.size := by obtain ⟨o, n, e, _⟩ := pl'; exact Heap.lt_size e
  have lc : c < s1.heap.objs.size := by obtain ⟨o, n, e, _⟩ := pl3; exact Heap.lt_size e
  refine ⟨s1.heap.objs.size + 5, [s1.heap.objs.size + 5, s1.heap.objs.size + 3, s1.heap.objs.size + 4, s1.heap.objs.size, s1.heap.objs.size + 1, s1.heap.objs.size + 2], _, _, H1, rfl, I2, turn_zip3 a b c (s1.heap.objs.size + 5) (s1.heap.objs.size + 3) (s1.heap.objs.size + 4) s1.heap.objs.size (s1.heap.objs.size + 1) (s1.heap.objs.size + 2) ?_, ⟨q1, q2, ⟨_, _, _, q3⟩, q4, q5, q5'⟩, fun c hc => ?_, q⟩
  · constructor <;> (simp only [Addr, ne_eq] at *; omega)
  · have hb' : s1.heap.objs.size ≤ c := by
      simp only [List.mem_cons, List.not_mem_nil, or_false] at hc
      rcases hc with rfl | rfl | rfl | rfl | rfl | rfl <;> (simp only [Addr] at *; omega)
    exact I1.fpOk hb' (I1.hok.fresh hb')
end
end L2
set_option Elab.async false
set_option linter.all false
set_option maxRecDepth 100000
set_option maxHeartbeats 4000000
namespace L2
open PySem PySem.Spec PyProof.Rows
section
variable {X : Cx}
end
end L2
set_option Elab.async false
set_option linter.all false
set_option maxRecDepth 100000
set_option maxHeartbeats 4000000
namespace L2
open PySem PySem.Spec PyProof.Rows
section
variable {X : Cx}
end
end L2
set_option Elab.async false
set_option linter.all false
set_option maxRecDepth 100000
set_option maxHeartbeats 4000000
namespace L2
open PySem PySem.Spec PyProof.Rows
inductive D where
  | non | bl (b : Bool) | int (i : Int) | str (x : Str) | ty (n : String) | cls (n : Str) | tup (ds : List D) | lst (ds : List D) | scr (ns : List Int) | exc (c : Str)
mutual
def Rp (K : PySem.W.Frag) (cl : Str → Addr) (F : Hp) : D → V → Prop
  | .non, v => v = .non
  | .bl b, v => v = .bl b
  | .int i, v => v = .int i
  | .str x, v => v = .str x
  | .ty n, v => v = .ty n
  | .cls n, v => v = .ref (cl n)
  | .tup ds, v => ∃ a xs, v = .ref a ∧ F a = some (.tup xs) ∧ Rps K cl F ds xs
  | .lst ds, v => ∃ a xs, v = .ref a ∧ F a = some (.lst xs) ∧ Rps K cl F ds xs
  | .scr ns, v => ∃ a, v = .ref a ∧ Scr K F a (ns.map V.int)
  | .exc c, v => ∃ a cx, v = .ref a ∧ F a = some (ExcO a (.ref (cl c)) cx)
def Rps (K : PySem.W.Frag) (cl : Str → Addr) (F : Hp) : List D → List V → Prop
  | [], vs => vs = []
  | d :: ds, vs => ∃ v r, vs = v :: r ∧ Rp K cl F d v ∧ Rps K cl F ds r
end
section
variable {K : PySem.W.Frag} {cl : Str → Addr} {F F' H H' : Hp}
mutual
theorem Rp.mono (g : Same F F') : ∀ (d : D) (v : V), Rp K cl F d v → Rp K cl F' d v
  | .non, _, h => by simpa only [Rp] using h
  | .bl _, _, h => by simpa only [Rp] using h
  | .int _, _, h => by simpa only [Rp] using h
  | .str _, _, h => by simpa only [Rp] using h
  | .ty _, _, h => by simpa only [Rp] using h
  | .cls _, _, h => by simpa only [Rp] using h
  | .tup ds, v, h => by
    simp only [Rp] at h ⊢
    obtain ⟨a, xs, e, h1, h2⟩ := h
    exact ⟨a, xs, e, g _ _ h1, Rps.mono g ds xs h2⟩
  | .lst ds, v, h => by
    simp only [Rp] at h ⊢
    obtain ⟨a, xs, e, h1, h2⟩ := h
    exact ⟨a, xs, e, g _ _ h1, Rps.mono g ds xs h2⟩
  | .scr ns, v, h => by
    simp only [Rp] at h ⊢
    obtain ⟨a, e, h1⟩ := h
    exact ⟨a, e, h1.same g⟩
  | .exc c, v, h => by
    simp only [Rp] at h ⊢
    obtain ⟨a, cx, e, h1⟩ := h
    exact ⟨a, cx, e, g _ _ h1⟩
theorem Rps.mono (g : Same F F') : ∀ (ds : List D) (vs : List V), Rps K cl F ds vs → Rps K cl F' ds vs
  | [], _, h => by simpa only [Rps] using h
  | d :: ds, vs, h => by
    simp only [Rps] at h ⊢
    obtain ⟨v, r, e, h1, h2⟩ := h
    exact ⟨v, r, e, Rp.mono g d v h1, Rps.mono g ds r h2⟩
end
theorem Rps.nil : Rps K cl F [] [] := by simp only [Rps]
theorem Rps.cons {d : D} {v : V} {ds : List D} {vs : List V} (h : Rp K cl F d v) (t : Rps K cl F ds vs) : Rps K cl F (d :: ds) (v :: vs) := by simp only [Rps]; exact ⟨v, vs, rfl, h, t⟩
theorem Rps.inv {d : D} {ds : List D} {vs : List V} (h : Rps K cl F (d :: ds) vs) : ∃ v r, vs = v :: r ∧ Rp K cl F d v ∧ Rps K cl F ds r := by simpa only [Rps] using h
theorem Rps.inv0 {vs : List V} (h : Rps K cl F [] vs) : vs = [] := by simpa only [Rps] using h
theorem Rps.length : ∀ {ds : List D} {vs : List V}, Rps K cl F ds vs → ds.length = vs.length
  | [], vs, h => by rw [h.inv0]; rfl
  | d :: ds, vs, h => by obtain ⟨v, r, rfl, _, t⟩ := h.inv; simp [t.length]
theorem Rps.get : ∀ {ds : List D} {vs : List V} {i : Nat} {d : D}, Rps K cl F ds vs → ds[i]? = some d → ∃ v, vs[i]? = some v ∧ Rp K cl F d v
  | [], _, _, _, _, e => by simp at e
  | d :: ds, vs, 0, x, h, e => by
    obtain ⟨v, r, rfl, h1, _⟩ := h.inv
    simp at e; subst e
    exact ⟨v, rfl, h1⟩
  | d :: ds, vs, i + 1, x, h, e => by
    obtain ⟨v, r, rfl, _, t⟩ := h.inv
    obtain ⟨u, h1, h2⟩ := t.get (i := i) (d := x) (by simpa using e)
    exact ⟨u, by simpa using h1, h2⟩
theorem Rps.get' {ds : List D} {vs : List V} {i : Nat} {v : V} (h : Rps K cl F ds vs) (e : vs[i]? = some v) : ∃ d, ds[i]? = some d ∧ Rp K cl F d v := by
  have hi : i < ds.length := by
    have := (List.getElem?_eq_some_iff.mp e).1
    rw [h.length]; exact this
  obtain ⟨u, h1, h2⟩ := h.get (List.getElem?_eq_getElem hi)
  rw [e] at h1; cases h1
  exact ⟨_, List.getElem?_eq_getElem hi, h2⟩
theorem Rps.append : ∀ {ds es : List D} {vs us : List V}, Rps K cl F ds vs → Rps K cl F es us → Rps K cl F (ds ++ es) (vs ++ us)
  | [], _, _, _, h, t => by rw [h.inv0]; exact t
  | d :: ds, _, _, _, h, t => by obtain ⟨v, r, rfl, h1, h2⟩ := h.inv; exact .cons h1 (h2.append t)
theorem Rps.one {d : D} {v : V} (h : Rp K cl F d v) : Rps K cl F [d] [v] := .cons h .nil
theorem Rps.set {d : D} {v : V} (r : Rp K cl F d v) : ∀ {ds : List D} {vs : List V} (i : Nat), Rps K cl F ds vs → Rps K cl F (ds.set i d) (vs.set i v)
  | [], _, _, h => by rw [h.inv0]; exact .nil
  | _ :: _, _, 0, h => by obtain ⟨_, _, rfl, _, h2⟩ := h.inv; exact .cons r h2
  | _ :: _, _, i + 1, h => by obtain ⟨_, _, rfl, h1, h2⟩ := h.inv; exact .cons h1 (h2.set r i)
theorem Rps.drop : ∀ {ds : List D} {vs : List V} (n : Nat), Rps K cl F ds vs → Rps K cl F (ds.drop n) (vs.drop n)
  | _, _, 0, h => h
  | [], _, _ + 1, h => by rw [h.inv0]; exact .nil
  | _ :: _, _, n + 1, h => by obtain ⟨_, _, rfl, _, h2⟩ := h.inv; exact h2.drop n
theorem Rps.take : ∀ {ds : List D} {vs : List V} (n : Nat), Rps K cl F ds vs → Rps K cl F (ds.take n) (vs.take n)
  | _, _, 0, h => .nil
  | [], _, _ + 1, h => by rw [h.inv0]; exact .nil
  | _ :: _, _, n + 1, h => by obtain ⟨_, _, rfl, h1, h2⟩ := h.inv; exact .cons h1 (h2.take n)
theorem Rps.ints : ∀ {ns : List Int} {vs : List V}, Rps K cl F (ns.map D.int) vs → vs = ns.map V.int
  | [], _, h => h.inv0
  | n :: ns, _, h => by
    obtain ⟨v, r, rfl, h1, h2⟩ := h.inv
    rw [h2.ints]
    simp only [Rp] at h1
    rw [h1]; rfl
theorem Rps.ofInts : ∀ {ns : List Int}, Rps K cl F (ns.map D.int) (ns.map V.int)
  | [] => .nil
  | _ :: _ => .cons (by simp only [Rp]) Rps.ofInts
theorem Rps.strs : ∀ {bs : List Str} {vs : List V}, Rps K cl F (bs.map D.str) vs → vs = bs.map V.str
  | [], _, h => h.inv0
  | n :: ns, _, h => by
    obtain ⟨v, r, rfl, h1, h2⟩ := h.inv
    rw [h2.strs]
    simp only [Rp] at h1
    rw [h1]; rfl
end
inductive Sl where | no | fz (d : D) | ow (ds : List D) | hd (ds : List D)
abbrev DE := List Sl
def Mu (env : DE) (i : Nat) : Prop := ∃ ds : List D, env[i]? = some (.ow ds) ∨ env[i]? = some (.hd ds)
def Ow (σ : St) (env : DE) (a : Addr) : Prop := ∃ (i : Nat) (ds : List D), env[i]? = some (Sl.ow ds) ∧ σ[i]? = some (some (V.ref a))
structure Rel (K : PySem.W.Frag) (cl : Str → Addr) (σ : St) (H F : Hp) (env : DE) : Prop where
  sub : Same F H
  len : σ.length = env.length
  fz : ∀ (i : Nat) (d : D), env[i]? = some (.fz d) → ∃ v, σ[i]? = some (some v) ∧ Rp K cl F d v
  mu : ∀ (i : Nat) (ds : List D), (env[i]? = some (.ow ds) ∨ env[i]? = some (.hd ds)) → ∃ a xs, σ[i]? = some (some (.ref a)) ∧ H a = some (.lst xs) ∧ F a = none ∧ Rps K cl F ds xs
  inj : ∀ (i j : Nat) (a : Addr), Mu env i → Mu env j → σ[i]? = some (some (.ref a)) → σ[j]? = some (some (.ref a)) → i = j
structure Frm (σ : St) (H F : Hp) (env : DE) (σ' : St) (H' F' : Hp) (env' : DE) : Prop where
  fz : Same F F'
  hid : ∀ a o, H a = some o → F a = none → ¬ Ow σ env a → H' a = some o ∧ F' a = none ∧ ¬ Ow σ' env' a
  keep : ∀ (i : Nat) (ds : List D), env[i]? = some (.hd ds) → env'[i]? = some (.hd ds) ∧ σ'[i]? = σ[i]?
  dom : ∀ a, H' a = none → H a = none
structure Gr (H F H' F' : Hp) : Prop where
  fz : Same F F'
  sub : Same F' H'
  hid : ∀ a o, H a = some o → F a = none → H' a = some o ∧ F' a = none
section
variable {K : PySem.W.Frag} {cl : Str → Addr} {σ σ' σ'' : St} {H H' H'' F F' F'' : Hp} {env env' env'' : DE}
theorem Frm.refl : Frm σ H F env σ H F env := ⟨Same.refl _, fun _ _ h f o => ⟨h, f, o⟩, fun _ _ h => ⟨h, rfl⟩, fun _ h => h⟩
theorem Frm.trans (a : Frm σ H F env σ' H' F' env') (b : Frm σ' H' F' env' σ'' H'' F'' env'') : Frm σ H F env σ'' H'' F'' env'' :=
  ⟨a.fz.trans b.fz, fun x o h f w => by obtain ⟨h1, f1, w1⟩ := a.hid x o h f w; exact b.hid x o h1 f1 w1,
   fun i ds h => by obtain ⟨h1, e1⟩ := a.keep i ds h; obtain ⟨h2, e2⟩ := b.keep i ds h1; exact ⟨h2, e2.trans e1⟩, fun x h => a.dom x (b.dom x h)⟩
theorem Gr.dom (g : Gr H F H' F') (a : Addr) (h : H' a = none) : H a = none := by
  cases e : H a with
  | none => rfl
  | some o =>
    cases f : F a with
    | none => rw [(g.hid a o e f).1] at h; cases h
    | some u => rw [g.sub _ _ (g.fz _ _ f)] at h; cases h
theorem Rel.gr (R : Rel K cl σ H F env) (g : Gr H F H' F') : Rel K cl σ H' F' env :=
  ⟨g.sub, R.len, fun i d h => by obtain ⟨v, e, r⟩ := R.fz i d h; exact ⟨v, e, r.mono g.fz⟩,
   fun i ds h => by obtain ⟨a, xs, e, hH, hF, r⟩ := R.mu i ds h; obtain ⟨h1, f1⟩ := g.hid a _ hH hF; exact ⟨a, xs, e, h1, f1, r.mono g.fz⟩, R.inj⟩
theorem Rel.frm (R : Rel K cl σ H F env) (g : Gr H F H' F') : Frm σ H F env σ H' F' env :=
  ⟨g.fz, fun a o h f w => by obtain ⟨h1, f1⟩ := g.hid a o h f; exact ⟨h1, f1, w⟩, fun _ _ h => ⟨h, rfl⟩, g.dom⟩
theorem Gr.refl (s : Same F H) : Gr H F H F := ⟨Same.refl _, s, fun _ _ h f => ⟨h, f⟩⟩
theorem Gr.trans (a : Gr H F H' F') (b : Gr H' F' H'' F'') : Gr H F H'' F'' := ⟨a.fz.trans b.fz, b.sub, fun x o h f => by obtain ⟨h1, f1⟩ := a.hid x o h f; exact b.hid x o h1 f1⟩
theorem Gr.new {p : Addr} {o : HO} (s : Same F H) (hp : H p = none) : Gr H F (upd H p o) (upd F p o) := by
  have fp : F p = none := s.free hp
  refine ⟨same_new fp o, fun b u e => ?_, fun a u e f => ?_⟩
  · by_cases z : b = p
    · subst z; rw [upd_same] at e ⊢; exact e
    · rw [upd_ne z] at e ⊢; exact s _ _ e
  · have z : a ≠ p := fun z => by rw [z, hp] at e; cases e
    rw [upd_ne z, upd_ne z]; exact ⟨e, f⟩
theorem Rel.freeze {i : Nat} {ds : List D} (R : Rel K cl σ H F env) (h : env[i]? = some (.ow ds)) : ∃ a F', σ[i]? = some (some (.ref a)) ∧ Frm σ H F env σ H F' (env.set i (.fz (.lst ds))) ∧ Rel K cl σ H F' (env.set i (.fz (.lst ds))) ∧ Rp K cl F' (.lst ds) (.ref a) := by
  obtain ⟨a, xs, e, hH, hF, r⟩ := R.mu i ds (.inl h)
  have hi : i < env.length := (List.getElem?_eq_some_iff.mp h).1
  have sF : Same F (upd F a (.lst xs)) := same_new hF _
  have oth : ∀ j, j ≠ i → (env.set i (.fz (.lst ds)))[j]? = env[j]? := fun j hj => List.getElem?_set_ne (Ne.symm hj)
  have self : (env.set i (.fz (.lst ds)))[i]? = some (.fz (.lst ds)) := List.getElem?_set_self hi
  have mui : ∀ j, Mu (env.set i (.fz (.lst ds))) j → j ≠ i ∧ Mu env j := fun j ⟨es, q⟩ => by
    by_cases z : j = i
    · subst z; rw [self] at q; rcases q with q | q <;> cases q
    · rw [oth j z] at q; exact ⟨z, es, q⟩
  have rl : Rp K cl (upd F a (.lst xs)) (.lst ds) (.ref a) := by simp only [Rp]; exact ⟨a, xs, rfl, upd_same, r.mono sF⟩
  refine ⟨a, upd F a (.lst xs), e, ⟨sF, fun b o hb fb w => ?_, fun j es q => ?_, fun _ h => h⟩, ⟨fun b o q => ?_, by rw [List.length_set]; exact R.len, fun j d q => ?_, fun j es q => ?_, fun j k b hj hk e1 e2 => R.inj j k b (mui j hj).2 (mui k hk).2 e1 e2⟩, rl⟩
  · have z : b ≠ a := fun z => w ⟨i, ds, h, by rw [z]; exact e⟩
    refine ⟨hb, by rw [upd_ne z]; exact fb, fun ⟨j, es, q, e1⟩ => ?_⟩
    by_cases y : j = i
    · subst y; rw [self] at q; cases q
    · rw [oth j y] at q; exact w ⟨j, es, q, e1⟩
  · have z : j ≠ i := fun z => by subst z; rw [h] at q; cases q
    exact ⟨by rw [oth j z]; exact q, rfl⟩
  · by_cases z : b = a
    · subst z; rw [upd_same] at q; cases q; exact hH
    · rw [upd_ne z] at q; exact R.sub _ _ q
  · by_cases z : j = i
    · subst z; rw [self] at q; cases q; exact ⟨_, e, rl⟩
    · rw [oth j z] at q; obtain ⟨v, e1, r1⟩ := R.fz j d q; exact ⟨v, e1, r1.mono sF⟩
  · have z : j ≠ i := (mui j ⟨es, q⟩).1
    rw [oth j z] at q
    obtain ⟨b, ys, e1, h1, f1, r1⟩ := R.mu j es q
    have nb : b ≠ a := fun y => z (R.inj j i b ⟨es, q⟩ ⟨ds, .inl h⟩ e1 (by rw [y]; exact e))
    exact ⟨b, ys, e1, h1, by rw [upd_ne nb]; exact f1, r1.mono sF⟩
theorem Rel.put {i : Nat} {d : D} {v : V} (R : Rel K cl σ H F env) (hi : i < env.length) (nh : ∀ ds, env[i]? ≠ some (.hd ds)) (r : Rp K cl F d v) : Rel K cl (σ.set i (some v)) H F (env.set i (.fz d)) := by
  refine ⟨R.sub, by rw [List.length_set, List.length_set]; exact R.len, fun j e q => ?_, fun j es q => ?_, fun j k b hj hk e1 e2 => ?_⟩
  · by_cases z : j = i
    · subst z
      rw [List.getElem?_set_self hi] at q; cases q
      exact ⟨v, List.getElem?_set_self (by rw [R.len]; exact hi), r⟩
    · rw [List.getElem?_set_ne (Ne.symm z)] at q
      obtain ⟨u, e1, r1⟩ := R.fz j e q
      exact ⟨u, by rw [List.getElem?_set_ne (Ne.symm z)]; exact e1, r1⟩
  · have z : j ≠ i := fun z => by
      subst z
      rw [List.getElem?_set_self hi] at q
      rcases q with q | q <;> cases q
    rw [List.getElem?_set_ne (Ne.symm z)] at q
    obtain ⟨a, xs, e1, h1, f1, r1⟩ := R.mu j es q
    exact ⟨a, xs, by rw [List.getElem?_set_ne (Ne.symm z)]; exact e1, h1, f1, r1⟩
  · have nz : ∀ j, Mu (env.set i (.fz d)) j → j ≠ i ∧ Mu env j := fun j ⟨es, q⟩ => by
      by_cases z : j = i
      · subst z
        rw [List.getElem?_set_self hi] at q
        rcases q with q | q <;> cases q
      · rw [List.getElem?_set_ne (Ne.symm z)] at q; exact ⟨z, es, q⟩
    obtain ⟨zj, mj⟩ := nz j hj
    obtain ⟨zk, mk⟩ := nz k hk
    rw [List.getElem?_set_ne (Ne.symm zj)] at e1
    rw [List.getElem?_set_ne (Ne.symm zk)] at e2
    exact R.inj j k b mj mk e1 e2
theorem Rel.putO {i : Nat} {ds : List D} {a : Addr} {xs : List V} (R : Rel K cl σ H F env) (hi : i < env.length) (hH : H a = some (.lst xs)) (hF : F a = none) (na : ∀ j, Mu env j → σ[j]? ≠ some (some (.ref a))) (r : Rps K cl F ds xs) : Rel K cl (σ.set i (some (.ref a))) H F (env.set i (.ow ds)) := by
  have his : i < σ.length := by rw [R.len]; exact hi
  have nz : ∀ j, j ≠ i → Mu (env.set i (.ow ds)) j → Mu env j := fun j z ⟨es, q⟩ => by
    rw [List.getElem?_set_ne (Ne.symm z)] at q; exact ⟨es, q⟩
  refine ⟨R.sub, by rw [List.length_set, List.length_set]; exact R.len, fun j e q => ?_, fun j es q => ?_, fun j k b hj hk e1 e2 => ?_⟩
  · have z : j ≠ i := fun z => by subst z; rw [List.getElem?_set_self hi] at q; cases q
    rw [List.getElem?_set_ne (Ne.symm z)] at q
    obtain ⟨u, e1, r1⟩ := R.fz j e q
    exact ⟨u, by rw [List.getElem?_set_ne (Ne.symm z)]; exact e1, r1⟩
  · by_cases z : j = i
    · subst z
      rw [List.getElem?_set_self hi] at q
      rcases q with q | q
      · cases q; exact ⟨a, xs, List.getElem?_set_self his, hH, hF, r⟩
      · cases q
    · rw [List.getElem?_set_ne (Ne.symm z)] at q
      obtain ⟨b, ys, e1, h1, f1, r1⟩ := R.mu j es q
      exact ⟨b, ys, by rw [List.getElem?_set_ne (Ne.symm z)]; exact e1, h1, f1, r1⟩
  · by_cases zj : j = i
    · by_cases zk : k = i
      · rw [zj, zk]
      · subst zj
        rw [List.getElem?_set_self his] at e1
        rw [List.getElem?_set_ne (Ne.symm zk)] at e2
        cases e1
        exact absurd e2 (na k (nz k zk hk))
    · rw [List.getElem?_set_ne (Ne.symm zj)] at e1
      by_cases zk : k = i
      · subst zk
        rw [List.getElem?_set_self his] at e2
        cases e2
        exact absurd e1 (na j (nz j zj hj))
      · rw [List.getElem?_set_ne (Ne.symm zk)] at e2
        exact R.inj j k b (nz j zj hj) (nz k zk hk) e1 e2
theorem Frm.put {i : Nat} {d : D} {x : Option V} (nh : ∀ ds, env[i]? ≠ some (.hd ds)) : Frm σ H F env (σ.set i x) H F (env.set i (.fz d)) := by
  refine ⟨Same.refl _, fun a o h f w => ⟨h, f, fun ⟨j, ds, q, e⟩ => ?_⟩, fun j ds q => ?_, fun _ h => h⟩
  · by_cases z : j = i
    · subst z
      have hj : j < env.length := by have := (List.getElem?_eq_some_iff.mp q).1; rwa [List.length_set] at this
      rw [List.getElem?_set_self hj] at q
      cases q
    · rw [List.getElem?_set_ne (Ne.symm z)] at q e
      exact w ⟨j, ds, q, e⟩
  · have z : j ≠ i := fun z => by subst z; exact nh ds q
    rw [List.getElem?_set_ne (Ne.symm z), List.getElem?_set_ne (Ne.symm z)]
    exact ⟨q, rfl⟩
theorem Frm.putO {i : Nat} {es : List D} {a : Addr} (f : Frm σ H F env σ' H' F' env') (ha : H a = none) (nh : ∀ ds, env'[i]? ≠ some (.hd ds)) : Frm σ H F env (σ'.set i (some (.ref a))) H' F' (env'.set i (.ow es)) := by
  refine ⟨f.fz, fun b o h g w => ?_, fun j ds q => ?_, f.dom⟩
  · obtain ⟨h1, f1, w1⟩ := f.hid b o h g w
    refine ⟨h1, f1, fun ⟨j, ds, q, e⟩ => ?_⟩
    by_cases z : j = i
    · subst z
      have hj : j < σ'.length := by have := (List.getElem?_eq_some_iff.mp e).1; rwa [List.length_set] at this
      rw [List.getElem?_set_self hj] at e
      cases e
      rw [ha] at h; cases h
    · rw [List.getElem?_set_ne (Ne.symm z)] at q e
      exact w1 ⟨j, ds, q, e⟩
  · obtain ⟨q1, e1⟩ := f.keep j ds q
    have z : j ≠ i := fun z => by subst z; exact nh ds q1
    rw [List.getElem?_set_ne (Ne.symm z), List.getElem?_set_ne (Ne.symm z)]
    exact ⟨q1, e1⟩
end
end L2
set_option Elab.async false
set_option linter.all false
set_option maxRecDepth 100000
set_option maxHeartbeats 4000000
namespace L2
open PySem PySem.Spec PyProof.Rows
inductive R (α : Type) where | ok (a : α) (e : DE) | ex (c : Str)
inductive RS where | nx (e : DE) | rt (d : D) | ro (ds : List D) | bk (e : DE) | ct (e : DE) | ex (c : Str)
def bnd {α β : Type} (x : Option (R α)) (k : α → DE → Option (R β)) : Option (R β) := match x with
  | none => none
  | some (.ok a e) => k a e
  | some (.ex c) => some (.ex c)
def sbn {α : Type} (x : Option (R α)) (k : α → DE → Option RS) : Option RS := match x with
  | none => none
  | some (.ok a e) => k a e
  | some (.ex c) => some (.ex c)
def opt {α : Type} (x : Option α) (e : DE) : Option (R α) := match x with
  | none => none
  | some a => some (.ok a e)
@[simp] theorem bnd_ok {α β : Type} (a : α) (e : DE) (k : α → DE → Option (R β)) : bnd (some (.ok a e)) k = k a e := rfl
@[simp] theorem bnd_ex {α β : Type} (c : Str) (k : α → DE → Option (R β)) : bnd (some (.ex c)) k = some (.ex c) := rfl
@[simp] theorem bnd_no {α β : Type} (k : α → DE → Option (R β)) : bnd (none : Option (R α)) k = none := rfl
@[simp] theorem sbn_ok {α : Type} (a : α) (e : DE) (k : α → DE → Option RS) : sbn (some (.ok a e)) k = k a e := rfl
@[simp] theorem sbn_ex {α : Type} (c : Str) (k : α → DE → Option RS) : sbn (some (.ex c)) k = some (.ex c) := rfl
@[simp] theorem sbn_no {α : Type} (k : α → DE → Option RS) : sbn (none : Option (R α)) k = none := rfl
@[simp] theorem opt_some {α : Type} (a : α) (e : DE) : opt (some a) e = some (.ok a e) := rfl
@[simp] theorem opt_none {α : Type} (e : DE) : opt (none : Option α) e = none := rfl
structure FX (σ : St) (H F : Hp) (env : DE) (H' F' : Hp) : Prop where
  fz : Same F F'
  sub : Same F' H'
  hid : ∀ a o, H a = some o → F a = none → ¬ Ow σ env a → H' a = some o ∧ F' a = none
  dom : ∀ a, H' a = none → H a = none
section
variable {K : PySem.W.Frag} {cl : Str → Addr} {E : XK} {σ σ' : St} {H H' H1 F F' F1 : Hp} {env env' env1 : DE} {α β γ δ : Type}
theorem Frm.fx {H2 F2 : Hp} (a : Frm σ H F env σ' H1 F1 env1) (b : FX σ' H1 F1 env1 H2 F2) : FX σ H F env H2 F2 :=
  ⟨a.fz.trans b.fz, b.sub, fun x o h f w => by obtain ⟨h1, f1, w1⟩ := a.hid x o h f w; exact b.hid x o h1 f1 w1, fun x h => a.dom x (b.dom x h)⟩
theorem Frm.toFX (a : Frm σ H F env σ' H1 F1 env1) (s : Same F1 H1) : FX σ H F env H1 F1 := ⟨a.fz, s, fun x o h f w => by obtain ⟨h1, f1, _⟩ := a.hid x o h f w; exact ⟨h1, f1⟩, a.dom⟩
abbrev Py (α β : Type) := α → St → Hp → Hp → Hp → DE → β → Prop
def PM (P : Py α β) : Prop := ∀ a σ H0 H1 H' F' e b, (∀ x : Addr, H1 x = none → H0 x = none) → P a σ H1 H' F' e b → P a σ H0 H' F' e b
def Ct (K : PySem.W.Frag) (cl : Str → Addr) (E : XK) (P : Py α β) (r : Option (R α)) (σ : St) (H F : Hp) (env : DE) (Q : β → Hp → Prop) : Prop := match r with
  | none => False
  | some (.ok a e) => ∀ b H' F', Frm σ H F env σ H' F' e → Rel K cl σ H' F' e → P a σ H H' F' e b → Q b H'
  | some (.ex c) => ∀ H' F', FX σ H F env H' F' → E (.ref (cl c)) none H'
def Cs (K : PySem.W.Frag) (cl : Str → Addr) (E : XK) (r : Option RS) (σ : St) (H F : Hp) (env : DE) (N : Ends) : Prop := match r with
  | none => False
  | some (.nx e) => ∀ σ' H' F', Frm σ H F env σ' H' F' e → Rel K cl σ' H' F' e → N.nx σ' H'
  | some (.bk e) => ∀ σ' H' F', Frm σ H F env σ' H' F' e → Rel K cl σ' H' F' e → N.bk σ' H'
  | some (.ct e) => ∀ σ' H' F', Frm σ H F env σ' H' F' e → Rel K cl σ' H' F' e → N.ct σ' H'
  | some (.rt d) => ∀ v H' F', FX σ H F env H' F' → Rp K cl F' d v → N.rt v H'
  | some (.ro ds) => ∀ a xs H' F', FX σ H F env H' F' → H' a = some (.lst xs) → F' a = none → (∀ o, H a = some o → Ow σ env a) → Rps K cl F' ds xs → N.rt (.ref a) H'
  | some (.ex c) => ∀ H' F', FX σ H F env H' F' → E (.ref (cl c)) none H'
theorem Ct.mono {P : Py α β} {r : Option (R α)} {Q Q' : β → Hp → Prop} (h : Ct K cl E P r σ H F env Q) (q : ∀ b H', Q b H' → Q' b H') : Ct K cl E P r σ H F env Q' := by
  unfold Ct at h ⊢
  split at h
  · exact h
  · exact fun b H' F' f R p => q _ _ (h b H' F' f R p)
  · exact h
theorem Ct.from {P2 : Py γ δ} {r : Option (R γ)} {Q : δ → Hp → Prop} (f : Frm σ H F env σ H1 F1 env1) (pm : PM P2) (h : Ct K cl E P2 r σ H F env Q) : Ct K cl E P2 r σ H1 F1 env1 Q := by
  unfold Ct at h ⊢
  split at h
  · exact h
  · exact fun b H' F' f2 R2 p2 => h b H' F' (f.trans f2) R2 (pm _ _ _ _ _ _ _ _ f.dom p2)
  · exact fun H' F' x => h H' F' (f.fx x)
theorem Ct.bnd {P1 : Py α β} {P2 : Py γ δ} {r : Option (R α)} {k : α → DE → Option (R γ)} {Q : δ → Hp → Prop} (h : Ct K cl E P2 (bnd r k) σ H F env Q) (pm : PM P2) :
    Ct K cl E P1 r σ H F env fun b H1 => ∃ F1 env1 a, Same F F1 ∧ Rel K cl σ H1 F1 env1 ∧ P1 a σ H H1 F1 env1 b ∧ Ct K cl E P2 (k a env1) σ H1 F1 env1 Q := by
  unfold Ct
  rcases r with _ | ⟨a, e⟩ | c
  · exact h
  · intro b H1 F1 f R p
    refine ⟨F1, e, a, f.fz, R, p, ?_⟩
    have h : Ct K cl E P2 (k a e) σ H F env Q := h
    exact Ct.from f pm h
  · exact h
theorem Cs.from {r : Option RS} {N : Ends} (f : Frm σ H F env σ' H1 F1 env1) (h : Cs K cl E r σ H F env N) : Cs K cl E r σ' H1 F1 env1 N := by
  unfold Cs at h ⊢
  split at h
  · exact h
  · exact fun σ' H' F' f2 R2 => h σ' H' F' (f.trans f2) R2
  · exact fun σ' H' F' f2 R2 => h σ' H' F' (f.trans f2) R2
  · exact fun σ' H' F' f2 R2 => h σ' H' F' (f.trans f2) R2
  · exact fun v H' F' x p => h v H' F' (f.fx x) p
  · refine fun a xs H' F' x ha fa nw p => h a xs H' F' (f.fx x) ha fa (fun o e => ?_) p
    refine Classical.byContradiction fun w => ?_
    cases q : F a with
    | none =>
      obtain ⟨h1, f1, w1⟩ := f.hid a o e q w
      exact w1 (nw o h1)
    | some u => rw [x.fz _ _ (f.fz _ _ q)] at fa; cases fa
  · exact fun H' F' x => h H' F' (f.fx x)
theorem Cs.bnd {P1 : Py α β} {r : Option (R α)} {k : α → DE → Option RS} {N : Ends} (h : Cs K cl E (sbn r k) σ H F env N) :
    Ct K cl E P1 r σ H F env fun b H1 => ∃ F1 env1 a, Frm σ H F env σ H1 F1 env1 ∧ Rel K cl σ H1 F1 env1 ∧ P1 a σ H H1 F1 env1 b ∧ Cs K cl E (k a env1) σ H F env N := by
  unfold Ct
  rcases r with _ | ⟨a, e⟩ | c
  · exact h
  · intro b H1 F1 f R p
    exact ⟨F1, e, a, f, R, p, h⟩
  · exact h
end
def PZ (K : PySem.W.Frag) (cl : Str → Addr) : Py D V := fun d _ _ _ F' _ v => Rp K cl F' d v
def PAs (K : PySem.W.Frag) (cl : Str → Addr) : Py (List D) (List V) := fun ds _ _ _ F' _ vs => Rps K cl F' ds vs
def PB : Py Bool Bool := fun b _ _ _ _ _ c => c = b
def PI' : Py (Option Int) (Option Int) := fun b _ _ _ _ _ c => c = b
def PN (K : PySem.W.Frag) (cl : Str → Addr) : Py (List D) V := fun ds σ H H' F' e v => ∃ a xs, v = .ref a ∧ H a = none ∧ H' a = some (.lst xs) ∧ F' a = none ∧ (∀ j, Mu e j → σ[j]? ≠ some (some (.ref a))) ∧ Rps K cl F' ds xs
theorem pm_Z {K cl} : PM (PZ K cl) := fun _ _ _ _ _ _ _ _ _ h => h
theorem pm_A {K cl} : PM (PAs K cl) := fun _ _ _ _ _ _ _ _ _ h => h
theorem pm_B : PM PB := fun _ _ _ _ _ _ _ _ _ h => h
theorem pm_I : PM PI' := fun _ _ _ _ _ _ _ _ _ h => h
theorem pm_N {K cl} : PM (PN K cl) := fun _ _ _ _ _ _ _ _ g ⟨a, xs, e, h, r⟩ => ⟨a, xs, e, g a h, r⟩
abbrev ZF := DE → Option (R D)
abbrev NF := DE → Option (R (List D))
abbrev AF := DE → Option (R (List D))
abbrev BF := DE → Option (R Bool)
abbrev OF := DE → Option (R (Option Int))
abbrev SF := DE → Option RS
section
variable (K : PySem.W.Frag) (cl : Str → Addr) (E : XK)
def RfZ (t : TE) (f : ZF) : Prop := ∀ σ H Q env F, Rel K cl σ H F env → Ct K cl E (PZ K cl) (f env) σ H F env Q → t σ H Q
def RfN (t : TE) (f : NF) : Prop := ∀ σ H Q env F, Rel K cl σ H F env → Ct K cl E (PN K cl) (f env) σ H F env Q → t σ H Q
def RfA (t : TA) (f : AF) : Prop := ∀ σ H Q env F, Rel K cl σ H F env → Ct K cl E (PAs K cl) (f env) σ H F env Q → t σ H Q
def RfB (t : TT) (f : BF) : Prop := ∀ σ H Q env F, Rel K cl σ H F env → Ct K cl E PB (f env) σ H F env Q → t σ H Q
def RfO (t : TO) (f : OF) : Prop := ∀ σ H Q env F, Rel K cl σ H F env → Ct K cl E PI' (f env) σ H F env Q → t σ H Q
def RfS (t : TS) (f : SF) : Prop := ∀ (N : Ends) σ H env F, Rel K cl σ H F env → Cs K cl E (f env) σ H F env N → t N σ H
end
def eC (d : D) : ZF := fun e => some (.ok d e)
def eV (i : Nat) : ZF := fun e => match e[i]? with
  | some (.fz d) => some (.ok d e)
  | some (.ow ds) => some (.ok (.lst ds) (e.set i (.fz (.lst ds))))
  | _ => none
def look (e : DE) (i : Nat) : Option D := match e[i]? with
  | some (.fz d) => some d
  | some (.ow ds) => some (.lst ds)
  | some (.hd ds) => some (.lst ds)
  | _ => none
def Rb (K : PySem.W.Frag) (cl : Str → Addr) (F H : Hp) (d : D) (v : V) : Prop := Rp K cl F d v ∨ ∃ a xs ds, v = .ref a ∧ d = .lst ds ∧ H a = some (.lst xs) ∧ Rps K cl F ds xs
section
variable {K : PySem.W.Frag} {cl : Str → Addr} {E : XK} {σ : St} {H F : Hp} {env : DE}
theorem Rel.look {i : Nat} {d : D} (R : Rel K cl σ H F env) (h : look env i = some d) : ∃ v, σ[i]? = some (some v) ∧ Rb K cl F H d v := by
  unfold L2.look at h
  split at h
  · rename_i q; cases h; obtain ⟨v, e, r⟩ := R.fz i d q; exact ⟨v, e, .inl r⟩
  · rename_i ds q; cases h; obtain ⟨a, xs, e, hH, _, r⟩ := R.mu i ds (.inl q); exact ⟨_, e, .inr ⟨a, xs, ds, rfl, rfl, hH, r⟩⟩
  · rename_i ds q; cases h; obtain ⟨a, xs, e, hH, _, r⟩ := R.mu i ds (.inr q); exact ⟨_, e, .inr ⟨a, xs, ds, rfl, rfl, hH, r⟩⟩
  · cases h
theorem rf_c {v : V} {d : D} (h : ∀ F, Rp K cl F d v := by intro F; simp only [Rp]) : RfZ K cl E (tC v) (eC d) := fun σ H Q env F R h' => h' v H F Frm.refl R (h F)
theorem rf_v {i : Nat} : RfZ K cl E (tVar i) (eV i) := by
  intro σ H Q env F R h
  unfold eV at h
  split at h
  · rename_i d q
    obtain ⟨v, e, r⟩ := R.fz i d q
    exact ⟨v, e, h v H F Frm.refl R r⟩
  · rename_i ds q
    obtain ⟨a, F', e, fr, R', r⟩ := R.freeze q
    exact ⟨_, e, h _ H F' fr R' r⟩
  · exact h.elim
end
def OpOk (K : PySem.W.Frag) (cl : Str → Addr) (r : R2) (g : D → D → Option D) : Prop := ∀ x y d e z H F Q, Same F H → Rb K cl F H d x → Rb K cl F H e y → g d e = some z → (∀ v H' F', Gr H F H' F' → Rp K cl F' z v → Q v H') → r x y H Q
def eB (g : D → D → Option D) (f k : ZF) : ZF := fun e => bnd (f e) fun d e1 => bnd (k e1) fun d' e2 => opt (g d d') e2
def eBV (g : D → D → Option D) (i : Nat) (k : ZF) : ZF := fun e => match look e i with
  | none => none
  | some _ => bnd (k e) fun d' e2 => match look e2 i with
    | some d => opt (g d d') e2
    | none => none
def eBW (g : D → D → Option D) (f : ZF) (j : Nat) : ZF := fun e => bnd (f e) fun d e2 => match look e2 j with
  | some d' => opt (g d d') e2
  | none => none
def eBVV (g : D → D → Option D) (i j : Nat) : ZF := fun e => match look e i, look e j with
  | some d, some d' => opt (g d d') e
  | _, _ => none
section
variable {K : PySem.W.Frag} {cl : Str → Addr} {E : XK} {r : R2} {g : D → D → Option D} {ta tb : TE} {f k : ZF} {i j : Nat}
theorem OpOk.fin {σ : St} {H F : Hp} {env : DE} {x y : V} {d e : D} {Q : VK} (ok : OpOk K cl r g) (R : Rel K cl σ H F env) (hx : Rb K cl F H d x) (hy : Rb K cl F H e y) (h : Ct K cl E (PZ K cl) (opt (g d e) env) σ H F env Q) : r x y H Q := by
  cases hz : g d e with
  | none => rw [hz] at h; exact h.elim
  | some z =>
    rw [hz] at h
    exact ok x y d e z H F Q R.sub hx hy hz fun v H' F' gr p => h v H' F' (R.frm gr) (R.gr gr) p
theorem rf_op (ok : OpOk K cl r g) (ha : RfZ K cl E ta f) (hb : RfZ K cl E tb k) : RfZ K cl E (tOp r ta tb) (eB g f k) := by
  intro σ H Q env F R h
  refine ha σ H _ env F R ((Ct.bnd h pm_Z).mono fun x H1 ⟨F1, e1, d, s1, R1, p1, h1⟩ => ?_)
  refine hb σ H1 _ e1 F1 R1 ((Ct.bnd h1 pm_Z).mono fun y H2 ⟨F2, e2, e, s2, R2, p2, h2⟩ => ?_)
  exact ok.fin R2 (.inl (Rp.mono s2 _ _ p1)) (.inl p2) h2
theorem rf_opV (ok : OpOk K cl r g) (hb : RfZ K cl E tb k) : RfZ K cl E (tOp r (tVar i) tb) (eBV g i k) := by
  intro σ H Q env F R h
  unfold eBV at h
  cases q : look env i with
  | none => rw [q] at h; exact h.elim
  | some d0 =>
    rw [q] at h
    obtain ⟨x, e0, _⟩ := R.look q
    refine ⟨x, e0, hb σ H _ env F R ((Ct.bnd h pm_Z).mono fun y H2 ⟨F2, e2, e, s2, R2, p2, h2⟩ => ?_)⟩
    cases q2 : look e2 i with
    | none => rw [q2] at h2; exact h2.elim
    | some d =>
      rw [q2] at h2
      obtain ⟨x', e', rb⟩ := R2.look q2
      rw [e0] at e'; cases e'
      exact ok.fin R2 rb (.inl p2) h2
theorem rf_opW (ok : OpOk K cl r g) (ha : RfZ K cl E ta f) : RfZ K cl E (tOp r ta (tVar j)) (eBW g f j) := by
  intro σ H Q env F R h
  refine ha σ H _ env F R ((Ct.bnd h pm_Z).mono fun x H1 ⟨F1, e1, d, s1, R1, p1, h1⟩ => ?_)
  cases q : look e1 j with
  | none => rw [q] at h1; exact h1.elim
  | some d' =>
    rw [q] at h1
    obtain ⟨y, e, rb⟩ := R1.look q
    exact ⟨y, e, ok.fin R1 (.inl p1) rb h1⟩
end
section
variable {K : PySem.W.Frag} {cl : Str → Addr} {E : XK}
theorem Rb.int {F H : Hp} {i : Int} {v : V} (h : Rb K cl F H (.int i) v) : v = .int i := by
  rcases h with h | ⟨_, _, _, _, z, _⟩
  · simpa only [Rp] using h
  · cases z
theorem Rb.bl {F H : Hp} {i : Bool} {v : V} (h : Rb K cl F H (.bl i) v) : v = .bl i := by
  rcases h with h | ⟨_, _, _, _, z, _⟩
  · simpa only [Rp] using h
  · cases z
theorem Rb.str {F H : Hp} {i : Str} {v : V} (h : Rb K cl F H (.str i) v) : v = .str i := by
  rcases h with h | ⟨_, _, _, _, z, _⟩
  · simpa only [Rp] using h
  · cases z
theorem Rb.non {F H : Hp} {v : V} (h : Rb K cl F H .non v) : v = .non := by
  rcases h with h | ⟨_, _, _, _, z, _⟩
  · simpa only [Rp] using h
  · cases z
theorem Rb.lst {F H : Hp} {ds : List D} {v : V} (s : Same F H) (h : Rb K cl F H (.lst ds) v) : ∃ a xs, v = .ref a ∧ H a = some (.lst xs) ∧ Rps K cl F ds xs := by
  rcases h with h | ⟨a, xs, ds', e, z, h, r⟩
  · simp only [Rp] at h
    obtain ⟨a, xs, e, h, r⟩ := h
    exact ⟨a, xs, e, s _ _ h, r⟩
  · cases z; exact ⟨a, xs, e, h, r⟩
theorem Rb.tup {F H : Hp} {ds : List D} {v : V} (s : Same F H) (h : Rb K cl F H (.tup ds) v) : ∃ a xs, v = .ref a ∧ H a = some (.tup xs) ∧ Rps K cl F ds xs := by
  rcases h with h | ⟨_, _, _, _, z, _⟩
  · simp only [Rp] at h
    obtain ⟨a, xs, e, h, r⟩ := h
    exact ⟨a, xs, e, s _ _ h, r⟩
  · cases z
theorem Rb.scr {F H : Hp} {ns : List Int} {v : V} (s : Same F H) (h : Rb K cl F H (.scr ns) v) : ∃ a, v = .ref a ∧ Scr K H a (ns.map V.int) := by
  rcases h with h | ⟨_, _, _, _, z, _⟩
  · simp only [Rp] at h
    obtain ⟨a, e, h⟩ := h
    exact ⟨a, e, h.same s⟩
  · cases z
def gI (C : Int → Int → Prop) [∀ i j, Decidable (C i j)] (g : Int → Int → D) : D → D → Option D
  | .int i, .int j => if C i j then some (g i j) else none
  | _, _ => none
def gI0 (g : Int → Int → D) : D → D → Option D
  | .int i, .int j => some (g i j)
  | _, _ => none
theorem ok_I {C : Int → Int → Prop} [∀ i j, Decidable (C i j)] {g : Int → Int → V} {g' : Int → Int → D} (hg : ∀ F i j, Rp K cl F (g' i j) (g i j)) : OpOk K cl (rI C g) (gI C g') := by
  intro x y d e z H F Q s hx hy h q
  unfold gI at h
  split at h
  · rename_i i j
    split at h
    · rename_i c; cases h
      exact ⟨i, j, hx.int, hy.int, c, q _ H F (.refl s) (hg F i j)⟩
    · cases h
  · cases h
theorem ok_I0 {g : Int → Int → V} {g' : Int → Int → D} (hg : ∀ F i j, Rp K cl F (g' i j) (g i j)) : OpOk K cl (rI0 g) (gI0 g') := by
  intro x y d e z H F Q s hx hy h q
  unfold gI0 at h
  split at h
  · rename_i i j
    cases h
    exact ⟨i, j, hx.int, hy.int, q _ H F (.refl s) (hg F i j)⟩
  · cases h
end
end L2
set_option Elab.async false
set_option linter.all false
set_option maxRecDepth 100000
set_option maxHeartbeats 4000000
namespace L2
open PySem PySem.Spec PyProof.Rows
section
variable {K : PySem.W.Frag} {cl : Str → Addr} {E : XK} {σ : St} {H F : Hp} {env : DE}
theorem Rel.newN {p : Addr} {o : HO} (R : Rel K cl σ H F env) (hp : H p = none) : Rel K cl σ (upd H p o) F env ∧ Frm σ H F env σ (upd H p o) F env := by
  have fp : F p = none := R.sub.free hp
  have ne : ∀ a u, H a = some u → a ≠ p := fun a u h z => by rw [z, hp] at h; cases h
  refine ⟨⟨R.sub.trans (same_new hp _), R.len, R.fz, fun i ds h => ?_, R.inj⟩, ⟨Same.refl _, fun a u h f w => ?_, fun _ _ h => ⟨h, rfl⟩, fun a h => ?_⟩⟩
  · obtain ⟨a, xs, e, hH, hF, r⟩ := R.mu i ds h
    exact ⟨a, xs, e, by rw [upd_ne (ne _ _ hH)]; exact hH, hF, r⟩
  · exact ⟨by rw [upd_ne (ne _ _ h)]; exact h, f, w⟩
  · by_cases z : a = p
    · rw [z]; exact hp
    · rw [upd_ne z] at h; exact h
theorem Ct.newN {p : Addr} {xs : List V} {ds : List D} {Q : VK} (R : Rel K cl σ H F env) (hp : H p = none) (r : Rps K cl F ds xs) (h : Ct K cl E (PN K cl) (some (.ok ds env)) σ H F env Q) : Q (.ref p) (upd H p (.lst xs)) := by
  obtain ⟨R', f⟩ := R.newN (o := .lst xs) hp
  refine h _ _ F f R' ⟨p, xs, rfl, hp, upd_same, R.sub.free hp, fun j mj e => ?_, r⟩
  obtain ⟨ds', q⟩ := mj
  obtain ⟨a, ys, e1, hH, _⟩ := R.mu j ds' q
  rw [e] at e1; cases e1
  rw [hp] at hH; cases hH
def zN (f : NF) : ZF := fun e => bnd (f e) fun ds e1 => some (.ok (.lst ds) e1)
theorem rf_zN {t : TE} {f : NF} (h : RfN K cl E t f) : RfZ K cl E t (zN f) := by
  intro σ H Q env F R q
  refine h σ H Q env F R ?_
  unfold zN at q
  rcases hf : f env with _ | ⟨ds, e1⟩ | c
  · rw [hf] at q; exact q
  · rw [hf] at q
    rintro b H' F' fr R' ⟨a, xs, rfl, hn, hH, hF, nm, r⟩
    have sF : Same F' (upd F' a (.lst xs)) := same_new hF _
    refine q _ H' (upd F' a (.lst xs)) ⟨fr.fz.trans sF, fun b o hb fb w => ?_, fr.keep, fr.dom⟩ ⟨fun b o z => ?_, R'.len, fun i d z => ?_, fun i es z => ?_, R'.inj⟩ (by show Rp K cl _ (.lst ds) _; simp only [Rp]; exact ⟨a, xs, rfl, upd_same, r.mono sF⟩)
    · obtain ⟨h1, f1, w1⟩ := fr.hid b o hb fb w
      have nb : b ≠ a := fun z => by rw [z, hn] at hb; cases hb
      exact ⟨h1, by rw [upd_ne nb]; exact f1, w1⟩
    · by_cases y : b = a
      · subst y; rw [upd_same] at z; cases z; exact hH
      · rw [upd_ne y] at z; exact R'.sub _ _ z
    · obtain ⟨v, e, r1⟩ := R'.fz i d z
      exact ⟨v, e, r1.mono sF⟩
    · obtain ⟨b, ys, e, h1, f1, r1⟩ := R'.mu i es z
      have nb : b ≠ a := fun y => nm i ⟨es, z⟩ (by rw [e, y])
      exact ⟨b, ys, e, h1, by rw [upd_ne nb]; exact f1, r1.mono sF⟩
  · rw [hf] at q; exact q
def aN : AF := fun e => some (.ok [] e)
def aC (f : ZF) (k : AF) : AF := fun e => bnd (f e) fun d e1 => bnd (k e1) fun ds e2 => some (.ok (d :: ds) e2)
theorem rf_aN : RfA K cl E tNil aN := fun σ H Q env F R h => h [] H F Frm.refl R .nil
theorem rf_aC {te : TE} {ta : TA} {f : ZF} {k : AF} (hf : RfZ K cl E te f) (hk : RfA K cl E ta k) : RfA K cl E (tCons te ta) (aC f k) := by
  intro σ H Q env F R h
  refine hf σ H _ env F R ((Ct.bnd h pm_A).mono fun x H1 ⟨F1, e1, d, s1, R1, p1, h1⟩ => ?_)
  refine hk σ H1 _ e1 F1 R1 ((Ct.bnd h1 pm_A).mono fun xs H2 ⟨F2, e2, ds, s2, R2, p2, h2⟩ => ?_)
  exact h2 (x :: xs) H2 F2 Frm.refl R2 (.cons (Rp.mono s2 _ _ p1) p2)
def eT (f : AF) : ZF := fun e => bnd (f e) fun ds e1 => if ds.length ≤ sizeLine then some (.ok (.tup ds) e1) else none
def eL (f : AF) : NF := fun e => bnd (f e) fun ds e1 => if ds.length ≤ sizeLine then some (.ok ds e1) else none
theorem rf_T {ta : TA} {f : AF} (hf : RfA K cl E ta f) : RfZ K cl E (tTup ta) (eT f) := by
  intro σ H Q env F R h
  refine hf σ H _ env F R ((Ct.bnd h pm_Z).mono fun xs H1 ⟨F1, e1, ds, s1, R1, p1, h1⟩ => ?_)
  have hl : ds.length = xs.length := Rps.length p1
  split at h1
  · rename_i z
    refine ⟨by rw [← hl]; exact z, fun p hp => ?_⟩
    have g : Gr H1 F1 (upd H1 p (.tup xs)) (upd F1 p (.tup xs)) := .new R1.sub hp
    exact h1 _ _ _ (R1.frm g) (R1.gr g) (by show Rp K cl _ (.tup ds) _; simp only [Rp]; exact ⟨p, xs, rfl, upd_same, Rps.mono g.fz _ _ p1⟩)
  · exact h1.elim
theorem rf_L {ta : TA} {f : AF} (hf : RfA K cl E ta f) : RfN K cl E (tLst ta) (eL f) := by
  intro σ H Q env F R h
  refine hf σ H _ env F R ((Ct.bnd h pm_N).mono fun xs H1 ⟨F1, e1, ds, s1, R1, p1, h1⟩ => ?_)
  have hl : ds.length = xs.length := Rps.length p1
  split at h1
  · rename_i z
    exact ⟨by rw [← hl]; exact z, fun p hp => Ct.newN R1 hp p1 h1⟩
  · exact h1.elim
def bZ (f : ZF) : BF := fun e => bnd (f e) fun d e1 => match d with
  | .bl b => some (.ok b e1)
  | _ => none
theorem rf_bZ {t : TE} {f : ZF} (hf : RfZ K cl E t f) : RfB K cl E (tB t) (bZ f) := by
  intro σ H Q env F R h
  refine hf σ H _ env F R ((Ct.bnd h pm_B).mono fun x H1 ⟨F1, e1, d, s1, R1, p1, h1⟩ => ?_)
  split at h1
  · rename_i b
    have : x = .bl b := by have := (show Rp K cl F1 (.bl b) x from p1); simpa only [Rp] using this
    exact ⟨b, this, h1 b H1 F1 Frm.refl R1 rfl⟩
  · exact h1.elim
theorem rf_bT {t : TE} {f : ZF} (hf : RfZ K cl E t f) : RfB K cl E (tTest t) (bZ f) := rf_bZ hf
def bNot (f : BF) : BF := fun e => bnd (f e) fun b e1 => some (.ok (!b) e1)
def bAnd (f k : BF) : BF := fun e => bnd (f e) fun b e1 => if b = true then k e1 else some (.ok false e1)
def bOr (f k : BF) : BF := fun e => bnd (f e) fun b e1 => if b = true then some (.ok true e1) else k e1
theorem rf_bNot {t : TT} {f : BF} (hf : RfB K cl E t f) : RfB K cl E (tNot t) (bNot f) := by
  intro σ H Q env F R h
  refine hf σ H _ env F R ((Ct.bnd h pm_B).mono fun x H1 ⟨F1, e1, d, s1, R1, p1, h1⟩ => ?_)
  cases (show x = d from p1)
  exact h1 _ H1 F1 Frm.refl R1 rfl
theorem rf_bAnd {t u : TT} {f k : BF} (hf : RfB K cl E t f) (hk : RfB K cl E u k) : RfB K cl E (tAnd t u) (bAnd f k) := by
  intro σ H Q env F R h
  refine hf σ H _ env F R ((Ct.bnd h pm_B).mono fun x H1 ⟨F1, e1, d, s1, R1, p1, h1⟩ => ?_)
  cases (show x = d from p1)
  by_cases z : x = true
  · rw [if_pos z] at h1 ⊢; exact hk σ H1 Q e1 F1 R1 h1
  · rw [if_neg z] at h1 ⊢; exact h1 _ H1 F1 Frm.refl R1 rfl
theorem rf_bOr {t u : TT} {f k : BF} (hf : RfB K cl E t f) (hk : RfB K cl E u k) : RfB K cl E (tOr t u) (bOr f k) := by
  intro σ H Q env F R h
  refine hf σ H _ env F R ((Ct.bnd h pm_B).mono fun x H1 ⟨F1, e1, d, s1, R1, p1, h1⟩ => ?_)
  cases (show x = d from p1)
  by_cases z : x = true
  · rw [if_pos z] at h1 ⊢; exact h1 _ H1 F1 Frm.refl R1 rfl
  · rw [if_neg z] at h1 ⊢; exact hk σ H1 Q e1 F1 R1 h1
def eNot (f : ZF) : ZF := fun e => bnd (f e) fun d e1 => match d with
  | .bl b => some (.ok (.bl (!b)) e1)
  | _ => none
def eAnd (f k : ZF) : ZF := fun e => bnd (f e) fun d e1 => match d with
  | .bl b => if b = true then k e1 else some (.ok (.bl false) e1)
  | _ => none
def eOr (f k : ZF) : ZF := fun e => bnd (f e) fun d e1 => match d with
  | .bl b => if b = true then some (.ok (.bl true) e1) else k e1
  | _ => none
def eIf (c : BF) (f k : ZF) : ZF := fun e => bnd (c e) fun b e1 => if b = true then f e1 else k e1
theorem rf_Not {t : TE} {f : ZF} (hf : RfZ K cl E t f) : RfZ K cl E (tNotV t) (eNot f) := by
  intro σ H Q env F R h
  refine hf σ H _ env F R ((Ct.bnd h pm_Z).mono fun x H1 ⟨F1, e1, d, s1, R1, p1, h1⟩ => ?_)
  split at h1
  · rename_i b
    have : x = .bl b := by have := (show Rp K cl F1 (.bl b) x from p1); simpa only [Rp] using this
    exact ⟨b, this, h1 _ H1 F1 Frm.refl R1 (by show Rp K cl F1 (.bl _) _; simp only [Rp])⟩
  · exact h1.elim
theorem rf_And {t u : TE} {f k : ZF} (hf : RfZ K cl E t f) (hk : RfZ K cl E u k) : RfZ K cl E (tAndV t u) (eAnd f k) := by
  intro σ H Q env F R h
  refine hf σ H _ env F R ((Ct.bnd h pm_Z).mono fun x H1 ⟨F1, e1, d, s1, R1, p1, h1⟩ => ?_)
  split at h1
  · rename_i b
    have : x = .bl b := by have := (show Rp K cl F1 (.bl b) x from p1); simpa only [Rp] using this
    refine ⟨b, this, ?_⟩
    by_cases z : b = true
    · rw [if_pos z] at h1 ⊢; exact hk σ H1 Q e1 F1 R1 h1
    · rw [if_neg z] at h1 ⊢; exact h1 _ H1 F1 Frm.refl R1 (by show Rp K cl F1 (.bl _) _; simp only [Rp])
  · exact h1.elim
theorem rf_Or {t u : TE} {f k : ZF} (hf : RfZ K cl E t f) (hk : RfZ K cl E u k) : RfZ K cl E (tOrV t u) (eOr f k) := by
  intro σ H Q env F R h
  refine hf σ H _ env F R ((Ct.bnd h pm_Z).mono fun x H1 ⟨F1, e1, d, s1, R1, p1, h1⟩ => ?_)
  split at h1
  · rename_i b
    have : x = .bl b := by have := (show Rp K cl F1 (.bl b) x from p1); simpa only [Rp] using this
    refine ⟨b, this, ?_⟩
    by_cases z : b = true
    · rw [if_pos z] at h1 ⊢; exact h1 _ H1 F1 Frm.refl R1 (by show Rp K cl F1 (.bl _) _; simp only [Rp])
    · rw [if_neg z] at h1 ⊢; exact hk σ H1 Q e1 F1 R1 h1
  · exact h1.elim
def nIf (c : BF) (f k : NF) : NF := fun e => bnd (c e) fun b e1 => if b = true then f e1 else k e1
def UnOk (K : PySem.W.Frag) (cl : Str → Addr) (r : V → Hp → VK → Prop) (g : D → Option D) : Prop := ∀ x d z H F Q, Same F H → Rb K cl F H d x → g d = some z → (∀ v H' F', Gr H F H' F' → Rp K cl F' z v → Q v H') → r x H Q
def eU (g : D → Option D) (f : ZF) : ZF := fun e => bnd (f e) fun d e1 => opt (g d) e1
theorem rf_U {r : V → Hp → VK → Prop} {g : D → Option D} {t : TE} {f : ZF} (ok : UnOk K cl r g) (hf : RfZ K cl E t f) : RfZ K cl E (tUn r t) (eU g f) := by
  intro σ H Q env F R h
  refine hf σ H _ env F R ((Ct.bnd h pm_Z).mono fun x H1 ⟨F1, e1, d, s1, R1, p1, h1⟩ => ?_)
  cases hz : g d with
  | none => rw [hz] at h1; exact h1.elim
  | some z =>
    rw [hz] at h1
    exact ok x d z H1 F1 Q R1.sub (.inl p1) hz fun v H' F' gr p => h1 v H' F' (R1.frm gr) (R1.gr gr) p
def gNeg : D → Option D
  | .int i => some (.int (-i))
  | _ => none
theorem ok_neg : UnOk K cl (rU fun i => .int (-i)) gNeg := by
  intro x d z H F Q s hx h q
  unfold gNeg at h
  split at h
  · rename_i i; cases h
    exact ⟨i, hx.int, q _ H F (.refl s) (by simp only [Rp])⟩
  · cases h
def CbOk (K : PySem.W.Frag) (cl : Str → Addr) (r : List V → Hp → VK → Prop) (g : List D → Option D) : Prop := ∀ xs ds z H F Q, Same F H → Rps K cl F ds xs → g ds = some z → (∀ v H' F', Gr H F H' F' → Rp K cl F' z v → Q v H') → r xs H Q
def CbOk1 (K : PySem.W.Frag) (cl : Str → Addr) (r : List V → Hp → VK → Prop) (g : D → Option D) : Prop := ∀ x d z H F Q, Same F H → Rb K cl F H d x → g d = some z → (∀ v H' F', Gr H F H' F' → Rp K cl F' z v → Q v H') → r [x] H Q
def eCB (g : List D → Option D) (f : AF) : ZF := fun e => bnd (f e) fun ds e1 => opt (g ds) e1
def eCV (g : D → Option D) (i : Nat) : ZF := fun e => match look e i with
  | some d => opt (g d) e
  | none => none
theorem rf_CB {r : List V → Hp → VK → Prop} {g : List D → Option D} {t : TA} {f : AF} (ok : CbOk K cl r g) (hf : RfA K cl E t f) : RfZ K cl E (tCB r t) (eCB g f) := by
  intro σ H Q env F R h
  refine hf σ H _ env F R ((Ct.bnd h pm_Z).mono fun x H1 ⟨F1, e1, d, s1, R1, p1, h1⟩ => ?_)
  cases hz : g d with
  | none => rw [hz] at h1; exact h1.elim
  | some z =>
    rw [hz] at h1
    exact ok x d z H1 F1 Q R1.sub p1 hz fun v H' F' gr p => h1 v H' F' (R1.frm gr) (R1.gr gr) p
theorem rf_CV {r : List V → Hp → VK → Prop} {g : D → Option D} {i : Nat} (ok : CbOk1 K cl r g) : RfZ K cl E (tCB r (tCons (tVar i) tNil)) (eCV g i) := by
  intro σ H Q env F R h
  unfold eCV at h
  cases q : look env i with
  | none => rw [q] at h; exact h.elim
  | some d =>
    rw [q] at h
    obtain ⟨x, e, rb⟩ := R.look q
    refine ⟨x, e, ?_⟩
    cases hz : g d with
    | none => simp only [hz, opt_none] at h; exact h.elim
    | some z =>
      simp only [hz, opt_some] at h
      exact ok x d z H F Q R.sub rb hz fun v H' F' gr p => h v H' F' (R.frm gr) (R.gr gr) p
def g1 (g : D → Option D) : List D → Option D
  | [d] => g d
  | _ => none
def CnOk (K : PySem.W.Frag) (cl : Str → Addr) (r : List V → Hp → VK → Prop) (g : D → Option (List D)) : Prop := ∀ x d zs H F Q, Same F H → Rb K cl F H d x → g d = some zs → (∀ p xs, H p = none → Rps K cl F zs xs → Q (.ref p) (upd H p (.lst xs))) → r [x] H Q
def nCB (g : D → Option (List D)) (f : ZF) : NF := fun e => bnd (f e) fun d e1 => opt (g d) e1
def nCV (g : D → Option (List D)) (i : Nat) : NF := fun e => match look e i with
  | some d => opt (g d) e
  | none => none
theorem rf_nCV {r : List V → Hp → VK → Prop} {g : D → Option (List D)} {i : Nat} (ok : CnOk K cl r g) : RfN K cl E (tCB r (tCons (tVar i) tNil)) (nCV g i) := by
  intro σ H Q env F R h
  unfold nCV at h
  cases q : look env i with
  | none => rw [q] at h; exact h.elim
  | some d =>
    rw [q] at h
    obtain ⟨x, e, rb⟩ := R.look q
    refine ⟨x, e, ?_⟩
    cases hz : g d with
    | none => simp only [hz, opt_none] at h; exact h.elim
    | some z =>
      simp only [hz, opt_some] at h
      exact ok x d z H F Q R.sub rb hz fun p xs hp r => Ct.newN R hp r h
def OnOk (K : PySem.W.Frag) (cl : Str → Addr) (r : R2) (g : D → D → Option (List D)) : Prop := ∀ x y d e zs H F Q, Same F H → Rb K cl F H d x → Rb K cl F H e y → g d e = some zs → (∀ p xs, H p = none → Rps K cl F zs xs → Q (.ref p) (upd H p (.lst xs))) → r x y H Q
def nB (g : D → D → Option (List D)) (f k : ZF) : NF := fun e => bnd (f e) fun d e1 => bnd (k e1) fun d' e2 => opt (g d d') e2
theorem rf_nB {r : R2} {g : D → D → Option (List D)} {ta tb : TE} {f k : ZF} (ok : OnOk K cl r g) (ha : RfZ K cl E ta f) (hb : RfZ K cl E tb k) : RfN K cl E (tOp r ta tb) (nB g f k) := by
  intro σ H Q env F R h
  refine ha σ H _ env F R ((Ct.bnd h pm_N).mono fun x H1 ⟨F1, e1, d, s1, R1, p1, h1⟩ => ?_)
  refine hb σ H1 _ e1 F1 R1 ((Ct.bnd h1 pm_N).mono fun y H2 ⟨F2, e2, e, s2, R2, p2, h2⟩ => ?_)
  cases hz : g d e with
  | none => rw [hz] at h2; exact h2.elim
  | some z =>
    rw [hz] at h2
    exact ok x y d e z H2 F2 Q R2.sub (.inl (Rp.mono s2 _ _ p1)) (.inl p2) hz fun p xs hp r => Ct.newN R2 hp r h2
end
end L2
set_option Elab.async false
set_option linter.all false
set_option maxRecDepth 100000
set_option maxHeartbeats 4000000
namespace L2
open PySem PySem.Spec PyProof.Rows
section
variable {K : PySem.W.Frag} {cl : Str → Addr} {E : XK} {σ : St} {H F : Hp} {env : DE}
instance decMul (i j : Int) : Decidable (IntMulOk i j) := by unfold IntMulOk; infer_instance
instance decPow (i j : Int) : Decidable (CPow i j) := by unfold CPow; infer_instance
abbrev gAdd := gI0 fun i j => .int (i + j)
abbrev gSub' := gI0 fun i j => .int (i - j)
abbrev gMul := gI IntMulOk fun i j => .int (i * j)
abbrev gDiv := gI (fun _ j => 0 < j ∧ j.natAbs.log2 < 9000) fun i j => .int (i / j)
abbrev gMod := gI (fun _ j => 0 < j) fun i j => .int (i % j)
abbrev gPow := gI CPow fun i j => .int (i ^ j.toNat)
abbrev gLt := gI0 fun i j => .bl (decide (i < j))
abbrev gLe := gI0 fun i j => .bl (decide (i ≤ j))
abbrev gGt := gI0 fun i j => .bl (decide (j < i))
abbrev gGe := gI0 fun i j => .bl (decide (j ≤ i))
theorem ok_add : OpOk K cl (rI0 fun i j => .int (i + j)) gAdd := ok_I0 fun F i j => by simp only [Rp]
theorem ok_sub : OpOk K cl (rI0 fun i j => .int (i - j)) gSub' := ok_I0 fun F i j => by simp only [Rp]
theorem ok_mul : OpOk K cl (rI IntMulOk fun i j => .int (i * j)) gMul := ok_I fun F i j => by simp only [Rp]
theorem ok_div : OpOk K cl (rI (fun _ j => 0 < j ∧ j.natAbs.log2 < 9000) fun i j => .int (i / j)) gDiv := ok_I fun F i j => by simp only [Rp]
theorem ok_mod : OpOk K cl (rI (fun _ j => 0 < j) fun i j => .int (i % j)) gMod := ok_I fun F i j => by simp only [Rp]
theorem ok_pow : OpOk K cl (rI CPow fun i j => .int (i ^ j.toNat)) gPow := ok_I fun F i j => by simp only [Rp]
theorem ok_lt : OpOk K cl (rI0 fun i j => .bl (decide (i < j))) gLt := ok_I0 fun F i j => by simp only [Rp]
theorem ok_gt : OpOk K cl (rI0 fun i j => .bl (decide (j < i))) gGt := ok_I0 fun F i j => by simp only [Rp]
def toV : D → Option V
  | .non => some .non
  | .bl b => some (.bl b)
  | .int i => some (.int i)
  | .str x => some (.str x)
  | _ => none
theorem Rb.toV {d : D} {v u : V} (h : Rb K cl F H d v) (e : toV d = some u) : v = u := by
  cases d with
  | non => cases e; exact h.non
  | bl b => cases e; exact h.bl
  | int i => cases e; exact h.int
  | str x => cases e; exact h.str
  | _ => cases e
def gEq (neg : Bool) (d e : D) : Option D := match toV d, toV e with
  | some x, some y => if scal x y = true then some (.bl (if neg then !decide (x = y) else decide (x = y))) else none
  | _, _ => none
theorem ok_eq : OpOk K cl rEq (gEq false) := by
  intro x y d e z H F Q s hx hy h q
  unfold gEq at h
  split at h
  · rename_i u w hu hw
    split at h
    · rename_i c; cases h
      rw [hx.toV hu, hy.toV hw]
      exact ⟨c, q _ H F (.refl s) (by simp only [Rp]; rfl)⟩
    · cases h
  · cases h
theorem ok_ne : OpOk K cl rNe (gEq true) := by
  intro x y d e z H F Q s hx hy h q
  unfold gEq at h
  split at h
  · rename_i u w hu hw
    split at h
    · rename_i c; cases h
      rw [hx.toV hu, hy.toV hw]
      exact ⟨c, q _ H F (.refl s) (by simp only [Rp]; rfl)⟩
    · cases h
  · cases h
@[simp] theorem gEq_int (neg : Bool) (a b : Int) : gEq neg (.int a) (.int b) = some (.bl (if neg then !decide (a = b) else decide (a = b))) := by
  unfold gEq toV
  simp only [scal, if_true, V.int.injEq]
@[simp] theorem gEq_str (neg : Bool) (a b : Str) : gEq neg (.str a) (.str b) = some (.bl (if neg then !decide (a = b) else decide (a = b))) := by
  unfold gEq toV
  simp only [scal, if_true, V.str.injEq]
@[simp] theorem gEq_bl (neg : Bool) (a b : Bool) : gEq neg (.bl a) (.bl b) = some (.bl (if neg then !decide (a = b) else decide (a = b))) := by
  unfold gEq toV
  simp only [scal, if_true, V.bl.injEq]
def gIsN (neg : Bool) (d e : D) : Option D := match d, e with
  | .non, .non => some (.bl (!neg))
  | _, .non => some (.bl neg)
  | _, _ => none
theorem Rps.atI {ds : List D} {xs : List V} {i : Int} {d : D} (h : Rps K cl F ds xs) (e : atI ds i = some d) : ∃ v, L2.atI xs i = some v ∧ Rp K cl F d v := by
  unfold L2.atI at e ⊢
  rw [← h.length]
  cases q : ixN ds.length i with
  | none => rw [q] at e; cases e
  | some j => rw [q] at e; exact h.get e
def gIxL (d e : D) : Option D := match d, e with
  | .lst ds, .int i => atI ds i
  | .scr ns, .int i => (atI ns i).map .int
  | _, _ => none
def gIxT (d e : D) : Option D := match d, e with
  | .tup ds, .int i => atI ds i
  | _, _ => none
theorem atI_map {α β : Type} (f : α → β) (xs : List α) (i : Int) : atI (xs.map f) i = (atI xs i).map f := by
  unfold L2.atI
  rw [List.length_map]
  cases ixN xs.length i with
  | none => rfl
  | some j => simp
theorem ok_ixL : OpOk K cl (rIxL K) gIxL := by
  intro x y d e z H F Q s hx hy h q
  unfold gIxL at h
  split at h
  · obtain ⟨a, xs, rfl, hH, r⟩ := hx.lst s
    obtain ⟨v, e, p⟩ := r.atI h
    exact ⟨a, xs, _, v, rfl, hy.int, .of hH, e, q v H F (.refl s) p⟩
  · rename_i ns i
    obtain ⟨a, rfl, hS⟩ := hx.scr s
    cases hz : atI ns i with
    | none => rw [hz] at h; cases h
    | some n =>
      rw [hz] at h; cases h
      exact ⟨a, _, _, .int n, rfl, hy.int, hS.seq, by rw [atI_map, hz]; rfl, q _ H F (.refl s) (by simp only [Rp])⟩
  · cases h
theorem ok_ixT : OpOk K cl (rIxT K) gIxT := by
  intro x y d e z H F Q s hx hy h q
  unfold gIxT at h
  split at h
  · obtain ⟨a, xs, rfl, hH, r⟩ := hx.tup s
    obtain ⟨v, e, p⟩ := r.atI h
    exact ⟨a, xs, _, v, rfl, hy.int, .of hH, e, q v H F (.refl s) p⟩
  · cases h
def eqD : D → D → Bool
  | .non, .non => true
  | .bl a, .bl b => a == b
  | .bl a, .int b => (if a then 1 else 0) == b
  | .int a, .bl b => a == (if b then 1 else 0)
  | .int a, .int b => a == b
  | .str a, .str b => a == b
  | _, _ => false
def eqDs : List D → List D → Bool
  | [], [] => true
  | x :: xs, y :: ys => eqD x y && eqDs xs ys
  | _, _ => false
def flatD : D → Bool
  | .non => true
  | .bl _ => true
  | .int _ => true
  | .str _ => true
  | _ => false
theorem Rp.flat {d : D} {v : V} (h : Rp K cl F d v) (f : flatD d = true) : toV d = some v ∧ flatV v = true := by
  cases d <;> simp only [Rp] at h <;> first | (subst h; exact ⟨rfl, rfl⟩) | cases f
theorem Rps.flat : ∀ {ds : List D} {vs : List V}, Rps K cl F ds vs → ds.all flatD = true → vs.all flatV = true
  | [], _, h, _ => by rw [h.inv0]; rfl
  | d :: ds, _, h, f => by
    obtain ⟨v, r, rfl, h1, h2⟩ := h.inv
    rw [List.all_cons, Bool.and_eq_true] at f
    rw [List.all_cons, (h1.flat f.1).2, h2.flat f.2]; rfl
theorem Rp.eq {d e : D} {v u : V} (h : Rp K cl F d v) (g : Rp K cl F e u) (fd : flatD d = true) (fe : flatD e = true) : eqV v u = eqD d e := by
  have h1 := (h.flat fd).1
  have h2 := (g.flat fe).1
  cases d <;> cases e <;> first | (cases h1; cases h2; rfl) | (cases fd; done) | (cases fe; done)
theorem Rps.eq : ∀ {ds es : List D} {vs us : List V}, Rps K cl F ds vs → Rps K cl F es us → ds.all flatD = true → es.all flatD = true → eqVs vs us = eqDs ds es
  | [], [], _, _, h, g, _, _ => by rw [h.inv0, g.inv0]; rfl
  | [], _ :: _, _, _, h, g, _, _ => by rw [h.inv0]; obtain ⟨_, _, rfl, _, _⟩ := g.inv; rfl
  | _ :: _, [], _, _, h, g, _, _ => by rw [g.inv0]; obtain ⟨_, _, rfl, _, _⟩ := h.inv; rfl
  | d :: ds, e :: es, _, _, h, g, fd, fe => by
    obtain ⟨v, r, rfl, h1, h2⟩ := h.inv
    obtain ⟨u, r', rfl, g1, g2⟩ := g.inv
    rw [List.all_cons, Bool.and_eq_true] at fd fe
    unfold eqVs eqDs
    rw [h1.eq g1 fd.1 fe.1, h2.eq g2 fd.2 fe.2]
def gEqL (neg : Bool) (d e : D) : Option D := match d, e with
  | .lst ds, .lst es => if (ds.all flatD && es.all flatD) = true then some (.bl (if neg then !eqDs ds es else eqDs ds es)) else none
  | .tup ds, .tup es => if (ds.all flatD && es.all flatD) = true then some (.bl (if neg then !eqDs ds es else eqDs ds es)) else none
  | _, _ => none
def gCat (d e : D) : Option (List D) := match d, e with
  | .lst ds, .lst es => if ds.length + es.length ≤ sizeLine then some (ds ++ es) else none
  | _, _ => none
theorem ok_cat : OnOk K cl rCat gCat := by
  intro x y d e zs H F Q s hx hy h q
  unfold gCat at h
  split at h
  · split at h
    · rename_i c; cases h
      obtain ⟨a, xs, rfl, hH, r⟩ := hx.lst s
      obtain ⟨b, ys, rfl, hH', r'⟩ := hy.lst s
      exact ⟨a, b, xs, ys, rfl, rfl, hH, hH', by rw [← r.length, ← r'.length]; exact c, fun p hp => q p _ hp (r.append r')⟩
    · cases h
  · cases h
def gLen : D → Option D
  | .lst ds => some (.int ds.length)
  | .tup ds => some (.int ds.length)
  | .scr ns => some (.int ns.length)
  | _ => none
theorem ok_len : CbOk1 K cl (rLenSeq K) gLen := by
  intro x d z H F Q s hx h q
  unfold gLen at h
  split at h
  · cases h
    obtain ⟨a, xs, rfl, hH, r⟩ := hx.lst s
    exact ⟨a, xs, rfl, .inl (.of hH), q _ H F (.refl s) (by simp only [Rp]; rw [r.length])⟩
  · cases h
    obtain ⟨a, xs, rfl, hH, r⟩ := hx.tup s
    exact ⟨a, xs, rfl, .inr (.of hH), q _ H F (.refl s) (by simp only [Rp]; rw [r.length])⟩
  · cases h
    obtain ⟨a, rfl, hS⟩ := hx.scr s
    exact ⟨a, _, rfl, .inl hS.seq, q _ H F (.refl s) (by simp only [Rp]; rw [List.length_map])⟩
  · cases h
def gAbs : D → Option D
  | .int i => some (.int (if i < 0 then -i else i))
  | _ => none
def gList : D → Option (List D)
  | .lst ds => some ds
  | .tup ds => some ds
  | .scr ns => some (ns.map .int)
  | _ => none
theorem ok_list : CnOk K cl (rListOf K) gList := by
  intro x d zs H F Q s hx h q
  unfold gList at h
  split at h
  · cases h
    obtain ⟨a, xs, rfl, hH, r⟩ := hx.lst s
    exact ⟨a, xs, rfl, .inl (.of hH), fun p hp => q p _ hp r⟩
  · cases h
    obtain ⟨a, xs, rfl, hH, r⟩ := hx.tup s
    exact ⟨a, xs, rfl, .inr (.of hH), fun p hp => q p _ hp r⟩
  · cases h
    obtain ⟨a, rfl, hS⟩ := hx.scr s
    exact ⟨a, _, rfl, .inl hS.seq, fun p hp => q p _ hp Rps.ofInts⟩
  · cases h
end
end L2
set_option Elab.async false
set_option linter.all false
set_option maxRecDepth 100000
set_option maxHeartbeats 4000000
namespace L2
open PySem PySem.Spec PyProof.Rows
inductive R1 where | ret (d : D) | own (ds : List D) | ex (c : Str)
def spD (K : PySem.W.Frag) (cl : Str → Addr) (g : List D → Option R1) : Sp := fun vs H Q E => ∃ ds F, Same F H ∧ Rps K cl F ds vs ∧ match g ds with
  | none => False
  | some (.ret d) => ∀ v H' F', Gr H F H' F' → Rp K cl F' d v → Q v H'
  | some (.own es) => ∀ a xs H' F', Gr H F H' F' → H a = none → H' a = some (.lst xs) → F' a = none → Rps K cl F' es xs → Q (.ref a) H'
  | some (.ex c) => ∀ H' F', Gr H F H' F' → E (.ref (cl c)) none H'
def toZ (r : Option R1) (e : DE) : Option (R D) := match r with
  | none => none
  | some (.ret d) => some (.ok d e)
  | some (.own ds) => some (.ok (.lst ds) e)
  | some (.ex c) => some (.ex c)
def toZ0 (r : Option R1) (e : DE) : Option (R D) := match r with
  | some (.ret d) => some (.ok d e)
  | some (.own ds) => some (.ok (.lst ds) e)
  | _ => none
def eCall (g : List D → Option R1) (f : AF) : ZF := fun e => bnd (f e) fun ds e1 => toZ (g ds) e1
def eCall0 (g : List D → Option R1) (f : AF) : ZF := fun e => bnd (f e) fun ds e1 => toZ0 (g ds) e1
def put (i : Nat) (s : Sl) (e : DE) : Option RS := match e[i]? with
  | none => none
  | some (.hd _) => none
  | some _ => some (.nx (e.set i s))
def toSet (i : Nat) (r : Option R1) (e : DE) : Option RS := match r with
  | none => none
  | some (.ret d) => put i (.fz d) e
  | some (.own ds) => put i (.ow ds) e
  | some (.ex c) => some (.ex c)
def toSet0 (i : Nat) (r : Option R1) (e : DE) : Option RS := match r with
  | some (.ret d) => put i (.fz d) e
  | some (.own ds) => put i (.ow ds) e
  | _ => none
def toRet (r : Option R1) : Option RS := match r with
  | none => none
  | some (.ret d) => some (.rt d)
  | some (.own ds) => some (.ro ds)
  | some (.ex c) => some (.ex c)
def toRet0 (r : Option R1) : Option RS := match r with
  | some (.ret d) => some (.rt d)
  | some (.own ds) => some (.ro ds)
  | _ => none
def sNx : SF := fun e => some (.nx e)
def sSeq (f k : SF) : SF := fun e => match f e with
  | some (.nx e1) => k e1
  | r => r
def sSet (i : Nat) (f : ZF) : SF := fun e => sbn (f e) fun d e1 => put i (.fz d) e1
def sSetN (i : Nat) (f : NF) : SF := fun e => sbn (f e) fun ds e1 => put i (.ow ds) e1
def sSetC (i : Nat) (g : List D → Option R1) (f : AF) : SF := fun e => sbn (f e) fun ds e1 => toSet i (g ds) e1
def sSetC0 (i : Nat) (g : List D → Option R1) (f : AF) : SF := fun e => sbn (f e) fun ds e1 => toSet0 i (g ds) e1
def sRet (f : ZF) : SF := fun e => sbn (f e) fun d _ => some (.rt d)
def sRetN (f : NF) : SF := fun e => sbn (f e) fun ds _ => some (.ro ds)
def sRetC (g : List D → Option R1) (f : AF) : SF := fun e => sbn (f e) fun ds _ => toRet (g ds)
def sRetC0 (g : List D → Option R1) (f : AF) : SF := fun e => sbn (f e) fun ds _ => toRet0 (g ds)
def sRetV (i : Nat) : SF := fun e => match e[i]? with
  | some (.fz d) => some (.rt d)
  | some (.ow ds) => some (.ro ds)
  | _ => none
def sRetO : SF := fun _ => some (.rt .non)
def sIf (c : BF) (f k : SF) : SF := fun e => sbn (c e) fun b e1 => if b = true then f e1 else k e1
def sEx (f : ZF) : SF := fun e => sbn (f e) fun _ e1 => some (.nx e1)
def sBk : SF := fun e => some (.bk e)
def sCt : SF := fun e => some (.ct e)
def sRaise (c : Str) (f : AF) : SF := fun e => sbn (f e) fun ds _ => if ds.length ≤ sizeLine then some (.ex c) else none
def sApp (i : Nat) (f : ZF) : SF := fun e => match look e i with
  | some (.lst _) => sbn (f e) fun d e1 => match e1[i]? with
    | some (.ow ds) => if ds.length < sizeLine then some (.nx (e1.set i (.ow (ds ++ [d])))) else none
    | _ => none
  | _ => none
def sSub (i : Nat) (k : ZF) (f : ZF) : SF := fun e => sbn (f e) fun d e1 => match look e1 i with
  | none => none
  | some _ => sbn (k e1) fun j e2 => match e2[i]?, j with
    | some (.ow ds), .int j => match ixN ds.length j with
      | some n => some (.nx (e2.set i (.ow (ds.set n d))))
      | none => none
    | _, _ => none
section
variable {K : PySem.W.Frag} {cl : Str → Addr} {E : XK} {σ : St} {H F : Hp} {env : DE}
theorem Gr.fx {H' F' : Hp} (g : Gr H F H' F') : FX σ H F env H' F' := ⟨g.fz, g.sub, fun a o h f _ => g.hid a o h f, g.dom⟩
theorem call_z {g : List D → Option R1} {ds : List D} {vs : List V} {Q : VK} (R : Rel K cl σ H F env) (p : Rps K cl F ds vs) (h : Ct K cl E (PZ K cl) (toZ (g ds) env) σ H F env Q) : spD K cl g (vs ++ []) H Q E := by
  rw [List.append_nil]
  refine ⟨ds, F, R.sub, p, ?_⟩
  unfold toZ at h
  split at h
  · exact h.elim
  · exact fun v H' F' gr r => h v H' F' (R.frm gr) (R.gr gr) r
  · rename_i es _
    intro a xs H' F' gr ha hH hF r
    have sF : Same F' (upd F' a (.lst xs)) := same_new hF _
    have gr' : Gr H F H' (upd F' a (.lst xs)) := by
      refine ⟨gr.fz.trans sF, fun b o z => ?_, fun b o hb fb => ?_⟩
      · by_cases y : b = a
        · subst y; rw [upd_same] at z; cases z; exact hH
        · rw [upd_ne y] at z; exact gr.sub _ _ z
      · obtain ⟨h1, f1⟩ := gr.hid b o hb fb
        have nb : b ≠ a := fun z => by rw [z, ha] at hb; cases hb
        exact ⟨h1, by rw [upd_ne nb]; exact f1⟩
    exact h _ H' _ (R.frm gr') (R.gr gr') (by show Rp K cl _ (.lst es) _; simp only [Rp]; exact ⟨a, xs, rfl, upd_same, r.mono sF⟩)
  · exact fun H' F' gr => h H' F' gr.fx
theorem toZ_of0 {r : Option R1} {e : DE} {P : Py D V} {Q : VK} (h : Ct K cl E P (toZ0 r e) σ H F env Q) : toZ r e = toZ0 r e ∧ ∀ c, r ≠ some (.ex c) := by
  unfold toZ0 at h
  split at h
  · exact ⟨rfl, fun c z => by cases z⟩
  · exact ⟨rfl, fun c z => by cases z⟩
  · exact h.elim
theorem rf_Call {g : List D → Option R1} {t : TA} {f : AF} (hf : RfA K cl E t f) : RfZ K cl E (tCall (spD K cl g) [] E t) (eCall g f) := by
  intro σ H Q env F R h
  refine hf σ H _ env F R ((Ct.bnd h pm_Z).mono fun vs H1 ⟨F1, e1, ds, s1, R1, p1, h1⟩ => call_z R1 p1 h1)
theorem rf_Call0 {g : List D → Option R1} {t : TA} {f : AF} (hf : RfA K cl E t f) : RfZ K cl E (tCall (spD K cl g) [] E0 t) (eCall0 g f) := by
  intro σ H Q env F R h
  refine hf σ H _ env F R ((Ct.bnd h pm_Z).mono fun vs H1 ⟨F1, e1, ds, s1, R1, p1, h1⟩ => ?_)
  refine call_z R1 p1 ?_
  obtain ⟨z, n⟩ := toZ_of0 h1
  rw [z]
  unfold Ct at h1 ⊢
  split at h1
  · exact h1
  · exact h1
  · rename_i c q
    exact absurd q (by unfold toZ0; split <;> intro y <;> cases y)
theorem rf_Nx : RfS K cl E tNext sNx := fun N σ H env F R h => h σ H F Frm.refl R
theorem rf_Seq {t u : TS} {f k : SF} (hf : RfS K cl E t f) (hk : RfS K cl E u k) : RfS K cl E (tSeq t u) (sSeq f k) := by
  intro N σ H env F R h
  refine hf _ σ H env F R ?_
  unfold sSeq at h
  split at h
  · rename_i e1 q
    rw [q]
    intro σ' H' F' fr R'
    exact hk N σ' H' e1 F' R' (h.from fr)
  · rename_i n
    unfold Cs at h ⊢
    split at h
    · exact h
    · rename_i e q; exact absurd q (n e)
    all_goals exact h
theorem putS {i : Nat} {s : Sl} {e : DE} {N : Ends} {σ0 : St} {H0 F0 : Hp} {env0 : DE} (h : Cs K cl E (put i s e) σ0 H0 F0 env0 N) : i < e.length ∧ (∀ ds, e[i]? ≠ some (.hd ds)) ∧ Cs K cl E (some (.nx (e.set i s))) σ0 H0 F0 env0 N := by
  unfold put at h
  split at h
  · exact h.elim
  · exact h.elim
  · rename_i z n q
    exact ⟨(List.getElem?_eq_some_iff.mp q).1, fun ds y => by rw [q] at y; cases y; exact n ds rfl, h⟩
theorem rf_Set {i : Nat} {t : TE} {f : ZF} (hf : RfZ K cl E t f) : RfS K cl E (tAsg t (gName i)) (sSet i f) := by
  intro N σ H env F R h
  refine hf σ H _ env F R ((Cs.bnd h).mono fun x H1 ⟨F1, e1, d, fr, R1, p1, h1⟩ => ?_)
  obtain ⟨hi, nh, h2⟩ := putS h1
  exact h2 _ H1 F1 (fr.trans (Frm.put nh)) (R1.put hi nh p1)
theorem rf_SetN {i : Nat} {t : TE} {f : NF} (hf : RfN K cl E t f) : RfS K cl E (tAsg t (gName i)) (sSetN i f) := by
  intro N σ H env F R h
  refine hf σ H _ env F R ((Cs.bnd h).mono fun x H1 ⟨F1, e1, ds, fr, R1, p1, h1⟩ => ?_)
  obtain ⟨a, xs, rfl, hn, hH, hF, nm, r⟩ := p1
  obtain ⟨hi, nh, h2⟩ := putS h1
  exact h2 _ H1 F1 (fr.putO hn nh) (R1.putO hi hH hF nm r)
theorem rf_Ret {t : TE} {f : ZF} (hf : RfZ K cl E t f) : RfS K cl E (tRet t) (sRet f) := by
  intro N σ H env F R h
  exact hf σ H _ env F R ((Cs.bnd h).mono fun x H1 ⟨F1, e1, d, fr, R1, p1, h1⟩ => h1 x H1 F1 (fr.toFX R1.sub) p1)
theorem rf_RetN {t : TE} {f : NF} (hf : RfN K cl E t f) : RfS K cl E (tRet t) (sRetN f) := by
  intro N σ H env F R h
  refine hf σ H _ env F R ((Cs.bnd h).mono fun x H1 ⟨F1, e1, ds, fr, R1, p1, h1⟩ => ?_)
  obtain ⟨a, xs, rfl, hn, hH, hF, nm, r⟩ := p1
  exact h1 a xs H1 F1 (fr.toFX R1.sub) hH hF (fun o e => by rw [hn] at e; cases e) r
theorem rf_RetV {i : Nat} : RfS K cl E (tRet (tVar i)) (sRetV i) := by
  intro N σ H env F R h
  unfold sRetV at h
  split at h
  · rename_i d q
    obtain ⟨v, e, r⟩ := R.fz i d q
    exact ⟨v, e, h v H F (Frm.refl.toFX R.sub) r⟩
  · rename_i ds q
    obtain ⟨a, xs, e, hH, hF, r⟩ := R.mu i ds (.inl q)
    exact ⟨_, e, h a xs H F (Frm.refl.toFX R.sub) hH hF (fun o _ => ⟨i, ds, q, e⟩) r⟩
  · exact h.elim
theorem rf_If' {c : TT} {t u : TS} {b : BF} {f k : SF} (hc : RfB K cl E c b) (hf : RfS K cl E t f) (hk : RfS K cl E u k) : RfS K cl E (tIfS c t u) (sIf b f k) := by
  intro N σ H env F R h
  refine hc σ H _ env F R ((Cs.bnd h).mono fun x H1 ⟨F1, e1, d, fr, R1, p1, h1⟩ => ?_)
  cases (show x = d from p1)
  by_cases z : x = true
  · rw [if_pos z] at h1 ⊢; exact hf N σ H1 e1 F1 R1 (h1.from fr)
  · rw [if_neg z] at h1 ⊢; exact hk N σ H1 e1 F1 R1 (h1.from fr)
theorem rf_Raise {c : Str} {t : TA} {f : AF} (hf : RfA K cl E t f) : RfS K cl E (tRaise (cl c) E t) (sRaise c f) := by
  intro N σ H env F R h
  refine hf σ H _ env F R ((Cs.bnd h).mono fun xs H1 ⟨F1, e1, ds, fr, R1, p1, h1⟩ => ?_)
  have hl : ds.length = xs.length := Rps.length p1
  split at h1
  · rename_i z
    exact ⟨by rw [← hl]; exact z, h1 H1 F1 (fr.toFX R1.sub)⟩
  · exact h1.elim
theorem rf_SetC {i : Nat} {g : List D → Option R1} {t : TA} {f : AF} (hf : RfA K cl E t f) : RfS K cl E (tAsg (tCall (spD K cl g) [] E t) (gName i)) (sSetC i g f) := by
  intro N σ H env F R h
  refine hf σ H _ env F R ((Cs.bnd h).mono fun vs H1 ⟨F1, e1, ds, fr, R1, p1, h1⟩ => ?_)
  show spD K cl g (vs ++ []) H1 _ E
  rw [List.append_nil]
  refine ⟨ds, F1, R1.sub, p1, ?_⟩
  unfold toSet at h1
  split at h1
  · exact h1.elim
  · obtain ⟨hi, nh, h2⟩ := putS h1
    exact fun v H' F' gr r => h2 _ H' F' ((fr.trans (R1.frm gr)).trans (Frm.put nh)) ((R1.gr gr).put hi nh r)
  · obtain ⟨hi, nh, h2⟩ := putS h1
    intro a xs H' F' gr ha hH hF r
    refine h2 _ H' F' ((fr.trans (R1.frm gr)).putO (fr.dom a ha) nh) ((R1.gr gr).putO hi hH hF (fun j mj e => ?_) r)
    obtain ⟨es, q⟩ := mj
    obtain ⟨b, ys, e', hb, _⟩ := R1.mu j es q
    rw [e] at e'; cases e'
    rw [ha] at hb; cases hb
  · exact fun H' F' gr => h1 H' F' (fr.fx gr.fx)
theorem rf_SetC0 {i : Nat} {g : List D → Option R1} {t : TA} {f : AF} (hf : RfA K cl E t f) : RfS K cl E (tAsg (tCall (spD K cl g) [] E0 t) (gName i)) (sSetC0 i g f) := by
  intro N σ H env F R h
  refine hf σ H _ env F R ((Cs.bnd h).mono fun vs H1 ⟨F1, e1, ds, fr, R1, p1, h1⟩ => ?_)
  show spD K cl g (vs ++ []) H1 _ E0
  rw [List.append_nil]
  refine ⟨ds, F1, R1.sub, p1, ?_⟩
  unfold toSet0 at h1
  split at h1
  · rename_i q; rw [q]
    obtain ⟨hi, nh, h2⟩ := putS h1
    exact fun v H' F' gr r => h2 _ H' F' ((fr.trans (R1.frm gr)).trans (Frm.put nh)) ((R1.gr gr).put hi nh r)
  · rename_i q; rw [q]
    obtain ⟨hi, nh, h2⟩ := putS h1
    intro a xs H' F' gr ha hH hF r
    refine h2 _ H' F' ((fr.trans (R1.frm gr)).putO (fr.dom a ha) nh) ((R1.gr gr).putO hi hH hF (fun j mj e => ?_) r)
    obtain ⟨es, q⟩ := mj
    obtain ⟨b, ys, e', hb, _⟩ := R1.mu j es q
    rw [e] at e'; cases e'
    rw [ha] at hb; cases hb
  · exact h1.elim
theorem Rel.change {i : Nat} {ds es : List D} {a : Addr} {ys : List V} (R : Rel K cl σ H F env) (h : env[i]? = some (.ow ds)) (e : σ[i]? = some (some (.ref a))) (r : Rps K cl F es ys) :
    Rel K cl σ (upd H a (.lst ys)) F (env.set i (.ow es)) ∧ Frm σ H F env σ (upd H a (.lst ys)) F (env.set i (.ow es)) := by
  obtain ⟨a', xs, e', hH, hF, _⟩ := R.mu i ds (.inl h)
  rw [e] at e'; cases e'
  have hi : i < env.length := (List.getElem?_eq_some_iff.mp h).1
  have self : (env.set i (.ow es))[i]? = some (.ow es) := List.getElem?_set_self hi
  have oth : ∀ j, j ≠ i → (env.set i (.ow es))[j]? = env[j]? := fun j hj => List.getElem?_set_ne (Ne.symm hj)
  have mui : ∀ j, Mu (env.set i (.ow es)) j → Mu env j := fun j ⟨fs, q⟩ => by
    by_cases z : j = i
    · subst z; exact ⟨ds, .inl h⟩
    · rw [oth j z] at q; exact ⟨fs, q⟩
  refine ⟨⟨fun b o q => ?_, by rw [List.length_set]; exact R.len, fun j d q => ?_, fun j fs q => ?_, fun j k b hj hk => R.inj j k b (mui j hj) (mui k hk)⟩, ⟨Same.refl _, fun b o hb fb w => ?_, fun j fs q => ?_, fun b q => ?_⟩⟩
  · have z : b ≠ a := fun z => by rw [z, hF] at q; cases q
    rw [upd_ne z]; exact R.sub _ _ q
  · have z : j ≠ i := fun z => by subst z; rw [self] at q; cases q
    rw [oth j z] at q; exact R.fz j d q
  · by_cases z : j = i
    · subst z
      rw [self] at q
      rcases q with q | q
      · cases q; exact ⟨a, ys, e, upd_same, hF, r⟩
      · cases q
    · rw [oth j z] at q
      obtain ⟨b, zs, e1, h1, f1, r1⟩ := R.mu j fs q
      have nb : b ≠ a := fun y => z (R.inj j i b ⟨fs, q⟩ ⟨ds, .inl h⟩ e1 (by rw [y]; exact e))
      exact ⟨b, zs, e1, by rw [upd_ne nb]; exact h1, f1, r1⟩
  · have z : b ≠ a := fun z => w ⟨i, ds, h, by rw [z]; exact e⟩
    refine ⟨by rw [upd_ne z]; exact hb, fb, fun ⟨j, fs, q, e1⟩ => ?_⟩
    by_cases y : j = i
    · subst y; rw [e] at e1; cases e1; exact z rfl
    · rw [oth j y] at q; exact w ⟨j, fs, q, e1⟩
  · have z : j ≠ i := fun z => by subst z; rw [h] at q; cases q
    exact ⟨by rw [oth j z]; exact q, rfl⟩
  · by_cases z : b = a
    · rw [z, upd_same] at q; cases q
    · rw [upd_ne z] at q; exact q
theorem rf_App {i : Nat} {t : TE} {f : ZF} (hf : RfZ K cl E t f) : RfS K cl E (tDrop (tBM K "list" rAppend (tVar i) (tCons t tNil))) (sApp i f) := by
  intro N σ H env F R h
  unfold sApp at h
  split at h
  · rename_i ds0 q
    obtain ⟨x, e0, rb⟩ := R.look q
    obtain ⟨a0, xs0, rfl, hH0, _⟩ := rb.lst R.sub
    refine ⟨_, e0, .inl ⟨rfl, xs0, .of hH0⟩, ?_⟩
    · refine hf σ H _ env F R ((Cs.bnd h).mono fun y H1 ⟨F1, e1, d, fr, R1, p1, h1⟩ => ?_)
      split at h1
      · rename_i ds q1
        split at h1
        · rename_i c
          obtain ⟨a, xs, e, hH, hF, r⟩ := R1.mu i ds (.inl q1)
          rw [e0] at e; cases e
          obtain ⟨R2, f2⟩ := R1.change q1 e0 (r.append (.one p1))
          exact ⟨_, xs, y, rfl, rfl, hH, by rw [← r.length]; exact c, h1 σ _ F1 (fr.trans f2) R2⟩
        · exact h1.elim
      · exact h1.elim
  · exact h.elim
theorem rf_Sub {i : Nat} {t u : TE} {f k : ZF} (hf : RfZ K cl E t f) (hk : RfZ K cl E u k) : RfS K cl E (tAsg t (gSub (tVar i) u rSetL)) (sSub i k f) := by
  intro N σ H env F R h
  refine hf σ H _ env F R ((Cs.bnd h).mono fun x H1 ⟨F1, e1, d, fr, R1, p1, h1⟩ => ?_)
  cases q : look e1 i with
  | none => simp only [q] at h1; exact h1.elim
  | some d0 =>
    simp only [q] at h1
    obtain ⟨o, e0, _⟩ := R1.look q
    refine ⟨o, e0, hk σ H1 _ e1 F1 R1 ((Cs.bnd (h1.from fr)).mono fun y H2 ⟨F2, e2, j, fr2, R2, p2, h2⟩ => ?_)⟩
    split at h2
    · rename_i _ _ ds j q2
      split at h2
      · rename_i n hn
        obtain ⟨a, xs, e, hH, hF, r⟩ := R2.mu i ds (.inl q2)
        rw [e0] at e; cases e
        obtain ⟨R3, f3⟩ := R2.change q2 e0 (r.set (Rp.mono fr2.fz _ _ p1) n)
        have hy : y = .int j := by have := (show Rp K cl F2 (.int j) y from p2); simpa only [Rp] using this
        exact ⟨a, xs, j, n, rfl, hy, hH, by rw [← r.length]; exact hn, h2 σ _ F2 (fr2.trans f3) R3⟩
      · exact h2.elim
    · exact h2.elim
end
end L2
set_option Elab.async false
set_option linter.all false
set_option maxRecDepth 100000
set_option maxHeartbeats 4000000
namespace L2
open PySem PySem.Spec PyProof.Rows
abbrev GF := D → DE → Option DE
def bName (i : Nat) : GF := fun d e => match e[i]? with
  | none => none
  | some (.hd _) => none
  | some _ => some (e.set i (.fz d))
def bEach : List GF → List D → DE → Option DE
  | [], [], e => some e
  | b :: bs, d :: ds, e => match b d e with
    | none => none
    | some e1 => bEach bs ds e1
  | _, _, _ => none
def bTup (bs : List GF) : GF := fun d e => match d with
  | .tup ds => bEach bs ds e
  | _ => none
section
variable (K : PySem.W.Frag) (cl : Str → Addr)
def RfG (k : Nat) (g : TG) (b : GF) : Prop := ∀ v σ H Q d env env' F, Rel K cl σ H F env → Rp K cl F d v → b d env = some env' → (∀ σ', σ'.drop k = σ.drop k → σ'.length = σ.length → Frm σ H F env σ' H F env' → Rel K cl σ' H F env' → Q σ' H) → g v σ H Q
def RfGs (k : Nat) (t : TGs) (bs : List GF) : Prop := ∀ vs σ H Q ds env env' F, Rel K cl σ H F env → Rps K cl F ds vs → bEach bs ds env = some env' → (∀ σ', σ'.drop k = σ.drop k → σ'.length = σ.length → Frm σ H F env σ' H F env' → Rel K cl σ' H F env' → Q σ' H) → t vs σ H Q
end
section
variable {K : PySem.W.Frag} {cl : Str → Addr} {E : XK} {σ : St} {H F : Hp} {env : DE} {k : Nat}
theorem drop_set {α : Type} {l : List α} {i k : Nat} {x : α} (h : i < k) : (l.set i x).drop k = l.drop k := by
  apply List.ext_getElem?
  intro j
  rw [List.getElem?_drop, List.getElem?_drop, List.getElem?_set_ne (by omega)]
theorem rf_gName {i : Nat} (hi : i < k) : RfG K cl k (gName i) (bName i) := by
  intro v σ H Q d env env' F R p h q
  unfold bName at h
  split at h
  · cases h
  · cases h
  · rename_i z n e
    cases h
    have nh : ∀ ds, env[i]? ≠ some (.hd ds) := fun ds y => by rw [e] at y; cases y; exact n ds rfl
    exact q _ (drop_set hi) List.length_set (Frm.put nh) (R.put (List.getElem?_eq_some_iff.mp e).1 nh p)
theorem rf_gNil : RfGs K cl k gNil [] := by
  intro vs σ H Q ds env env' F R p h q
  cases ds with
  | nil => cases h; exact ⟨p.inv0, q σ rfl rfl Frm.refl R⟩
  | cons _ _ => cases h
theorem rf_gCons {t : TG} {u : TGs} {b : GF} {bs : List GF} (h1 : RfG K cl k t b) (h2 : RfGs K cl k u bs) : RfGs K cl k (gCons t u) (b :: bs) := by
  intro vs σ H Q ds env env' F R p h q
  cases ds with
  | nil => cases h
  | cons d ds =>
    obtain ⟨v, r, rfl, p1, p2⟩ := p.inv
    unfold bEach at h
    split at h
    · cases h
    · rename_i e1 hb
      refine ⟨v, r, rfl, h1 v σ H _ d env e1 F R p1 hb fun σ1 d1 l1 f1 R1 => ?_⟩
      exact h2 r σ1 H _ ds e1 env' F R1 p2 h fun σ2 d2 l2 f2 R2 => q σ2 (d2.trans d1) (l2.trans l1) (f1.trans f2) R2
theorem bEach_len : ∀ {bs : List GF} {ds : List D} {e e' : DE}, bEach bs ds e = some e' → ds.length = bs.length
  | [], [], _, _, _ => rfl
  | [], _ :: _, _, _, h => by cases h
  | _ :: _, [], _, _, h => by cases h
  | b :: bs, d :: ds, e, e', h => by
    unfold bEach at h
    split at h
    · cases h
    · simp [bEach_len h]
theorem rf_gTup {t : TGs} {bs : List GF} {n : Nat} (h : RfGs K cl k t bs) (hn : bs.length = n) : RfG K cl k (gTup K n t) (bTup bs) := by
  intro v σ H Q d env env' F R p e q
  unfold bTup at e
  split at e
  · rename_i ds
    simp only [Rp] at p
    obtain ⟨a, xs, rfl, hF, r⟩ := p
    exact ⟨a, xs, rfl, .of (R.sub _ _ hF), by rw [← r.length, bEach_len e, hn], h xs σ H Q ds env env' F R r e q⟩
  · cases e
def sAsg (f : ZF) (b : GF) : SF := fun e => sbn (f e) fun d e1 => match b d e1 with
  | none => none
  | some e2 => some (.nx e2)
theorem rf_Asg {t : TE} {g : TG} {f : ZF} {b : GF} (hf : RfZ K cl E t f) (hg : RfG K cl k g b) : RfS K cl E (tAsg t g) (sAsg f b) := by
  intro N σ H env F R h
  refine hf σ H _ env F R ((Cs.bnd h).mono fun x H1 ⟨F1, e1, d, fr, R1, p1, h1⟩ => ?_)
  split at h1
  · exact h1.elim
  · rename_i e2 hb
    exact hg x σ H1 _ d e1 e2 F1 R1 p1 hb fun σ' _ _ f2 R2 => h1 σ' H1 F1 (fr.trans f2) R2
def forD (b : GF) (body : SF) : List D → DE → Option RS
  | [], e => some (.nx e)
  | d :: ds, e => match b d e with
    | none => none
    | some e1 => match body e1 with
      | some (.nx e2) => forD b body ds e2
      | some (.ct e2) => forD b body ds e2
      | some (.bk e2) => some (.nx e2)
      | r => r
theorem for_turn {b : GF} {body : SF} {g : TG} {tb : TS} {d : D} {x : V} {ds : List D} {e1 : DE} {N : Ends} {σ1 : St} {H1 F1 : Hp} {Pv : St → Hp → Prop} (hb : RfS K cl E tb body) (hg : RfG K cl k g b)
    (f1 : Frm σ H F env σ1 H1 F1 e1) (R1 : Rel K cl σ1 H1 F1 e1) (p : Rp K cl F1 d x) (h : Cs K cl E (forD b body (d :: ds) e1) σ H F env N)
    (hP : ∀ σ' H' F' e', Frm σ H F env σ' H' F' e' → Rel K cl σ' H' F' e' → Cs K cl E (forD b body ds e') σ H F env N → Pv σ' H') :
    g x σ1 H1 fun σ2 H2 => tb { N with nx := Pv, ct := Pv, bk := N.nx } σ2 H2 := by
  unfold forD at h
  split at h
  · exact h.elim
  · rename_i e2 hbd
    refine hg x σ1 H1 _ d e1 e2 F1 R1 p hbd fun σ2 _ _ f2 R2 => ?_
    refine hb _ σ2 H1 e2 F1 R2 ?_
    split at h
    · rename_i e3 q; rw [q]
      exact fun σ' H' F' f3 R3 => hP σ' H' F' e3 ((f1.trans f2).trans f3) R3 h
    · rename_i e3 q; rw [q]
      exact fun σ' H' F' f3 R3 => hP σ' H' F' e3 ((f1.trans f2).trans f3) R3 h
    · rename_i e3 q; rw [q]
      exact fun σ' H' F' f3 R3 => h σ' H' F' ((f1.trans f2).trans f3) R3
    · rename_i n1 n2 n3
      have h2 := h.from (f1.trans f2)
      unfold Cs at h2 ⊢
      split at h2
      · exact h2
      · rename_i e q; exact absurd q (n1 e)
      · rename_i e q; exact absurd q (n3 e)
      · rename_i e q; exact absurd q (n2 e)
      · exact h2
      · exact h2
      · exact h2
theorem drop_cons {α : Type} {l : List α} {i : Nat} {x : α} (h : l[i]? = some x) : l.drop i = x :: l.drop (i + 1) := by
  obtain ⟨hi, e⟩ := List.getElem?_eq_some_iff.mp h
  rw [← e]; exact List.drop_eq_getElem_cons hi
theorem forL {b : GF} {body : SF} {g : TG} {tb : TS} {ds : List D} {xs : List V} {a : Addr} {N : Ends} (hb : RfS K cl E tb body) (hg : RfG K cl k g b) (R : Rel K cl σ H F env)
    (hl : ∀ σ' H' F' e', Frm σ H F env σ' H' F' e' → Rel K cl σ' H' F' e' → SqL K H' a xs) (r : Rps K cl F ds xs) (h : Cs K cl E (forD b body ds env) σ H F env N) :
    ∃ W : Nat → Nat → St → Hp → Prop, (∃ m, W 0 m σ H) ∧ ∀ i m σ H, W i m σ H →
      ((Itl K a).stop i H ∧ N.nx σ H) ∨ ((Itl K a).go i H ∧ ∃ M : St → Hp → Prop, (∀ σ' H', M σ' H' → ∃ m', m' < m ∧ W (i + 1) m' σ' H') ∧ ∀ x H', (Itl K a).yld i H x H' → g x σ H' fun σ2 H2 => tb { N with nx := M, ct := M, bk := N.nx } σ2 H2) := by
  refine for_list (xs := xs) (fun i σ' H' => ∃ F' e', Frm σ H F env σ' H' F' e' ∧ Rel K cl σ' H' F' e' ∧ Cs K cl E (forD b body (ds.drop i) e') σ H F env N) ⟨F, env, Frm.refl, R, h⟩ (fun i σ' H' _ ⟨F', e', f, R', _⟩ => hl σ' H' F' e' f R') (fun i x σ' H' hx ⟨F', e', f, R', h'⟩ => ?_) (fun σ' H' ⟨F', e', f, R', h'⟩ => ?_)
  · obtain ⟨d, hd, p⟩ := r.get' hx
    rw [drop_cons hd] at h'
    exact for_turn hb hg f R' (Rp.mono f.fz _ _ p) h' fun σ2 H2 F2 e2 f2 R2 h2 => ⟨F2, e2, f2, R2, h2⟩
  · rw [← r.length, List.drop_length] at h'
    exact h' σ' H' F' f R'
def seqL : D → Option (List D)
  | .lst ds => some ds
  | .scr ns => some (ns.map .int)
  | _ => none
theorem Rp.seqL {d : D} {ds : List D} {v : V} (p : Rp K cl F d v) (s : L2.seqL d = some ds) : ∃ a xs, v = .ref a ∧ Rps K cl F ds xs ∧ ∀ H', Same F H' → SqL K H' a xs := by
  unfold L2.seqL at s
  split at s
  · cases s; simp only [Rp] at p
    obtain ⟨a, xs, e, h, r⟩ := p
    exact ⟨a, xs, e, r, fun H' g => .of (g _ _ h)⟩
  · cases s; simp only [Rp] at p
    obtain ⟨a, e, h⟩ := p
    exact ⟨a, _, e, Rps.ofInts, fun H' g => (h.same g).seq⟩
  · cases s
def sFor (f : ZF) (b : GF) (body : SF) : SF := fun e => sbn (f e) fun d e1 => match seqL d with
  | none => none
  | some ds => forD b body ds e1
theorem rf_For {t : TE} {g : TG} {tb : TS} {f : ZF} {b : GF} {body : SF} (hf : RfZ K cl E t f) (hg : RfG K cl k g b) (hb : RfS K cl E tb body) : RfS K cl E (tFor (iList K t) g tb) (sFor f b body) := by
  intro N σ H env F R h
  refine hf σ H _ env F R ((Cs.bnd h).mono fun x H1 ⟨F1, e1, d, fr, R1, p1, h1⟩ => ?_)
  split at h1
  · exact h1.elim
  · rename_i ds hs
    obtain ⟨a, xs, rfl, r, hl⟩ := Rp.seqL p1 hs
    exact ⟨a, rfl, ⟨xs, hl H1 R1.sub⟩, forL hb hg R1 (fun σ' H' F' e' f2 R2 => hl H' (f2.fz.trans R2.sub)) r (h1.from fr)⟩
def sForT (f : ZF) (b : GF) (body : SF) : SF := fun e => sbn (f e) fun d e1 => match d with
  | .tup ds => forD b body ds e1
  | _ => none
def rngD (lo : Int) (n : Nat) : List D := (List.range n).map fun (i : Nat) => .int (lo + (i : Int))
def sForR (rg : List D → Option (Int × Nat)) (f : AF) (b : GF) (body : SF) : SF := fun e => sbn (f e) fun ds e1 => match rg ds with
  | none => none
  | some (lo, n) => forD b body (rngD lo n) e1
end
end L2
set_option Elab.async false
set_option linter.all false
set_option maxRecDepth 100000
set_option maxHeartbeats 4000000
namespace L2
open PySem PySem.Spec PyProof.Rows
section
variable {K : PySem.W.Frag} {cl : Str → Addr} {E : XK} {σ : St} {H F : Hp} {env : DE} {k : Nat}
def unhide (i : Nat) (ds : List D) (r : Option RS) : Option RS := match r with
  | some (.nx e) => some (.nx (e.set i (.ow ds)))
  | some (.bk _) => none
  | some (.ct _) => none
  | r => r
theorem Rel.hide {i : Nat} {ds : List D} (R : Rel K cl σ H F env) (h : env[i]? = some (.ow ds)) : Rel K cl σ H F (env.set i (.hd ds)) := by
  have hi : i < env.length := (List.getElem?_eq_some_iff.mp h).1
  have self : (env.set i (.hd ds))[i]? = some (.hd ds) := List.getElem?_set_self hi
  have oth : ∀ j, j ≠ i → (env.set i (.hd ds))[j]? = env[j]? := fun j hj => List.getElem?_set_ne (Ne.symm hj)
  have mui : ∀ (j : Nat) (fs : List D), (env.set i (.hd ds))[j]? = some (.ow fs) ∨ (env.set i (.hd ds))[j]? = some (.hd fs) → env[j]? = some (.ow fs) ∨ env[j]? = some (.hd fs) := fun j fs q => by
    by_cases z : j = i
    · subst z; rw [self] at q; rcases q with q | q <;> cases q; exact .inl h
    · rw [oth j z] at q; exact q
  refine ⟨R.sub, by rw [List.length_set]; exact R.len, fun j d q => ?_, fun j fs q => R.mu j fs (mui j fs q), fun j l b ⟨fs, q⟩ ⟨gs, q'⟩ => R.inj j l b ⟨fs, mui j fs q⟩ ⟨gs, mui l gs q'⟩⟩
  have z : j ≠ i := fun z => by subst z; rw [self] at q; cases q
  rw [oth j z] at q; exact R.fz j d q
theorem Ow.hide {i : Nat} {ds : List D} {a : Addr} (w : Ow σ (env.set i (.hd ds)) a) : Ow σ env a := by
  obtain ⟨j, fs, q, e⟩ := w
  by_cases z : j = i
  · subst z
    have hj : j < env.length := by have := (List.getElem?_eq_some_iff.mp q).1; rwa [List.length_set] at this
    rw [List.getElem?_set_self hj] at q; cases q
  · rw [List.getElem?_set_ne (Ne.symm z)] at q; exact ⟨j, fs, q, e⟩
theorem Rel.unhide {i : Nat} {ds : List D} (R : Rel K cl σ H F env) (h : env[i]? = some (.hd ds)) : Rel K cl σ H F (env.set i (.ow ds)) := by
  have hi : i < env.length := (List.getElem?_eq_some_iff.mp h).1
  have self : (env.set i (.ow ds))[i]? = some (.ow ds) := List.getElem?_set_self hi
  have oth : ∀ j, j ≠ i → (env.set i (.ow ds))[j]? = env[j]? := fun j hj => List.getElem?_set_ne (Ne.symm hj)
  have mui : ∀ (j : Nat) (fs : List D), (env.set i (.ow ds))[j]? = some (.ow fs) ∨ (env.set i (.ow ds))[j]? = some (.hd fs) → env[j]? = some (.ow fs) ∨ env[j]? = some (.hd fs) := fun j fs q => by
    by_cases z : j = i
    · subst z; rw [self] at q; rcases q with q | q <;> cases q; exact .inr h
    · rw [oth j z] at q; exact q
  refine ⟨R.sub, by rw [List.length_set]; exact R.len, fun j d q => ?_, fun j fs q => R.mu j fs (mui j fs q), fun j l b ⟨fs, q⟩ ⟨gs, q'⟩ => R.inj j l b ⟨fs, mui j fs q⟩ ⟨gs, mui l gs q'⟩⟩
  have z : j ≠ i := fun z => by subst z; rw [self] at q; cases q
  rw [oth j z] at q; exact R.fz j d q
theorem Cs.hide {i : Nat} {ds : List D} {r : Option RS} {N : Ends} (R : Rel K cl σ H F env) (h : env[i]? = some (.ow ds)) (c : Cs K cl E (unhide i ds r) σ H F env N) : Cs K cl E r σ H F (env.set i (.hd ds)) N := by
  have hi : i < env.length := (List.getElem?_eq_some_iff.mp h).1
  have self : (env.set i (.hd ds))[i]? = some (.hd ds) := List.getElem?_set_self hi
  have fx : ∀ {H' F'}, FX σ H F (env.set i (.hd ds)) H' F' → FX σ H F env H' F' := fun x => ⟨x.fz, x.sub, fun a o h f w => x.hid a o h f fun y => w y.hide, x.dom⟩
  rcases r with _ | r
  · exact c
  cases r with
  | nx e =>
    intro σ' H' F' f R'
    obtain ⟨q, eσ⟩ := f.keep i ds self
    refine c σ' H' F' ⟨f.fz, fun a o ha fa w => ?_, fun j fs q' => ?_, f.dom⟩ (R'.unhide q)
    · obtain ⟨h1, f1, w1⟩ := f.hid a o ha fa fun y => w y.hide
      refine ⟨h1, f1, fun ⟨j, fs, q2, e2⟩ => ?_⟩
      by_cases z : j = i
      · subst z
        rw [eσ] at e2
        exact w ⟨j, ds, h, e2⟩
      · rw [List.getElem?_set_ne (Ne.symm z)] at q2
        exact w1 ⟨j, fs, q2, e2⟩
    · have z : j ≠ i := fun z => by subst z; rw [h] at q'; cases q'
      obtain ⟨q2, e2⟩ := f.keep j fs (by rw [List.getElem?_set_ne (Ne.symm z)]; exact q')
      exact ⟨by rw [List.getElem?_set_ne (Ne.symm z)]; exact q2, e2⟩
  | bk e => exact c.elim
  | ct e => exact c.elim
  | rt d => exact fun v H' F' x p => c v H' F' (fx x) p
  | ro es => exact fun a xs H' F' x ha fa nw p => c a xs H' F' (fx x) ha fa (fun o e => (nw o e).hide) p
  | ex n => exact fun H' F' x => c H' F' (fx x)
def sForV (i : Nat) (b : GF) (body : SF) : SF := fun e => match e[i]? with
  | some (.fz d) => (match seqL d with
    | none => none
    | some ds => forD b body ds e)
  | some (.ow ds) => unhide i ds (forD b body ds (e.set i (.hd ds)))
  | some (.hd ds) => forD b body ds e
  | _ => none
theorem Rel.hid_stays {i : Nat} {ds : List D} (R : Rel K cl σ H F env) (h : env[i]? = some (.hd ds)) : ∃ a xs, σ[i]? = some (some (.ref a)) ∧ Rps K cl F ds xs ∧ H a = some (.lst xs) ∧ ∀ σ' H' F' e', Frm σ H F env σ' H' F' e' → H' a = some (.lst xs) := by
  obtain ⟨a, xs, e, hH, hF, r⟩ := R.mu i ds (.inr h)
  refine ⟨a, xs, e, r, hH, fun σ' H' F' e' f => (f.hid a _ hH hF fun ⟨j, fs, q, e'⟩ => ?_).1⟩
  have z : i = j := R.inj i j a ⟨ds, .inr h⟩ ⟨fs, .inl q⟩ e e'
  subst z; rw [h] at q; cases q
theorem rf_ForV {i : Nat} {g : TG} {tb : TS} {b : GF} {body : SF} (hg : RfG K cl k g b) (hb : RfS K cl E tb body) : RfS K cl E (tFor (iList K (tVar i)) g tb) (sForV i b body) := by
  intro N σ H env F R h
  unfold sForV at h
  split at h
  · rename_i d q
    split at h
    · exact h.elim
    · rename_i ds hs
      obtain ⟨v, e, p⟩ := R.fz i d q
      obtain ⟨a, xs, rfl, r, hl⟩ := Rp.seqL p hs
      exact ⟨_, e, a, rfl, ⟨xs, hl H R.sub⟩, forL hb hg R (fun σ' H' F' e' f2 R2 => hl H' (f2.fz.trans R2.sub)) r h⟩
  · rename_i ds q
    have hi : i < env.length := (List.getElem?_eq_some_iff.mp q).1
    have R' := R.hide q
    obtain ⟨a, xs, e, r, hH, st⟩ := R'.hid_stays (i := i) (ds := ds) (List.getElem?_set_self hi)
    exact ⟨_, e, a, rfl, ⟨xs, .of hH⟩, forL hb hg R' (fun σ' H' F' e' f2 R2 => .of (st σ' H' F' e' f2)) r (h.hide R q)⟩
  · rename_i ds q
    obtain ⟨a, xs, e, r, hH, st⟩ := R.hid_stays q
    exact ⟨_, e, a, rfl, ⟨xs, .of hH⟩, forL hb hg R (fun σ' H' F' e' f2 R2 => .of (st σ' H' F' e' f2)) r h⟩
  · exact h.elim
def enD (n : Nat) : List D → List D
  | [] => []
  | d :: ds => .tup [.int n, d] :: enD (n + 1) ds
def sForE (f : ZF) (b : GF) (body : SF) : SF := fun e => sbn (f e) fun d e1 => match seqL d with
  | none => none
  | some ds => forD b body (enD 0 ds) e1
def sForEV (i : Nat) (b : GF) (body : SF) : SF := fun e => match e[i]? with
  | some (.fz d) => (match seqL d with
    | none => none
    | some ds => forD b body (enD 0 ds) e)
  | some (.ow ds) => unhide i ds (forD b body (enD 0 ds) (e.set i (.hd ds)))
  | some (.hd ds) => forD b body (enD 0 ds) e
  | _ => none
def noHd (e : DE) : Bool := e.all fun s => match s with
  | .hd _ => false
  | _ => true
def sTryAs (n i : Nat) (exm : Str → Bool) (body suite : SF) : SF := fun e => match body e with
  | some (.ex c) => if (exm c && noHd e) = true then (match suite ((List.replicate n Sl.no).set i (.fz (.exc c))) with
      | some (.nx e2) => put i .no e2
      | some (.rt d) => some (.rt d)
      | some (.ro ds) => some (.ro ds)
      | _ => none) else none
  | r => r
theorem noHd_of {e : DE} (h : noHd e = true) (i : Nat) (ds : List D) : e[i]? ≠ some (.hd ds) := fun q => by
  have := List.all_eq_true.mp h _ (List.mem_of_getElem? q)
  cases this
theorem rel_one {n i : Nat} {d : D} {v : V} (sub : Same F H) (p : Rp K cl F d v) : Rel K cl ((blank n).set i (some v)) H F ((List.replicate n Sl.no).set i (.fz d)) := by
  have len : (blank n).length = n := by unfold blank; rw [List.length_replicate]
  have no : ∀ (j : Nat) (s : Sl), ((List.replicate n Sl.no).set i (.fz d))[j]? = some s → s ≠ .no → j = i ∧ i < n ∧ s = .fz d := fun j s q ns => by
    by_cases z : j = i
    · subst z
      have hj : j < n := by have := (List.getElem?_eq_some_iff.mp q).1; rwa [List.length_set, List.length_replicate] at this
      rw [List.getElem?_set_self (by rw [List.length_replicate]; exact hj)] at q
      exact ⟨rfl, hj, by cases q; rfl⟩
    · rw [List.getElem?_set_ne (Ne.symm z), List.getElem?_replicate] at q
      split at q
      · cases q; exact absurd rfl ns
      · cases q
  refine ⟨sub, by rw [List.length_set, List.length_set, len, List.length_replicate], fun j e q => ?_, fun j ds q => ?_, fun j l b ⟨ds, q⟩ _ _ _ => ?_⟩
  · obtain ⟨rfl, hj, z⟩ := no j _ q (fun z => by cases z)
    cases z
    exact ⟨v, List.getElem?_set_self (by rw [len]; exact hj), p⟩
  · rcases q with q | q
    · obtain ⟨_, _, z⟩ := no j _ q (fun z => by cases z); cases z
    · obtain ⟨_, _, z⟩ := no j _ q (fun z => by cases z); cases z
  · rcases q with q | q
    · obtain ⟨_, _, z⟩ := no j _ q (fun z => by cases z); cases z
    · obtain ⟨_, _, z⟩ := no j _ q (fun z => by cases z); cases z
theorem not_ow_one {n i : Nat} {d : D} {σ : St} {a : Addr} : ¬ Ow σ ((List.replicate n Sl.no).set i (.fz d)) a := fun ⟨j, ds, q, _⟩ => by
  by_cases z : j = i
  · subst z
    have hj : j < (List.replicate n Sl.no).length := by have := (List.getElem?_eq_some_iff.mp q).1; rwa [List.length_set] at this
    rw [List.getElem?_set_self hj] at q; cases q
  · rw [List.getElem?_set_ne (Ne.symm z), List.getElem?_replicate] at q
    split at q <;> cases q
theorem Rel.drop {i : Nat} (R : Rel K cl σ H F env) (nh : ∀ ds, env[i]? ≠ some (.hd ds)) : Rel K cl (σ.set i none) H F (env.set i .no) ∧ Frm σ H F env (σ.set i none) H F (env.set i .no) := by
  have key : ∀ (j : Nat) (s : Sl), (env.set i .no)[j]? = some s → s ≠ .no → j ≠ i ∧ env[j]? = some s := fun j s q ns => by
    by_cases z : j = i
    · subst z
      have hj : j < env.length := by have := (List.getElem?_eq_some_iff.mp q).1; rwa [List.length_set] at this
      rw [List.getElem?_set_self hj] at q; cases q; exact absurd rfl ns
    · rw [List.getElem?_set_ne (Ne.symm z)] at q; exact ⟨z, q⟩
  have muk : ∀ j, Mu (env.set i .no) j → j ≠ i ∧ Mu env j := fun j ⟨ds, q⟩ => by
    rcases q with q | q
    · obtain ⟨z, q⟩ := key j _ q (fun z => by cases z); exact ⟨z, ds, .inl q⟩
    · obtain ⟨z, q⟩ := key j _ q (fun z => by cases z); exact ⟨z, ds, .inr q⟩
  refine ⟨⟨R.sub, by rw [List.length_set, List.length_set]; exact R.len, fun j d q => ?_, fun j ds q => ?_, fun j l b hj hl e1 e2 => ?_⟩, ⟨Same.refl _, fun a o h f w => ⟨h, f, fun ⟨j, ds, q, e⟩ => ?_⟩, fun j ds q => ?_, fun _ h => h⟩⟩
  · obtain ⟨z, q⟩ := key j _ q (fun z => by cases z)
    obtain ⟨v, e, p⟩ := R.fz j d q
    exact ⟨v, by rw [List.getElem?_set_ne (Ne.symm z)]; exact e, p⟩
  · have : j ≠ i ∧ (env[j]? = some (.ow ds) ∨ env[j]? = some (.hd ds)) := by
      rcases q with q | q
      · obtain ⟨z, q⟩ := key j _ q (fun z => by cases z); exact ⟨z, .inl q⟩
      · obtain ⟨z, q⟩ := key j _ q (fun z => by cases z); exact ⟨z, .inr q⟩
    obtain ⟨z, q⟩ := this
    obtain ⟨a, xs, e, r⟩ := R.mu j ds q
    exact ⟨a, xs, by rw [List.getElem?_set_ne (Ne.symm z)]; exact e, r⟩
  · obtain ⟨zj, mj⟩ := muk j hj
    obtain ⟨zl, ml⟩ := muk l hl
    rw [List.getElem?_set_ne (Ne.symm zj)] at e1
    rw [List.getElem?_set_ne (Ne.symm zl)] at e2
    exact R.inj j l b mj ml e1 e2
  · obtain ⟨z, q⟩ := key j _ q (fun z => by cases z)
    rw [List.getElem?_set_ne (Ne.symm z)] at e
    exact w ⟨j, ds, q, e⟩
  · have z : j ≠ i := fun z => by subst z; exact nh ds q
    rw [List.getElem?_set_ne (Ne.symm z), List.getElem?_set_ne (Ne.symm z)]
    exact ⟨q, rfl⟩
theorem rf_TryAs {C : Addr} {n i : Nat} {exm : Str → Bool} {tb : XK → TS} {ts : Addr → TS} {body suite : SF} (hx : ∀ c, exm c = true → PySem.W.exmOne K (.ref (cl c)) (.ref C) = some true)
    (hb : ∀ Eh, RfS K cl Eh (tb Eh) body) (hs : ∀ a, RfS K cl (fun _ _ _ => False) (ts a) suite) :
    RfS K cl E (tTryAs K C n i tb ts) (sTryAs n i exm body suite) := by
  intro N σ H env F R h
  refine ⟨fun cls cx H' => ∃ c F', cls = .ref (cl c) ∧ cx = none ∧ body env = some (.ex c) ∧ FX σ H F env H' F', ?_, ?_⟩
  · refine hb _ N σ H env F R ?_
    unfold sTryAs at h
    split at h
    · rename_i c q; rw [q]
      exact fun H' F' x => ⟨c, F', rfl, rfl, rfl, x⟩
    · rename_i n1
      unfold Cs at h ⊢
      split at h
      · exact h
      · exact h
      · exact h
      · exact h
      · exact h
      · exact h
      · rename_i c q; exact absurd q (n1 c)
  · rintro cls cx H' ⟨c, F', rfl, rfl, q, x⟩
    unfold sTryAs at h
    rw [q] at h
    dsimp only at h
    split at h
    · rename_i hc
      rw [Bool.and_eq_true] at hc
      refine ⟨hx c hc.1, fun a ha => ?_⟩
      have gr : Gr H' F' (upd H' a (ExcO a (.ref (cl c)) none)) (upd F' a (ExcO a (.ref (cl c)) none)) := .new x.sub ha
      have p : Rp K cl (upd F' a (ExcO a (.ref (cl c)) none)) (.exc c) (.ref a) := by simp only [Rp]; exact ⟨a, none, rfl, upd_same⟩
      have R1 : Rel K cl ((blank n).set i (some (.ref a))) (upd H' a (ExcO a (.ref (cl c)) none)) (upd F' a (ExcO a (.ref (cl c)) none)) ((List.replicate n Sl.no).set i (.fz (.exc c))) := rel_one gr.sub p
      have f1 : Frm σ H F env ((blank n).set i (some (.ref a))) (upd H' a (ExcO a (.ref (cl c)) none)) (upd F' a (ExcO a (.ref (cl c)) none)) ((List.replicate n Sl.no).set i (.fz (.exc c))) :=
        ⟨x.fz.trans gr.fz, fun b o hb fb w => by obtain ⟨h1, f1⟩ := x.hid b o hb fb w; obtain ⟨h2, f2⟩ := gr.hid b o h1 f1; exact ⟨h2, f2, not_ow_one⟩, fun j ds z => absurd z (noHd_of hc.2 j ds), fun b z => x.dom b (gr.dom b z)⟩
      refine hs a _ _ _ _ _ R1 ?_
      have h2 := h.from f1
      cases r : suite ((List.replicate n Sl.no).set i (.fz (.exc c))) with
      | none => rw [r] at h2; exact h2.elim
      | some rs =>
        rw [r] at h2
        cases rs with
        | nx e2 =>
          obtain ⟨hi, nh, h3⟩ := putS h2
          intro σ2 H2 F2 f2 R2
          obtain ⟨R3, f3⟩ := R2.drop nh
          exact h3 _ H2 F2 (f2.trans f3) R3
        | bk e2 => exact h2.elim
        | ct e2 => exact h2.elim
        | rt d => exact h2
        | ro ds => exact h2
        | ex c2 => exact h2.elim
    · exact h.elim
end
end L2
set_option Elab.async false
set_option linter.all false
set_option maxRecDepth 100000
set_option maxHeartbeats 4000000
namespace L2
open PySem PySem.Spec PyProof.Rows
section
variable {K : PySem.W.Frag} {cl : Str → Addr} {E : XK} {σ : St} {H F : Hp} {env : DE} {k : Nat}
def capS : Option Sl → Sl
  | some (.fz d) => .fz d
  | some (.ow ds) => .hd ds
  | some (.hd ds) => .hd ds
  | _ => .no
def compE (k : Nat) (js : List Nat) (e : DE) : DE := List.replicate k .no ++ js.map fun j => capS e[j]?
def compD (b : GF) (c : BF) (el : ZF) (ec : DE) (eo : DE) : List D → List D → Option (R (List D))
  | [], acc => some (.ok acc eo)
  | d :: ds, acc => match b d ec with
    | none => none
    | some e1 => bnd (c e1) fun t e2 => if t = true then bnd (el e2) fun y _ => if acc.length < sizeLine then compD b c el ec eo ds (acc ++ [y]) else none
      else compD b c el ec eo ds acc
theorem compE_get {js : List Nat} {e : DE} {i : Nat} {s : Sl} (h : (compE k js e)[i]? = some s) (n : s ≠ .no) : k ≤ i ∧ ∃ j, js[i - k]? = some j ∧ capS e[j]? = s := by
  unfold compE at h
  by_cases z : i < k
  · rw [List.getElem?_append_left (by rw [List.length_replicate]; exact z), List.getElem?_replicate, if_pos z] at h
    cases h; exact absurd rfl n
  · rw [List.getElem?_append_right (by rw [List.length_replicate]; omega), List.length_replicate, List.getElem?_map] at h
    cases q : js[i - k]? with
    | none => rw [q] at h; cases h
    | some j => rw [q] at h; cases h; exact ⟨by omega, j, rfl, rfl⟩
theorem compSt_get {js : List Nat} {i j : Nat} {v : V} (hk : k ≤ i) (hj : js[i - k]? = some j) (h : σ[j]? = some (some v)) : (compSt k js σ)[i]? = some (some v) := by
  unfold compSt
  rw [List.getElem?_append_right (by rw [List.length_replicate]; exact hk), List.length_replicate, List.getElem?_map, hj]
  simp [h]
theorem Rel.comp {js : List Nat} (R : Rel K cl σ H F env) (nd : js.Nodup) : Rel K cl (compSt k js σ) H F (compE k js env) := by
  have cap : ∀ {j : Nat} {ds : List D}, capS env[j]? = .hd ds → env[j]? = some (.ow ds) ∨ env[j]? = some (.hd ds) := fun {j ds} h => by
    unfold capS at h
    split at h
    · cases h
    · rename_i q; cases h; exact .inl q
    · rename_i q; cases h; exact .inr q
    · cases h
  have noow : ∀ {j : Nat} {ds : List D}, capS env[j]? ≠ .ow ds := fun {j ds} h => by
    unfold capS at h
    split at h <;> cases h
  have mu' : ∀ (i : Nat) (ds : List D), ((compE k js env)[i]? = some (.ow ds) ∨ (compE k js env)[i]? = some (.hd ds)) → k ≤ i ∧ ∃ j, js[i - k]? = some j ∧ (env[j]? = some (.ow ds) ∨ env[j]? = some (.hd ds)) := fun i ds q => by
    rcases q with q | q
    · obtain ⟨hk, j, hj, c⟩ := compE_get q (fun z => by cases z); exact absurd c noow
    · obtain ⟨hk, j, hj, c⟩ := compE_get q (fun z => by cases z); exact ⟨hk, j, hj, cap c⟩
  refine ⟨R.sub, ?_, fun i d q => ?_, fun i ds q => ?_, fun i l b ⟨ds, q⟩ ⟨es, q'⟩ e1 e2 => ?_⟩
  · unfold compSt compE
    rw [List.length_append, List.length_append, List.length_replicate, List.length_replicate, List.length_map, List.length_map]
  · obtain ⟨hk, j, hj, c⟩ := compE_get q (fun z => by cases z)
    have : env[j]? = some (.fz d) := by
      unfold capS at c
      split at c
      · rename_i q; cases c; exact q
      all_goals cases c
    obtain ⟨v, e, p⟩ := R.fz j d this
    exact ⟨v, compSt_get hk hj e, p⟩
  · obtain ⟨hk, j, hj, c⟩ := mu' i ds q
    obtain ⟨a, xs, e, r⟩ := R.mu j ds c
    exact ⟨a, xs, compSt_get hk hj e, r⟩
  · obtain ⟨hk, j, hj, c⟩ := mu' i ds q
    obtain ⟨hl, m, hm, c'⟩ := mu' l es q'
    obtain ⟨a, xs, e, _⟩ := R.mu j ds c
    obtain ⟨a', xs', e', _⟩ := R.mu m es c'
    have h1 := compSt_get (k := k) hk hj e
    have h2 := compSt_get (k := k) hl hm e'
    rw [e1] at h1; cases h1
    rw [e2] at h2; cases h2
    have jm : j = m := R.inj j m b ⟨ds, c⟩ ⟨es, c'⟩ e e'
    subst jm
    obtain ⟨hi', ei⟩ := List.getElem?_eq_some_iff.mp hj
    obtain ⟨hl', el⟩ := List.getElem?_eq_some_iff.mp hm
    have : i - k = l - k := (List.getElem_inj nd).mp (ei.trans el.symm)
    omega
def NoOw (e : DE) : Prop := ∀ (i : Nat) (ds : List D), e[i]? ≠ some (.ow ds)
theorem noow_comp {js : List Nat} {e : DE} : NoOw (compE k js e) := fun i ds q => by
  obtain ⟨hk, j, hj, c⟩ := compE_get q (fun z => by cases z)
  unfold capS at c
  split at c <;> cases c
theorem NoOw.not {e : DE} (n : NoOw e) {σ : St} {a : Addr} : ¬ Ow σ e a := fun ⟨i, ds, q, _⟩ => n i ds q
theorem Frm.gr {σ' : St} {H' F' : Hp} {env' : DE} (f : Frm σ H F env σ' H' F' env') (n : NoOw env) (s : Same F' H') : Gr H F H' F' := ⟨f.fz, s, fun a o h g => by obtain ⟨h1, f1, _⟩ := f.hid a o h g n.not; exact ⟨h1, f1⟩⟩
theorem FX.gr {H' F' : Hp} (f : FX σ H F env H' F') (n : NoOw env) : Gr H F H' F' := ⟨f.fz, f.sub, fun a o h g => f.hid a o h g n.not⟩
structure Grow (K : PySem.W.Frag) (cl : Str → Addr) (σ : St) (H0 F0 : Hp) (env : DE) (B : Addr) (acc : List D) (ys : List V) (H F : Hp) : Prop where
  rel : Rel K cl σ H F env
  frm : Frm σ H0 F0 env σ H F env
  new : H0 B = none
  at_ : H B = some (.lst ys)
  un : F B = none
  far : ∀ j, Mu env j → σ[j]? ≠ some (some (.ref B))
  rps : Rps K cl F acc ys
  stay : ∀ a o, H0 a = some o → F0 a = none → H a = some o ∧ F a = none
theorem Grow.start {B : Addr} (R : Rel K cl σ H F env) (hB : H B = none) : Grow K cl σ H F env B [] [] (upd H B (.lst [])) F := by
  obtain ⟨R', f⟩ := R.newN (o := .lst []) hB
  refine ⟨R', f, hB, upd_same, R.sub.free hB, fun j ⟨ds, q⟩ e => ?_, .nil, fun a o h f => ⟨by rw [upd_ne (fun z => by rw [z, hB] at h; cases h)]; exact h, f⟩⟩
  obtain ⟨a, ys, e1, hH, _⟩ := R.mu j ds q
  rw [e] at e1; cases e1
  rw [hB] at hH; cases hH
theorem Grow.gr {B : Addr} {acc : List D} {ys : List V} {H0 F0 H' F' : Hp} (g : Grow K cl σ H0 F0 env B acc ys H F) (r : Gr H F H' F') : Grow K cl σ H0 F0 env B acc ys H' F' :=
  ⟨g.rel.gr r, g.frm.trans (g.rel.frm r), g.new, (r.hid B _ g.at_ g.un).1, (r.hid B _ g.at_ g.un).2, g.far, g.rps.mono r.fz, fun a o h f => by obtain ⟨h1, f1⟩ := g.stay a o h f; exact r.hid a o h1 f1⟩
theorem Grow.push {B : Addr} {acc : List D} {ys : List V} {H0 F0 : Hp} {d : D} {y : V} (g : Grow K cl σ H0 F0 env B acc ys H F) (p : Rp K cl F d y) : Grow K cl σ H0 F0 env B (acc ++ [d]) (ys ++ [y]) (upd H B (.lst (ys ++ [y]))) F := by
  have ne : ∀ a o, F a = some o → a ≠ B := fun a o h z => by rw [z, g.un] at h; cases h
  refine ⟨⟨fun a o h => by rw [upd_ne (ne a o h)]; exact g.rel.sub _ _ h, g.rel.len, g.rel.fz, fun j ds q => ?_, g.rel.inj⟩, ⟨g.frm.fz, fun a o h f w => ?_, g.frm.keep, fun a h => ?_⟩, g.new, upd_same, g.un, g.far, g.rps.append (.one p), fun a o h f => by rw [upd_ne (fun z => by rw [z, g.new] at h; cases h)]; exact g.stay a o h f⟩
  · obtain ⟨a, xs, e, hH, r⟩ := g.rel.mu j ds q
    have z : a ≠ B := fun z => g.far j ⟨ds, q⟩ (by rw [e, z])
    exact ⟨a, xs, e, by rw [upd_ne z]; exact hH, r⟩
  · have z : a ≠ B := fun z => by rw [z, g.new] at h; cases h
    rw [upd_ne z]; exact g.frm.hid a o h f w
  · by_cases z : a = B
    · rw [z, upd_same] at h; cases h
    · rw [upd_ne z] at h; exact g.frm.dom a h
theorem comp_turn {b : GF} {c : BF} {el : ZF} {g : TG} {tf : TT} {te : TE} {js : List Nat} {B : Addr} {d : D} {x : V} {ds acc : List D} {ys : List V} {H0 F0 : Hp} {Q : VK} {Pv : List V → Hp → Prop} (nd : js.Nodup)
    (hg : RfG K cl k g b) (hc : RfB K cl E tf c) (he : RfZ K cl E te el) (gw : Grow K cl σ H0 F0 env B acc ys H F) (p : Rp K cl F d x)
    (h : Ct K cl E (PN K cl) (compD b c el (compE k js env) env (d :: ds) acc) σ H0 F0 env Q)
    (hP : ∀ acc' ys' H' F', Grow K cl σ H0 F0 env B acc' ys' H' F' → Ct K cl E (PN K cl) (compD b c el (compE k js env) env ds acc') σ H0 F0 env Q → Pv ys' H') :
    g x (compSt k js σ) H fun σ2 H2 => (σ2.drop k = (compSt k js σ).drop k ∧ σ2.length = (compSt k js σ).length) ∧ tf σ2 H2 fun t H3 =>
      if t = true then te σ2 H3 fun y H4 => H4 B = some (.lst ys) ∧ ys.length < sizeLine ∧ Pv (ys ++ [y]) (upd H4 B (.lst (ys ++ [y]))) else Pv ys H3 := by
  unfold compD at h
  have Rc : Rel K cl (compSt k js σ) H F (compE k js env) := gw.rel.comp nd
  split at h
  · exact h.elim
  · rename_i e1 hb
    refine hg x _ H _ d _ e1 F Rc p hb fun σ2 d2 l2 f2 R2 => ⟨⟨d2, l2⟩, ?_⟩
    have n1 : NoOw (compE k js env) := noow_comp
    -- ways out by an exception
    have exc : ∀ {H' F' : Hp} {σ' : St} {e' : DE} {H'' F'' : Hp} {n : Str}, Frm (compSt k js σ) H F (compE k js env) σ' H' F' e' → FX σ' H' F' e' H'' F'' → (∀ H' F', FX σ H0 F0 env H' F' → E (.ref (cl n)) none H') → E (.ref (cl n)) none H'' := fun {H' F' σ' e' H'' F'' n} f fx q => by
      have gr : Gr H F H'' F'' := (f.fx fx).gr n1
      exact q _ _ (gw.frm.fx gr.fx)
    refine hc σ2 H _ e1 F R2 ?_
    cases hce : c e1 with
    | none => rw [hce] at h; exact h.elim
    | some rc =>
      rw [hce] at h
      cases rc with
      | ex n => exact fun H' F' fx => exc f2 fx h
      | ok t e2 =>
        intro t' H3 F3 f3 R3 ht
        have ht : t' = t := ht
        subst ht
        have h : Ct K cl E (PN K cl) (if t' = true then bnd (el e2) fun y _ => if acc.length < sizeLine then compD b c el (compE k js env) env ds (acc ++ [y]) else none else compD b c el (compE k js env) env ds acc) σ H0 F0 env Q := h
        have gr3 : Gr H F H3 F3 := (f2.trans f3).gr n1 R3.sub
        by_cases z : t' = true
        · rw [if_pos z] at h ⊢
          refine he σ2 H3 _ e2 F3 R3 ?_
          cases hel : el e2 with
          | none => rw [hel] at h; exact h.elim
          | some re =>
            rw [hel] at h
            cases re with
            | ex n => exact fun H' F' fx => exc (f2.trans f3) fx h
            | ok y e3 =>
              intro v H4 F4 f4 R4 hv
              have h : Ct K cl E (PN K cl) (if acc.length < sizeLine then compD b c el (compE k js env) env ds (acc ++ [y]) else none) σ H0 F0 env Q := h
              split at h
              · rename_i hlen
                have gr4 : Gr H F H4 F4 := ((f2.trans f3).trans f4).gr n1 R4.sub
                have gw4 := gw.gr gr4
                exact ⟨gw4.at_, by rw [← gw4.rps.length]; exact hlen, hP _ _ _ _ (gw4.push hv) h⟩
              · exact h.elim
        · rw [if_neg z] at h ⊢
          exact hP _ _ _ _ (gw.gr gr3) h
theorem comp_fin {b : GF} {c : BF} {el : ZF} {js : List Nat} {B : Addr} {acc : List D} {ys : List V} {H0 F0 : Hp} {Q : VK} (gw : Grow K cl σ H0 F0 env B acc ys H F) (h : Ct K cl E (PN K cl) (compD b c el (compE k js env) env [] acc) σ H0 F0 env Q) : Q (.ref B) H :=
  h _ H F gw.frm gw.rel ⟨B, ys, rfl, gw.new, gw.at_, gw.un, gw.far, gw.rps⟩
theorem compL {b : GF} {c : BF} {el : ZF} {g : TG} {tf : TT} {te : TE} {js : List Nat} {ds : List D} {xs : List V} {a B : Addr} {Q : VK} (nd : js.Nodup) (hg : RfG K cl k g b) (hc : RfB K cl E tf c) (he : RfZ K cl E te el) (R : Rel K cl σ H F env) (hB : H B = none)
    (hl : ∀ H' F', Same F F' → Same F' H' → (∀ a o, H a = some o → F a = none → H' a = some o ∧ F' a = none) → SqL K H' a xs) (r : Rps K cl F ds xs) (h : Ct K cl E (PN K cl) (compD b c el (compE k js env) env ds []) σ H F env Q) :
    tCompR (Itl K a) g tf te k (compSt k js σ) B (fun H' => Q (.ref B) H') H := by
  refine comp_list (xs := xs) (fun i ys H' => ∃ F' acc, Grow K cl σ H F env B acc ys H' F' ∧ Ct K cl E (PN K cl) (compD b c el (compE k js env) env (ds.drop i) acc) σ H F env Q) ⟨F, [], .start R hB, h⟩ (fun i ys H' _ ⟨F', acc, gw, _⟩ => hl H' F' gw.frm.fz gw.rel.sub gw.stay) (fun i x ys H' hx ⟨F', acc, gw, h'⟩ => ?_) (fun ys H' ⟨F', acc, gw, h'⟩ => ?_)
  · obtain ⟨d, hd, p⟩ := r.get' hx
    rw [drop_cons hd] at h'
    exact comp_turn (Pv := fun ys' H2 => ∃ F' acc, Grow K cl σ H F env B acc ys' H2 F' ∧ Ct K cl E (PN K cl) (compD b c el (compE k js env) env (ds.drop (i + 1)) acc) σ H F env Q) nd hg hc he gw (Rp.mono gw.frm.fz _ _ p) h' fun acc' ys' H2 F2 gw2 h2 => ⟨F2, acc', gw2, h2⟩
  · rw [← r.length, List.drop_length] at h'
    exact comp_fin gw h'
def bTrue : BF := fun e => some (.ok true e)
theorem rf_bTrue : RfB K cl E tTrue bTrue := fun σ H Q env F R h => h true H F Frm.refl R rfl
def nComp (k : Nat) (js : List Nat) (f : ZF) (b : GF) (c : BF) (el : ZF) : NF := fun e => bnd (f e) fun d e1 => match seqL d with
  | none => none
  | some ds => compD b c el (compE k js e1) e1 ds []
def nCompV (i : Nat) (k : Nat) (js : List Nat) (b : GF) (c : BF) (el : ZF) : NF := fun e => match look e i with
  | some d => (match seqL d with
    | none => none
    | some ds => compD b c el (compE k js e) e ds [])
  | none => none
def nCompR (rg : List D → Option (Int × Nat)) (k : Nat) (js : List Nat) (f : AF) (b : GF) (c : BF) (el : ZF) : NF := fun e => bnd (f e) fun ds e1 => match rg ds with
  | none => none
  | some (lo, n) => compD b c el (compE k js e1) e1 (rngD lo n) []
theorem rf_CompV {i : Nat} {g : TG} {tf : TT} {te : TE} {js : List Nat} {b : GF} {c : BF} {el : ZF} (nd : js.Nodup) (hg : RfG K cl k g b) (hc : RfB K cl E tf c) (he : RfZ K cl E te el) : RfN K cl E (tComp (iList K (tVar i)) g tf te k js) (nCompV i k js b c el) := by
  intro σ H Q env F R h
  unfold nCompV look at h
  cases q : env[i]? with
  | none => rw [q] at h; exact h.elim
  | some s =>
    rw [q] at h
    cases s with
    | no => exact h.elim
    | fz d =>
      have h : Ct K cl E (PN K cl) (match seqL d with
        | none => none
        | some ds => compD b c el (compE k js env) env ds []) σ H F env Q := h
      split at h
      · exact h.elim
      · rename_i ds hs
        obtain ⟨v, e, p⟩ := R.fz i d q
        obtain ⟨a, xs, rfl, r, hl⟩ := Rp.seqL p hs
        exact ⟨_, e, a, rfl, ⟨xs, hl H R.sub⟩, fun B hB => compL nd hg hc he R hB (fun H' F' f2 s2 _ => hl H' (f2.trans s2)) r h⟩
    | ow ds =>
      have h : Ct K cl E (PN K cl) (compD b c el (compE k js env) env ds []) σ H F env Q := h
      obtain ⟨a, xs, e, hH, hF, r⟩ := R.mu i ds (.inl q)
      exact ⟨_, e, a, rfl, ⟨xs, .of hH⟩, fun B hB => compL nd hg hc he R hB (fun H' F' _ _ st => .of (st a _ hH hF).1) r h⟩
    | hd ds =>
      have h : Ct K cl E (PN K cl) (compD b c el (compE k js env) env ds []) σ H F env Q := h
      obtain ⟨a, xs, e, hH, hF, r⟩ := R.mu i ds (.inr q)
      exact ⟨_, e, a, rfl, ⟨xs, .of hH⟩, fun B hB => compL nd hg hc he R hB (fun H' F' _ _ st => .of (st a _ hH hF).1) r h⟩
end
end L2
set_option Elab.async false
set_option linter.all false
set_option maxRecDepth 100000
set_option maxHeartbeats 4000000
namespace L2
open PySem PySem.Spec PyProof.Rows
def fD (n m : Nat) (body : SF) (ds : List D) : Option R1 := if ds.length = m then (match body (ds.map .fz ++ List.replicate (n - ds.length) .no) with
  | some (.nx _) => some (.ret .non)
  | some (.rt d) => some (.ret d)
  | some (.ro es) => some (.own es)
  | some (.ex c) => some (.ex c)
  | _ => none) else none
section
variable {P : Program} {w : World} {K : PySem.W.Frag} {mg : Str → Option Value} {base : Heap} {cl : Str → Addr}
theorem start_rel {N : List Str} {vs : List V} {ds : List D} {H F : Hp} (s : Same F H) (p : Rps K cl F ds vs) : Rel K cl (start N vs) H F (ds.map .fz ++ List.replicate (N.length - ds.length) .no) ∧ NoOw (ds.map .fz ++ List.replicate (N.length - ds.length) .no) := by
  have key : ∀ (i : Nat) (t : Sl), (ds.map Sl.fz ++ List.replicate (N.length - ds.length) .no)[i]? = some t → t ≠ .no → ∃ d, ds[i]? = some d ∧ t = .fz d := fun i t q n => by
    by_cases z : i < ds.length
    · rw [List.getElem?_append_left (by rw [List.length_map]; exact z), List.getElem?_map] at q
      cases hd : ds[i]? with
      | none => rw [hd] at q; cases q
      | some d => rw [hd] at q; cases q; exact ⟨d, rfl, rfl⟩
    · rw [List.getElem?_append_right (by rw [List.length_map]; omega), List.getElem?_replicate] at q
      split at q
      · cases q; exact absurd rfl n
      · cases q
  have no : NoOw (ds.map .fz ++ List.replicate (N.length - ds.length) .no) := fun i es q => by
    obtain ⟨d, _, z⟩ := key i _ q (fun z => by cases z); cases z
  refine ⟨⟨s, ?_, fun i d q => ?_, fun i es q => ?_, fun i j b ⟨es, q⟩ _ _ _ => ?_⟩, no⟩
  · unfold start
    rw [List.length_append, List.length_append, List.length_map, List.length_map, List.length_replicate, List.length_replicate, p.length]
  · obtain ⟨d', hd, z⟩ := key i _ q (fun z => by cases z)
    cases z
    obtain ⟨v, hv, r⟩ := p.get hd
    refine ⟨v, ?_, r⟩
    unfold start
    rw [List.getElem?_append_left (by rw [List.length_map]; exact (List.getElem?_eq_some_iff.mp hv).1), List.getElem?_map, hv]; rfl
  · rcases q with q | q
    · obtain ⟨d, _, z⟩ := key i _ q (fun z => by cases z); cases z
    · obtain ⟨d, _, z⟩ := key i _ q (fun z => by cases z); cases z
  · rcases q with q | q
    · obtain ⟨d, _, z⟩ := key i _ q (fun z => by cases z); cases z
    · obtain ⟨d, _, z⟩ := key i _ q (fun z => by cases z); cases z
theorem spD_len {n m : Nat} {body : SF} {vs : List V} {H : Hp} {Q : VK} {E : XK} (h : spD K cl (fD n m body) vs H Q E) : vs.length = m := by
  obtain ⟨ds, F, s, p, h⟩ := h
  unfold fD at h
  by_cases z : ds.length = m
  · rw [← p.length]; exact z
  · rw [if_neg z] at h; exact h.elim
theorem body_reads {N : List Str} {m : Nat} {body : SF} {t : TS} {vs : List V} {H : Hp} {Q : VK} {E : XK} (hb : RfS K cl E t body) (h : spD K cl (fD N.length m body) vs H Q E) : t { nx := fun _ H' => Q .non H', rt := Q } (start N vs) H := by
  obtain ⟨ds, F, s, p, h⟩ := h
  obtain ⟨R, no⟩ := start_rel (N := N) s p
  refine hb _ _ H _ F R ?_
  unfold fD at h
  by_cases z : ds.length = m
  · rw [if_pos z] at h
    cases r : body (ds.map .fz ++ List.replicate (N.length - ds.length) .no) with
    | none => rw [r] at h; exact h.elim
    | some rs =>
      rw [r] at h
      cases rs with
      | nx e => exact fun σ' H' F' f R' => h .non H' F' (f.gr no R'.sub) (by simp only [Rp])
      | rt d => exact fun v H' F' x q => h v H' F' (x.gr no) q
      | ro es =>
        refine fun a xs H' F' x ha fa nw q => h a xs H' F' (x.gr no) ?_ ha fa q
        cases e : H a with
        | none => rfl
        | some o => exact absurd (nw o e) no.not
      | bk e => exact h.elim
      | ct e => exact h.elim
      | ex c => exact fun H' F' x => h H' F' (x.gr no)
  · rw [if_neg z] at h; exact h.elim
theorem Fun.okD {x qual : Str} {st : Stmt} {f : Addr} {fd : FuncData} {N ps : List Str} {k : Nat} {body : SF} (F : Fun K x qual st f fd) (S : FnScope N ps (defScope st))
    (hbody : ∀ (cdv : Value) (A : Around) (outer : List Env) (s : Shared) (H : Hp) (E : XK), Room k (A.deeper (envOfC qual (defScope st) s.heap.objs.size f cdv)) →
      ∃ t, PSs (cxOf (CXe P w) P w K mg base N qual (defScope st) f cdv A outer s H E) (defBody st) t ∧ RfS K cl E t body) : FnOk P w K mg base (CXe P w) (k + 1) f fd ps (spD K cl (fD N.length ps.length body)) :=
  F.okE S (fun vs H Q E h => spD_len h) fun cdv A outer s H vs Q E hr h => by
    obtain ⟨t, h1, h2⟩ := hbody cdv A outer s H E hr
    exact ⟨t, h1, body_reads h2 h⟩
theorem FunD.okD {x qual : Str} {st : Stmt} {dT f : Addr} {fd : FuncData} {N ps : List Str} {k : Nat} {body : SF} (F : FunD K x qual st dT f fd) (S : FnScope N ps (defScope st))
    (hbody : ∀ (cdv : Value) (A : Around) (outer : List Env) (s : Shared) (H : Hp) (E : XK), Room k (A.deeper (envOfC qual (defScope st) s.heap.objs.size f cdv)) →
      ∃ t, PSs (cxOf (CXe P w) P w K mg base N qual (defScope st) f cdv A outer s H E) (defBody st) t ∧ RfS K cl E t body) : FnOk P w K mg base (CXe P w) (k + 1) f fd ps (spD K cl (fD N.length ps.length body)) :=
  F.okE S (fun vs H Q E h => spD_len h) fun cdv A outer s H vs Q E hr h => by
    obtain ⟨t, h1, h2⟩ := hbody cdv A outer s H E hr
    exact ⟨t, h1, body_reads h2 h⟩
theorem spD_law {g : List D → Option R1} {vs : List V} {H : Hp} {Q : VK} {E : XK} {a : Addr} {ns : List Int} (e : vs = [.ref a]) (h : Scr K H a (ns.map V.int)) (q : ∀ H', Q (.bl true) H') (m : g [.scr ns] = some (.ret (.bl true))) : spD K cl g vs H Q E := by
  refine ⟨[.scr ns], H, Same.refl _, ?_, ?_⟩
  · rw [e]; exact .one (by simp only [Rp]; exact ⟨a, rfl, h⟩)
  · rw [m]
    intro v H' F' _ p
    have p : Rp K cl F' (.bl true) v := p
    simp only [Rp] at p
    rw [p]; exact q H'
def tyN : D → Option String
  | .non => some "NoneType"
  | .bl _ => some "bool"
  | .int _ => some "int"
  | .str _ => some "str"
  | .lst _ => some "list"
  | .tup _ => some "tuple"
  | _ => none
theorem kit_tab {K : PySem.W.Frag} (t n : String) (ht : t ∈ ["NoneType", "bool", "int", "str", "list", "tuple"]) (hn : n ∈ ["bool", "int", "str", "list", "tuple"]) : PySem.W.kitOne K (.type t) (.type n) = some (t == n || (t == "bool" && n == "int")) := by
  simp only [List.mem_cons, List.not_mem_nil, or_false] at ht hn
  rcases ht with rfl | rfl | rfl | rfl | rfl | rfl <;> rcases hn with rfl | rfl | rfl | rfl | rfl <;> first | rfl | with_unfolding_all rfl
def gIsi : List D → Option D
  | [d, .ty n] => match tyN d with
    | some t => if n ∈ ["bool", "int", "str", "list", "tuple"] then some (.bl (t == n || (t == "bool" && n == "int"))) else none
    | none => none
  | _ => none
theorem tyN_mem {d : D} {t : String} (h : tyN d = some t) : t ∈ ["NoneType", "bool", "int", "str", "list", "tuple"] := by
  cases d <;> cases h <;> decide
theorem tyN_of {F H : Hp} {d : D} {t : String} {v : V} (s : Same F H) (p : Rp K cl F d v) (h : tyN d = some t) : TyX K H v (.type t) := by
  cases d <;> cases h <;> simp only [Rp] at p
  · subst p; exact .of .non
  · subst p; exact .of (.bl _)
  · subst p; exact .of (.int _)
  · subst p; exact .of (.str _)
  · obtain ⟨a, xs, rfl, h, _⟩ := p; exact .of (.tup (s _ _ h))
  · obtain ⟨a, xs, rfl, h, _⟩ := p; exact .of (.lst (s _ _ h))
theorem ok_isi : CbOk K cl (rIsi K) gIsi := by
  intro xs ds z H F Q s hx h q
  unfold gIsi at h
  split at h
  · rename_i d n
    split at h
    · rename_i t ht
      split at h
      · rename_i hn; cases h
        obtain ⟨v, r, rfl, p1, p2⟩ := hx.inv
        obtain ⟨u, r', rfl, p3, p4⟩ := p2.inv
        rw [p4.inv0]
        simp only [Rp] at p3
        subst p3
        exact ⟨v, _, _, _, _, rfl, rfl, tyN_of s p1 ht, kit_tab t n (tyN_mem ht) hn, q _ H F (.refl s) (by simp only [Rp])⟩
      · cases h
    · cases h
  · cases h
def gIsiV (n : String) (d : D) : Option D := match tyN d with
  | some t => if n ∈ ["bool", "int", "str", "list", "tuple"] then some (.bl (t == n || (t == "bool" && n == "int"))) else none
  | none => none
def eIsiV (i : Nat) (n : String) : ZF := fun e => match look e i with
  | some d => opt (gIsiV n d) e
  | none => none
theorem rf_IsiV {E : XK} {i : Nat} {n : String} {t : TE} (ht : t = tC (.ty n) := by rfl) : RfZ K cl E (tCB (rIsi K) (tCons (tVar i) (tCons t tNil))) (eIsiV i n) := by
  subst ht
  intro σ H Q env F R h
  unfold eIsiV at h
  cases q : look env i with
  | none => rw [q] at h; exact h.elim
  | some d =>
    rw [q] at h
    obtain ⟨x, e, rb⟩ := R.look q
    refine ⟨x, e, ?_⟩
    cases hz : gIsiV n d with
    | none => simp only [hz, opt_none] at h; exact h.elim
    | some z =>
      simp only [hz, opt_some] at h
      unfold gIsiV at hz
      split at hz
      · rename_i t ht
        split at hz
        · rename_i hn; cases hz
          refine ⟨x, _, _, _, _, rfl, rfl, ?_, kit_tab t n (tyN_mem ht) hn, h _ H F Frm.refl R (by show Rp K cl F (.bl _) _; simp only [Rp])⟩
          rcases rb with p | ⟨a, xs, ds, rfl, rfl, hH, _⟩
          · exact tyN_of R.sub p ht
          · cases ht; exact .of (.lst hH)
        · cases hz
      · cases hz
end
end L2
set_option Elab.async false
set_option linter.all false
set_option maxRecDepth 100000
set_option maxHeartbeats 4000000
namespace L2
open PySem PySem.Spec PyProof.Rows
section
variable {P : Program} {w : World} {mg : Str → Option Value} {base : Heap} {K : PySem.W.Frag} {cl : Str → Addr} {E : XK}
theorem rf_SetW {i : Nat} {g : List D → Option R1} {t : TA} {f : AF} (hf : RfA K cl E t f) : RfS K cl E (tAsg (tCallW (spD K cl g) t) (gName i)) (sSetC0 i g f) := by
  intro N σ H env F R h
  refine hf σ H _ env F R ((Cs.bnd h).mono fun vs H1 ⟨F1, e1, ds, fr, R1, p1, h1⟩ => ?_)
  refine ⟨ds, F1, R1.sub, p1, ?_⟩
  unfold toSet0 at h1
  split at h1
  · rename_i q; rw [q]
    obtain ⟨hi, nh, h2⟩ := putS h1
    exact fun v H' F' gr r => h2 _ H' F' ((fr.trans (R1.frm gr)).trans (Frm.put nh)) ((R1.gr gr).put hi nh r)
  · rename_i q; rw [q]
    obtain ⟨hi, nh, h2⟩ := putS h1
    intro a xs H' F' gr ha hH hF r
    refine h2 _ H' F' ((fr.trans (R1.frm gr)).putO (fr.dom a ha) nh) ((R1.gr gr).putO hi hH hF (fun j mj e => ?_) r)
    obtain ⟨es, q⟩ := mj
    obtain ⟨b, ys, e', hb, _⟩ := R1.mu j es q
    rw [e] at e'; cases e'
    rw [ha] at hb; cases hb
  · exact h1.elim
theorem Fun.okWD {x qual : Str} {st : Stmt} {f : Addr} {fd : FuncData} {N ps : List Str} {k : Nat} {body : SF} (F : Fun K x qual st f fd) (S : FnScope N ps (defScope st))
    (hbody : ∀ (cdv : Value) (A : Around) (outer : List Env) (s : Shared) (H : Hp), RoomW k (A.deeper (envOfC qual (defScope st) s.heap.objs.size f cdv)) →
      ∃ t, PSs (cxOfW P w K mg base N qual (defScope st) f cdv A outer s H) (defBody st) t ∧ RfS K cl E0 t body) : FnOkW P w K mg base (k + 1) f fd ps (spD K cl (fD N.length ps.length body)) :=
  F.okW S (fun vs H Q E h => spD_len h) fun cdv A outer s H vs Q hr h => by
    obtain ⟨t, h1, h2⟩ := hbody cdv A outer s H hr
    exact ⟨t, h1, body_reads h2 h⟩
def clsN : D → Option Str
  | .cls n => some n
  | _ => none
def gIsiT (xT : Str → List Str → Option Bool) : List D → Option D
  | [.exc c, .tup cs] => match cs.mapM clsN with
    | some ns => (xT c ns).map .bl
    | none => none
  | _ => none
def gIsiX (x1 : Str → Str → Option Bool) (x2 : Str → String → Option Bool) : List D → Option D
  | [.exc c, .cls n] => (x1 c n).map .bl
  | [.exc c, .ty n] => (x2 c n).map .bl
  | _ => none
theorem cls_vals : ∀ {cs : List D} {ns : List Str} {F : Hp} {ys : List V}, cs.mapM clsN = some ns → Rps K cl F cs ys → ys.mapM clsV = some (ns.map fun m => Value.ref (cl m))
  | [], _, _, _, h, p => by cases h; rw [p.inv0]; rfl
  | c :: cs, _, _, _, h, p => by
    obtain ⟨v, r, rfl, p1, p2⟩ := p.inv
    rw [List.mapM_cons] at h ⊢
    cases hc : clsN c with
    | none => rw [hc] at h; cases h
    | some n =>
      rw [hc] at h
      cases hcs : cs.mapM clsN with
      | none => rw [hcs] at h; cases h
      | some ns =>
        rw [hcs] at h; cases h
        have hv : v = .ref (cl n) := by
          cases c <;> cases hc
          simpa only [Rp] using p1
        rw [hv, cls_vals hcs p2]; rfl
theorem ok_isiT {xT : Str → List Str → Option Bool} (hx : ∀ c ns b, xT c ns = some b → PySem.W.ExcT K (cl c) ∧ PySem.W.kitAny K (.ref (cl c)) (ns.map fun m => .ref (cl m)) = some b) : CbOk K cl (rIsiT K) (gIsiT xT) := by
  intro xs ds z H F Q s p h q
  unfold gIsiT at h
  split at h
  · rename_i c cs
    split at h
    · rename_i ns hn
      cases hb : xT c ns with
      | none => rw [hb] at h; cases h
      | some b =>
        rw [hb] at h; cases h
        obtain ⟨v, r, rfl, p1, p2⟩ := p.inv
        obtain ⟨u, r', rfl, p3, p4⟩ := p2.inv
        rw [p4.inv0]
        simp only [Rp] at p1 p3
        obtain ⟨a, cx, rfl, ha⟩ := p1
        obtain ⟨t, ys, rfl, ht, r⟩ := p3
        obtain ⟨hT, hk⟩ := hx c ns b hb
        exact ⟨_, t, ys, _, _, b, rfl, s _ _ ht, cls_vals hn r, .exc (s _ _ ha) hT, hk, q _ H F (.refl s) (by simp only [Rp])⟩
    · cases h
  · cases h
theorem ok_isiX {x1 : Str → Str → Option Bool} {x2 : Str → String → Option Bool} (h1 : ∀ c n b, x1 c n = some b → PySem.W.ExcT K (cl c) ∧ PySem.W.kitOne K (.ref (cl c)) (.ref (cl n)) = some b)
    (h2 : ∀ c n b, x2 c n = some b → PySem.W.ExcT K (cl c) ∧ PySem.W.kitOne K (.ref (cl c)) (.type n) = some b) : CbOk K cl (rIsi K) (gIsiX x1 x2) := by
  intro xs ds z H F Q s p h q
  unfold gIsiX at h
  split at h
  · rename_i c n
    cases hb : x1 c n with
    | none => rw [hb] at h; cases h
    | some b =>
      rw [hb] at h; cases h
      obtain ⟨v, r, rfl, p1, p2⟩ := p.inv
      obtain ⟨u, r', rfl, p3, p4⟩ := p2.inv
      rw [p4.inv0]
      simp only [Rp] at p1 p3
      obtain ⟨a, cx, rfl, ha⟩ := p1
      subst p3
      obtain ⟨hT, hk⟩ := h1 c n b hb
      exact ⟨_, _, _, _, b, rfl, rfl, .exc (s _ _ ha) hT, hk, q _ H F (.refl s) (by simp only [Rp])⟩
  · rename_i c n
    cases hb : x2 c n with
    | none => rw [hb] at h; cases h
    | some b =>
      rw [hb] at h; cases h
      obtain ⟨v, r, rfl, p1, p2⟩ := p.inv
      obtain ⟨u, r', rfl, p3, p4⟩ := p2.inv
      rw [p4.inv0]
      simp only [Rp] at p1 p3
      obtain ⟨a, cx, rfl, ha⟩ := p1
      subst p3
      obtain ⟨hT, hk⟩ := h2 c n b hb
      exact ⟨_, _, _, _, b, rfl, rfl, .exc (s _ _ ha) hT, hk, q _ H F (.refl s) (by simp only [Rp])⟩
  · cases h
def eChain (g g' : D → D → Option D) (fa fb fc : ZF) : ZF := fun e => bnd (fa e) fun d e1 => bnd (fb e1) fun d' e2 => match g d d' with
  | some (.bl b) => if b = true then bnd (fc e2) fun d'' e3 => opt (g' d' d'') e3 else some (.ok (.bl false) e2)
  | _ => none
end
end L2
set_option Elab.async false
set_option linter.all false
set_option maxRecDepth 100000
set_option maxHeartbeats 4000000
namespace L2
open PySem PySem.Spec PyProof.Rows
section
variable {α β : Type}
def seqR (r : Option RS) (k : SF) : Option RS := match r with
  | some (.nx e) => k e
  | r => r
theorem sSeq_eq {f k : SF} {e : DE} : sSeq f k e = seqR (f e) k := rfl
theorem seqR_nx {e : DE} {k : SF} : seqR (some (.nx e)) k = k e := rfl
theorem seqR_rt {d : D} {k : SF} : seqR (some (.rt d)) k = some (.rt d) := rfl
theorem seqR_ro {d : List D} {k : SF} : seqR (some (.ro d)) k = some (.ro d) := rfl
theorem seqR_ex {d : Str} {k : SF} : seqR (some (.ex d)) k = some (.ex d) := rfl
theorem seqR_bk {e : DE} {k : SF} : seqR (some (.bk e)) k = some (.bk e) := rfl
theorem seqR_ct {e : DE} {k : SF} : seqR (some (.ct e)) k = some (.ct e) := rfl
theorem seqR_no {k : SF} : seqR none k = none := rfl
theorem seqR_ite {c : Prop} [Decidable c] {a b : Option RS} {k : SF} : seqR (if c then a else b) k = if c then seqR a k else seqR b k := by split <;> rfl
theorem bnd_ite {c : Prop} [Decidable c] {a b : Option (R α)} {k : α → DE → Option (R β)} : bnd (if c then a else b) k = if c then bnd a k else bnd b k := by split <;> rfl
theorem sbn_ite {c : Prop} [Decidable c] {a b : Option (R α)} {k : α → DE → Option RS} : sbn (if c then a else b) k = if c then sbn a k else sbn b k := by split <;> rfl
theorem opt_ite {c : Prop} [Decidable c] {a b : Option α} {e : DE} : opt (if c then a else b) e = if c then opt a e else opt b e := by split <;> rfl
theorem toZ_ite {c : Prop} [Decidable c] {a b : Option R1} {e : DE} : toZ (if c then a else b) e = if c then toZ a e else toZ b e := by split <;> rfl
theorem toZ0_ite {c : Prop} [Decidable c] {a b : Option R1} {e : DE} : toZ0 (if c then a else b) e = if c then toZ0 a e else toZ0 b e := by split <;> rfl
theorem toSet_ite {c : Prop} [Decidable c] {i : Nat} {a b : Option R1} {e : DE} : toSet i (if c then a else b) e = if c then toSet i a e else toSet i b e := by split <;> rfl
theorem toSet0_ite {c : Prop} [Decidable c] {i : Nat} {a b : Option R1} {e : DE} : toSet0 i (if c then a else b) e = if c then toSet0 i a e else toSet0 i b e := by split <;> rfl
theorem toRet_ite {c : Prop} [Decidable c] {a b : Option R1} : toRet (if c then a else b) = if c then toRet a else toRet b := by split <;> rfl
theorem toRet0_ite {c : Prop} [Decidable c] {a b : Option R1} : toRet0 (if c then a else b) = if c then toRet0 a else toRet0 b := by split <;> rfl
theorem toZ_ret {d : D} {e : DE} : toZ (some (.ret d)) e = some (.ok d e) := rfl
theorem toZ_own {d : List D} {e : DE} : toZ (some (.own d)) e = some (.ok (.lst d) e) := rfl
theorem toZ_ex {d : Str} {e : DE} : toZ (some (.ex d)) e = some (.ex d) := rfl
theorem toZ0_ret {d : D} {e : DE} : toZ0 (some (.ret d)) e = some (.ok d e) := rfl
theorem toZ0_own {d : List D} {e : DE} : toZ0 (some (.own d)) e = some (.ok (.lst d) e) := rfl
theorem toSet_ret {i : Nat} {d : D} {e : DE} : toSet i (some (.ret d)) e = put i (.fz d) e := rfl
theorem toSet_own {i : Nat} {d : List D} {e : DE} : toSet i (some (.own d)) e = put i (.ow d) e := rfl
theorem toSet_ex {i : Nat} {d : Str} {e : DE} : toSet i (some (.ex d)) e = some (.ex d) := rfl
theorem toSet0_ret {i : Nat} {d : D} {e : DE} : toSet0 i (some (.ret d)) e = put i (.fz d) e := rfl
theorem toSet0_own {i : Nat} {d : List D} {e : DE} : toSet0 i (some (.own d)) e = put i (.ow d) e := rfl
theorem toRet_ret {d : D} : toRet (some (.ret d)) = some (.rt d) := rfl
theorem toRet_own {d : List D} : toRet (some (.own d)) = some (.ro d) := rfl
theorem toRet_ex {d : Str} : toRet (some (.ex d)) = some (.ex d) := rfl
theorem toRet0_ret {d : D} : toRet0 (some (.ret d)) = some (.rt d) := rfl
theorem toRet0_own {d : List D} : toRet0 (some (.own d)) = some (.ro d) := rfl
def finR (r : Option RS) : Option R1 := match r with
  | some (.nx _) => some (.ret .non)
  | some (.rt d) => some (.ret d)
  | some (.ro es) => some (.own es)
  | some (.ex c) => some (.ex c)
  | _ => none
theorem fD_eq {n m : Nat} {body : SF} {ds : List D} (h : ds.length = m) : fD n m body ds = finR (body (ds.map .fz ++ List.replicate (n - m) .no)) := by
  unfold fD; rw [if_pos h, h]; rfl
theorem finR_nx {e : DE} : finR (some (.nx e)) = some (.ret .non) := rfl
theorem finR_rt {d : D} : finR (some (.rt d)) = some (.ret d) := rfl
theorem finR_ro {d : List D} : finR (some (.ro d)) = some (.own d) := rfl
theorem finR_ex {d : Str} : finR (some (.ex d)) = some (.ex d) := rfl
theorem finR_ite {c : Prop} [Decidable c] {a b : Option RS} : finR (if c then a else b) = if c then finR a else finR b := by split <;> rfl
def forK (r : Option RS) (k : SF) : Option RS := match r with
  | some (.nx e) => k e
  | some (.ct e) => k e
  | some (.bk e) => some (.nx e)
  | r => r
theorem forK_nx {e : DE} {k : SF} : forK (some (.nx e)) k = k e := rfl
theorem forK_ct {e : DE} {k : SF} : forK (some (.ct e)) k = k e := rfl
theorem forK_bk {e : DE} {k : SF} : forK (some (.bk e)) k = some (.nx e) := rfl
theorem forK_rt {d : D} {k : SF} : forK (some (.rt d)) k = some (.rt d) := rfl
theorem forK_ro {d : List D} {k : SF} : forK (some (.ro d)) k = some (.ro d) := rfl
theorem forK_ex {d : Str} {k : SF} : forK (some (.ex d)) k = some (.ex d) := rfl
theorem forK_ite {c : Prop} [Decidable c] {a b : Option RS} {k : SF} : forK (if c then a else b) k = if c then forK a k else forK b k := by split <;> rfl
theorem forD_nil {b : GF} {body : SF} {e : DE} : forD b body [] e = some (.nx e) := rfl
def optR (x : Option DE) (k : SF) : Option RS := match x with
  | none => none
  | some e => k e
theorem forD_step {b : GF} {body : SF} {d : D} {ds : List D} {e : DE} : forD b body (d :: ds) e = optR (b d e) fun e1 => forK (body e1) (forD b body ds) := by
  rw [forD]; cases b d e <;> rfl
theorem optR_some {e : DE} {k : SF} : optR (some e) k = k e := rfl
def tryR (n i : Nat) (exm : Str → Bool) (suite : SF) (e : DE) (r : Option RS) : Option RS := match r with
  | some (.ex c) => if (exm c && noHd e) = true then (match suite ((List.replicate n Sl.no).set i (.fz (.exc c))) with
      | some (.nx e2) => put i .no e2
      | some (.rt d) => some (.rt d)
      | some (.ro ds) => some (.ro ds)
      | _ => none) else none
  | r => r
theorem sTryAs_eq {n i : Nat} {exm : Str → Bool} {body suite : SF} {e : DE} : sTryAs n i exm body suite e = tryR n i exm suite e (body e) := rfl
def susR (i : Nat) (r : Option RS) : Option RS := match r with
  | some (.nx e2) => put i .no e2
  | some (.rt d) => some (.rt d)
  | some (.ro ds) => some (.ro ds)
  | _ => none
theorem susR_nx {i : Nat} {e : DE} : susR i (some (.nx e)) = put i .no e := rfl
theorem susR_rt {i : Nat} {d : D} : susR i (some (.rt d)) = some (.rt d) := rfl
theorem susR_ro {i : Nat} {d : List D} : susR i (some (.ro d)) = some (.ro d) := rfl
theorem tryR_ex {n i : Nat} {exm : Str → Bool} {suite : SF} {e : DE} {c : Str} : tryR n i exm suite e (some (.ex c)) = if (exm c && noHd e) = true then susR i (suite ((List.replicate n Sl.no).set i (.fz (.exc c)))) else none := rfl
theorem tryR_rt {n i : Nat} {exm : Str → Bool} {suite : SF} {e : DE} {d : D} : tryR n i exm suite e (some (.rt d)) = some (.rt d) := rfl
theorem tryR_ro {n i : Nat} {exm : Str → Bool} {suite : SF} {e : DE} {d : List D} : tryR n i exm suite e (some (.ro d)) = some (.ro d) := rfl
theorem tryR_nx {n i : Nat} {exm : Str → Bool} {suite : SF} {e e1 : DE} : tryR n i exm suite e (some (.nx e1)) = some (.nx e1) := rfl
theorem tryR_ite {n i : Nat} {exm : Str → Bool} {suite : SF} {e : DE} {c : Prop} [Decidable c] {a b : Option RS} : tryR n i exm suite e (if c then a else b) = if c then tryR n i exm suite e a else tryR n i exm suite e b := by split <;> rfl
theorem gAdd_eq (a b : Int) : gAdd (.int a) (.int b) = some (.int (a + b)) := rfl
theorem gSub_eq (a b : Int) : gSub' (.int a) (.int b) = some (.int (a - b)) := rfl
theorem gLt_eq (a b : Int) : gLt (.int a) (.int b) = some (.bl (decide (a < b))) := rfl
theorem gLe_eq (a b : Int) : gLe (.int a) (.int b) = some (.bl (decide (a ≤ b))) := rfl
theorem gGt_eq (a b : Int) : gGt (.int a) (.int b) = some (.bl (decide (b < a))) := rfl
theorem gGe_eq (a b : Int) : gGe (.int a) (.int b) = some (.bl (decide (b ≤ a))) := rfl
theorem gMul_eq {a b : Int} (h : IntMulOk a b) : gMul (.int a) (.int b) = some (.int (a * b)) := by show (if _ then _ else _) = _; rw [if_pos h]
theorem gDiv_eq {a b : Int} (h : 0 < b ∧ b.natAbs.log2 < 9000) : gDiv (.int a) (.int b) = some (.int (a / b)) := by show (if _ then _ else _) = _; rw [if_pos h]
theorem gMod_eq {a b : Int} (h : 0 < b) : gMod (.int a) (.int b) = some (.int (a % b)) := by show (if _ then _ else _) = _; rw [if_pos h]
theorem gPow_eq {a b : Int} (h : CPow a b) : gPow (.int a) (.int b) = some (.int (a ^ b.toNat)) := by show (if _ then _ else _) = _; rw [if_pos h]
end
end L2
set_option Elab.async false
set_option linter.all false
set_option maxRecDepth 100000
set_option maxHeartbeats 4000000
namespace L2
open PySem PySem.Spec PyProof.Rows
def Fits (i : Int) : Prop := Builtin.Int.intBits i ≤ 2 ^ 20
theorem bits_le {a b : Int} (h : a.natAbs ≤ b.natAbs) : Builtin.Int.intBits a ≤ Builtin.Int.intBits b := by
  unfold Builtin.Int.intBits
  split
  · exact Nat.zero_le _
  · rename_i ha
    have ha' : a.natAbs ≠ 0 := by
      intro z; apply ha; first | exact Int.natAbs_eq_zero.mp z | (simpa using z)
    have hb' : b.natAbs ≠ 0 := by omega
    split
    · rename_i hb
      exact absurd (by first | exact Int.natAbs_eq_zero.mpr hb | (simpa using hb)) hb'
    · have h1 : b.natAbs < 2 ^ (b.natAbs.log2 + 1) := Nat.lt_log2_self
      have h2 : a.natAbs.log2 < b.natAbs.log2 + 1 := (Nat.log2_lt ha').mpr (by omega)
      omega
theorem Fits.le {a b : Int} (h : Fits b) (l : a.natAbs ≤ b.natAbs) : Fits a := Nat.le_trans (bits_le l) h
theorem Fits.div {i : Int} {n : Int} (h : Fits i) (hn : 0 < n := by decide) : Fits (i / n) := by
  refine h.le ?_
  rcases Int.lt_or_le i 0 with z | z
  · have h1 : i / n < 0 := Int.ediv_neg_of_neg_of_pos z hn
    have h2 : i ≤ i / n := by
      have h3 : n * (i / n) ≤ i := Int.mul_ediv_self_le (by omega)
      have h4 : i < n * (i / n) + n := Int.lt_mul_ediv_self_add hn
      have : i / n * 1 ≥ i / n * n := Int.mul_le_mul_of_nonpos_left (by omega) (by omega)
      have e : n * (i / n) = i / n * n := Int.mul_comm _ _
      have h5 : i ≤ (i / n) * 1 + (n - 1) := by omega
      apply Classical.byContradiction
      intro hc
      have hc : i / n < i := by omega
      have : i / n * n ≤ (i - 1) * n := Int.mul_le_mul_of_nonneg_right (by omega) (by omega)
      have h6 : i < (i - 1) * n + n := by omega
      have h7 : (i - 1) * n + n = i * n := by rw [Int.sub_mul]; omega
      have h8 : i * n ≤ i * 1 := Int.mul_le_mul_of_nonpos_left (by omega) (by omega)
      omega
    omega
  · have h1 : 0 ≤ i / n := Int.ediv_nonneg z (by omega)
    have h2 : i / n ≤ i := Int.ediv_le_self n z
    omega
theorem Fits.mod {i n : Int} (hn : 0 < n) (h : Fits n) : Fits (i % n) := by
  refine h.le ?_
  have h1 := Int.emod_nonneg i (show n ≠ 0 by omega)
  have h2 := Int.emod_lt_of_pos i hn
  omega
theorem Fits.mul {i j : Int} (a : Fits i) (b : Fits j) : IntMulOk i j := IntMulOk.of_bits a b
theorem fits_lit {i : Int} (h : i.natAbs < 2 ^ 400 := by decide) : Fits i := by
  have e : Builtin.Int.intBits (2 ^ 400 : Int) ≤ 2 ^ 20 := by decide +kernel
  exact (show Fits (2 ^ 400) from e).le (by have : (2 ^ 400 : Int).natAbs = 2 ^ 400 := by decide +kernel
                                            omega)
theorem mul_small {a b : Int} (h : a.natAbs < 2 ^ 64) : IntMulOk a b := IntMulOk.of_left (intBits_le_64 (by omega) (by omega))
theorem mul_small' {a b : Int} (h : b.natAbs < 2 ^ 64) : IntMulOk a b := IntMulOk.of_right (intBits_le_64 (by omega) (by omega))
theorem gMul_l {a b : Int} (h : a.natAbs < 2 ^ 64) : gMul (.int a) (.int b) = some (.int (a * b)) := gMul_eq (mul_small h)
theorem gMul_r {a b : Int} (h : b.natAbs < 2 ^ 64) : gMul (.int a) (.int b) = some (.int (a * b)) := gMul_eq (mul_small' h)
section
variable {α : Type}
theorem atI_0 {a : α} {l : List α} : atI (a :: l) 0 = some a := by unfold atI ixN; simp
theorem atI_s {a : α} {l : List α} {n : Nat} : atI (a :: l) ((n : Int) + 1) = atI l n := by
  unfold atI ixN
  have h1 : (0 : Int) ≤ (n : Int) + 1 := by omega
  have h2 : (0 : Int) ≤ (n : Int) := by omega
  rw [if_pos h1, if_pos h2]
  by_cases z : (n : Int) < (l.length : Int)
  · rw [if_pos z, if_pos (by rw [List.length_cons]; push_cast; omega)]
    show (a :: l)[((n : Int) + 1).toNat]? = l[((n : Int)).toNat]?
    rw [show ((n : Int) + 1).toNat = n + 1 by omega, show ((n : Int)).toNat = n by omega]
    rfl
  · rw [if_neg z, if_neg (by rw [List.length_cons]; push_cast; omega)]
    rfl
theorem atI_1 {a b : α} {l : List α} : atI (a :: b :: l) 1 = some b := (atI_s (n := 0)).trans atI_0
theorem atI_2 {a b c : α} {l : List α} : atI (a :: b :: c :: l) 2 = some c := (atI_s (n := 1)).trans atI_1
theorem atI_3 {a b c d : α} {l : List α} : atI (a :: b :: c :: d :: l) 3 = some d := (atI_s (n := 2)).trans atI_2
theorem atI_4 {a b c d e : α} {l : List α} : atI (a :: b :: c :: d :: e :: l) 4 = some e := (atI_s (n := 3)).trans atI_3
theorem atI_5 {a b c d e f : α} {l : List α} : atI (a :: b :: c :: d :: e :: f :: l) 5 = some f := (atI_s (n := 4)).trans atI_4
theorem atI_6 {a b c d e f g : α} {l : List α} : atI (a :: b :: c :: d :: e :: f :: g :: l) 6 = some g := (atI_s (n := 5)).trans atI_5
end
def cellAt (ns : List Int) (k : Int) : Int := ns.getD k.toNat 0
theorem fits_cell {ns : List Int} (h : ∀ m ∈ ns, Builtin.Int.intBits m ≤ 2 ^ 20) (k : Int) : Fits (cellAt ns k) := by
  unfold cellAt Fits
  rw [List.getD_eq_getElem?_getD]
  cases q : ns[k.toNat]? with
  | none => show Builtin.Int.intBits 0 ≤ _; decide
  | some v => exact h v (List.mem_of_getElem? q)
theorem cell_eq {ns : List Int} {k : Int} (hk : 0 ≤ k) : (if k < (ns.length : Int) then (match atI ns k with
    | none => none
    | some n => some (R1.ret (D.int n))) else some (R1.ret (D.int 0))) = some (R1.ret (D.int (cellAt ns k))) := by
  unfold cellAt
  by_cases z : k < (ns.length : Int)
  · rw [if_pos z]
    have h : k.toNat < ns.length := by omega
    have e : atI ns k = some ns[k.toNat] := by
      unfold atI ixN
      rw [if_pos hk, if_pos z]
      exact List.getElem?_eq_getElem h
    rw [e, List.getD_eq_getElem?_getD, List.getElem?_eq_getElem h]; rfl
  · rw [if_neg z, List.getD_eq_getElem?_getD, List.getElem?_eq_none (by omega)]; rfl
end L2
set_option Elab.async false
set_option linter.all false
set_option maxRecDepth 100000
set_option maxHeartbeats 4000000
namespace L2
open PySem PySem.Spec PyProof.Rows
end L2
namespace L2
end L2
set_option Elab.async false
set_option linter.all false
set_option maxRecDepth 100000
set_option maxHeartbeats 4000000
namespace L2
open PySem PySem.Spec PyProof.Rows
section
variable {K : PySem.W.Frag} {cl : Str → Addr} {E : XK} {σ : St} {H F : Hp} {env : DE} {k : Nat}
def zipD (ds es : List D) : List D := List.zipWith (fun a b => .tup [a, b]) ds es
theorem zipD_get {ds es : List D} {i : Nat} {d e : D} (h : ds[i]? = some d) (h' : es[i]? = some e) : (zipD ds es)[i]? = some (.tup [d, e]) := by
  unfold zipD; rw [List.getElem?_zipWith, h, h']
theorem zipD_len {ds es : List D} : (zipD ds es).length = min ds.length es.length := by unfold zipD; rw [List.length_zipWith]
theorem forZ {b : GF} {body : SF} {g : TG} {tb : TS} {ds es : List D} {xs ys : List V} {a a' : Addr} {N : Ends} (hb : RfS K cl E tb body) (hg : RfG K cl k g b) (R : Rel K cl σ H F env)
    (hl : ∀ σ' H' F' e', Frm σ H F env σ' H' F' e' → Rel K cl σ' H' F' e' → SqL K H' a xs ∧ SqL K H' a' ys) (r : Rps K cl F ds xs) (r' : Rps K cl F es ys) (h : Cs K cl E (forD b body (zipD ds es) env) σ H F env N) :
    ∃ W : Nat → Nat → St → Hp → Prop, (∃ m, W 0 m σ H) ∧ ∀ i m σ H, W i m σ H →
      ((Itz K a a').stop i H ∧ N.nx σ H) ∨ ((Itz K a a').go i H ∧ ∃ M : St → Hp → Prop, (∀ σ' H', M σ' H' → ∃ m', m' < m ∧ W (i + 1) m' σ' H') ∧ ∀ x H', (Itz K a a').yld i H x H' → g x σ H' fun σ2 H2 => tb { N with nx := M, ct := M, bk := N.nx } σ2 H2) := by
  refine for_zip (xs := xs) (ys := ys) (fun i σ' H' => ∃ F' e', Frm σ H F env σ' H' F' e' ∧ Rel K cl σ' H' F' e' ∧ Cs K cl E (forD b body ((zipD ds es).drop i) e') σ H F env N) ⟨F, env, Frm.refl, R, h⟩ (fun i σ' H' ⟨F', e', f, R', _⟩ => hl σ' H' F' e' f R') (fun i x y σ' H' p hx hy ⟨F', e', f, R', h'⟩ hp => ?_) (fun σ' H' ⟨F', e', f, R', h'⟩ => ?_)
  · obtain ⟨d, hd, pd⟩ := r.get' hx
    obtain ⟨d', hd', pd'⟩ := r'.get' hy
    rw [drop_cons (zipD_get hd hd')] at h'
    have gr : Gr H' F' (upd H' p (.tup [x, y])) (upd F' p (.tup [x, y])) := .new R'.sub hp
    refine for_turn hb hg (f.trans (R'.frm gr)) (R'.gr gr) ?_ h' fun σ2 H2 F2 e2 f2 R2 h2 => ⟨F2, e2, f2, R2, h2⟩
    simp only [Rp]
    exact ⟨p, _, rfl, upd_same, .cons (Rp.mono (f.fz.trans gr.fz) _ _ pd) (.one (Rp.mono (f.fz.trans gr.fz) _ _ pd'))⟩
  · rw [← r.length, ← r'.length, List.drop_eq_nil_of_le (by rw [zipD_len]; exact Nat.le_refl _)] at h'
    exact h' σ' H' F' f R'
def seq2 (ds : List D) : Option (List D) := match ds with
  | [d, e] => match seqL d, seqL e with
    | some xs, some ys => some (zipD xs ys)
    | _, _ => none
  | _ => none
theorem seq2_of {ds zs : List D} {vs : List V} (h : seq2 ds = some zs) (p : Rps K cl F ds vs) : ∃ a a' xs ys ds' es', vs = [.ref a, .ref a'] ∧ zs = zipD ds' es' ∧ Rps K cl F ds' xs ∧ Rps K cl F es' ys ∧ ∀ H', Same F H' → SqL K H' a xs ∧ SqL K H' a' ys := by
  unfold seq2 at h
  split at h
  · rename_i d e
    split at h
    · rename_i xs ys h1 h2
      cases h
      obtain ⟨v, r, rfl, p1, p2⟩ := p.inv
      obtain ⟨u, r', rfl, p3, p4⟩ := p2.inv
      rw [p4.inv0]
      obtain ⟨a, us, rfl, q1, l1⟩ := Rp.seqL p1 h1
      obtain ⟨a', us', rfl, q2, l2⟩ := Rp.seqL p3 h2
      exact ⟨a, a', us, us', xs, ys, rfl, rfl, q1, q2, fun H' g => ⟨l1 H' g, l2 H' g⟩⟩
    · cases h
  · cases h
def sForZ (f : AF) (b : GF) (body : SF) : SF := fun e => sbn (f e) fun ds e1 => match seq2 ds with
  | none => none
  | some zs => forD b body zs e1
theorem rf_ForZ {t : TA} {g : TG} {tb : TS} {f : AF} {b : GF} {body : SF} (hf : RfA K cl E t f) (hg : RfG K cl k g b) (hb : RfS K cl E tb body) : RfS K cl E (tFor (iZip K t) g tb) (sForZ f b body) := by
  intro N σ H env F R h
  refine hf σ H _ env F R ((Cs.bnd h).mono fun x H1 ⟨F1, e1, ds, fr, R1, p1, h1⟩ => ?_)
  split at h1
  · exact h1.elim
  · rename_i zs hs
    obtain ⟨a, a', xs, ys, ds', es', rfl, rfl, q1, q2, hl⟩ := seq2_of hs p1
    exact ⟨a, a', rfl, ⟨xs, (hl H1 R1.sub).1⟩, ⟨ys, (hl H1 R1.sub).2⟩, forZ hb hg R1 (fun σ' H' F' e' f2 R2 => hl H' (f2.fz.trans R2.sub)) q1 q2 (h1.from fr)⟩
theorem compZ {b : GF} {c : BF} {el : ZF} {g : TG} {tf : TT} {te : TE} {js : List Nat} {ds es : List D} {xs ys : List V} {a a' B : Addr} {Q : VK} (nd : js.Nodup) (hg : RfG K cl k g b) (hc : RfB K cl E tf c) (he : RfZ K cl E te el) (R : Rel K cl σ H F env) (hB : H B = none)
    (hl : ∀ H' F', Same F F' → Same F' H' → SqL K H' a xs ∧ SqL K H' a' ys) (r : Rps K cl F ds xs) (r' : Rps K cl F es ys) (h : Ct K cl E (PN K cl) (compD b c el (compE k js env) env (zipD ds es) []) σ H F env Q) :
    tCompR (Itz K a a') g tf te k (compSt k js σ) B (fun H' => Q (.ref B) H') H := by
  refine comp_zip (xs := xs) (ys := ys) (fun i zs H' => ∃ F' acc, Grow K cl σ H F env B acc zs H' F' ∧ Ct K cl E (PN K cl) (compD b c el (compE k js env) env ((zipD ds es).drop i) acc) σ H F env Q) ⟨F, [], .start R hB, h⟩ (fun i zs H' ⟨F', acc, gw, _⟩ => hl H' F' gw.frm.fz gw.rel.sub) (fun i x y zs H' p hx hy ⟨F', acc, gw, h'⟩ hp => ?_) (fun zs H' ⟨F', acc, gw, h'⟩ => ?_)
  · obtain ⟨d, hd, pd⟩ := r.get' hx
    obtain ⟨d', hd', pd'⟩ := r'.get' hy
    rw [drop_cons (zipD_get hd hd')] at h'
    have gr : Gr H' F' (upd H' p (.tup [x, y])) (upd F' p (.tup [x, y])) := .new gw.rel.sub hp
    refine comp_turn (Pv := fun zs' H2 => ∃ F' acc, Grow K cl σ H F env B acc zs' H2 F' ∧ Ct K cl E (PN K cl) (compD b c el (compE k js env) env ((zipD ds es).drop (i + 1)) acc) σ H F env Q) nd hg hc he (gw.gr gr) ?_ h' fun acc' ys' H2 F2 gw2 h2 => ⟨F2, acc', gw2, h2⟩
    simp only [Rp]
    exact ⟨p, _, rfl, upd_same, .cons (Rp.mono (gw.frm.fz.trans gr.fz) _ _ pd) (.one (Rp.mono (gw.frm.fz.trans gr.fz) _ _ pd'))⟩
  · rw [← r.length, ← r'.length, List.drop_eq_nil_of_le (by rw [zipD_len]; exact Nat.le_refl _)] at h'
    exact comp_fin gw h'
def nCompZ (k : Nat) (js : List Nat) (f : AF) (b : GF) (c : BF) (el : ZF) : NF := fun e => bnd (f e) fun ds e1 => match seq2 ds with
  | none => none
  | some zs => compD b c el (compE k js e1) e1 zs []
theorem rf_CompZ {t : TA} {g : TG} {tf : TT} {te : TE} {js : List Nat} {f : AF} {b : GF} {c : BF} {el : ZF} (nd : js.Nodup) (hf : RfA K cl E t f) (hg : RfG K cl k g b) (hc : RfB K cl E tf c) (he : RfZ K cl E te el) : RfN K cl E (tComp (iZip K t) g tf te k js) (nCompZ k js f b c el) := by
  intro σ H Q env F R h
  refine hf σ H _ env F R ((Ct.bnd h pm_N).mono fun x H1 ⟨F1, e1, ds, s1, R1, p1, h1⟩ => ?_)
  split at h1
  · exact h1.elim
  · rename_i zs hs
    obtain ⟨a, a', xs, ys, ds', es', rfl, rfl, q1, q2, hl⟩ := seq2_of hs p1
    exact ⟨a, a', rfl, ⟨xs, (hl H1 R1.sub).1⟩, ⟨ys, (hl H1 R1.sub).2⟩, fun B hB => compZ nd hg hc he R1 hB (fun H' F' f2 s2 => hl H' (f2.trans s2)) q1 q2 h1⟩
def oN : OF := fun e => some (.ok none e)
def oS (f : ZF) : OF := fun e => bnd (f e) fun d e1 => match d with
  | .int i => some (.ok (some i) e1)
  | _ => none
theorem rf_oN : RfO K cl E tNoPart oN := fun σ H Q env F R h => h none H F Frm.refl R rfl
theorem rf_oS {t : TE} {f : ZF} (hf : RfZ K cl E t f) : RfO K cl E (tPart t) (oS f) := by
  intro σ H Q env F R h
  refine hf σ H _ env F R ((Ct.bnd h pm_I).mono fun x H1 ⟨F1, e1, d, s1, R1, p1, h1⟩ => ?_)
  split at h1
  · rename_i i
    have : x = .int i := by have := (show Rp K cl F1 (.int i) x from p1); simpa only [Rp] using this
    exact ⟨i, this, h1 _ H1 F1 Frm.refl R1 rfl⟩
  · exact h1.elim
def cutD (xs : List D) (lo hi : Option Int) : List D := (xs.drop (HT.sIx xs.length 0 lo)).take (HT.sIx xs.length xs.length hi - HT.sIx xs.length 0 lo)
theorem Rps.cut {ds : List D} {xs : List V} (h : Rps K cl F ds xs) (lo hi : Option Int) : Rps K cl F (cutD ds lo hi) (cutV xs lo hi) := by
  unfold cutD cutV
  rw [h.length]
  exact (h.drop _).take _
def nSl (f : ZF) (l u : OF) : NF := fun e => bnd (f e) fun d e1 => bnd (l e1) fun lo e2 => bnd (u e2) fun hi e3 => match seqL d with
  | some ds => some (.ok (cutD ds lo hi) e3)
  | none => none
def nSlV (i : Nat) (l u : OF) : NF := fun e => match look e i with
  | none => none
  | some _ => bnd (l e) fun lo e2 => bnd (u e2) fun hi e3 => match look e3 i with
    | some d => (match seqL d with
      | some ds => some (.ok (cutD ds lo hi) e3)
      | none => none)
    | none => none
theorem Rb.seqL {d : D} {ds : List D} {v : V} (s : Same F H) (p : Rb K cl F H d v) (q : L2.seqL d = some ds) : ∃ a xs, v = .ref a ∧ Rps K cl F ds xs ∧ SqL K H a xs := by
  rcases p with p | ⟨a, xs, es, e, rfl, h, r⟩
  · obtain ⟨a, xs, e, r, l⟩ := Rp.seqL p q; exact ⟨a, xs, e, r, l H s⟩
  · cases q; exact ⟨a, xs, e, r, .of h⟩
theorem rf_SlV {i : Nat} {tl tu : TO} {l u : OF} (hl : RfO K cl E tl l) (hu : RfO K cl E tu u) : RfN K cl E (tSl (rSlL K) (tVar i) tl tu) (nSlV i l u) := by
  intro σ H Q env F R h
  unfold nSlV at h
  cases q : look env i with
  | none => rw [q] at h; exact h.elim
  | some d0 =>
    rw [q] at h
    obtain ⟨x, e0, _⟩ := R.look q
    refine ⟨x, e0, ?_⟩
    refine hl σ H _ env F R ((Ct.bnd h pm_N).mono fun lo H2 ⟨F2, e2, lo', s2, R2, p2, h2⟩ => ?_)
    refine hu σ H2 _ e2 F2 R2 ((Ct.bnd h2 pm_N).mono fun hi H3 ⟨F3, e3, hi', s3, R3, p3, h3⟩ => ?_)
    cases (show lo = lo' from p2)
    cases (show hi = hi' from p3)
    cases q2 : look e3 i with
    | none => simp only [q2] at h3; exact h3.elim
    | some d =>
      simp only [q2] at h3
      obtain ⟨x', e', rb⟩ := R3.look q2
      rw [e0] at e'; cases e'
      split at h3
      · rename_i ds hs
        obtain ⟨a, xs, rfl, r, hq⟩ := rb.seqL R3.sub hs
        exact ⟨a, xs, rfl, hq, fun p hp => Ct.newN R3 hp (r.cut _ _) h3⟩
      · exact h3.elim
end
end L2
set_option Elab.async false
set_option linter.all false
set_option maxRecDepth 100000
set_option maxHeartbeats 4000000
namespace L2
open PySem PySem.Spec PyProof.Rows
section
variable {P : Program} {w : World} {mg : Str → Option Value} {base : Heap} {K : PySem.W.Frag} {cl : Str → Addr} {E : XK} {σ : St} {H F : Hp} {env : DE} {k : Nat}
def intsD : List D → Option (List Int)
  | [] => some []
  | .int b :: ds => (intsD ds).map (b :: ·)
  | _ => none
theorem ints_eq : ∀ {ds : List D} {bs : List Int}, intsD ds = some bs → ds = bs.map .int
  | [], _, h => by cases h; rfl
  | .int b :: ds, _, h => by
    unfold intsD at h
    cases q : intsD ds with
    | none => rw [q] at h; cases h
    | some bs => rw [q] at h; cases h; rw [ints_eq q]; rfl
  | .non :: _, _, h => by cases h
  | .bl _ :: _, _, h => by cases h
  | .str _ :: _, _, h => by cases h
  | .ty _ :: _, _, h => by cases h
  | .cls _ :: _, _, h => by cases h
  | .tup _ :: _, _, h => by cases h
  | .lst _ :: _, _, h => by cases h
  | .scr _ :: _, _, h => by cases h
  | .exc _ :: _, _, h => by cases h
theorem ints_map : ∀ (ns : List Int), intsD (ns.map .int) = some ns
  | [] => rfl
  | n :: ns => by show (intsD (ns.map .int)).map (n :: ·) = _; rw [ints_map ns]; rfl
def gSum : D → Option D
  | .lst ds => (intsD ds).map fun ns => .int ns.sum
  | _ => none
def topI (d : Int) : List Int → Int
  | [] => d
  | n :: ns => ns.foldl max n
theorem foldl_max_le : ∀ (ns : List Int) (m : Int), m ≤ ns.foldl max m ∧ ∀ a ∈ ns, a ≤ ns.foldl max m
  | [], m => ⟨Int.le_refl _, fun _ h => by cases h⟩
  | n :: ns, m => by
    obtain ⟨h1, h2⟩ := foldl_max_le ns (max m n)
    refine ⟨by show m ≤ ns.foldl max (max m n); omega, fun a ha => ?_⟩
    show a ≤ ns.foldl max (max m n)
    rcases List.mem_cons.mp ha with rfl | ha
    · omega
    · exact h2 a ha
theorem foldl_max_mem : ∀ (ns : List Int) (m : Int), ns.foldl max m = m ∨ ns.foldl max m ∈ ns
  | [], m => .inl rfl
  | n :: ns, m => by
    show ns.foldl max (max m n) = m ∨ ns.foldl max (max m n) ∈ n :: ns
    rcases foldl_max_mem ns (max m n) with h | h
    · rw [h]
      rcases Int.le_total m n with l | l
      · exact .inr (by rw [Int.max_eq_right l]; exact List.mem_cons_self)
      · exact .inl (Int.max_eq_left l)
    · exact .inr (List.mem_cons_of_mem _ h)
theorem topOf_eq {ns : List Int} {d M : Int} (h : TopOf ns d M) : M = topI d ns := by
  rcases h with ⟨rfl, rfl⟩ | ⟨hm, hl⟩
  · rfl
  · cases ns with
    | nil => cases hm
    | cons n ns =>
      show M = ns.foldl max n
      obtain ⟨h1, h2⟩ := foldl_max_le ns n
      have a1 : M ≤ ns.foldl max n := by
        rcases List.mem_cons.mp hm with rfl | hm
        · exact h1
        · exact h2 M hm
      have a2 : ns.foldl max n ≤ M := by
        rcases foldl_max_mem ns n with e | e
        · rw [e]; exact hl n List.mem_cons_self
        · exact hl _ (List.mem_cons_of_mem _ e)
      omega
def gMaxD (ds es : List D) : Option Int := match ds, es with
  | [.lst xs], [.int d] => (intsD xs).map (topI d)
  | _, _ => none
theorem gMaxD_of {ds es : List D} {m : Int} (h : gMaxD ds es = some m) : ∃ xs ns d, ds = [.lst xs] ∧ es = [.int d] ∧ intsD xs = some ns ∧ m = topI d ns := by
  unfold gMaxD at h
  split at h
  · rename_i xs d
    cases hn : intsD xs with
    | none => rw [hn] at h; cases h
    | some ns => rw [hn] at h; cases h; exact ⟨xs, ns, d, rfl, rfl, hn, rfl⟩
  · cases h
def eMaxD (f : AF) (g : AF) : ZF := fun e => bnd (f e) fun ds e1 => bnd (g e1) fun es e2 => match gMaxD ds es with
  | some m => some (.ok (.int m) e2)
  | none => none
theorem rf_MaxD {t tk : TA} {f g : AF} (hf : RfA K cl E t f) (hg : RfA K cl E tk g) : RfZ K cl E (tMaxD K t tk) (eMaxD f g) := by
  intro σ H Q env F R h
  refine hf σ H _ env F R ((Ct.bnd h pm_Z).mono fun vs H1 ⟨F1, e1, ds, s1, R1, p1, h1⟩ => ?_)
  refine hg σ H1 _ e1 F1 R1 ((Ct.bnd h1 pm_Z).mono fun zs H2 ⟨F2, e2, es, s2, R2, p2, h2⟩ => ?_)
  cases hm : gMaxD ds es with
  | none => rw [hm] at h2; exact h2.elim
  | some m =>
    rw [hm] at h2
    obtain ⟨xs, ns, d, rfl, rfl, hn, rfl⟩ := gMaxD_of hm
    obtain ⟨v, r, rfl, q1, q2⟩ := (Rps.mono s2 _ _ p1).inv
    rw [q2.inv0]
    simp only [Rp] at q1
    obtain ⟨a, ys, rfl, ha, rr⟩ := q1
    rw [ints_eq hn] at rr
    rw [rr.ints] at ha
    have hz : zs = [.int d] := Rps.ints (ns := [d]) p2
    refine ⟨a, ns, d, rfl, hz, .of (R2.sub _ _ ha), fun M hM => ?_⟩
    rw [topOf_eq hM]
    exact h2 _ H2 F2 Frm.refl R2 (by show Rp K cl F2 (.int _) _; simp only [Rp])
def zSlT (f : ZF) (l u : OF) : ZF := fun e => bnd (f e) fun d e1 => bnd (l e1) fun lo e2 => bnd (u e2) fun hi e3 => match d with
  | .tup ds => if HT.sIx ds.length 0 lo = 0 ∧ HT.sIx ds.length ds.length hi = ds.length then none else some (.ok (.tup (cutD ds lo hi)) e3)
  | _ => none
def nCompT (k : Nat) (js : List Nat) (f : ZF) (b : GF) (c : BF) (el : ZF) : NF := fun e => bnd (f e) fun d e1 => match d with
  | .tup ds => compD b c el (compE k js e1) e1 ds []
  | _ => none
end
end L2
set_option Elab.async false
set_option linter.all false
set_option maxRecDepth 100000
set_option maxHeartbeats 4000000
namespace L2
open PySem PySem.Spec PyProof.Rows
def optB (x : Option DE) (k : DE → Option (R (List D))) : Option (R (List D)) := match x with
  | none => none
  | some e => k e
theorem optB_some {e : DE} {k : DE → Option (R (List D))} : optB (some e) k = k e := rfl
theorem compD_nil {b : GF} {c : BF} {el : ZF} {ec eo : DE} {acc : List D} : compD b c el ec eo [] acc = some (.ok acc eo) := rfl
theorem compD_cons {b : GF} {c : BF} {el : ZF} {ec eo : DE} {d : D} {ds acc : List D} : compD b c el ec eo (d :: ds) acc = optB (b d ec) fun e1 => bnd (c e1) fun t e2 => if t = true then bnd (el e2) fun y _ => if acc.length < sizeLine then compD b c el ec eo ds (acc ++ [y]) else none else compD b c el ec eo ds acc := by
  rw [compD]; cases b d ec <;> rfl
end L2
set_option Elab.async false
set_option linter.all false
set_option maxRecDepth 100000
set_option maxHeartbeats 4000000
namespace L2
open PySem PySem.Spec PyProof.Rows
section
variable {K : PySem.W.Frag} {cl : Str → Addr} {E : XK} {σ : St} {H F : Hp} {env : DE} {k : Nat}
def gMax2 : List D → Option D
  | [.int i, .int j] => some (.int (if j > i then j else i))
  | _ => none
def gMin2 : List D → Option D
  | [.int i, .int j] => some (.int (if j < i then j else i))
  | _ => none
def gInt1 : D → Option D
  | .int i => some (.int i)
  | .bl b => some (.int (if b then 1 else 0))
  | _ => none
def inD (d : D) (es : List D) : Bool := es.any fun e => eqD e d
theorem Rps.inV {d : D} {v : V} (p : Rp K cl F d v) (f : flatD d = true) : ∀ {es : List D} {us : List V}, Rps K cl F es us → es.all flatD = true → L2.inV v us = inD d es
  | [], _, h, _ => by rw [h.inv0]; rfl
  | e :: es, _, h, fe => by
    obtain ⟨u, r, rfl, h1, h2⟩ := h.inv
    rw [List.all_cons, Bool.and_eq_true] at fe
    have := Rps.inV p f h2 fe.2
    unfold L2.inV inD at this ⊢
    rw [List.any_cons, List.any_cons, h1.eq p fe.1 f, this]
def gIn (neg : Bool) (d e : D) : Option D := match e with
  | .lst es => if (flatD d && es.all flatD) = true then some (.bl (if neg then !inD d es else inD d es)) else none
  | .tup es => if (flatD d && es.all flatD) = true then some (.bl (if neg then !inD d es else inD d es)) else none
  | _ => none
theorem Rb.flat {d : D} {v : V} (h : Rb K cl F H d v) (f : flatD d = true) : Rp K cl F d v := by
  rcases h with h | ⟨_, _, _, _, rfl, _⟩
  · exact h
  · cases f
theorem ok_in {neg : Bool} : OpOk K cl (rIn K neg) (gIn neg) := by
  intro x y d e z H F Q s hx hy h q
  unfold gIn at h
  split at h
  · split at h
    · rename_i c; cases h
      rw [Bool.and_eq_true] at c
      obtain ⟨a, xs, rfl, hH, r⟩ := hy.lst s
      have px := hx.flat c.1
      refine ⟨a, xs, rfl, .inl (.of hH), (px.flat c.1).2, r.flat c.2, q _ H F (.refl s) ?_⟩
      simp only [Rp]; rw [r.inV px c.1 c.2]
    · cases h
  · split at h
    · rename_i c; cases h
      rw [Bool.and_eq_true] at c
      obtain ⟨a, xs, rfl, hH, r⟩ := hy.tup s
      have px := hx.flat c.1
      refine ⟨a, xs, rfl, .inr (.of hH), (px.flat c.1).2, r.flat c.2, q _ H F (.refl s) ?_⟩
      simp only [Rp]; rw [r.inV px c.1 c.2]
    · cases h
  · cases h
def sAug (i : Nat) (g : Int → Int → Int) (f : ZF) : SF := fun e => match e[i]? with
  | some (.fz (.int a)) => sbn (f e) fun d e1 => match d with
    | .int b => put i (.fz (.int (g a b))) e1
    | _ => none
  | _ => none
def zPop (i : Nat) : ZF := fun e => match e[i]? with
  | some (.ow ds) => (match ds.getLast? with
    | some d => some (.ok d (e.set i (.ow ds.dropLast)))
    | none => none)
  | _ => none
theorem Rps.dropLast {ds : List D} {xs : List V} (h : Rps K cl F ds xs) : Rps K cl F ds.dropLast xs.dropLast := by
  rw [List.dropLast_eq_take, List.dropLast_eq_take, h.length]; exact h.take _
def sMeth0 (i : Nat) (g : List D → List D) : SF := fun e => match e[i]? with
  | some (.ow ds) => some (.nx (e.set i (.ow (g ds))))
  | _ => none
def sExt (i : Nat) (f : NF) : SF := fun e => match look e i with
  | some (.lst _) => sbn (f e) fun es e1 => match e1[i]? with
    | some (.ow ds) => if ds.length + es.length ≤ sizeLine then some (.nx (e1.set i (.ow (ds ++ es)))) else none
    | _ => none
  | _ => none
def gAddS (d e : D) : Option D := match d, e with
  | .str i, .str j => if i.length + j.length ≤ sizeLine then some (.str (i ++ j)) else none
  | _, _ => none
end
end L2
set_option Elab.async false
set_option linter.all false
set_option maxRecDepth 100000
set_option maxHeartbeats 4000000
namespace L2
open PySem PySem.Spec PyProof.Rows
mutual
def eqB : D → D → Bool
  | .tup ds, e => (match e with
    | .tup es => eqBs ds es
    | _ => false)
  | .lst ds, e => (match e with
    | .lst es => eqBs ds es
    | _ => false)
  | d, e => eqD d e
def eqBs : List D → List D → Bool
  | [], es => es.isEmpty
  | d :: ds, es => (match es with
    | [] => false
    | e :: es => eqB d e && eqBs ds es)
end
mutual
def plainD : D → Bool
  | .tup ds => plainDs ds
  | .lst ds => plainDs ds
  | d => flatD d
def plainDs : List D → Bool
  | [] => true
  | d :: ds => plainD d && plainDs ds
end
mutual
def depD : D → Nat
  | .tup ds => depDs ds + 1
  | .lst ds => depDs ds + 1
  | _ => 0
def depDs : List D → Nat
  | [] => 0
  | d :: ds => max (depD d) (depDs ds)
end
def eAtD (ds es : List D) (j : Nat) : Bool := match ds[j]?, es[j]? with
  | some d, some e => eqB d e
  | _, _ => true
theorem eqBs_range : ∀ {ds es : List D}, ds.length = es.length → (List.range ds.length).all (eAtD ds es) = eqBs ds es
  | [], [], _ => by simp [eqBs]
  | d :: ds, e :: es, h => by
    have h' : ds.length = es.length := by simpa using h
    simp only [eqBs]
    show (List.range (ds.length + 1)).all _ = (eqB d e && eqBs ds es)
    rw [List.range_succ_eq_map, List.all_cons, List.all_map, ← eqBs_range h']
    rfl
theorem eqBs_len : ∀ {ds es : List D}, ds.length ≠ es.length → eqBs ds es = false
  | [], [], h => absurd rfl h
  | _ :: _, [], _ => by simp [eqBs]
  | [], _ :: _, _ => by simp [eqBs]
  | d :: ds, e :: es, h => by
    simp only [eqBs]
    rw [eqBs_len (fun q => h (by simp [q])), Bool.and_false]
section
variable {K : PySem.W.Frag} {cl : Str → Addr} {F : Hp}
theorem eqD_flat {d e : D} {v : V} (fd : flatD d = true) (p : Rp K cl F d v) (q : Rp K cl F e v) (pe : plainD e = true) : eqD d e = true := by
  cases d <;> first | (cases fd; done) | skip
  all_goals simp only [Rp] at p; subst p
  all_goals cases e <;> simp only [Rp] at q <;> first | (cases q; done) | (cases q; simp [eqD]; done) | (obtain ⟨_, _, z, _⟩ := q; cases z; done) | (obtain ⟨_, z, _⟩ := q; cases z; done) | (simp [plainD, flatD] at pe; done)
mutual
theorem same_eq : ∀ (d e : D) (v : V), Rp K cl F d v → Rp K cl F e v → plainD d = true → plainD e = true → eqB d e = true
  | .tup ds, e, v, p, q, pd, pe => by
    simp only [Rp] at p
    obtain ⟨a, xs, rfl, ha, r⟩ := p
    cases e <;> simp only [Rp] at q
    case tup es =>
      obtain ⟨a', ys, z, ha', r'⟩ := q
      cases z; rw [ha] at ha'; cases ha'
      simp only [plainD] at pd pe
      simp only [eqB]
      exact sames_eq ds es xs r r' pd pe
    case lst es =>
      obtain ⟨a', ys, z, ha', r'⟩ := q
      cases z; rw [ha] at ha'; cases ha'
    all_goals first | (cases q; done) | (simp [plainD, flatD] at pe; done)
  | .lst ds, e, v, p, q, pd, pe => by
    simp only [Rp] at p
    obtain ⟨a, xs, rfl, ha, r⟩ := p
    cases e <;> simp only [Rp] at q
    case lst es =>
      obtain ⟨a', ys, z, ha', r'⟩ := q
      cases z; rw [ha] at ha'; cases ha'
      simp only [plainD] at pd pe
      simp only [eqB]
      exact sames_eq ds es xs r r' pd pe
    case tup es =>
      obtain ⟨a', ys, z, ha', r'⟩ := q
      cases z; rw [ha] at ha'; cases ha'
    all_goals first | (cases q; done) | (simp [plainD, flatD] at pe; done)
  | .non, e, v, p, q, pd, pe => by simp only [eqB]; exact eqD_flat rfl p q pe
  | .bl _, e, v, p, q, pd, pe => by simp only [eqB]; exact eqD_flat rfl p q pe
  | .int _, e, v, p, q, pd, pe => by simp only [eqB]; exact eqD_flat rfl p q pe
  | .str _, e, v, p, q, pd, pe => by simp only [eqB]; exact eqD_flat rfl p q pe
  | .ty _, e, v, p, q, pd, pe => by simp [plainD, flatD] at pd
  | .cls _, e, v, p, q, pd, pe => by simp [plainD, flatD] at pd
  | .scr _, e, v, p, q, pd, pe => by simp [plainD, flatD] at pd
  | .exc _, e, v, p, q, pd, pe => by simp [plainD, flatD] at pd
theorem sames_eq : ∀ (ds es : List D) (vs : List V), Rps K cl F ds vs → Rps K cl F es vs → plainDs ds = true → plainDs es = true → eqBs ds es = true
  | [], es, vs, p, q, _, _ => by
    rw [p.inv0] at q
    cases es with
    | nil => simp [eqBs]
    | cons e es => obtain ⟨_, _, z, _⟩ := q.inv; cases z
  | d :: ds, es, vs, p, q, pd, pe => by
    obtain ⟨v, r, rfl, p1, p2⟩ := p.inv
    cases es with
    | nil => have := q.inv0; cases this
    | cons e es =>
      obtain ⟨v', r', z, q1, q2⟩ := q.inv
      cases z
      simp only [plainDs, Bool.and_eq_true] at pd pe
      simp only [eqBs]
      rw [same_eq d e v p1 q1 pd.1 pe.1, sames_eq ds es r p2 q2 pd.2 pe.2]; rfl
end
end
end L2
namespace L2
open PySem PySem.Spec PyProof.Rows
section
variable {X : Cx} {cl : Str → Addr} {F : Hp} {pins : List (Addr × Obj)} {σ : St} {H : Hp} {s : Shared}
theorem ref_flat {a : Addr} {d : D} {v : V} {u : Value} {A : Around} (hu : A.units < cLine) (hl : (∃ xs, SqL X.K H a xs) ∨ ∃ xs, SqT X.K H a xs) (I : Inv X pins σ H s) (f : flatD d = true) (p : Rp X.K cl F d v) (r : RelV v u) : SeqAt.EqAt A s (.ref a) u false ∧ SeqAt.EqAt A s u (.ref a) false := by
  rcases hl with ⟨xs, h⟩ | ⟨xs, h⟩
  · obtain ⟨us, r1, p1, z1⟩ := I.list h
    have q := p1.isList
    cases d <;> first | (cases f; done) | skip
    all_goals simp only [Rp] at p; subst p
    · cases r; exact ⟨.list_none q hu, .none_list q hu⟩
    · cases r; exact ⟨.list_bool _ q hu, .bool_list _ q hu⟩
    · obtain ⟨t, rfl⟩ := r; exact ⟨.list_int _ _ q hu, .int_list _ _ q hu⟩
    · obtain ⟨t, rfl⟩ := r; exact ⟨.list_str _ _ q hu, .str_list _ _ q hu⟩
  · obtain ⟨us, r1, q, z1⟩ := I.tuple h
    cases d <;> first | (cases f; done) | skip
    all_goals simp only [Rp] at p; subst p
    · cases r; exact ⟨.tuple_none q hu, .none_tuple q hu⟩
    · cases r; exact ⟨.tuple_bool _ q hu, .bool_tuple _ q hu⟩
    · obtain ⟨t, rfl⟩ := r; exact ⟨.tuple_int _ _ q hu, .int_tuple _ _ q hu⟩
    · obtain ⟨t, rfl⟩ := r; exact ⟨.tuple_str _ _ q hu, .str_tuple _ _ q hu⟩
theorem flat_plain {d : D} (p : plainD d = true) : flatD d = true ∨ (∃ ds, d = .tup ds) ∨ ∃ ds, d = .lst ds := by
  cases d <;> first | exact .inl rfl | exact .inr (.inl ⟨_, rfl⟩) | exact .inr (.inr ⟨_, rfl⟩) | (simp [plainD, flatD] at p; done)
theorem eqB_flat {d e : D} (f : flatD d = true) : eqB d e = eqD d e := by cases d <;> first | (cases f; done) | simp only [eqB]
theorem flat_deep {d e : D} {v u : V} {a b : Value} {A : Around} (I : Inv X pins σ H s) (sF : Same F H) (hu : A.units < cLine) (f : flatD d = true) (p : Rp X.K cl F d v) (q : Rp X.K cl F e u) (rv : RelV v a) (ru : RelV u b) (pe : plainD e = true) : SeqAt.EqAt A s a b (eqB d e) := by
  rw [eqB_flat f]
  rcases flat_plain pe with fe | ⟨es, rfl⟩ | ⟨es, rfl⟩
  · rw [← p.eq q f fe]
    exact eqAt_V rv ru (p.flat f).2 (q.flat fe).2
  · simp only [Rp] at q
    obtain ⟨c, ys, rfl, hb, r'⟩ := q
    cases ru
    have := (ref_flat (A := A) hu (.inr ⟨ys, .of (sF _ _ hb)⟩) I f p rv).2
    have z : eqD d (.tup es) = false := by cases d <;> first | (cases f; done) | rfl
    rw [z]; exact this
  · simp only [Rp] at q
    obtain ⟨c, ys, rfl, hb, r'⟩ := q
    cases ru
    have := (ref_flat (A := A) hu (.inl ⟨ys, .of (sF _ _ hb)⟩) I f p rv).2
    have z : eqD d (.lst es) = false := by cases d <;> first | (cases f; done) | rfl
    rw [z]; exact this
mutual
theorem deep_eq (I : Inv X pins σ H s) (sF : Same F H) : ∀ (d e : D) (v u : V) (a b : Value) (A : Around), A.units + depD d < cLine → Rp X.K cl F d v → Rp X.K cl F e u → RelV v a → RelV u b → plainD d = true → plainD e = true → SeqAt.EqAt A s a b (eqB d e)
  | .tup ds, e, v, u, va, ua, A, hu, p, q, rv, ru, pd, pe => by
    have p0 := p
    have hu' : A.units < cLine := by omega
    simp only [depD] at hu
    simp only [Rp] at p
    obtain ⟨a, xs, rfl, ha, r⟩ := p
    cases rv
    have ha' := sF _ _ ha
    rcases flat_plain pe with f | ⟨es, rfl⟩ | ⟨es, rfl⟩
    · have := (ref_flat (A := A) hu' (.inr ⟨xs, .of ha'⟩) I f q ru).1
      have z : eqB (.tup ds) e = false := by cases e <;> first | (cases f; done) | simp only [eqB]
      rw [z]; exact this
    · have q0 := q
      simp only [Rp] at q
      obtain ⟨b, ys, rfl, hb, r'⟩ := q
      cases ru
      have hb' := sF _ _ hb
      by_cases z : a = b
      · subst z
        rw [same_eq _ _ _ p0 q0 pd pe]
        exact .same _
      · obtain ⟨us, r1, p1, _⟩ := I.tuple (.of ha')
        obtain ⟨ws, r2, p2, _⟩ := I.tuple (.of hb')
        simp only [plainD] at pd pe
        have he : ∀ j (h1 : j < us.toArray.size) (h2 : j < ws.toArray.size), SeqAt.EqAt A.in1 s us.toArray[j] ws.toArray[j] (eAtD ds es j) := deep_eqs I sF ds es xs ys us ws A.in1 (by show A.units + 1 + depDs ds < cLine; omega) r r' r1 r2 pd pe
        have := SeqAt.EqAt.of_refs z (SeqAt.RcAt.tuples p1 p2 hu' he)
        have e1 : us.toArray.size = ds.length := by simp [← r1.length, r.length]
        have e2 : ws.toArray.size = es.length := by simp [← r2.length, r'.length]
        rw [e1, e2] at this
        simp only [eqB]
        by_cases hl : ds.length = es.length
        · rw [← hl, Nat.min_self, eqBs_range hl, beq_self_eq_true, Bool.and_true] at this
          exact this
        · rw [eqBs_len hl]
          rw [beq_eq_false_iff_ne.mpr hl, Bool.and_false] at this
          exact this
    · simp only [Rp] at q
      obtain ⟨b, ys, rfl, hb, r'⟩ := q
      cases ru
      obtain ⟨us, r1, p1, _⟩ := I.tuple (.of ha')
      obtain ⟨ws, r2, p2, _⟩ := I.list (.of (sF _ _ hb))
      simp only [eqB]
      exact .tuple_list p1 p2.isList hu'
  | .lst ds, e, v, u, va, ua, A, hu, p, q, rv, ru, pd, pe => by
    have p0 := p
    have hu' : A.units < cLine := by omega
    simp only [depD] at hu
    simp only [Rp] at p
    obtain ⟨a, xs, rfl, ha, r⟩ := p
    cases rv
    have ha' := sF _ _ ha
    rcases flat_plain pe with f | ⟨es, rfl⟩ | ⟨es, rfl⟩
    · have := (ref_flat (A := A) hu' (.inl ⟨xs, .of ha'⟩) I f q ru).1
      have z : eqB (.lst ds) e = false := by cases e <;> first | (cases f; done) | simp only [eqB]
      rw [z]; exact this
    · simp only [Rp] at q
      obtain ⟨b, ys, rfl, hb, r'⟩ := q
      cases ru
      obtain ⟨us, r1, p1, _⟩ := I.list (.of ha')
      obtain ⟨ws, r2, p2, _⟩ := I.tuple (.of (sF _ _ hb))
      simp only [eqB]
      exact .list_tuple p1.isList p2 hu'
    · have q0 := q
      simp only [Rp] at q
      obtain ⟨b, ys, rfl, hb, r'⟩ := q
      cases ru
      have hb' := sF _ _ hb
      by_cases z : a = b
      · subst z
        rw [same_eq _ _ _ p0 q0 pd pe]
        exact .same _
      · obtain ⟨us, r1, p1, _⟩ := I.list (.of ha')
        obtain ⟨ws, r2, p2, _⟩ := I.list (.of hb')
        simp only [plainD] at pd pe
        have he : ∀ j (h1 : j < us.toArray.size) (h2 : j < ws.toArray.size), SeqAt.EqAt A.in1 s us.toArray[j] ws.toArray[j] (eAtD ds es j) := deep_eqs I sF ds es xs ys us ws A.in1 (by show A.units + 1 + depDs ds < cLine; omega) r r' r1 r2 pd pe
        have e1 : us.toArray.size = ds.length := by simp [← r1.length, r.length]
        have e2 : ws.toArray.size = es.length := by simp [← r2.length, r'.length]
        simp only [eqB]
        by_cases hl : ds.length = es.length
        · have := SeqAt.EqAt.of_refs z (SeqAt.RcAt.lists p1.isList p2.isList (by rw [e1, e2, hl]) hu' he)
          rw [e1, eqBs_range hl] at this
          exact this
        · rw [eqBs_len hl]
          exact SeqAt.EqAt.of_refs z (SeqAt.RcAt.lists_lengths p1.isList p2.isList (by rw [e1, e2]; simp [hl]) hu')
  | .non, e, v, u, va, ua, A, hu, p, q, rv, ru, pd, pe => flat_deep I sF (by omega) rfl p q rv ru pe
  | .bl _, e, v, u, va, ua, A, hu, p, q, rv, ru, pd, pe => flat_deep I sF (by omega) rfl p q rv ru pe
  | .int _, e, v, u, va, ua, A, hu, p, q, rv, ru, pd, pe => flat_deep I sF (by omega) rfl p q rv ru pe
  | .str _, e, v, u, va, ua, A, hu, p, q, rv, ru, pd, pe => flat_deep I sF (by omega) rfl p q rv ru pe
  | .ty _, e, v, u, va, ua, A, hu, p, q, rv, ru, pd, pe => by simp [plainD, flatD] at pd
  | .cls _, e, v, u, va, ua, A, hu, p, q, rv, ru, pd, pe => by simp [plainD, flatD] at pd
  | .scr _, e, v, u, va, ua, A, hu, p, q, rv, ru, pd, pe => by simp [plainD, flatD] at pd
  | .exc _, e, v, u, va, ua, A, hu, p, q, rv, ru, pd, pe => by simp [plainD, flatD] at pd
theorem deep_eqs (I : Inv X pins σ H s) (sF : Same F H) : ∀ (ds es : List D) (xs ys : List V) (us ws : List Value) (A : Around), A.units + depDs ds < cLine → Rps X.K cl F ds xs → Rps X.K cl F es ys → Vals xs us → Vals ys ws → plainDs ds = true → plainDs es = true → ∀ j (h1 : j < us.toArray.size) (h2 : j < ws.toArray.size), SeqAt.EqAt A s us.toArray[j] ws.toArray[j] (eAtD ds es j)
  | [], es, xs, ys, us, ws, A, hu, p, q, rv, rw', pd, pe => fun j h1 h2 => by
    rw [p.inv0] at rv; cases rv; simp at h1
  | d :: ds, es, xs, ys, us, ws, A, hu, p, q, rv, rw', pd, pe => fun j h1 h2 => by
    obtain ⟨x, xs', rfl, p1, p2⟩ := p.inv
    cases rv with
    | cons r1 t1 =>
      cases es with
      | nil => rw [q.inv0] at rw'; cases rw'; simp at h2
      | cons e es =>
        obtain ⟨y, ys', rfl, q1, q2⟩ := q.inv
        cases rw' with
        | cons r2 t2 =>
          simp only [plainDs, Bool.and_eq_true] at pd pe
          simp only [depDs] at hu
          cases j with
          | zero => exact deep_eq I sF d e x y _ _ A (by omega) p1 q1 r1 r2 pd.1 pe.1
          | succ j =>
            have := deep_eqs I sF ds es xs' ys' _ _ A (by omega) p2 q2 t1 t2 pd.2 pe.2 j (by simpa using h1) (by simpa using h2)
            simpa [eAtD] using this
end
end
end L2
set_option Elab.async false
set_option linter.all false
set_option maxRecDepth 100000
set_option maxHeartbeats 4000000
namespace L2
open PySem PySem.Spec PyProof.Rows
theorem hu40 {A : Around} {k : Nat} (hr : Room k A) : A.units + 41 < cLine := Nat.lt_of_le_of_lt (Nat.add_le_add_left (by decide : 41 ≤ 64) _) hr.units
def seqD? : D → Bool
  | .tup _ => true
  | .lst _ => true
  | _ => false
theorem Rb.toRp {K : PySem.W.Frag} {cl : Str → Addr} {F H : Hp} {d : D} {v : V} (s : Same F H) (h : Rb K cl F H d v) : ∃ F', Same F F' ∧ Same F' H ∧ Rp K cl F' d v := by
  rcases h with h | ⟨a, xs, ds, rfl, rfl, ha, r⟩
  · exact ⟨F, Same.refl _, s, h⟩
  · have g : Same F (upd F a (.lst xs)) := fun b o q => by
      by_cases z : b = a
      · subst z; have := s _ _ q; rw [ha] at this; cases this; exact upd_same
      · rw [upd_ne z]; exact q
    refine ⟨upd F a (.lst xs), g, fun b o q => ?_, ?_⟩
    · by_cases z : b = a
      · subst z; rw [upd_same] at q; cases q; exact ha
      · rw [upd_ne z] at q; exact s _ _ q
    · simp only [Rp]; exact ⟨a, xs, rfl, upd_same, r.mono g⟩
section
variable {X : Cx} {cl : Str → Addr} {F : Hp} {pins : List (Addr × Obj)} {σ : St} {H : Hp} {s : Shared}
theorem rc_flat {a : Addr} {d : D} {v : V} {u : Value} {A : Around} (hu : A.units < cLine) (hl : (∃ xs, SqL X.K H a xs) ∨ ∃ xs, SqT X.K H a xs) (I : Inv X pins σ H s) (f : flatD d = true) (p : Rp X.K cl F d v) (r : RelV v u) :
    (SeqAt.RcAt A s (.ref a) u false ∧ SeqAt.RcAt A s u (.ref a) false) ∧ SeqAt.RcNeAt A s (.ref a) u true ∧ SeqAt.RcNeAt A s u (.ref a) true := by
  rcases hl with ⟨xs, h⟩ | ⟨xs, h⟩
  · obtain ⟨us, r1, p1, z1⟩ := I.list h
    have q := p1.isList
    cases d <;> first | (cases f; done) | skip
    all_goals simp only [Rp] at p; subst p
    · cases r; exact ⟨⟨.list_none q hu, .none_list q hu⟩, .list_none q hu, .none_list q hu⟩
    · cases r; exact ⟨⟨.list_bool _ q hu, .bool_list _ q hu⟩, .list_bool _ q hu, .bool_list _ q hu⟩
    · obtain ⟨t, rfl⟩ := r; exact ⟨⟨.list_int _ _ q hu, .int_list _ _ q hu⟩, .list_int _ _ q hu, .int_list _ _ q hu⟩
    · obtain ⟨t, rfl⟩ := r; exact ⟨⟨.list_str _ _ q hu, .str_list _ _ q hu⟩, .list_str _ _ q hu, .str_list _ _ q hu⟩
  · obtain ⟨us, r1, q, z1⟩ := I.tuple h
    cases d <;> first | (cases f; done) | skip
    all_goals simp only [Rp] at p; subst p
    · cases r; exact ⟨⟨.tuple_none q hu, .none_tuple q hu⟩, .tuple_none q hu, .none_tuple q hu⟩
    · cases r; exact ⟨⟨.tuple_bool _ q hu, .bool_tuple _ q hu⟩, .tuple_bool _ q hu, .bool_tuple _ q hu⟩
    · obtain ⟨t, rfl⟩ := r; exact ⟨⟨.tuple_int _ _ q hu, .int_tuple _ _ q hu⟩, .tuple_int _ _ q hu, .int_tuple _ _ q hu⟩
    · obtain ⟨t, rfl⟩ := r; exact ⟨⟨.tuple_str _ _ q hu, .str_tuple _ _ q hu⟩, .tuple_str _ _ q hu, .str_tuple _ _ q hu⟩
theorem rc_deep {d e : D} {v u : V} {a b : Value} {A : Around} (I : Inv X pins σ H s) (sF : Same F H) (hu : A.units + depD d < cLine) (p : Rp X.K cl F d v) (q : Rp X.K cl F e u) (rv : RelV v a) (ru : RelV u b) (pd : plainD d = true) (pe : plainD e = true) (hs : seqD? d = true ∨ seqD? e = true) :
    SeqAt.RcAt A s a b (eqB d e) ∧ SeqAt.RcNeAt A s a b (!eqB d e) := by
  have hu' : A.units < cLine := by omega
  rcases flat_plain pd with fd | ⟨ds, rfl⟩ | ⟨ds, rfl⟩
  · have se : seqD? e = true := hs.resolve_left (by cases d <;> first | (cases fd; done) | simp [seqD?])
    rcases flat_plain pe with fe | ⟨es, rfl⟩ | ⟨es, rfl⟩
    · cases e <;> first | (cases fe; done) | (cases se; done)
    · simp only [Rp] at q
      obtain ⟨c, ys, rfl, hb, r'⟩ := q
      cases ru
      have := rc_flat (A := A) hu' (.inr ⟨ys, .of (sF _ _ hb)⟩) I fd p rv
      have z : eqB d (.tup es) = false := by cases d <;> first | (cases fd; done) | simp [eqB, eqD]
      rw [z]; exact ⟨this.1.2, this.2.2⟩
    · simp only [Rp] at q
      obtain ⟨c, ys, rfl, hb, r'⟩ := q
      cases ru
      have := rc_flat (A := A) hu' (.inl ⟨ys, .of (sF _ _ hb)⟩) I fd p rv
      have z : eqB d (.lst es) = false := by cases d <;> first | (cases fd; done) | simp [eqB, eqD]
      rw [z]; exact ⟨this.1.2, this.2.2⟩
  · simp only [depD] at hu
    simp only [Rp] at p
    obtain ⟨l, xs, rfl, ha, r⟩ := p
    cases rv
    have ha' := sF _ _ ha
    obtain ⟨us, r1, p1, _⟩ := I.tuple (.of ha')
    rcases flat_plain pe with fe | ⟨es, rfl⟩ | ⟨es, rfl⟩
    · have := rc_flat (A := A) hu' (.inr ⟨xs, .of ha'⟩) I fe q ru
      have z : eqB (.tup ds) e = false := by cases e <;> first | (cases fe; done) | simp only [eqB]
      rw [z]; exact ⟨this.1.1, this.2.1⟩
    · simp only [Rp] at q
      obtain ⟨c, ys, rfl, hb, r'⟩ := q
      cases ru
      obtain ⟨ws, r2, p2, _⟩ := I.tuple (.of (sF _ _ hb))
      simp only [plainD] at pd pe
      have he := deep_eqs I sF ds es xs ys us ws A.in1 (by show A.units + 1 + depDs ds < cLine; omega) r r' r1 r2 pd pe
      have h1 := SeqAt.RcAt.tuples p1 p2 hu' he
      have h2 := SeqAt.RcNeAt.tuples p1 p2 hu' he
      have e1 : us.toArray.size = ds.length := by simp [← r1.length, r.length]
      have e2 : ws.toArray.size = es.length := by simp [← r2.length, r'.length]
      rw [e1, e2] at h1 h2
      simp only [eqB]
      by_cases hl : ds.length = es.length
      · rw [← hl, Nat.min_self, eqBs_range hl, beq_self_eq_true, Bool.and_true] at h1 h2
        exact ⟨h1, h2⟩
      · rw [eqBs_len hl]
        rw [beq_eq_false_iff_ne.mpr hl, Bool.and_false] at h1 h2
        exact ⟨h1, h2⟩
    · simp only [Rp] at q
      obtain ⟨c, ys, rfl, hb, r'⟩ := q
      cases ru
      obtain ⟨ws, r2, p2, _⟩ := I.list (.of (sF _ _ hb))
      simp only [eqB]
      exact ⟨.tuple_list p1 p2.isList hu', .tuple_list p1 p2.isList hu'⟩
  · simp only [depD] at hu
    simp only [Rp] at p
    obtain ⟨l, xs, rfl, ha, r⟩ := p
    cases rv
    have ha' := sF _ _ ha
    obtain ⟨us, r1, p1, _⟩ := I.list (.of ha')
    rcases flat_plain pe with fe | ⟨es, rfl⟩ | ⟨es, rfl⟩
    · have := rc_flat (A := A) hu' (.inl ⟨xs, .of ha'⟩) I fe q ru
      have z : eqB (.lst ds) e = false := by cases e <;> first | (cases fe; done) | simp only [eqB]
      rw [z]; exact ⟨this.1.1, this.2.1⟩
    · simp only [Rp] at q
      obtain ⟨c, ys, rfl, hb, r'⟩ := q
      cases ru
      obtain ⟨ws, r2, p2, _⟩ := I.tuple (.of (sF _ _ hb))
      simp only [eqB]
      exact ⟨.list_tuple p1.isList p2 hu', .list_tuple p1.isList p2 hu'⟩
    · simp only [Rp] at q
      obtain ⟨c, ys, rfl, hb, r'⟩ := q
      cases ru
      obtain ⟨ws, r2, p2, _⟩ := I.list (.of (sF _ _ hb))
      simp only [plainD] at pd pe
      have he := deep_eqs I sF ds es xs ys us ws A.in1 (by show A.units + 1 + depDs ds < cLine; omega) r r' r1 r2 pd pe
      have e1 : us.toArray.size = ds.length := by simp [← r1.length, r.length]
      have e2 : ws.toArray.size = es.length := by simp [← r2.length, r'.length]
      simp only [eqB]
      by_cases hl : ds.length = es.length
      · have h1 := SeqAt.RcAt.lists p1.isList p2.isList (by rw [e1, e2, hl]) hu' he
        have h2 := SeqAt.RcNeAt.lists p1.isList p2.isList (by rw [e1, e2, hl]) hu' he
        rw [e1, eqBs_range hl] at h1 h2
        exact ⟨h1, h2⟩
      · rw [eqBs_len hl]
        exact ⟨SeqAt.RcAt.lists_lengths p1.isList p2.isList (by rw [e1, e2]; simp [hl]) hu', SeqAt.RcNeAt.lists_lengths p1.isList p2.isList (by rw [e1, e2]; simp [hl]) hu'⟩
end
def rEqT (K : PySem.W.Frag) (cl : Str → Addr) (neg : Bool) : R2 := fun x y H Q => ∃ F d e, Same F H ∧ Rp K cl F d x ∧ Rp K cl F e y ∧ plainD d = true ∧ plainD e = true ∧ depD d ≤ 40 ∧ (seqD? d = true ∨ seqD? e = true) ∧ Q (.bl (if neg then !eqB d e else eqB d e)) H
theorem opK_eqT {X : Cx} {K : PySem.W.Frag} {cl : Str → Addr} (hu : X.A.units + 41 < cLine) (hK : X.K = K := by rfl) : OpR X (compareOp .Eq) (rEqT K cl false) := by
  subst hK
  intro pins s σ H x y v u Q I rx ry h
  obtain ⟨F, d, e, sF, p, q, pd, pe, hd, hs, hQ⟩ := h
  exact (rc_deep I sF (by omega) p q rx ry pd pe hs).1 X.prog X.w _ _ ⟨.bl _, H, I, rfl, hQ⟩
theorem opK_neT {X : Cx} {K : PySem.W.Frag} {cl : Str → Addr} (hu : X.A.units + 41 < cLine) (hK : X.K = K := by rfl) : OpR X (compareOp .NotEq) (rEqT K cl true) := by
  subst hK
  intro pins s σ H x y v u Q I rx ry h
  obtain ⟨F, d, e, sF, p, q, pd, pe, hd, hs, hQ⟩ := h
  exact (rc_deep I sF (by omega) p q rx ry pd pe hs).2 X.prog X.w _ _ ⟨.bl _, H, I, rfl, hQ⟩
def gEqT (neg : Bool) (d e : D) : Option D := if (plainD d && plainD e && decide (depD d ≤ 40) && (seqD? d || seqD? e)) = true then some (.bl (if neg then !eqB d e else eqB d e)) else none
theorem ok_eqT {K : PySem.W.Frag} {cl : Str → Addr} {neg : Bool} : OpOk K cl (rEqT K cl neg) (gEqT neg) := by
  intro x y d e z H F Q s hx hy h q
  unfold gEqT at h
  split at h
  · rename_i c; cases h
    simp only [Bool.and_eq_true, Bool.or_eq_true, decide_eq_true_eq] at c
    obtain ⟨F1, g1, s1, p1⟩ := hx.toRp s
    have hy1 : Rb K cl F1 H e y := by
      rcases hy with hy | ⟨a, xs, ds, e1, e2, ha, r⟩
      · exact .inl (hy.mono g1)
      · exact .inr ⟨a, xs, ds, e1, e2, ha, r.mono g1⟩
    obtain ⟨F2, g2, s2, p2⟩ := hy1.toRp s1
    exact ⟨F2, d, e, s2, p1.mono g2, p2, c.1.1.1, c.1.1.2, c.1.2, c.2, q _ H F (.refl s) (by simp only [Rp])⟩
  · cases h
end L2
set_option Elab.async false
set_option linter.all false
set_option maxRecDepth 100000
set_option maxHeartbeats 4000000
namespace L2
open PySem PySem.Spec PyProof.Rows
mutual
theorem eqB_refl : ∀ (d : D), plainD d = true → eqB d d = true
  | .tup ds, h => by simp only [plainD] at h; simp only [eqB]; exact eqBs_refl ds h
  | .lst ds, h => by simp only [plainD] at h; simp only [eqB]; exact eqBs_refl ds h
  | .non, _ => by simp [eqB, eqD]
  | .bl _, _ => by simp [eqB, eqD]
  | .int _, _ => by simp [eqB, eqD]
  | .str _, _ => by simp [eqB, eqD]
  | .ty _, h => by simp [plainD, flatD] at h
  | .cls _, h => by simp [plainD, flatD] at h
  | .scr _, h => by simp [plainD, flatD] at h
  | .exc _, h => by simp [plainD, flatD] at h
theorem eqBs_refl : ∀ (ds : List D), plainDs ds = true → eqBs ds ds = true
  | [], _ => by simp [eqBs]
  | d :: ds, h => by
    simp only [plainDs, Bool.and_eq_true] at h
    simp only [eqBs]
    rw [eqB_refl d h.1, eqBs_refl ds h.2]; rfl
end
theorem gEqT_refl {d : D} (neg : Bool) (h1 : plainD d = true) (h2 : depD d ≤ 40) (h3 : seqD? d = true) : gEqT neg d d = some (.bl (!neg)) := by
  unfold gEqT
  rw [if_pos (by simp [h1, h2, h3]), eqB_refl d h1]
  cases neg <;> rfl
theorem plainDs_map {α : Type} {f : α → D} {l : List α} (h : ∀ a ∈ l, plainD (f a) = true) : plainDs (l.map f) = true := by
  induction l with
  | nil => rfl
  | cons a l ih =>
    simp only [List.map_cons, plainDs, Bool.and_eq_true]
    exact ⟨h a List.mem_cons_self, ih fun b hb => h b (List.mem_cons_of_mem _ hb)⟩
theorem depDs_map {α : Type} {f : α → D} {l : List α} {n : Nat} (h : ∀ a ∈ l, depD (f a) ≤ n) : depDs (l.map f) ≤ n := by
  induction l with
  | nil => simp [depDs]
  | cons a l ih =>
    simp only [List.map_cons, depDs]
    have := h a List.mem_cons_self
    have := ih fun b hb => h b (List.mem_cons_of_mem _ hb)
    omega
end L2
set_option Elab.async false
set_option linter.all false
set_option maxRecDepth 100000
set_option maxHeartbeats 4000000
namespace L2
open PySem PySem.Spec PyProof.Rows
section
variable {K : PySem.W.Frag} {cl : Str → Addr} {E : XK} {σ : St} {H F : Hp} {env : DE} {k : Nat}
def RfSx (K : PySem.W.Frag) (cl : Str → Addr) (E : XK) (a : Addr) (t : TS) (f : SF) : Prop := ∀ (N : Ends) σ H env F, Rel K cl σ H F env → (∃ cls, F a = some (ExcO a cls none)) → Cs K cl E (f env) σ H F env N → t N σ H
theorem RfS.x {a : Addr} {t : TS} {f : SF} (h : RfS K cl E t f) : RfSx K cl E a t f := fun N σ H env F R _ c => h N σ H env F R c
end
end L2
set_option Elab.async false
set_option linter.all false
set_option maxRecDepth 100000
set_option maxHeartbeats 4000000
namespace L2
open PySem PySem.Spec PyProof.Rows
def frzS : Sl → Sl
  | .ow ds => .fz (.lst ds)
  | .hd ds => .fz (.lst ds)
  | s => s
def frzE : DE → DE
  | [] => []
  | s :: e => frzS s :: frzE e
mutual
def noL : D → Bool
  | .lst _ => false
  | .scr _ => false
  | .exc _ => false
  | .tup ds => noLs ds
  | _ => true
def noLs : List D → Bool
  | [] => true
  | d :: ds => noL d && noLs ds
end
def owned (σ : St) (env : DE) (b : Addr) : Prop := ∃ j, Mu env j ∧ σ[j]? = some (some (.ref b))
theorem frzE_eq : ∀ (e : DE), frzE e = e.map frzS
  | [] => rfl
  | s :: e => by rw [frzE, frzE_eq e]; rfl
section
variable {K : PySem.W.Frag} {cl : Str → Addr} {E : XK} {σ : St} {H F F1 H' F' F2 : Hp} {env : DE}
mutual
theorem Rp.noL (g : ∀ b o, F' b = some o → (∀ xs, o ≠ .lst xs) → F2 b = some o) : ∀ (d : D) (v : V), L2.noL d = true → Rp K cl F' d v → Rp K cl F2 d v
  | .non, _, _, h => by simpa only [Rp] using h
  | .bl _, _, _, h => by simpa only [Rp] using h
  | .int _, _, _, h => by simpa only [Rp] using h
  | .str _, _, _, h => by simpa only [Rp] using h
  | .ty _, _, _, h => by simpa only [Rp] using h
  | .cls _, _, _, h => by simpa only [Rp] using h
  | .tup ds, v, n, h => by
    simp only [Rp] at h ⊢
    obtain ⟨a, xs, e, h1, h2⟩ := h
    exact ⟨a, xs, e, g _ _ h1 (fun _ z => nomatch z), Rps.noL g ds xs (by simpa only [L2.noL] using n) h2⟩
  | .lst ds, v, n, h => by simp [L2.noL] at n
  | .scr ns, v, n, h => by simp [L2.noL] at n
  | .exc c, v, n, h => by simp [L2.noL] at n
theorem Rps.noL (g : ∀ b o, F' b = some o → (∀ xs, o ≠ .lst xs) → F2 b = some o) : ∀ (ds : List D) (vs : List V), L2.noLs ds = true → Rps K cl F' ds vs → Rps K cl F2 ds vs
  | [], _, _, h => by simpa only [Rps] using h
  | d :: ds, vs, n, h => by
    simp only [Rps] at h ⊢
    simp only [L2.noLs, Bool.and_eq_true] at n
    obtain ⟨v, r, e, h1, h2⟩ := h
    exact ⟨v, r, e, Rp.noL g d v n.1 h1, Rps.noL g ds r n.2 h2⟩
end
theorem frz_get {j : Nat} {s : Sl} (h : (frzE env)[j]? = some s) : ∃ s0, env[j]? = some s0 ∧ s = frzS s0 := by
  rw [frzE_eq, List.getElem?_map] at h
  cases q : env[j]? with
  | none => rw [q] at h; cases h
  | some s0 => rw [q] at h; exact ⟨s0, rfl, (Option.some.inj h).symm⟩
theorem frz_no {j : Nat} : ¬ Mu (frzE env) j := fun ⟨ds, q⟩ => by
  rcases q with q | q
  · obtain ⟨s0, _, e⟩ := frz_get q; cases s0 <;> cases e
  · obtain ⟨s0, _, e⟩ := frz_get q; cases s0 <;> cases e
theorem lend_in (R : Rel K cl σ H F env) : ∃ F1, Rel K cl σ H F1 (frzE env) ∧ (∀ b, owned σ env b → ∃ xs, F1 b = some (.lst xs) ∧ H b = some (.lst xs)) ∧ ∀ b, ¬ owned σ env b → F1 b = F b := by
  classical
  have hF : ∀ b, owned σ env b → F b = none ∧ ∃ xs, H b = some (.lst xs) := fun b ⟨j, ⟨ds, q⟩, e⟩ => by
    obtain ⟨a, xs, e1, h1, f1, _⟩ := R.mu j ds q
    rw [e] at e1; cases e1
    exact ⟨f1, xs, h1⟩
  have sF : Same F (fun b => if owned σ env b then H b else F b) := fun b o q => by
    show (if owned σ env b then H b else F b) = some o
    rw [if_neg (fun w => by rw [(hF b w).1] at q; cases q)]; exact q
  refine ⟨fun b => if owned σ env b then H b else F b, ⟨fun b o q => ?_, by rw [frzE_eq, List.length_map]; exact R.len, fun i d q => ?_, fun i ds q => absurd ⟨ds, q⟩ frz_no, fun i j a hi => absurd hi frz_no⟩, fun b w => ?_, fun b w => if_neg w⟩
  · try dsimp only at q
    split at q
    · exact q
    · exact R.sub _ _ q
  · obtain ⟨s0, e0, e1⟩ := frz_get q
    cases s0 with
    | no => cases e1
    | fz d' => cases e1; obtain ⟨v, e2, r⟩ := R.fz i _ e0; exact ⟨v, e2, r.mono sF⟩
    | ow ds =>
      cases e1
      obtain ⟨a, xs, e2, h2, f2, r⟩ := R.mu i ds (.inl e0)
      refine ⟨_, e2, ?_⟩
      simp only [Rp]
      refine ⟨a, xs, rfl, ?_, r.mono sF⟩
      rw [if_pos ⟨i, ⟨ds, .inl e0⟩, e2⟩]; exact h2
    | hd ds =>
      cases e1
      obtain ⟨a, xs, e2, h2, f2, r⟩ := R.mu i ds (.inr e0)
      refine ⟨_, e2, ?_⟩
      simp only [Rp]
      refine ⟨a, xs, rfl, ?_, r.mono sF⟩
      rw [if_pos ⟨i, ⟨ds, .inr e0⟩, e2⟩]; exact h2
  · obtain ⟨xs, h⟩ := (hF b w).2
    exact ⟨xs, by (try dsimp only); rw [if_pos w]; exact h, h⟩
theorem lend_out (R : Rel K cl σ H F env) (o1 : ∀ b, owned σ env b → ∃ xs, F1 b = some (.lst xs) ∧ H b = some (.lst xs)) (o2 : ∀ b, ¬ owned σ env b → F1 b = F b) (x : FX σ H F1 (frzE env) H' F') :
    ∃ F2, Frm σ H F env σ H' F2 env ∧ Rel K cl σ H' F2 env ∧ (∀ b o, F' b = some o → (∀ xs, o ≠ .lst xs) → F2 b = some o) ∧ ∀ b, F' b = none → F2 b = none := by
  classical
  have nw : ∀ b, ¬ Ow σ (frzE env) b := fun b ⟨j, ds, q, _⟩ => frz_no ⟨ds, .inl q⟩
  have hF : ∀ b, owned σ env b → F b = none := fun b ⟨j, ⟨ds, q⟩, e⟩ => by
    obtain ⟨a, xs, e1, h1, f1, _⟩ := R.mu j ds q
    rw [e] at e1; cases e1
    exact f1
  have sF : Same F (fun b => if owned σ env b then none else F' b) := fun b o q => by
    have w : ¬ owned σ env b := fun w => by rw [hF b w] at q; cases q
    show (if owned σ env b then none else F' b) = some o
    rw [if_neg w]
    exact x.fz _ _ (by rw [o2 b w]; exact q)
  have kept : ∀ b xs, owned σ env b → H b = some (.lst xs) → H' b = some (.lst xs) := fun b xs w h => by
    obtain ⟨ys, f, h2⟩ := o1 b w
    rw [h] at h2; cases h2
    exact x.sub _ _ (x.fz _ _ f)
  refine ⟨fun b => if owned σ env b then none else F' b, ⟨sF, fun b o hb fb w => ?_, fun _ _ h => ⟨h, rfl⟩, x.dom⟩, ⟨fun b o q => ?_, R.len, fun i d q => ?_, fun i ds q => ?_, R.inj⟩, fun b o q nl => ?_, fun b q => ?_⟩
  · by_cases ww : owned σ env b
    · obtain ⟨ys, f, h2⟩ := o1 b ww
      refine ⟨by rw [hb] at h2; cases h2; exact kept b ys ww hb, by (try dsimp only); rw [if_pos ww], w⟩
    · obtain ⟨h1, f1⟩ := x.hid b o hb (by rw [o2 b ww]; exact fb) (nw b)
      exact ⟨h1, by (try dsimp only); rw [if_neg ww]; exact f1, w⟩
  · try dsimp only at q
    split at q
    · cases q
    · exact x.sub _ _ q
  · obtain ⟨v, e, r⟩ := R.fz i d q; exact ⟨v, e, r.mono sF⟩
  · obtain ⟨a, xs, e, h1, f1, r⟩ := R.mu i ds q
    have w : owned σ env a := ⟨i, ⟨ds, q⟩, e⟩
    exact ⟨a, xs, e, kept a xs w h1, by (try dsimp only); rw [if_pos w], r.mono sF⟩
  · dsimp only
    rw [if_neg (fun w => by obtain ⟨ys, f, _⟩ := o1 b w; rw [x.fz _ _ f] at q; cases q; exact nl _ rfl)]; exact q
  · dsimp only
    split
    · rfl
    · exact q
def zLend (f : ZF) : ZF := fun e => match f (frzE e) with
  | some (.ok d _) => if noL d = true then some (.ok d e) else none
  | some (.ex c) => some (.ex c)
  | none => none
def bLend (f : BF) : BF := fun e => match f (frzE e) with
  | some (.ok d _) => some (.ok d e)
  | some (.ex c) => some (.ex c)
  | none => none
theorem rf_bLend {t : TT} {f : BF} (hf : RfB K cl E t f) : RfB K cl E t (bLend f) := by
  intro σ H Q env F R h
  obtain ⟨F1, R1, o1, o2⟩ := lend_in R
  refine hf σ H Q (frzE env) F1 R1 ?_
  unfold bLend at h
  split at h
  · rename_i d e2 q
    rw [q]
    intro b H' F' fr R' p
    obtain ⟨F2, fr2, R2, g, _⟩ := lend_out R o1 o2 (fr.toFX R'.sub)
    exact h b H' F2 fr2 R2 p
  · rename_i c q
    rw [q]
    intro H' F' x
    obtain ⟨F2, fr2, R2, _⟩ := lend_out R o1 o2 x
    exact h H' F2 (fr2.toFX R2.sub)
  · exact h.elim
def bLd (r : Option (R Bool)) (e : DE) : Option (R Bool) := match r with
  | some (.ok d _) => some (.ok d e)
  | some (.ex c) => some (.ex c)
  | none => none
def zLd (r : Option (R D)) (e : DE) : Option (R D) := match r with
  | some (.ok d _) => if noL d = true then some (.ok d e) else none
  | some (.ex c) => some (.ex c)
  | none => none
theorem bLend_eq (f : BF) (e : DE) : bLend f e = bLd (f (frzE e)) e := rfl
theorem zLend_eq (f : ZF) (e : DE) : zLend f e = zLd (f (frzE e)) e := rfl
theorem bLd_ok (d : Bool) (e e2 : DE) : bLd (some (.ok d e2)) e = some (.ok d e) := rfl
theorem bLd_ex (c : Str) (e : DE) : bLd (some (.ex c)) e = some (.ex c) := rfl
theorem bLd_ite {p : Prop} [Decidable p] (a b : Option (R Bool)) (e : DE) : bLd (if p then a else b) e = if p then bLd a e else bLd b e := by split <;> rfl
theorem zLd_ok (d : D) (e e2 : DE) : zLd (some (.ok d e2)) e = if noL d = true then some (.ok d e) else none := rfl
theorem zLd_ex (c : Str) (e : DE) : zLd (some (.ex c)) e = some (.ex c) := rfl
theorem zLd_ite {p : Prop} [Decidable p] (a b : Option (R D)) (e : DE) : zLd (if p then a else b) e = if p then zLd a e else zLd b e := by split <;> rfl
variable {k : Nat}
def zip3D : List D → List D → List D → List D
  | a :: as, b :: bs, c :: cs => .tup [a, b, c] :: zip3D as bs cs
  | _, _, _ => []
theorem zip3D_get : ∀ {ds es fs : List D} {i : Nat} {d e f : D}, ds[i]? = some d → es[i]? = some e → fs[i]? = some f → (zip3D ds es fs)[i]? = some (.tup [d, e, f])
  | a :: as, b :: bs, c :: cs, 0, _, _, _, h1, h2, h3 => by simp at h1 h2 h3; subst h1 h2 h3; rfl
  | a :: as, b :: bs, c :: cs, i + 1, _, _, _, h1, h2, h3 => by
    simp only [zip3D, List.getElem?_cons_succ] at h1 h2 h3 ⊢
    exact zip3D_get h1 h2 h3
  | [], _, _, _, _, _, _, h1, _, _ => by simp at h1
  | _ :: _, [], _, _, _, _, _, _, h2, _ => by simp at h2
  | _ :: _, _ :: _, [], _, _, _, _, _, _, h3 => by simp at h3
theorem zip3D_len : ∀ {ds es fs : List D}, (zip3D ds es fs).length = min ds.length (min es.length fs.length)
  | a :: as, b :: bs, c :: cs => by simp only [zip3D, List.length_cons]; rw [zip3D_len]; omega
  | [], _, _ => by simp [zip3D]
  | _ :: _, [], _ => by simp [zip3D]
  | _ :: _, _ :: _, [] => by simp [zip3D]
theorem forZ3 {b : GF} {body : SF} {g : TG} {tb : TS} {ds es fs : List D} {xs ys zs : List V} {a a' a3 : Addr} {N : Ends} (hb : RfS K cl E tb body) (hg : RfG K cl k g b) (R : Rel K cl σ H F env)
    (hl : ∀ σ' H' F' e', Frm σ H F env σ' H' F' e' → Rel K cl σ' H' F' e' → SqL K H' a xs ∧ SqL K H' a' ys ∧ SqL K H' a3 zs) (r : Rps K cl F ds xs) (r' : Rps K cl F es ys) (r3 : Rps K cl F fs zs) (h : Cs K cl E (forD b body (zip3D ds es fs) env) σ H F env N) :
    ∃ W : Nat → Nat → St → Hp → Prop, (∃ m, W 0 m σ H) ∧ ∀ i m σ H, W i m σ H →
      ((Itz3 K a a' a3).stop i H ∧ N.nx σ H) ∨ ((Itz3 K a a' a3).go i H ∧ ∃ M : St → Hp → Prop, (∀ σ' H', M σ' H' → ∃ m', m' < m ∧ W (i + 1) m' σ' H') ∧ ∀ x H', (Itz3 K a a' a3).yld i H x H' → g x σ H' fun σ2 H2 => tb { N with nx := M, ct := M, bk := N.nx } σ2 H2) := by
  refine for_zip3 (xs := xs) (ys := ys) (zs := zs) (fun i σ' H' => ∃ F' e', Frm σ H F env σ' H' F' e' ∧ Rel K cl σ' H' F' e' ∧ Cs K cl E (forD b body ((zip3D ds es fs).drop i) e') σ H F env N) ⟨F, env, Frm.refl, R, h⟩ (fun i σ' H' ⟨F', e', f, R', _⟩ => hl σ' H' F' e' f R') (fun i x y z σ' H' p hx hy hz ⟨F', e', f, R', h'⟩ hp => ?_) (fun σ' H' ⟨F', e', f, R', h'⟩ => ?_)
  · obtain ⟨d, hd, pd⟩ := r.get' hx
    obtain ⟨d', hd', pd'⟩ := r'.get' hy
    obtain ⟨d3, hd3, pd3⟩ := r3.get' hz
    rw [drop_cons (zip3D_get hd hd' hd3)] at h'
    have gr : Gr H' F' (upd H' p (.tup [x, y, z])) (upd F' p (.tup [x, y, z])) := .new R'.sub hp
    refine for_turn hb hg (f.trans (R'.frm gr)) (R'.gr gr) ?_ h' fun σ2 H2 F2 e2 f2 R2 h2 => ⟨F2, e2, f2, R2, h2⟩
    simp only [Rp]
    exact ⟨p, _, rfl, upd_same, .cons (Rp.mono (f.fz.trans gr.fz) _ _ pd) (.cons (Rp.mono (f.fz.trans gr.fz) _ _ pd') (.one (Rp.mono (f.fz.trans gr.fz) _ _ pd3)))⟩
  · rw [← r.length, ← r'.length, ← r3.length, List.drop_eq_nil_of_le (by rw [zip3D_len]; exact Nat.le_refl _)] at h'
    exact h' σ' H' F' f R'
def seq3 (ds : List D) : Option (List D) := match ds with
  | [d, e, f] => match seqL d, seqL e, seqL f with
    | some xs, some ys, some zs => some (zip3D xs ys zs)
    | _, _, _ => none
  | _ => none
theorem seq3_of {ds zs : List D} {vs : List V} (h : seq3 ds = some zs) (p : Rps K cl F ds vs) : ∃ a a' a3 xs ys us ds' es' fs', vs = [.ref a, .ref a', .ref a3] ∧ zs = zip3D ds' es' fs' ∧ Rps K cl F ds' xs ∧ Rps K cl F es' ys ∧ Rps K cl F fs' us ∧ ∀ H', Same F H' → SqL K H' a xs ∧ SqL K H' a' ys ∧ SqL K H' a3 us := by
  unfold seq3 at h
  split at h
  · rename_i d e f
    split at h
    · rename_i xs ys zs' h1 h2 h3
      cases h
      obtain ⟨v, r, rfl, p1, p2⟩ := p.inv
      obtain ⟨u, r', rfl, p3, p4⟩ := p2.inv
      obtain ⟨u3, r3, rfl, p5, p6⟩ := p4.inv
      rw [p6.inv0]
      obtain ⟨a, us, rfl, q1, l1⟩ := Rp.seqL p1 h1
      obtain ⟨a', us', rfl, q2, l2⟩ := Rp.seqL p3 h2
      obtain ⟨a3, us3, rfl, q3, l3⟩ := Rp.seqL p5 h3
      exact ⟨a, a', a3, us, us', us3, xs, ys, zs', rfl, rfl, q1, q2, q3, fun H' g => ⟨l1 H' g, l2 H' g, l3 H' g⟩⟩
    · cases h
  · cases h
def sForZ3 (f : AF) (b : GF) (body : SF) : SF := fun e => sbn (f e) fun ds e1 => match seq3 ds with
  | none => none
  | some zs => forD b body zs e1
theorem rf_ForZ3 {t : TA} {g : TG} {tb : TS} {f : AF} {b : GF} {body : SF} (hf : RfA K cl E t f) (hg : RfG K cl k g b) (hb : RfS K cl E tb body) : RfS K cl E (tFor (iZip3 K t) g tb) (sForZ3 f b body) := by
  intro N σ H env F R h
  refine hf σ H _ env F R ((Cs.bnd h).mono fun x H1 ⟨F1, e1, ds, fr, R1, p1, h1⟩ => ?_)
  split at h1
  · exact h1.elim
  · rename_i zs hs
    obtain ⟨a, a', a3, xs, ys, us, ds', es', fs', rfl, rfl, q1, q2, q3, hl⟩ := seq3_of hs p1
    exact ⟨a, a', a3, rfl, ⟨xs, (hl H1 R1.sub).1⟩, ⟨ys, (hl H1 R1.sub).2.1⟩, ⟨us, (hl H1 R1.sub).2.2⟩, forZ3 hb hg R1 (fun σ' H' F' e' f2 R2 => hl H' (f2.fz.trans R2.sub)) q1 q2 q3 (h1.from fr)⟩
def sPar (i j : Nat) (f : AF) : SF := fun e => sbn (f e) fun ds e1 => match ds with
  | [d, d'] => seqR (put i (.fz d) e1) fun e2 => put j (.fz d') e2
  | _ => none
theorem rf_Par {i j : Nat} {t : TA} {f : AF} (hf : RfA K cl E t f) : RfS K cl E (tPar i j t) (sPar i j f) := by
  intro N σ H env F R h
  refine hf σ H _ env F R ((Cs.bnd h).mono fun xs H1 ⟨F1, e1, ds, fr, R1, p1, h1⟩ => ?_)
  split at h1
  · rename_i d d'
    obtain ⟨v, r, rfl, q1, q2⟩ := p1.inv
    obtain ⟨u, r', rfl, q3, q4⟩ := q2.inv
    rw [q4.inv0]
    refine ⟨v, u, rfl, ?_⟩
    cases hp : put i (.fz d) e1 with
    | none => rw [hp] at h1; exact h1.elim
    | some z =>
      have hz : z = .nx (e1.set i (.fz d)) := by
        unfold put at hp
        split at hp
        · cases hp
        · cases hp
        · cases hp; rfl
      subst hz
      have h0 : Cs K cl E (put i (.fz d) e1) σ H F env { N with nx := fun σ' H' => ∀ F', Frm σ H F env σ' H' F' (e1.set i (.fz d)) → Rel K cl σ' H' F' (e1.set i (.fz d)) → True } := by rw [hp]; exact fun _ _ _ _ _ _ _ _ => trivial
      obtain ⟨hi, nh, _⟩ := putS h0
      rw [hp] at h1
      have h1 : Cs K cl E (put j (.fz d') (e1.set i (.fz d))) σ H F env N := h1
      obtain ⟨hj, nh2, h3⟩ := putS h1
      exact h3 _ H1 F1 ((fr.trans (Frm.put nh)).trans (Frm.put nh2)) ((R1.put hi nh q1).put hj nh2 q3)
  · exact h1.elim
end
end L2
set_option Elab.async false
set_option linter.all false
set_option maxRecDepth 100000
set_option maxHeartbeats 4000000
namespace L2
open PySem PySem.Spec PyProof.Rows
def un : Option D → Sl
  | none => .no
  | some d => .fz d
def notHd : Sl → Bool
  | .hd _ => false
  | _ => true
def okS : Option Sl → Bool
  | none => false
  | some s => notHd s
theorem notHd_un (o : Option D) : notHd (un o) = true := by cases o <;> rfl
theorem notHd_no : notHd .no = true := rfl
theorem notHd_fz (d : D) : notHd (.fz d) = true := rfl
theorem notHd_ow (d : List D) : notHd (.ow d) = true := rfl
theorem notHd_hd (d : List D) : notHd (.hd d) = false := rfl
theorem okS_some (s : Sl) : okS (some s) = notHd s := rfl
theorem okS_none : okS none = false := rfl
theorem frzS_no : frzS .no = .no := rfl
theorem frzS_fz (d : D) : frzS (.fz d) = .fz d := rfl
theorem frzS_ow (d : List D) : frzS (.ow d) = .fz (.lst d) := rfl
theorem frzS_hd (d : List D) : frzS (.hd d) = .fz (.lst d) := rfl
theorem put_eq (i : Nat) (s : Sl) (e : DE) : put i s e = if okS e[i]? = true then some (.nx (e.set i s)) else none := by
  unfold put okS
  cases e[i]? with
  | none => rfl
  | some t => cases t <;> rfl
theorem bName_eq (i : Nat) (d : D) (e : DE) : bName i d e = if okS e[i]? = true then some (e.set i (.fz d)) else none := by
  unfold bName okS
  cases e[i]? with
  | none => rfl
  | some t => cases t <;> rfl
theorem frzS_un (o : Option D) : frzS (un o) = un o := by cases o <;> rfl
theorem noHd_nil : noHd [] = true := rfl
theorem noHd_cons (s : Sl) (e : DE) : noHd (s :: e) = (notHd s && noHd e) := by cases s <;> rfl
def nxOf (r : Option RS) : Option RS := match r with
  | some (.ct e) => some (.nx e)
  | r => r
theorem nxOf_nx (e : DE) : nxOf (some (.nx e)) = some (.nx e) := rfl
theorem nxOf_ct (e : DE) : nxOf (some (.ct e)) = some (.nx e) := rfl
theorem nxOf_rt (d : D) : nxOf (some (.rt d)) = some (.rt d) := rfl
theorem nxOf_ex (c : Str) : nxOf (some (.ex c)) = some (.ex c) := rfl
theorem nxOf_ro (d : List D) : nxOf (some (.ro d)) = some (.ro d) := rfl
theorem nxOf_ite {p : Prop} [Decidable p] (a b : Option RS) : nxOf (if p then a else b) = if p then nxOf a else nxOf b := by split <;> rfl
theorem forK_nxOf {r : Option RS} {k : SF} : forK r k = forK (nxOf r) k := by
  cases r with
  | none => rfl
  | some r => cases r <;> rfl
theorem for_map' {α : Type} {b : GF} {body : SF} (f : α → D) (I : List α → DE → Prop) (l0 : List α) : ∀ (l pre : List α) (e : DE), l0 = pre ++ l → I pre e → (∀ pre x post e, l0 = pre ++ x :: post → I pre e → ∃ e2, nxOf (optR (b (f x) e) body) = some (.nx e2) ∧ I (pre ++ [x]) e2) → ∃ e', forD b body (l.map f) e = some (.nx e') ∧ I l0 e'
  | [], pre, e, hl, h, _ => ⟨e, rfl, by rw [hl, List.append_nil]; exact h⟩
  | x :: l, pre, e, hl, h, hs => by
    obtain ⟨e2, h2, h3⟩ := hs pre x l e hl h
    obtain ⟨e', h4, h5⟩ := for_map' f I l0 l (pre ++ [x]) e2 (by rw [hl, List.append_assoc]; rfl) h3 hs
    refine ⟨e', ?_, h5⟩
    rw [List.map_cons, forD_step]
    cases q : b (f x) e with
    | none => rw [q] at h2; cases h2
    | some e1 =>
      rw [q] at h2
      have h2 : nxOf (body e1) = some (.nx e2) := h2
      rw [optR_some, forK_nxOf, h2]; exact h4
theorem for_map {α : Type} {b : GF} {body : SF} (f : α → D) (I : List α → DE → Prop) (l : List α) (e : DE) (h : I [] e) (hs : ∀ pre x post e, l = pre ++ x :: post → I pre e → ∃ e2, nxOf (optR (b (f x) e) body) = some (.nx e2) ∧ I (pre ++ [x]) e2) : ∃ e', forD b body (l.map f) e = some (.nx e') ∧ I l e' :=
  for_map' f I l l [] e rfl h hs
def isEnd : RS → Bool
  | .rt _ => true
  | .ro _ => true
  | .ex _ => true
  | _ => false
theorem for_stop' {α : Type} {b : GF} {body : SF} {r : RS} (hr : isEnd r = true) (f : α → D) (I : List α → DE → Prop) (p : α → Bool) (l0 : List α) : ∀ (l pre : List α) (e : DE), l0 = pre ++ l → I pre e → (∀ pre x post e, l0 = pre ++ x :: post → I pre e → if p x = true then nxOf (optR (b (f x) e) body) = some r else ∃ e2, nxOf (optR (b (f x) e) body) = some (.nx e2) ∧ I (pre ++ [x]) e2) →
    if l.any p = true then forD b body (l.map f) e = some r else ∃ e', forD b body (l.map f) e = some (.nx e') ∧ I l0 e'
  | [], pre, e, hl, h, _ => ⟨e, rfl, by rw [hl, List.append_nil]; exact h⟩
  | x :: l, pre, e, hl, h, hs => by
    have h2 := hs pre x l e hl h
    rw [List.any_cons, List.map_cons, forD_step]
    by_cases z : p x = true
    · rw [if_pos z] at h2
      rw [z, Bool.true_or, if_pos rfl]
      cases q : b (f x) e with
      | none => rw [q] at h2; cases h2
      | some e1 =>
        rw [q] at h2
        have h2 : nxOf (body e1) = some r := h2
        rw [optR_some, forK_nxOf, h2]
        cases r <;> first | rfl | cases hr
    · rw [if_neg z] at h2
      obtain ⟨e2, h2, h4⟩ := h2
      have := for_stop' hr f I p l0 l (pre ++ [x]) e2 (by rw [hl, List.append_assoc]; rfl) h4 hs
      rw [Bool.eq_false_iff.mpr z, Bool.false_or]
      cases q : b (f x) e with
      | none => rw [q] at h2; cases h2
      | some e1 =>
        rw [q] at h2
        have h2 : nxOf (body e1) = some (.nx e2) := h2
        rw [optR_some, forK_nxOf, h2]; exact this
theorem for_stop {α : Type} {b : GF} {body : SF} {r : RS} (hr : isEnd r = true) (f : α → D) (I : List α → DE → Prop) (p : α → Bool) (l : List α) (e : DE) (h : I [] e) (hs : ∀ pre x post e, l = pre ++ x :: post → I pre e → if p x = true then nxOf (optR (b (f x) e) body) = some r else ∃ e2, nxOf (optR (b (f x) e) body) = some (.nx e2) ∧ I (pre ++ [x]) e2) :
    if l.any p = true then forD b body (l.map f) e = some r else ∃ e', forD b body (l.map f) e = some (.nx e') ∧ I l e' :=
  for_stop' hr f I p l l [] e rfl h hs
theorem comp_map {α : Type} {b : GF} {c : BF} {el : ZF} {ec eo : DE} (f : α → D) (g : α → D) (q : α → Bool) : ∀ (l : List α) (acc : List D), acc.length + l.length ≤ sizeLine → (∀ x ∈ l, ∃ e1 e2, b (f x) ec = some e1 ∧ c e1 = some (.ok (q x) e2) ∧ (q x = true → ∃ e3, el e2 = some (.ok (g x) e3))) → compD b c el ec eo (l.map f) acc = some (.ok (acc ++ (l.filter q).map g) eo)
  | [], acc, _, _ => by simp only [List.filter_nil, List.map_nil, List.append_nil]; rfl
  | x :: l, acc, hl, h => by
    obtain ⟨e1, e2, h1, h2, h3⟩ := h x List.mem_cons_self
    have hl' : acc.length < sizeLine := by rw [List.length_cons] at hl; omega
    rw [List.map_cons, compD_cons, h1, optB_some, h2, bnd_ok]
    by_cases z : q x = true
    · obtain ⟨e3, h4⟩ := h3 z
      rw [if_pos z, h4, bnd_ok, if_pos hl', comp_map f g q l (acc ++ [g x]) (by rw [List.length_append, List.length_cons, List.length_nil]; rw [List.length_cons] at hl; omega) (fun y m => h y (List.mem_cons_of_mem _ m)), List.filter_cons_of_pos z, List.map_cons, List.append_assoc]; rfl
    · rw [if_neg z, comp_map f g q l acc (by rw [List.length_cons] at hl; omega) (fun y m => h y (List.mem_cons_of_mem _ m)), List.filter_cons_of_neg z]
theorem comp_ex {α : Type} {b : GF} {el : ZF} {ec eo : DE} {cx : Str} (f : α → D) (g : α → D) (p : α → Bool) : ∀ (l : List α) (acc : List D), acc.length + l.length ≤ sizeLine → (∀ x ∈ l, ∃ e1, b (f x) ec = some e1 ∧ (if p x = true then el e1 = some (.ex cx) else ∃ e3, el e1 = some (.ok (g x) e3))) → compD b bTrue el ec eo (l.map f) acc = if l.any p = true then some (.ex cx) else some (.ok (acc ++ l.map g) eo)
  | [], acc, _, _ => by simp only [List.map_nil, List.append_nil]; rfl
  | x :: l, acc, hl, h => by
    obtain ⟨e1, h1, h2⟩ := h x List.mem_cons_self
    have hl' : acc.length < sizeLine := by rw [List.length_cons] at hl; omega
    rw [List.map_cons, compD_cons, h1, optB_some, List.any_cons]
    show bnd (some (.ok true e1)) _ = _
    rw [bnd_ok, if_pos rfl]
    by_cases z : p x = true
    · rw [if_pos z] at h2
      rw [h2, z, Bool.true_or, if_pos rfl]; rfl
    · rw [if_neg z] at h2
      obtain ⟨e3, h4⟩ := h2
      rw [h4, bnd_ok, if_pos hl', comp_ex f g p l (acc ++ [g x]) (by rw [List.length_append, List.length_cons, List.length_nil]; rw [List.length_cons] at hl; omega) (fun y m => h y (List.mem_cons_of_mem _ m)), Bool.eq_false_iff.mpr z, Bool.false_or, List.map_cons, List.append_assoc]; rfl
theorem zipD_map {α β : Type} (f : α → D) (g : β → D) : ∀ (xs : List α) (ys : List β), zipD (xs.map f) (ys.map g) = (xs.zip ys).map fun q => .tup [f q.1, g q.2]
  | [], _ => rfl
  | _ :: _, [] => rfl
  | x :: xs, y :: ys => by
    have := zipD_map f g xs ys
    unfold zipD at this ⊢
    rw [List.map_cons, List.map_cons, List.zipWith_cons_cons, this, List.zip_cons_cons, List.map_cons]
theorem zip3D_map {α β γ : Type} (f : α → D) (g : β → D) (h : γ → D) : ∀ (xs : List α) (ys : List β) (zs : List γ), zip3D (xs.map f) (ys.map g) (zs.map h) = (xs.zip (ys.zip zs)).map fun q => .tup [f q.1, g q.2.1, h q.2.2]
  | [], _, _ => by simp [zip3D]
  | _ :: _, [], _ => by simp [zip3D]
  | _ :: _, _ :: _, [] => by simp [zip3D]
  | x :: xs, y :: ys, z :: zs => by
    rw [List.map_cons, List.map_cons, List.map_cons, zip3D, zip3D_map f g h xs ys zs]; rfl
theorem flat_all_ints (ns : List Int) : (ns.map D.int).all flatD = true := by
  rw [List.all_eq_true]; intro d h; obtain ⟨n, _, rfl⟩ := List.mem_map.mp h; rfl
theorem inD_ints (i : Int) : ∀ (ns : List Int), inD (.int i) (ns.map .int) = ns.contains i
  | [] => rfl
  | n :: ns => by
    have := inD_ints i ns
    unfold inD at this ⊢
    rw [List.map_cons, List.any_cons, this, List.contains_cons]
    show (n == i || _) = (i == n || _)
    rw [show (n == i) = (i == n) from by rw [Bool.eq_iff_iff, beq_iff_eq, beq_iff_eq]; exact eq_comm]
theorem cut_take {ds : List D} {v : Int} (h : 0 ≤ v) : cutD ds none (some v) = ds.take v.toNat := by
  unfold cutD
  rw [HT.sIx_none]
  obtain ⟨n, rfl⟩ := Int.eq_ofNat_of_zero_le h
  rw [HT.sIx_nat, List.drop_zero, Nat.sub_zero, Int.toNat_natCast]
  by_cases z : n ≤ ds.length
  · rw [Nat.min_eq_left z]
  · rw [Nat.min_eq_right (by omega), List.take_of_length_le (Nat.le_refl _), List.take_of_length_le (by omega)]
theorem cut_drop {ds : List D} {v : Int} (h : 0 ≤ v) : cutD ds (some v) none = ds.drop v.toNat := by
  unfold cutD
  rw [HT.sIx_none]
  obtain ⟨n, rfl⟩ := Int.eq_ofNat_of_zero_le h
  rw [HT.sIx_nat, Int.toNat_natCast]
  by_cases z : n ≤ ds.length
  · rw [Nat.min_eq_left z, List.take_of_length_le (by rw [List.length_drop]; exact Nat.le_refl _)]
  · rw [Nat.min_eq_right (by omega), List.drop_of_length_le (Nat.le_refl _), List.drop_of_length_le (by omega), List.take_nil]
theorem cut_mid {ds : List D} {v u : Int} (h : 0 ≤ v) (h2 : v ≤ u) : cutD ds (some v) (some u) = (ds.drop v.toNat).take (u - v).toNat := by
  unfold cutD
  obtain ⟨n, rfl⟩ := Int.eq_ofNat_of_zero_le h
  obtain ⟨m, rfl⟩ := Int.eq_ofNat_of_zero_le (Int.le_trans h h2)
  rw [HT.sIx_nat, HT.sIx_nat, Int.toNat_natCast]
  have e : ((m : Int) - (n : Int)).toNat = m - n := by omega
  rw [e]
  by_cases z : n ≤ ds.length
  · rw [Nat.min_eq_left z]
    by_cases y : m ≤ ds.length
    · rw [Nat.min_eq_left y]
    · rw [Nat.min_eq_right (by omega), List.take_of_length_le (by rw [List.length_drop]; exact Nat.le_refl _), List.take_of_length_le (by rw [List.length_drop]; omega)]
  · rw [List.drop_of_length_le (show ds.length ≤ min n ds.length by omega), List.drop_of_length_le (by omega), List.take_nil, List.take_nil]
theorem gIn_ints (neg : Bool) (i : Int) (ns : List Int) : gIn neg (.int i) (.lst (ns.map .int)) = some (.bl (if neg then !ns.contains i else ns.contains i)) := by
  show (if (flatD (.int i) && (ns.map D.int).all flatD) = true then some (D.bl (if neg then !inD (.int i) (ns.map .int) else inD (.int i) (ns.map .int))) else none) = _
  rw [if_pos (by rw [flat_all_ints]; rfl), inD_ints]
theorem gIsi_eq (d : D) (n : String) : gIsi [d, .ty n] = gIsiV n d := by unfold gIsi gIsiV; rfl
theorem gCat_eq {ds es : List D} (h : ds.length + es.length ≤ 1000000) : gCat (.lst ds) (.lst es) = some (ds ++ es) := by
  show (if ds.length + es.length ≤ sizeLine then some (ds ++ es) else none) = _
  rw [if_pos (by show _ ≤ 2 ^ 24; omega)]
theorem zip_take {α β : Type} : ∀ (l : List α) (l' : List β) (n : Nat), (l.take n).zip (l'.take n) = (l.zip l').take n
  | [], _, n => by simp
  | _ :: _, [], n => by simp
  | _ :: _, _ :: _, 0 => by simp
  | a :: l, b :: l', n + 1 => by simp only [List.take_succ_cons, List.zip_cons_cons, zip_take l l' n]
theorem zip_drop {α β : Type} : ∀ (l : List α) (l' : List β) (n : Nat), (l.drop n).zip (l'.drop n) = (l.zip l').drop n
  | [], _, n => by simp
  | _ :: _, [], n => by simp
  | _ :: _, _ :: _, 0 => by simp
  | a :: l, b :: l', n + 1 => by simp only [List.drop_succ_cons, List.zip_cons_cons, zip_drop l l' n]
theorem ixN_nat {n k : Nat} (h : k < n) : ixN n (k : Int) = some k := by
  unfold ixN; rw [if_pos (by omega), if_pos (by omega), Int.toNat_natCast]
end L2
set_option Elab.async false
set_option linter.all false
set_option maxRecDepth 100000
set_option maxHeartbeats 4000000
namespace L2
open PySem PySem.Spec PyProof.Rows
section
variable {K : PySem.W.Frag} {cl : Str → Addr} {E : XK}
def sIns (i : Nat) (k f : ZF) : SF := fun e => match look e i with
  | some (.lst _) => sbn (k e) fun j e1 => sbn (f e1) fun d e2 => match j, e2[i]? with
    | .int n, some (.ow ds) => if 0 ≤ n ∧ n ≤ ds.length ∧ ds.length < sizeLine then some (.nx (e2.set i (.ow (ds.take n.toNat ++ d :: ds.drop n.toNat)))) else none
    | _, _ => none
  | _ => none
def gIsB (neg : Bool) (d e : D) : Option D := match e with
  | .bl k => some (.bl (match d with | .bl b => (if neg then !decide (b = k) else decide (b = k)) | _ => neg))
  | _ => none
@[simp] theorem gIsB_bl (neg b k : Bool) : gIsB neg (.bl b) (.bl k) = some (.bl (if neg then !decide (b = k) else decide (b = k))) := rfl
end
end L2
set_option Elab.async false
set_option linter.all false
set_option maxRecDepth 100000
set_option maxHeartbeats 4000000
namespace L2
open PySem PySem.Spec PyProof.Rows
end L2
set_option Elab.async false
set_option linter.all false
set_option maxRecDepth 100000
set_option maxHeartbeats 4000000
namespace L2
open PySem PySem.Spec PyProof.Rows
section
variable {K : PySem.W.Frag} {cl : Str → Addr} {E : XK}
def gMinT : D → Option D
  | .tup ds => match intsD ds with
    | some (n :: ns) => some (.int (ns.foldl min n))
    | _ => none
  | _ => none
theorem gMinT_4 (a b c d : Int) : gMinT (.tup [.int a, .int b, .int c, .int d]) = some (.int (min (min (min a b) c) d)) := rfl
end
end L2
namespace Law
open PySem L2 PyProof.Rows
set_option maxRecDepth 100000
set_option maxHeartbeats 4000000
def top (i : Nat) : Stmt := PySem.Challenge.pw_cratefit_k12_used_and_mirrored.main.body.getD i (.Pass ⟨0, 0, 0, 0⟩)
abbrev s_sides_of : Stmt := top 20
abbrev s_spot_of : Stmt := top 22
abbrev s_spots_of : Stmt := top 23
abbrev s_used : Stmt := top 24
abbrev s_mirrored : Stmt := top 25
abbrev s_l_cell_at : Stmt := top 27
abbrev s_l_whole : Stmt := top 28
abbrev s_l_side : Stmt := top 29
abbrev s_l_ware : Stmt := top 30
abbrev s_l_far : Stmt := top 31
abbrev s_l_box : Stmt := top 32
abbrev s_l_kinds : Stmt := top 33
abbrev s_l_case : Stmt := top 34
abbrev s_l_spots : Stmt := top 35
abbrev s_l_used : Stmt := top 36
abbrev s_l_mirrored : Stmt := top 37
abbrev s_l_ends : Stmt := top 38
abbrev s_l_mirror : Stmt := top 39
abbrev s_l_good : Stmt := top 40
abbrev s_law : Stmt := top 41
variable {P : Program} {w : World} {K : PySem.W.Frag} {mg : Str → Option Value} {base : Heap} {c : Str → Addr}
structure Txt (K : PySem.W.Frag) (mg : Str → Option Value) (c : Str → Addr) : Prop where
  z_ValueError : mg "ValueError" = none
  z_bool : mg "bool" = none
  z_int : mg "int" = none
  z_isinstance : mg "isinstance" = none
  z_len : mg "len" = none
  z_list : mg "list" = none
  z_max : mg "max" = none
  z_tuple : mg "tuple" = none
  z_zip : mg "zip" = none
  m_BadPacking : mg "BadPacking" = some (.ref (c "BadPacking"))
  m_BadPlan : mg "BadPlan" = some (.ref (c "BadPlan"))
  m_BadSide : mg "BadSide" = some (.ref (c "BadSide"))
  m_BadTurn : mg "BadTurn" = some (.ref (c "BadTurn"))
  m_CrateError : mg "CrateError" = some (.ref (c "CrateError"))
  m_Full : mg "Full" = some (.ref (c "Full"))
  m_Hangs : mg "Hangs" = some (.ref (c "Hangs"))
  m_NoDeed : mg "NoDeed" = some (.ref (c "NoDeed"))
  m_NoDrawing : mg "NoDrawing" = some (.ref (c "NoDrawing"))
  m_NoPicker : mg "NoPicker" = some (.ref (c "NoPicker"))
  m_NoSheet : mg "NoSheet" = some (.ref (c "NoSheet"))
  m_NoText : mg "NoText" = some (.ref (c "NoText"))
  m_NoWare : mg "NoWare" = some (.ref (c "NoWare"))
  m_NoWeighing : mg "NoWeighing" = some (.ref (c "NoWeighing"))
  m_NothingDone : mg "NothingDone" = some (.ref (c "NothingDone"))
  m_Ring : mg "Ring" = some (.ref (c "Ring"))
  m_TooMany : mg "TooMany" = some (.ref (c "TooMany"))
  m_TooWide : mg "TooWide" = some (.ref (c "TooWide"))
  x_BadTurn : PySem.W.excIn K (c "BadTurn") vErr "ValueError.__new__" = true
  t_exc_BadTurn : PySem.W.ExcT K (c "BadTurn")
  t_any_BadTurn_0 : PySem.W.kitAny K (.ref (c "BadTurn")) [.ref (c "BadSide"), .ref (c "NoText"), .ref (c "TooMany"), .ref (c "Ring"), .ref (c "NoWeighing"), .ref (c "NoPicker"), .ref (c "NoSheet"), .ref (c "NoDrawing")] = some false
  t_any_BadTurn_1 : PySem.W.kitAny K (.ref (c "BadTurn")) [.ref (c "NoDeed"), .ref (c "NoWare"), .ref (c "Full"), .ref (c "NothingDone"), .ref (c "TooWide"), .ref (c "Hangs"), .ref (c "BadPlan"), .ref (c "BadPacking")] = some false
  t_one_BadTurn_CrateError : PySem.W.kitOne K (.ref (c "BadTurn")) (.ref (c "CrateError")) = some true
  t_one_BadTurn_ValueError : PySem.W.kitOne K (.ref (c "BadTurn")) (.type "ValueError") = some true
  t_exm_BadTurn_BadTurn : PySem.W.exmOne K (.ref (c "BadTurn")) (.ref (c "BadTurn")) = some true
def xT (n : Str) (ns : List Str) : Option Bool := if n = "BadTurn" ∧ ns = (["BadSide", "NoText", "TooMany", "Ring", "NoWeighing", "NoPicker", "NoSheet", "NoDrawing"] : List Str) then some false else if n = "BadTurn" ∧ ns = (["NoDeed", "NoWare", "Full", "NothingDone", "TooWide", "Hangs", "BadPlan", "BadPacking"] : List Str) then some false else none
def x1 (n m : Str) : Option Bool := if n = "BadTurn" ∧ m = "CrateError" then some true else none
def x2 (n : Str) (m : String) : Option Bool := if n = "BadTurn" ∧ m = "ValueError" then some true else none
theorem xT_ok (T : Txt K mg c) : ∀ (n : Str) (m : List Str) (b : Bool), xT n m = some b → PySem.W.ExcT K (c n) ∧ PySem.W.kitAny K (.ref (c n)) (m.map fun m => .ref (c m)) = some b := by
  intro n m b h
  unfold xT at h
  split at h
  · rename_i z; obtain ⟨rfl, rfl⟩ := z; cases h; exact ⟨T.t_exc_BadTurn, T.t_any_BadTurn_0⟩
  split at h
  · rename_i z; obtain ⟨rfl, rfl⟩ := z; cases h; exact ⟨T.t_exc_BadTurn, T.t_any_BadTurn_1⟩
  cases h
theorem x1_ok (T : Txt K mg c) : ∀ (n : Str) (m : Str) (b : Bool), x1 n m = some b → PySem.W.ExcT K (c n) ∧ PySem.W.kitOne K (.ref (c n)) (.ref (c m)) = some b := by
  intro n m b h
  unfold x1 at h
  split at h
  · rename_i z; obtain ⟨rfl, rfl⟩ := z; cases h; exact ⟨T.t_exc_BadTurn, T.t_one_BadTurn_CrateError⟩
  cases h
theorem x2_ok (T : Txt K mg c) : ∀ (n : Str) (m : String) (b : Bool), x2 n m = some b → PySem.W.ExcT K (c n) ∧ PySem.W.kitOne K (.ref (c n)) (.type m) = some b := by
  intro n m b h
  unfold x2 at h
  split at h
  · rename_i z; obtain ⟨rfl, rfl⟩ := z; cases h; exact ⟨T.t_exc_BadTurn, T.t_one_BadTurn_ValueError⟩
  cases h
def xm_BadTurn (n : Str) : Bool := decide (n = "BadTurn")
theorem xm_BadTurn_ok (T : Txt K mg c) : ∀ n, xm_BadTurn n = true → PySem.W.exmOne K (.ref (c n)) (.ref (c "BadTurn")) = some true := by
  intro n h
  unfold xm_BadTurn at h
  simp only [Bool.or_eq_true, decide_eq_true_eq] at h
  rcases h with rfl
  · exact T.t_exm_BadTurn_BadTurn
def b_sides_of : SF := (sSeq (sAsg (eV 0) (bTup [(bName 2), (bName 3), (bName 4)])) (sSeq (sIf (bNot (bZ (eV 1))) (sRet (eT (aC (eV 2) (aC (eV 3) aN)))) sNx) (sSeq (sIf (bNot (bZ (eV 4))) (sRaise "BadTurn" (aC (eC (.str "a ware that may not be turned has no sides turned")) aN)) sNx) (sRet (eT (aC (eV 3) (aC (eV 2) aN)))))))
def d_sides_of : List D → Option R1 := fD 5 2 b_sides_of
theorem sc_sides_of : FnScope ["ware", "lie", "w", "h", "turns"] ["ware", "lie"] (defScope s_sides_of) := ⟨rfl, rfl, rfl, by decide +kernel, rfl, by decide +kernel, by decide +kernel⟩
theorem ok_sides_of {f : Addr} {fd : FuncData} (F : Fun K "sides_of" "sides_of" s_sides_of f fd) (T : Txt K mg c)  : FnOk P w K mg base (CXe P w) 3 f fd ["ware", "lie"] (spD K c d_sides_of) :=
  F.okD (k := 2) sc_sides_of fun cdv A outer s H E hr => ⟨_, (pss_cons (ps_asg (pv 0) (pgK_tup (K := K) (n := 3) rfl (pgs_cons (pg_name (i := 2) sc_sides_of.nd rfl (Or.inl rfl)) (pgs_cons (pg_name (i := 3) sc_sides_of.nd rfl (Or.inl rfl)) (pgs_cons (pg_name (i := 4) sc_sides_of.nd rfl (Or.inl rfl)) pgs_nil))))) (pss_cons (ps_if (pt_not (pt_val (pv 1))) (pss_one (ps_ret (pe_tup (pa_cons (pv 2) (pa_cons (pv 3) pa_nil))))) pss_nil) (pss_cons (ps_if (pt_not (pt_val (pv 4))) (pss_one (ps_raise acc_def T.x_BadTurn rfl T.m_BadTurn (pa_cons pe_str pa_nil))) pss_nil) (pss_one (ps_ret (pe_tup (pa_cons (pv 3) (pa_cons (pv 2) pa_nil)))))))), (rf_Seq (rf_Asg rf_v (rf_gTup (rf_gCons (rf_gName (k := 5) (by decide)) (rf_gCons (rf_gName (k := 5) (by decide)) (rf_gCons (rf_gName (k := 5) (by decide)) rf_gNil))) rfl)) (rf_Seq (rf_If' (rf_bNot (rf_bZ rf_v)) (rf_Ret (rf_T (rf_aC rf_v (rf_aC rf_v rf_aN)))) rf_Nx) (rf_Seq (rf_If' (rf_bNot (rf_bZ rf_v)) (rf_Raise (rf_aC rf_c rf_aN)) rf_Nx) (rf_Ret (rf_T (rf_aC rf_v (rf_aC rf_v rf_aN)))))))⟩
def b_spot_of : SF := (sSeq (sAsg (eV 1) (bTup [(bName 2), (bName 3), (bName 4)])) (sSeq (sAsg (eCall d_sides_of (aC (eV 0) (aC (eV 4) aN))) (bTup [(bName 5), (bName 6)])) (sRet (eT (aC (eV 2) (aC (eV 3) (aC (eB gAdd (eV 2) (eV 5)) (aC (eB gAdd (eV 3) (eV 6)) aN))))))))
def d_spot_of : List D → Option R1 := fD 7 2 b_spot_of
theorem sc_spot_of : FnScope ["ware", "place", "x", "y", "lie", "w", "h"] ["ware", "place"] (defScope s_spot_of) := ⟨rfl, rfl, rfl, by decide +kernel, rfl, by decide +kernel, by decide +kernel⟩
theorem ok_spot_of {f : Addr} {fd : FuncData} (F : Fun K "spot_of" "spot_of" s_spot_of f fd) (T : Txt K mg c) (G_sides_of : Own P w K mg base 3 "sides_of" ["ware", "lie"] (spD K c d_sides_of)) : FnOk P w K mg base (CXe P w) 5 f fd ["ware", "place"] (spD K c d_spot_of) :=
  F.okD (k := 4) sc_spot_of fun cdv A outer s H E hr => ⟨_, (pss_cons (ps_asg (pv 1) (pgK_tup (K := K) (n := 3) rfl (pgs_cons (pg_name (i := 2) sc_spot_of.nd rfl (Or.inl rfl)) (pgs_cons (pg_name (i := 3) sc_spot_of.nd rfl (Or.inl rfl)) (pgs_cons (pg_name (i := 4) sc_spot_of.nd rfl (Or.inl rfl)) pgs_nil))))) (pss_cons (ps_asg (pe_own G_sides_of hr (by decide) (XAcc.passes acc_def) (pa_cons (pv 0) (pa_cons (pv 4) pa_nil))) (pgK_tup (K := K) (n := 2) rfl (pgs_cons (pg_name (i := 5) sc_spot_of.nd rfl (Or.inl rfl)) (pgs_cons (pg_name (i := 6) sc_spot_of.nd rfl (Or.inl rfl)) pgs_nil)))) (pss_one (ps_ret (pe_tup (pa_cons (pv 2) (pa_cons (pv 3) (pa_cons (pe_op op_add (pv 2) (pv 5)) (pa_cons (pe_op op_add (pv 3) (pv 6)) pa_nil))))))))), (rf_Seq (rf_Asg rf_v (rf_gTup (rf_gCons (rf_gName (k := 7) (by decide)) (rf_gCons (rf_gName (k := 7) (by decide)) (rf_gCons (rf_gName (k := 7) (by decide)) rf_gNil))) rfl)) (rf_Seq (rf_Asg (rf_Call (rf_aC rf_v (rf_aC rf_v rf_aN))) (rf_gTup (rf_gCons (rf_gName (k := 7) (by decide)) (rf_gCons (rf_gName (k := 7) (by decide)) rf_gNil)) rfl)) (rf_Ret (rf_T (rf_aC rf_v (rf_aC rf_v (rf_aC (rf_op ok_add rf_v rf_v) (rf_aC (rf_op ok_add rf_v rf_v) rf_aN))))))))⟩
def b_spots_of : SF := (sRetN (nCompZ 2 [] (aC (eV 0) (aC (eV 1) aN)) (bTup [(bName 0), (bName 1)]) bTrue (eCall d_spot_of (aC (eV 0) (aC (eV 1) aN)))))
def d_spots_of : List D → Option R1 := fD 2 2 b_spots_of
theorem sc_spots_of : FnScope ["wares", "places"] ["wares", "places"] (defScope s_spots_of) := ⟨rfl, rfl, rfl, by decide +kernel, rfl, by decide +kernel, by decide +kernel⟩
theorem ok_spots_of {f : Addr} {fd : FuncData} (F : Fun K "spots_of" "spots_of" s_spots_of f fd) (T : Txt K mg c) (G_spot_of : Own P w K mg base 5 "spot_of" ["ware", "place"] (spD K c d_spot_of)) : FnOk P w K mg base (CXe P w) 7 f fd ["wares", "places"] (spD K c d_spots_of) :=
  F.okD (k := 6) sc_spots_of fun cdv A outer s H E hr => ⟨_, (pss_one (ps_ret (pe_compX (Nc := ["ware", "place"]) (k := 2) (js := []) acc_def rfl ⟨by decide +kernel, rfl, by decide +kernel, (by change ∀ y ∈ Scope.names _, y.2 = NameKind.free → (defScope s_spots_of).names.lookup y.1 = some .cell ∨ (defScope s_spots_of).names.lookup y.1 = some .free; decide +kernel), by decide +kernel, rfl, rfl, by decide +kernel⟩ (pi_zip rfl T.z_zip (pa_cons (pv 0) (pa_cons (pv 1) pa_nil))) (fun _ _ _ _ _ => (pgK_tup (K := K) (n := 2) rfl (pgs_cons (pg_name (i := 0) (by show List.Nodup [("ware" : Str), ("place" : Str)]; decide +kernel) rfl (Or.inl rfl)) (pgs_cons (pg_name (i := 1) (by show List.Nodup [("ware" : Str), ("place" : Str)]; decide +kernel) rfl (Or.inl rfl)) pgs_nil)))) (fun _ _ _ _ _ => pf_nil) (fun _ _ _ _ _ ac => (pe_own G_spot_of hr (by decide) (XAcc.passes ac) (pa_cons (pv 0) (pa_cons (pv 1) pa_nil))))))), (rf_RetN (rf_CompZ (by decide) (rf_aC rf_v (rf_aC rf_v rf_aN)) (rf_gTup (rf_gCons (rf_gName (k := 2) (by decide)) (rf_gCons (rf_gName (k := 2) (by decide)) rf_gNil)) rfl) rf_bTrue (rf_Call (rf_aC rf_v (rf_aC rf_v rf_aN)))))⟩
def b_used : SF := (sSeq (sSetC 2 d_spots_of (aC (eV 0) (aC (eV 1) aN))) (sRet (eT (aC (eMaxD (aC (zN (nCompV 2 1 [] (bName 0) bTrue (eB gIxT (eV 0) (eC (.int 2))))) aN) (aC (eC (.int 0)) aN)) (aC (eMaxD (aC (zN (nCompV 2 1 [] (bName 0) bTrue (eB gIxT (eV 0) (eC (.int 3))))) aN) (aC (eC (.int 0)) aN)) aN)))))
def d_used : List D → Option R1 := fD 3 2 b_used
theorem sc_used : FnScope ["wares", "places", "spots"] ["wares", "places"] (defScope s_used) := ⟨rfl, rfl, rfl, by decide +kernel, rfl, by decide +kernel, by decide +kernel⟩
theorem ok_used {f : Addr} {fd : FuncData} (F : Fun K "used" "used" s_used f fd) (T : Txt K mg c) (G_spots_of : Own P w K mg base 7 "spots_of" ["wares", "places"] (spD K c d_spots_of)) : FnOk P w K mg base (CXe P w) 9 f fd ["wares", "places"] (spD K c d_used) :=
  F.okD (k := 8) sc_used fun cdv A outer s H E hr => ⟨_, (pss_cons (ps_set (i := 2) sc_used.nd rfl (Or.inl rfl) (pe_own G_spots_of hr (by decide) (XAcc.passes acc_def) (pa_cons (pv 0) (pa_cons (pv 1) pa_nil)))) (pss_one (ps_ret (pe_tup (pa_cons (pe_maxD rfl rfl T.z_max (pa_cons (pe_comp (Nc := ["spot"]) (k := 1) (js := []) rfl ⟨by decide +kernel, rfl, by decide +kernel, (by change ∀ y ∈ Scope.names _, y.2 = NameKind.free → (defScope s_used).names.lookup y.1 = some .cell ∨ (defScope s_used).names.lookup y.1 = some .free; decide +kernel), by decide +kernel, rfl, rfl, by decide +kernel⟩ (pi_list (pv 2)) (fun _ _ _ _ _ => (pg_name (i := 0) (by show List.Nodup [("spot" : Str)]; decide +kernel) rfl (Or.inl rfl))) (fun _ _ _ _ _ => pf_nil) (fun _ _ _ _ _ => (pe_ix (ixK_tup (K := K)) (pv 0) pe_int (fun _ _ => rfl)))) pa_nil) (pk_cons pe_int pk_nil)) (pa_cons (pe_maxD rfl rfl T.z_max (pa_cons (pe_comp (Nc := ["spot"]) (k := 1) (js := []) rfl ⟨by decide +kernel, rfl, by decide +kernel, (by change ∀ y ∈ Scope.names _, y.2 = NameKind.free → (defScope s_used).names.lookup y.1 = some .cell ∨ (defScope s_used).names.lookup y.1 = some .free; decide +kernel), by decide +kernel, rfl, rfl, by decide +kernel⟩ (pi_list (pv 2)) (fun _ _ _ _ _ => (pg_name (i := 0) (by show List.Nodup [("spot" : Str)]; decide +kernel) rfl (Or.inl rfl))) (fun _ _ _ _ _ => pf_nil) (fun _ _ _ _ _ => (pe_ix (ixK_tup (K := K)) (pv 0) pe_int (fun _ _ => rfl)))) pa_nil) (pk_cons pe_int pk_nil)) pa_nil)))))), (rf_Seq (rf_SetC (rf_aC rf_v (rf_aC rf_v rf_aN))) (rf_Ret (rf_T (rf_aC (rf_MaxD (rf_aC (rf_zN (rf_CompV (by decide) (rf_gName (k := 1) (by decide)) rf_bTrue (rf_op ok_ixT rf_v rf_c))) rf_aN) (rf_aC rf_c rf_aN)) (rf_aC (rf_MaxD (rf_aC (rf_zN (rf_CompV (by decide) (rf_gName (k := 1) (by decide)) rf_bTrue (rf_op ok_ixT rf_v rf_c))) rf_aN) (rf_aC rf_c rf_aN)) rf_aN)))))⟩
def b_mirrored : SF := (sSeq (sSetN 4 (eL aN)) (sSeq (sForZ (aC (eV 2) (aC (eCall d_spots_of (aC (eV 1) (aC (eV 2) aN))) aN))  (bTup [(bName 5), (bName 6)]) (sSeq (sAsg (eV 5) (bTup [(bName 7), (bName 8), (bName 9)])) (sIf (bZ (eV 3)) (sApp 4 (eT (aC (eB gSub' (eB gIxT (eV 0) (eC (.int 0))) (eB gIxT (eV 6) (eC (.int 2)))) (aC (eV 8) (aC (eV 9) aN))))) (sApp 4 (eT (aC (eV 7) (aC (eB gSub' (eB gIxT (eV 0) (eC (.int 1))) (eB gIxT (eV 6) (eC (.int 3)))) (aC (eV 9) aN)))))))) (sRetV 4)))
def d_mirrored : List D → Option R1 := fD 10 4 b_mirrored
theorem sc_mirrored : FnScope ["box", "wares", "places", "across", "told", "place", "spot", "x", "y", "lie"] ["box", "wares", "places", "across"] (defScope s_mirrored) := ⟨rfl, rfl, rfl, by decide +kernel, rfl, by decide +kernel, by decide +kernel⟩
theorem ok_mirrored {f : Addr} {fd : FuncData} (F : Fun K "mirrored" "mirrored" s_mirrored f fd) (T : Txt K mg c) (G_spots_of : Own P w K mg base 7 "spots_of" ["wares", "places"] (spD K c d_spots_of)) : FnOk P w K mg base (CXe P w) 9 f fd ["box", "wares", "places", "across"] (spD K c d_mirrored) :=
  F.okD (k := 8) sc_mirrored fun cdv A outer s H E hr => ⟨_, (pss_cons (ps_set (i := 4) sc_mirrored.nd rfl (Or.inl rfl) (pe_lst pa_nil)) (pss_cons (ps_for PassesOwn.leaving rfl (pi_zip rfl T.z_zip (pa_cons (pv 2) (pa_cons (pe_own G_spots_of hr (by decide) (XAcc.passes acc_def) (pa_cons (pv 1) (pa_cons (pv 2) pa_nil))) pa_nil))) (pgK_tup (K := K) (n := 2) rfl (pgs_cons (pg_name (i := 5) sc_mirrored.nd rfl (Or.inl rfl)) (pgs_cons (pg_name (i := 6) sc_mirrored.nd rfl (Or.inl rfl)) pgs_nil))) (pss_cons (ps_asg (pv 5) (pgK_tup (K := K) (n := 3) rfl (pgs_cons (pg_name (i := 7) sc_mirrored.nd rfl (Or.inl rfl)) (pgs_cons (pg_name (i := 8) sc_mirrored.nd rfl (Or.inl rfl)) (pgs_cons (pg_name (i := 9) sc_mirrored.nd rfl (Or.inl rfl)) pgs_nil))))) (pss_one (ps_if (pt_val (pv 3)) (pss_one (ps_expr (pe_bmK (K := K) PySem.F.plainAttrs_list PySem.F.slot_list_append PySem.F.type_list_append mt_append (pv 4) (pa_cons (pe_tup (pa_cons (pe_op op_sub (pe_ix (ixK_tup (K := K)) (pv 0) pe_int (fun _ _ => rfl)) (pe_ix (ixK_tup (K := K)) (pv 6) pe_int (fun _ _ => rfl))) (pa_cons (pv 8) (pa_cons (pv 9) pa_nil)))) pa_nil)))) (pss_one (ps_expr (pe_bmK (K := K) PySem.F.plainAttrs_list PySem.F.slot_list_append PySem.F.type_list_append mt_append (pv 4) (pa_cons (pe_tup (pa_cons (pv 7) (pa_cons (pe_op op_sub (pe_ix (ixK_tup (K := K)) (pv 0) pe_int (fun _ _ => rfl)) (pe_ix (ixK_tup (K := K)) (pv 6) pe_int (fun _ _ => rfl))) (pa_cons (pv 9) pa_nil)))) pa_nil)))))))) (pss_one (ps_ret (pv 4))))), (rf_Seq (rf_SetN (rf_L rf_aN)) (rf_Seq (rf_ForZ (rf_aC rf_v (rf_aC (rf_Call (rf_aC rf_v (rf_aC rf_v rf_aN))) rf_aN)) (rf_gTup (rf_gCons (rf_gName (k := 10) (by decide)) (rf_gCons (rf_gName (k := 10) (by decide)) rf_gNil)) rfl) (rf_Seq (rf_Asg rf_v (rf_gTup (rf_gCons (rf_gName (k := 10) (by decide)) (rf_gCons (rf_gName (k := 10) (by decide)) (rf_gCons (rf_gName (k := 10) (by decide)) rf_gNil))) rfl)) (rf_If' (rf_bZ rf_v) (rf_App (rf_T (rf_aC (rf_op ok_sub (rf_op ok_ixT rf_v rf_c) (rf_op ok_ixT rf_v rf_c)) (rf_aC rf_v (rf_aC rf_v rf_aN))))) (rf_App (rf_T (rf_aC rf_v (rf_aC (rf_op ok_sub (rf_op ok_ixT rf_v rf_c) (rf_op ok_ixT rf_v rf_c)) (rf_aC rf_v rf_aN)))))))) rf_RetV))⟩
def b_l_cell_at : SF := (sSeq (sIf (bZ (eB gLt (eV 1) (eCV gLen 0))) (sRet (eBV gIxL 0 (eV 1))) sNx) (sRet (eC (.int 0))))
def d_l_cell_at : List D → Option R1 := fD 2 2 b_l_cell_at
theorem sc_l_cell_at : FnScope ["_law_script", "_law_k"] ["_law_script", "_law_k"] (defScope s_l_cell_at) := ⟨rfl, rfl, rfl, by decide +kernel, rfl, by decide +kernel, by decide +kernel⟩
theorem ok_l_cell_at {f : Addr} {fd : FuncData} (F : Fun K "_law_cell_at" "_law_cell_at" s_l_cell_at f fd) (T : Txt K mg c)  : FnOk P w K mg base (CXe P w) 3 f fd ["_law_script", "_law_k"] (spD K c d_l_cell_at) :=
  F.okD (k := 2) sc_l_cell_at fun cdv A outer s H E hr => ⟨_, (pss_cons (ps_if (pt_cmpR op_lt (pv 1) (pe_callB (callK_len_seq (K := K)) rfl T.z_len bt_len (pa_cons (pv 0) pa_nil)) (nomark _)) (pss_one (ps_ret (pe_ix (ixK_list (K := K)) (pv 0) (pv 1) (fun _ _ => rfl)))) pss_nil) (pss_one (ps_ret pe_int))), (rf_Seq (rf_If' (rf_bT (rf_op ok_lt rf_v (rf_CV ok_len))) (rf_Ret (rf_opV ok_ixL rf_v)) rf_Nx) (rf_Ret rf_c))⟩
def b_l_whole : SF := (sRet (eAnd (eIsiV 0 "int") (eNot (eIsiV 0 "bool"))))
def d_l_whole : List D → Option R1 := fD 1 1 b_l_whole
theorem sc_l_whole : FnScope ["_law_found"] ["_law_found"] (defScope s_l_whole) := ⟨rfl, rfl, rfl, by decide +kernel, rfl, by decide +kernel, by decide +kernel⟩
theorem ok_l_whole {f : Addr} {fd : FuncData} (F : Fun K "_law_whole" "_law_whole" s_l_whole f fd) (T : Txt K mg c)  : FnOk P w K mg base (CXe P w) 3 f fd ["_law_found"] (spD K c d_l_whole) :=
  F.okD (k := 2) sc_l_whole fun cdv A outer s H E hr => ⟨_, (pss_one (ps_ret (pe_and (pe_callB (callK_isi (K := K)) rfl T.z_isinstance bt_isinstance (pa_cons (pv 0) (pa_cons (pe_bltn (v := .ty "int") rfl T.z_int bt_int rfl) pa_nil))) (pe_one (pe_not (pe_callB (callK_isi (K := K)) rfl T.z_isinstance bt_isinstance (pa_cons (pv 0) (pa_cons (pe_bltn (v := .ty "bool") rfl T.z_bool bt_bool rfl) pa_nil)))))))), (rf_Ret (rf_And rf_IsiV (rf_Not rf_IsiV)))⟩
def b_l_side : SF := (sSeq (sSet 1 (eB gDiv (eV 0) (eC (.int 5)))) (sSeq (sIf (bZ (eB (gEq false) (eB gMod (eV 0) (eC (.int 5))) (eC (.int 1)))) (sRet (eB gAdd (eC (.int 1)) (eB gMod (eB gMul (eV 1) (eB gPow (eC (.int 7919)) (eC (.int 11)))) (eB gPow (eC (.int 10)) (eC (.int 40)))))) sNx) (sSeq (sIf (bZ (eB (gEq false) (eB gMod (eV 0) (eC (.int 5))) (eC (.int 2)))) (sRet (eB gSub' (eB gPow (eC (.int 10)) (eC (.int 40))) (eB gMod (eV 1) (eC (.int 3))))) sNx) (sSeq (sIf (bZ (eB (gEq false) (eB gMod (eV 0) (eC (.int 5))) (eC (.int 3)))) (sRet (eB gAdd (eC (.int 1)) (eB gMod (eV 1) (eC (.int 1009))))) sNx) (sRet (eB gAdd (eC (.int 1)) (eB gMod (eV 1) (eC (.int 7)))))))))
def d_l_side : List D → Option R1 := fD 2 1 b_l_side
theorem sc_l_side : FnScope ["_law_cell", "_law_rest"] ["_law_cell"] (defScope s_l_side) := ⟨rfl, rfl, rfl, by decide +kernel, rfl, by decide +kernel, by decide +kernel⟩
theorem ok_l_side {f : Addr} {fd : FuncData} (F : Fun K "_law_side" "_law_side" s_l_side f fd) (T : Txt K mg c)  : FnOk P w K mg base (CXe P w) 3 f fd ["_law_cell"] (spD K c d_l_side) :=
  F.okD (k := 2) sc_l_side fun cdv A outer s H E hr => ⟨_, (pss_cons (ps_set (i := 1) sc_l_side.nd rfl (Or.inl rfl) (pe_op op_fdivB (pv 0) pe_int)) (pss_cons (ps_if (pt_cmpR op_eq (pe_op op_mod (pv 0) pe_int) pe_int (nomark _)) (pss_one (ps_ret (pe_op op_add pe_int (pe_op op_mod (pe_op op_mulB (pv 1) (pe_op op_pow pe_int pe_int)) (pe_op op_pow pe_int pe_int))))) pss_nil) (pss_cons (ps_if (pt_cmpR op_eq (pe_op op_mod (pv 0) pe_int) pe_int (nomark _)) (pss_one (ps_ret (pe_op op_sub (pe_op op_pow pe_int pe_int) (pe_op op_mod (pv 1) pe_int)))) pss_nil) (pss_cons (ps_if (pt_cmpR op_eq (pe_op op_mod (pv 0) pe_int) pe_int (nomark _)) (pss_one (ps_ret (pe_op op_add pe_int (pe_op op_mod (pv 1) pe_int)))) pss_nil) (pss_one (ps_ret (pe_op op_add pe_int (pe_op op_mod (pv 1) pe_int)))))))), (rf_Seq (rf_Set (rf_op ok_div rf_v rf_c)) (rf_Seq (rf_If' (rf_bT (rf_op ok_eq (rf_op ok_mod rf_v rf_c) rf_c)) (rf_Ret (rf_op ok_add rf_c (rf_op ok_mod (rf_op ok_mul rf_v (rf_op ok_pow rf_c rf_c)) (rf_op ok_pow rf_c rf_c)))) rf_Nx) (rf_Seq (rf_If' (rf_bT (rf_op ok_eq (rf_op ok_mod rf_v rf_c) rf_c)) (rf_Ret (rf_op ok_sub (rf_op ok_pow rf_c rf_c) (rf_op ok_mod rf_v rf_c))) rf_Nx) (rf_Seq (rf_If' (rf_bT (rf_op ok_eq (rf_op ok_mod rf_v rf_c) rf_c)) (rf_Ret (rf_op ok_add rf_c (rf_op ok_mod rf_v rf_c))) rf_Nx) (rf_Ret (rf_op ok_add rf_c (rf_op ok_mod rf_v rf_c)))))))⟩
def b_l_ware : SF := (sSeq (sSet 1 (eB gMod (eV 0) (eB gPow (eC (.int 10)) (eC (.int 60))))) (sSeq (sSet 2 (eB gMod (eB gAdd (eB gMul (eV 1) (eC (.int 48271))) (eC (.int 29))) (eC (.int 2147483647)))) (sSeq (sSetC0 3 d_l_side (aC (eV 1) aN)) (sSeq (sSetC0 4 d_l_side (aC (eB gDiv (eV 2) (eC (.int 12))) aN)) (sSeq (sIf (bZ (eB (gEq false) (eB gMod (eV 2) (eC (.int 4))) (eC (.int 1)))) (sSet 4 (eV 3)) sNx) (sSeq (sIf (bZ (eB (gEq false) (eB gMod (eV 2) (eC (.int 4))) (eC (.int 2)))) (sSetC0 4 d_l_side (aC (eB gAdd (eB gMul (eV 1) (eC (.int 69621))) (eC (.int 3))) aN)) sNx) (sRet (eT (aC (eV 3) (aC (eV 4) (aC (eB gGt (eB gMod (eB gDiv (eV 2) (eC (.int 4))) (eC (.int 3))) (eC (.int 0))) aN)))))))))))
def d_l_ware : List D → Option R1 := fD 5 1 b_l_ware
theorem sc_l_ware : FnScope ["_law_cell", "_law_number", "_law_mix", "_law_w", "_law_h"] ["_law_cell"] (defScope s_l_ware) := ⟨rfl, rfl, rfl, by decide +kernel, rfl, by decide +kernel, by decide +kernel⟩
theorem ok_l_ware {f : Addr} {fd : FuncData} (F : Fun K "_law_ware" "_law_ware" s_l_ware f fd) (T : Txt K mg c) (G_l_side : Own P w K mg base 3 "_law_side" ["_law_cell"] (spD K c d_l_side)) : FnOk P w K mg base (CXe P w) 5 f fd ["_law_cell"] (spD K c d_l_ware) :=
  F.okD (k := 4) sc_l_ware fun cdv A outer s H E hr => ⟨_, (pss_cons (ps_set (i := 1) sc_l_ware.nd rfl (Or.inl rfl) (pe_op op_mod (pv 0) (pe_op op_pow pe_int pe_int))) (pss_cons (ps_set (i := 2) sc_l_ware.nd rfl (Or.inl rfl) (pe_op op_mod (pe_op op_add (pe_op op_mulB (pv 1) pe_int) pe_int) pe_int)) (pss_cons (ps_set (i := 3) sc_l_ware.nd rfl (Or.inl rfl) (pe_own G_l_side hr (by decide) pass0e (pa_cons (pv 1) pa_nil))) (pss_cons (ps_set (i := 4) sc_l_ware.nd rfl (Or.inl rfl) (pe_own G_l_side hr (by decide) pass0e (pa_cons (pe_op op_fdivB (pv 2) pe_int) pa_nil))) (pss_cons (ps_if (pt_cmpR op_eq (pe_op op_mod (pv 2) pe_int) pe_int (nomark _)) (pss_one (ps_set (i := 4) sc_l_ware.nd rfl (Or.inl rfl) (pv 3))) pss_nil) (pss_cons (ps_if (pt_cmpR op_eq (pe_op op_mod (pv 2) pe_int) pe_int (nomark _)) (pss_one (ps_set (i := 4) sc_l_ware.nd rfl (Or.inl rfl) (pe_own G_l_side hr (by decide) pass0e (pa_cons (pe_op op_add (pe_op op_mulB (pv 1) pe_int) pe_int) pa_nil)))) pss_nil) (pss_one (ps_ret (pe_tup (pa_cons (pv 3) (pa_cons (pv 4) (pa_cons (pe_cmpR op_gt (pe_op op_mod (pe_op op_fdivB (pv 2) pe_int) pe_int) pe_int (nomark _)) pa_nil)))))))))))), (rf_Seq (rf_Set (rf_op ok_mod rf_v (rf_op ok_pow rf_c rf_c))) (rf_Seq (rf_Set (rf_op ok_mod (rf_op ok_add (rf_op ok_mul rf_v rf_c) rf_c) rf_c)) (rf_Seq (rf_SetC0 (rf_aC rf_v rf_aN)) (rf_Seq (rf_SetC0 (rf_aC (rf_op ok_div rf_v rf_c) rf_aN)) (rf_Seq (rf_If' (rf_bT (rf_op ok_eq (rf_op ok_mod rf_v rf_c) rf_c)) (rf_Set rf_v) rf_Nx) (rf_Seq (rf_If' (rf_bT (rf_op ok_eq (rf_op ok_mod rf_v rf_c) rf_c)) (rf_SetC0 (rf_aC (rf_op ok_add (rf_op ok_mul rf_v rf_c) rf_c) rf_aN)) rf_Nx) (rf_Ret (rf_T (rf_aC rf_v (rf_aC rf_v (rf_aC (rf_op ok_gt (rf_op ok_mod (rf_op ok_div rf_v rf_c) rf_c) rf_c) rf_aN)))))))))))⟩
def b_l_far : SF := (sSeq (sSet 1 (eB gDiv (eV 0) (eC (.int 3)))) (sSeq (sIf (bZ (eB (gEq false) (eB gMod (eV 0) (eC (.int 3))) (eC (.int 1)))) (sRet (eB gSub' (eB gMod (eB gMul (eV 1) (eB gPow (eC (.int 7919)) (eC (.int 11)))) (eB gAdd (eB gMul (eC (.int 2)) (eB gPow (eC (.int 10)) (eC (.int 42)))) (eC (.int 1)))) (eB gPow (eC (.int 10)) (eC (.int 42))))) sNx) (sSeq (sIf (bZ (eB (gEq false) (eB gMod (eV 0) (eC (.int 3))) (eC (.int 2)))) (sRet (eB gIxL (zN (eL (aC (eB gPow (eC (.int 10)) (eC (.int 42))) (aC (eU gNeg (eB gPow (eC (.int 10)) (eC (.int 42)))) (aC (eB gPow (eC (.int 10)) (eC (.int 40))) (aC (eC (.int 0)) (aC (eU gNeg (eC (.int 9))) (aC (eC (.int 10)) aN)))))))) (eB gMod (eV 1) (eC (.int 6))))) sNx) (sRet (eB gSub' (eB gMod (eV 1) (eC (.int 23))) (eC (.int 7)))))))
def d_l_far : List D → Option R1 := fD 2 1 b_l_far
theorem sc_l_far : FnScope ["_law_cell", "_law_rest"] ["_law_cell"] (defScope s_l_far) := ⟨rfl, rfl, rfl, by decide +kernel, rfl, by decide +kernel, by decide +kernel⟩
theorem ok_l_far {f : Addr} {fd : FuncData} (F : Fun K "_law_far" "_law_far" s_l_far f fd) (T : Txt K mg c)  : FnOk P w K mg base (CXe P w) 3 f fd ["_law_cell"] (spD K c d_l_far) :=
  F.okD (k := 2) sc_l_far fun cdv A outer s H E hr => ⟨_, (pss_cons (ps_set (i := 1) sc_l_far.nd rfl (Or.inl rfl) (pe_op op_fdivB (pv 0) pe_int)) (pss_cons (ps_if (pt_cmpR op_eq (pe_op op_mod (pv 0) pe_int) pe_int (nomark _)) (pss_one (ps_ret (pe_op op_sub (pe_op op_mod (pe_op op_mulB (pv 1) (pe_op op_pow pe_int pe_int)) (pe_op op_add (pe_op op_mulB pe_int (pe_op op_pow pe_int pe_int)) pe_int)) (pe_op op_pow pe_int pe_int)))) pss_nil) (pss_cons (ps_if (pt_cmpR op_eq (pe_op op_mod (pv 0) pe_int) pe_int (nomark _)) (pss_one (ps_ret (pe_ix (ixK_list (K := K)) (pe_lst (pa_cons (pe_op op_pow pe_int pe_int) (pa_cons (pe_un un_neg (pe_op op_pow pe_int pe_int)) (pa_cons (pe_op op_pow pe_int pe_int) (pa_cons pe_int (pa_cons (pe_un un_neg pe_int) (pa_cons pe_int pa_nil))))))) (pe_op op_mod (pv 1) pe_int) (fun _ _ => rfl)))) pss_nil) (pss_one (ps_ret (pe_op op_sub (pe_op op_mod (pv 1) pe_int) pe_int)))))), (rf_Seq (rf_Set (rf_op ok_div rf_v rf_c)) (rf_Seq (rf_If' (rf_bT (rf_op ok_eq (rf_op ok_mod rf_v rf_c) rf_c)) (rf_Ret (rf_op ok_sub (rf_op ok_mod (rf_op ok_mul rf_v (rf_op ok_pow rf_c rf_c)) (rf_op ok_add (rf_op ok_mul rf_c (rf_op ok_pow rf_c rf_c)) rf_c)) (rf_op ok_pow rf_c rf_c))) rf_Nx) (rf_Seq (rf_If' (rf_bT (rf_op ok_eq (rf_op ok_mod rf_v rf_c) rf_c)) (rf_Ret (rf_op ok_ixL (rf_zN (rf_L (rf_aC (rf_op ok_pow rf_c rf_c) (rf_aC (rf_U ok_neg (rf_op ok_pow rf_c rf_c)) (rf_aC (rf_op ok_pow rf_c rf_c) (rf_aC rf_c (rf_aC (rf_U ok_neg rf_c) (rf_aC rf_c rf_aN)))))))) (rf_op ok_mod rf_v rf_c))) rf_Nx) (rf_Ret (rf_op ok_sub (rf_op ok_mod rf_v rf_c) rf_c)))))⟩
def b_l_box : SF := (sSeq (sSetN 2 (eL (aC (eC (.int 0)) (aC (eC (.int 1)) (aC (eB gPow (eC (.int 10)) (eC (.int 42))) (aC (eB gSub' (eB gPow (eC (.int 10)) (eC (.int 42))) (eC (.int 1))) aN)))))) (sSeq (sSet 3 (eB gMod (eB gDiv (eV 0) (eC (.int 3))) (eC (.int 61)))) (sSeq (sSet 4 (eB gMod (eB gDiv (eV 1) (eC (.int 3))) (eC (.int 61)))) (sSeq (sIf (bZ (eB (gEq false) (eB gMod (eV 0) (eC (.int 3))) (eC (.int 1)))) (sSet 3 (eB gMod (eB gMul (eV 0) (eB gPow (eC (.int 7919)) (eC (.int 11)))) (eB gAdd (eB gPow (eC (.int 10)) (eC (.int 42))) (eC (.int 1))))) sNx) (sSeq (sIf (bZ (eB (gEq false) (eB gMod (eV 0) (eC (.int 3))) (eC (.int 2)))) (sSet 3 (eBV gIxL 2 (eB gMod (eB gDiv (eV 0) (eC (.int 3))) (eC (.int 4))))) sNx) (sSeq (sIf (bZ (eB (gEq false) (eB gMod (eV 1) (eC (.int 3))) (eC (.int 1)))) (sSet 4 (eB gMod (eB gMul (eV 1) (eB gPow (eC (.int 7919)) (eC (.int 11)))) (eB gAdd (eB gPow (eC (.int 10)) (eC (.int 42))) (eC (.int 1))))) sNx) (sSeq (sIf (bZ (eB (gEq false) (eB gMod (eV 1) (eC (.int 3))) (eC (.int 2)))) (sSet 4 (eBV gIxL 2 (eB gMod (eB gDiv (eV 1) (eC (.int 3))) (eC (.int 4))))) sNx) (sRet (eT (aC (eV 3) (aC (eV 4) aN)))))))))))
def d_l_box : List D → Option R1 := fD 5 2 b_l_box
theorem sc_l_box : FnScope ["_law_cell", "_law_other", "_law_ends_here", "_law_w", "_law_h"] ["_law_cell", "_law_other"] (defScope s_l_box) := ⟨rfl, rfl, rfl, by decide +kernel, rfl, by decide +kernel, by decide +kernel⟩
theorem ok_l_box {f : Addr} {fd : FuncData} (F : Fun K "_law_box" "_law_box" s_l_box f fd) (T : Txt K mg c)  : FnOk P w K mg base (CXe P w) 3 f fd ["_law_cell", "_law_other"] (spD K c d_l_box) :=
  F.okD (k := 2) sc_l_box fun cdv A outer s H E hr => ⟨_, (pss_cons (ps_set (i := 2) sc_l_box.nd rfl (Or.inl rfl) (pe_lst (pa_cons pe_int (pa_cons pe_int (pa_cons (pe_op op_pow pe_int pe_int) (pa_cons (pe_op op_sub (pe_op op_pow pe_int pe_int) pe_int) pa_nil)))))) (pss_cons (ps_set (i := 3) sc_l_box.nd rfl (Or.inl rfl) (pe_op op_mod (pe_op op_fdivB (pv 0) pe_int) pe_int)) (pss_cons (ps_set (i := 4) sc_l_box.nd rfl (Or.inl rfl) (pe_op op_mod (pe_op op_fdivB (pv 1) pe_int) pe_int)) (pss_cons (ps_if (pt_cmpR op_eq (pe_op op_mod (pv 0) pe_int) pe_int (nomark _)) (pss_one (ps_set (i := 3) sc_l_box.nd rfl (Or.inl rfl) (pe_op op_mod (pe_op op_mulB (pv 0) (pe_op op_pow pe_int pe_int)) (pe_op op_add (pe_op op_pow pe_int pe_int) pe_int)))) pss_nil) (pss_cons (ps_if (pt_cmpR op_eq (pe_op op_mod (pv 0) pe_int) pe_int (nomark _)) (pss_one (ps_set (i := 3) sc_l_box.nd rfl (Or.inl rfl) (pe_ix (ixK_list (K := K)) (pv 2) (pe_op op_mod (pe_op op_fdivB (pv 0) pe_int) pe_int) (fun _ _ => rfl)))) pss_nil) (pss_cons (ps_if (pt_cmpR op_eq (pe_op op_mod (pv 1) pe_int) pe_int (nomark _)) (pss_one (ps_set (i := 4) sc_l_box.nd rfl (Or.inl rfl) (pe_op op_mod (pe_op op_mulB (pv 1) (pe_op op_pow pe_int pe_int)) (pe_op op_add (pe_op op_pow pe_int pe_int) pe_int)))) pss_nil) (pss_cons (ps_if (pt_cmpR op_eq (pe_op op_mod (pv 1) pe_int) pe_int (nomark _)) (pss_one (ps_set (i := 4) sc_l_box.nd rfl (Or.inl rfl) (pe_ix (ixK_list (K := K)) (pv 2) (pe_op op_mod (pe_op op_fdivB (pv 1) pe_int) pe_int) (fun _ _ => rfl)))) pss_nil) (pss_one (ps_ret (pe_tup (pa_cons (pv 3) (pa_cons (pv 4) pa_nil)))))))))))), (rf_Seq (rf_SetN (rf_L (rf_aC rf_c (rf_aC rf_c (rf_aC (rf_op ok_pow rf_c rf_c) (rf_aC (rf_op ok_sub (rf_op ok_pow rf_c rf_c) rf_c) rf_aN)))))) (rf_Seq (rf_Set (rf_op ok_mod (rf_op ok_div rf_v rf_c) rf_c)) (rf_Seq (rf_Set (rf_op ok_mod (rf_op ok_div rf_v rf_c) rf_c)) (rf_Seq (rf_If' (rf_bT (rf_op ok_eq (rf_op ok_mod rf_v rf_c) rf_c)) (rf_Set (rf_op ok_mod (rf_op ok_mul rf_v (rf_op ok_pow rf_c rf_c)) (rf_op ok_add (rf_op ok_pow rf_c rf_c) rf_c))) rf_Nx) (rf_Seq (rf_If' (rf_bT (rf_op ok_eq (rf_op ok_mod rf_v rf_c) rf_c)) (rf_Set (rf_opV ok_ixL (rf_op ok_mod (rf_op ok_div rf_v rf_c) rf_c))) rf_Nx) (rf_Seq (rf_If' (rf_bT (rf_op ok_eq (rf_op ok_mod rf_v rf_c) rf_c)) (rf_Set (rf_op ok_mod (rf_op ok_mul rf_v (rf_op ok_pow rf_c rf_c)) (rf_op ok_add (rf_op ok_pow rf_c rf_c) rf_c))) rf_Nx) (rf_Seq (rf_If' (rf_bT (rf_op ok_eq (rf_op ok_mod rf_v rf_c) rf_c)) (rf_Set (rf_opV ok_ixL (rf_op ok_mod (rf_op ok_div rf_v rf_c) rf_c))) rf_Nx) (rf_Ret (rf_T (rf_aC rf_v (rf_aC rf_v rf_aN)))))))))))⟩
def b_l_kinds : SF := (sSeq (sSet 1 (eCB (gIsiT xT) (aC (eV 0) (aC (eT (aC (eC (.cls "BadSide")) (aC (eC (.cls "NoText")) (aC (eC (.cls "TooMany")) (aC (eC (.cls "Ring")) (aC (eC (.cls "NoWeighing")) (aC (eC (.cls "NoPicker")) (aC (eC (.cls "NoSheet")) (aC (eC (.cls "NoDrawing")) aN))))))))) aN)))) (sSeq (sSet 2 (eCB (gIsiT xT) (aC (eV 0) (aC (eT (aC (eC (.cls "NoDeed")) (aC (eC (.cls "NoWare")) (aC (eC (.cls "Full")) (aC (eC (.cls "NothingDone")) (aC (eC (.cls "TooWide")) (aC (eC (.cls "Hangs")) (aC (eC (.cls "BadPlan")) (aC (eC (.cls "BadPacking")) aN))))))))) aN)))) (sRetN (eL (aC (eAnd (eCB (gIsiX x1 x2) (aC (eV 0) (aC (eC (.cls "CrateError")) aN))) (eCB (gIsiX x1 x2) (aC (eV 0) (aC (eC (.ty "ValueError")) aN)))) (aC (eOr (eV 1) (eV 2)) aN))))))
def d_l_kinds : List D → Option R1 := fD 3 1 b_l_kinds
theorem sc_l_kinds : FnScope ["_law_e", "_law_one", "_law_two"] ["_law_e"] (defScope s_l_kinds) := ⟨rfl, rfl, rfl, by decide +kernel, rfl, by decide +kernel, by decide +kernel⟩
theorem ok_l_kinds {f : Addr} {fd : FuncData} (F : Fun K "_law_kinds" "_law_kinds" s_l_kinds f fd) (T : Txt K mg c)  : FnOkW P w K mg base 3 f fd ["_law_e"] (spD K c d_l_kinds) :=
  F.okWD (k := 2) sc_l_kinds fun cdv A outer s H hr => ⟨_, (pss_cons (ps_set (i := 1) sc_l_kinds.nd rfl (Or.inl rfl) (pe_callB (callK_isiT (K := K)) rfl T.z_isinstance bt_isinstance (pa_cons (pv 0) (pa_cons (pe_tup (pa_cons (pe_glob (v := .ref (c "BadSide")) rfl T.m_BadSide rfl) (pa_cons (pe_glob (v := .ref (c "NoText")) rfl T.m_NoText rfl) (pa_cons (pe_glob (v := .ref (c "TooMany")) rfl T.m_TooMany rfl) (pa_cons (pe_glob (v := .ref (c "Ring")) rfl T.m_Ring rfl) (pa_cons (pe_glob (v := .ref (c "NoWeighing")) rfl T.m_NoWeighing rfl) (pa_cons (pe_glob (v := .ref (c "NoPicker")) rfl T.m_NoPicker rfl) (pa_cons (pe_glob (v := .ref (c "NoSheet")) rfl T.m_NoSheet rfl) (pa_cons (pe_glob (v := .ref (c "NoDrawing")) rfl T.m_NoDrawing rfl) pa_nil))))))))) pa_nil)))) (pss_cons (ps_set (i := 2) sc_l_kinds.nd rfl (Or.inl rfl) (pe_callB (callK_isiT (K := K)) rfl T.z_isinstance bt_isinstance (pa_cons (pv 0) (pa_cons (pe_tup (pa_cons (pe_glob (v := .ref (c "NoDeed")) rfl T.m_NoDeed rfl) (pa_cons (pe_glob (v := .ref (c "NoWare")) rfl T.m_NoWare rfl) (pa_cons (pe_glob (v := .ref (c "Full")) rfl T.m_Full rfl) (pa_cons (pe_glob (v := .ref (c "NothingDone")) rfl T.m_NothingDone rfl) (pa_cons (pe_glob (v := .ref (c "TooWide")) rfl T.m_TooWide rfl) (pa_cons (pe_glob (v := .ref (c "Hangs")) rfl T.m_Hangs rfl) (pa_cons (pe_glob (v := .ref (c "BadPlan")) rfl T.m_BadPlan rfl) (pa_cons (pe_glob (v := .ref (c "BadPacking")) rfl T.m_BadPacking rfl) pa_nil))))))))) pa_nil)))) (pss_one (ps_ret (pe_lst (pa_cons (pe_and (pe_callB (callK_isi (K := K)) rfl T.z_isinstance bt_isinstance (pa_cons (pv 0) (pa_cons (pe_glob (v := .ref (c "CrateError")) rfl T.m_CrateError rfl) pa_nil))) (pe_one (pe_callB (callK_isi (K := K)) rfl T.z_isinstance bt_isinstance (pa_cons (pv 0) (pa_cons (pe_bltn (v := .ty "ValueError") rfl T.z_ValueError bt_ValueError rfl) pa_nil))))) (pa_cons (pe_or (pv 1) (pe_one (pv 2))) pa_nil))))))), (rf_Seq (rf_Set (rf_CB (ok_isiT (xT_ok T)) (rf_aC rf_v (rf_aC (rf_T (rf_aC rf_c (rf_aC rf_c (rf_aC rf_c (rf_aC rf_c (rf_aC rf_c (rf_aC rf_c (rf_aC rf_c (rf_aC rf_c rf_aN))))))))) rf_aN)))) (rf_Seq (rf_Set (rf_CB (ok_isiT (xT_ok T)) (rf_aC rf_v (rf_aC (rf_T (rf_aC rf_c (rf_aC rf_c (rf_aC rf_c (rf_aC rf_c (rf_aC rf_c (rf_aC rf_c (rf_aC rf_c (rf_aC rf_c rf_aN))))))))) rf_aN)))) (rf_RetN (rf_L (rf_aC (rf_And (rf_CB (ok_isiX (x1_ok T) (x2_ok T)) (rf_aC rf_v (rf_aC rf_c rf_aN))) (rf_CB (ok_isiX (x1_ok T) (x2_ok T)) (rf_aC rf_v (rf_aC rf_c rf_aN)))) (rf_aC (rf_Or rf_v rf_v) rf_aN))))))⟩
def b_l_case : SF := (sSeq (sSetN 1 (eL aN)) (sSeq (sSetN 2 (eL aN)) (sSeq (sFor (zN (nSlV 0 (oS (eC (.int 4))) (oS (eC (.int 34)))))  (bName 3) (sSeq (sSet 4 (eB gMod (eV 3) (eB gPow (eC (.int 10)) (eC (.int 60))))) (sSeq (sSet 5 (eB gMod (eB gAdd (eB gMul (eV 4) (eC (.int 48271))) (eC (.int 7))) (eC (.int 2147483647)))) (sSeq (sSetC0 6 d_l_ware (aC (eB gAdd (eB gMul (eV 4) (eC (.int 31))) (eC (.int 5))) aN)) (sSeq (sApp 1 (eV 6)) (sApp 2 (eT (aC (eCall0 d_l_far (aC (eV 4) aN)) (aC (eCall0 d_l_far (aC (eB gDiv (eV 5) (eC (.int 4))) aN)) (aC (eAnd (eB gIxT (eV 6) (eC (.int 2))) (eB gGt (eB gMod (eV 5) (eC (.int 4))) (eC (.int 1)))) aN)))))))))) (sRet (eT (aC (eV 1) (aC (eV 2) aN)))))))
def d_l_case : List D → Option R1 := fD 7 1 b_l_case
theorem sc_l_case : FnScope ["_law_script", "_law_wares", "_law_places", "_law_cell", "_law_number", "_law_mix", "_law_ware_here"] ["_law_script"] (defScope s_l_case) := ⟨rfl, rfl, rfl, by decide +kernel, rfl, by decide +kernel, by decide +kernel⟩
theorem ok_l_case {f : Addr} {fd : FuncData} (F : Fun K "_law_case" "_law_case" s_l_case f fd) (T : Txt K mg c) (G_l_ware : Own P w K mg base 5 "_law_ware" ["_law_cell"] (spD K c d_l_ware)) (G_l_far : Own P w K mg base 3 "_law_far" ["_law_cell"] (spD K c d_l_far)) : FnOk P w K mg base (CXe P w) 7 f fd ["_law_script"] (spD K c d_l_case) :=
  F.okD (k := 6) sc_l_case fun cdv A outer s H E hr => ⟨_, (pss_cons (ps_set (i := 1) sc_l_case.nd rfl (Or.inl rfl) (pe_lst pa_nil)) (pss_cons (ps_set (i := 2) sc_l_case.nd rfl (Or.inl rfl) (pe_lst pa_nil)) (pss_cons (ps_for PassesOwn.leaving rfl (pi_list (pe_slice (slK_list (K := K)) (pv 0) (po_some pe_int) (po_some pe_int))) (pg_name (i := 3) sc_l_case.nd rfl (Or.inl rfl)) (pss_cons (ps_set (i := 4) sc_l_case.nd rfl (Or.inl rfl) (pe_op op_mod (pv 3) (pe_op op_pow pe_int pe_int))) (pss_cons (ps_set (i := 5) sc_l_case.nd rfl (Or.inl rfl) (pe_op op_mod (pe_op op_add (pe_op op_mulB (pv 4) pe_int) pe_int) pe_int)) (pss_cons (ps_set (i := 6) sc_l_case.nd rfl (Or.inl rfl) (pe_own G_l_ware hr (by decide) pass0e (pa_cons (pe_op op_add (pe_op op_mulB (pv 4) pe_int) pe_int) pa_nil))) (pss_cons (ps_expr (pe_bmK (K := K) PySem.F.plainAttrs_list PySem.F.slot_list_append PySem.F.type_list_append mt_append (pv 1) (pa_cons (pv 6) pa_nil))) (pss_one (ps_expr (pe_bmK (K := K) PySem.F.plainAttrs_list PySem.F.slot_list_append PySem.F.type_list_append mt_append (pv 2) (pa_cons (pe_tup (pa_cons (pe_own G_l_far hr (by decide) pass0e (pa_cons (pv 4) pa_nil)) (pa_cons (pe_own G_l_far hr (by decide) pass0e (pa_cons (pe_op op_fdivB (pv 5) pe_int) pa_nil)) (pa_cons (pe_and (pe_ix (ixK_tup (K := K)) (pv 6) pe_int (fun _ _ => rfl)) (pe_one (pe_cmpR op_gt (pe_op op_mod (pv 5) pe_int) pe_int (nomark _)))) pa_nil)))) pa_nil))))))))) (pss_one (ps_ret (pe_tup (pa_cons (pv 1) (pa_cons (pv 2) pa_nil)))))))), (rf_Seq (rf_SetN (rf_L rf_aN)) (rf_Seq (rf_SetN (rf_L rf_aN)) (rf_Seq (rf_For (rf_zN (rf_SlV (rf_oS rf_c) (rf_oS rf_c))) (rf_gName (k := 7) (by decide)) (rf_Seq (rf_Set (rf_op ok_mod rf_v (rf_op ok_pow rf_c rf_c))) (rf_Seq (rf_Set (rf_op ok_mod (rf_op ok_add (rf_op ok_mul rf_v rf_c) rf_c) rf_c)) (rf_Seq (rf_SetC0 (rf_aC (rf_op ok_add (rf_op ok_mul rf_v rf_c) rf_c) rf_aN)) (rf_Seq (rf_App rf_v) (rf_App (rf_T (rf_aC (rf_Call0 (rf_aC rf_v rf_aN)) (rf_aC (rf_Call0 (rf_aC (rf_op ok_div rf_v rf_c) rf_aN)) (rf_aC (rf_And (rf_op ok_ixT rf_v rf_c) (rf_op ok_gt (rf_op ok_mod rf_v rf_c) rf_c)) rf_aN)))))))))) (rf_Ret (rf_T (rf_aC rf_v (rf_aC rf_v rf_aN)))))))⟩
def b_l_spots : SF := (sSeq (sSetN 2 (eL aN)) (sSeq (sForZ (aC (eV 0) (aC (eV 1) aN))  (bTup [(bName 3), (bName 4)]) (sSeq (sPar 5 6 (aC (eB gIxT (eV 3) (eC (.int 0))) (aC (eB gIxT (eV 3) (eC (.int 1))) aN))) (sSeq (sIf (bZ (eB gIxT (eV 4) (eC (.int 2)))) (sPar 5 6 (aC (eV 6) (aC (eV 5) aN))) sNx) (sApp 2 (eT (aC (eB gIxT (eV 4) (eC (.int 0))) (aC (eB gIxT (eV 4) (eC (.int 1))) (aC (eB gAdd (eB gIxT (eV 4) (eC (.int 0))) (eV 5)) (aC (eB gAdd (eB gIxT (eV 4) (eC (.int 1))) (eV 6)) aN))))))))) (sRetV 2)))
def d_l_spots : List D → Option R1 := fD 7 2 b_l_spots
theorem sc_l_spots : FnScope ["_law_wares", "_law_places", "_law_spots_here", "_law_ware_here", "_law_place", "_law_w", "_law_h"] ["_law_wares", "_law_places"] (defScope s_l_spots) := ⟨rfl, rfl, rfl, by decide +kernel, rfl, by decide +kernel, by decide +kernel⟩
theorem ok_l_spots {f : Addr} {fd : FuncData} (F : Fun K "_law_spots" "_law_spots" s_l_spots f fd) (T : Txt K mg c)  : FnOk P w K mg base (CXe P w) 3 f fd ["_law_wares", "_law_places"] (spD K c d_l_spots) :=
  F.okD (k := 2) sc_l_spots fun cdv A outer s H E hr => ⟨_, (pss_cons (ps_set (i := 2) sc_l_spots.nd rfl (Or.inl rfl) (pe_lst pa_nil)) (pss_cons (ps_for PassesOwn.leaving rfl (pi_zip rfl T.z_zip (pa_cons (pv 0) (pa_cons (pv 1) pa_nil))) (pgK_tup (K := K) (n := 2) rfl (pgs_cons (pg_name (i := 3) sc_l_spots.nd rfl (Or.inl rfl)) (pgs_cons (pg_name (i := 4) sc_l_spots.nd rfl (Or.inl rfl)) pgs_nil))) (pss_cons (ps_par (i := 5) (j := 6) rfl sc_l_spots.nd rfl rfl (by decide) rfl rfl (pa_cons (pe_ix (ixK_tup (K := K)) (pv 3) pe_int (fun _ _ => rfl)) (pa_cons (pe_ix (ixK_tup (K := K)) (pv 3) pe_int (fun _ _ => rfl)) pa_nil)) rfl) (pss_cons (ps_if (pt_val (pe_ix (ixK_tup (K := K)) (pv 4) pe_int (fun _ _ => rfl))) (pss_one (ps_par (i := 5) (j := 6) rfl sc_l_spots.nd rfl rfl (by decide) rfl rfl (pa_cons (pv 6) (pa_cons (pv 5) pa_nil)) rfl)) pss_nil) (pss_one (ps_expr (pe_bmK (K := K) PySem.F.plainAttrs_list PySem.F.slot_list_append PySem.F.type_list_append mt_append (pv 2) (pa_cons (pe_tup (pa_cons (pe_ix (ixK_tup (K := K)) (pv 4) pe_int (fun _ _ => rfl)) (pa_cons (pe_ix (ixK_tup (K := K)) (pv 4) pe_int (fun _ _ => rfl)) (pa_cons (pe_op op_add (pe_ix (ixK_tup (K := K)) (pv 4) pe_int (fun _ _ => rfl)) (pv 5)) (pa_cons (pe_op op_add (pe_ix (ixK_tup (K := K)) (pv 4) pe_int (fun _ _ => rfl)) (pv 6)) pa_nil))))) pa_nil))))))) (pss_one (ps_ret (pv 2))))), (rf_Seq (rf_SetN (rf_L rf_aN)) (rf_Seq (rf_ForZ (rf_aC rf_v (rf_aC rf_v rf_aN)) (rf_gTup (rf_gCons (rf_gName (k := 7) (by decide)) (rf_gCons (rf_gName (k := 7) (by decide)) rf_gNil)) rfl) (rf_Seq (rf_Par (rf_aC (rf_op ok_ixT rf_v rf_c) (rf_aC (rf_op ok_ixT rf_v rf_c) rf_aN))) (rf_Seq (rf_If' (rf_bZ (rf_op ok_ixT rf_v rf_c)) (rf_Par (rf_aC rf_v (rf_aC rf_v rf_aN))) rf_Nx) (rf_App (rf_T (rf_aC (rf_op ok_ixT rf_v rf_c) (rf_aC (rf_op ok_ixT rf_v rf_c) (rf_aC (rf_op ok_add (rf_op ok_ixT rf_v rf_c) rf_v) (rf_aC (rf_op ok_add (rf_op ok_ixT rf_v rf_c) rf_v) rf_aN))))))))) rf_RetV))⟩
def b_l_used : SF := (sSeq (sTryAs 4 3 xm_BadTurn (sSetC 2 d_used (aC (eV 0) (aC (eV 1) aN))) (sSetC0 2 d_l_kinds (aC (eV 3) aN))) (sRetV 2))
def d_l_used : List D → Option R1 := fD 4 2 b_l_used
theorem sc_l_used : FnScope ["_law_wares", "_law_places", "_law_found", "_law_e"] ["_law_wares", "_law_places"] (defScope s_l_used) := ⟨rfl, rfl, rfl, by decide +kernel, rfl, by decide +kernel, by decide +kernel⟩
theorem ok_l_used {f : Addr} {fd : FuncData} (F : Fun K "_law_used" "_law_used" s_l_used f fd) (T : Txt K mg c) (G_used : Own P w K mg base 9 "used" ["wares", "places"] (spD K c d_used)) (G_l_kinds : OwnW P w K mg base 3 "_law_kinds" ["_law_e"] (spD K c d_l_kinds)) : FnOk P w K mg base (CXe P w) 11 f fd ["_law_wares", "_law_places"] (spD K c d_l_used) :=
  F.okD (k := 10) sc_l_used fun cdv A outer s H E hr => ⟨_, (pss_cons (ps_tryAs rfl T.m_BadTurn sc_l_used.nd (i := 3) rfl (fun Eh E2 pins acc po => (pss_one (ps_set (i := 2) sc_l_used.nd rfl (Or.inl rfl) (pe_own G_used hr (by decide) (XAcc.passes acc) (pa_cons (pv 0) (pa_cons (pv 1) pa_nil)))))) (fun a => (pss_one (ps_set (i := 2) sc_l_used.nd rfl (Or.inl rfl) (pe_ownW G_l_kinds (hr.w _) (pa_cons (pv 3) pa_nil)))))) (pss_one (ps_ret (pv 2)))), (rf_Seq (rf_TryAs (xm_BadTurn_ok T) (fun Eh => (rf_SetC (rf_aC rf_v (rf_aC rf_v rf_aN)))) (fun a => (rf_SetW (rf_aC rf_v rf_aN)))) rf_RetV)⟩
def b_l_mirrored : SF := (sSeq (sTryAs 6 5 xm_BadTurn (sSetC 4 d_mirrored (aC (eV 0) (aC (eV 1) (aC (eV 2) (aC (eV 3) aN))))) (sSetC0 4 d_l_kinds (aC (eV 5) aN))) (sRetV 4))
def d_l_mirrored : List D → Option R1 := fD 6 4 b_l_mirrored
theorem sc_l_mirrored : FnScope ["_law_box_here", "_law_wares", "_law_places", "_law_across", "_law_found", "_law_e"] ["_law_box_here", "_law_wares", "_law_places", "_law_across"] (defScope s_l_mirrored) := ⟨rfl, rfl, rfl, by decide +kernel, rfl, by decide +kernel, by decide +kernel⟩
theorem ok_l_mirrored {f : Addr} {fd : FuncData} (F : Fun K "_law_mirrored" "_law_mirrored" s_l_mirrored f fd) (T : Txt K mg c) (G_mirrored : Own P w K mg base 9 "mirrored" ["box", "wares", "places", "across"] (spD K c d_mirrored)) (G_l_kinds : OwnW P w K mg base 3 "_law_kinds" ["_law_e"] (spD K c d_l_kinds)) : FnOk P w K mg base (CXe P w) 11 f fd ["_law_box_here", "_law_wares", "_law_places", "_law_across"] (spD K c d_l_mirrored) :=
  F.okD (k := 10) sc_l_mirrored fun cdv A outer s H E hr => ⟨_, (pss_cons (ps_tryAs rfl T.m_BadTurn sc_l_mirrored.nd (i := 5) rfl (fun Eh E2 pins acc po => (pss_one (ps_set (i := 4) sc_l_mirrored.nd rfl (Or.inl rfl) (pe_own G_mirrored hr (by decide) (XAcc.passes acc) (pa_cons (pv 0) (pa_cons (pv 1) (pa_cons (pv 2) (pa_cons (pv 3) pa_nil)))))))) (fun a => (pss_one (ps_set (i := 4) sc_l_mirrored.nd rfl (Or.inl rfl) (pe_ownW G_l_kinds (hr.w _) (pa_cons (pv 5) pa_nil)))))) (pss_one (ps_ret (pv 4)))), (rf_Seq (rf_TryAs (xm_BadTurn_ok T) (fun Eh => (rf_SetC (rf_aC rf_v (rf_aC rf_v (rf_aC rf_v (rf_aC rf_v rf_aN)))))) (fun a => (rf_SetW (rf_aC rf_v rf_aN)))) rf_RetV)⟩
def b_l_ends : SF := (sSeq (sIf (bNot (bZ (eCall0 d_l_whole (aC (eV 0) aN)))) (sRet (eC (.bl false))) sNx) (sSeq (sForV 1 (bName 2) (sIf (bZ (eB gGt (eV 2) (eV 0))) (sRet (eC (.bl false))) sNx)) (sRet (eOr (eBW (gIn false) (eV 0) 1) (eAnd (eB (gEq false) (eCV gLen 1) (eC (.int 0))) (eB (gEq false) (eV 0) (eC (.int 0))))))))
def d_l_ends : List D → Option R1 := fD 3 2 b_l_ends
theorem sc_l_ends : FnScope ["_law_found", "_law_ends_here", "_law_end"] ["_law_found", "_law_ends_here"] (defScope s_l_ends) := ⟨rfl, rfl, rfl, by decide +kernel, rfl, by decide +kernel, by decide +kernel⟩
theorem ok_l_ends {f : Addr} {fd : FuncData} (F : Fun K "_law_ends" "_law_ends" s_l_ends f fd) (T : Txt K mg c) (G_l_whole : Own P w K mg base 3 "_law_whole" ["_law_found"] (spD K c d_l_whole)) : FnOk P w K mg base (CXe P w) 5 f fd ["_law_found", "_law_ends_here"] (spD K c d_l_ends) :=
  F.okD (k := 4) sc_l_ends fun cdv A outer s H E hr => ⟨_, (pss_cons (ps_if (pt_not (pt_val (pe_own G_l_whole hr (by decide) pass0e (pa_cons (pv 0) pa_nil)))) (pss_one (ps_ret pe_bl)) pss_nil) (pss_cons (ps_for PassesOwn.leaving rfl (pi_list (pv 1)) (pg_name (i := 2) sc_l_ends.nd rfl (Or.inl rfl)) (pss_one (ps_if (pt_cmpR op_gt (pv 2) (pv 0) (nomark _)) (pss_one (ps_ret pe_bl)) pss_nil))) (pss_one (ps_ret (pe_or (pe_cmpR (opK_in (K := K)) (pv 0) (pv 1) (by with_unfolding_all rfl)) (pe_one (pe_and (pe_cmpR op_eq (pe_callB (callK_len_seq (K := K)) rfl T.z_len bt_len (pa_cons (pv 1) pa_nil)) pe_int (nomark _)) (pe_one (pe_cmpR op_eq (pv 0) pe_int (nomark _)))))))))), (rf_Seq (rf_If' (rf_bNot (rf_bZ (rf_Call0 (rf_aC rf_v rf_aN)))) (rf_Ret rf_c) rf_Nx) (rf_Seq (rf_ForV (rf_gName (k := 3) (by decide)) (rf_If' (rf_bT (rf_op ok_gt rf_v rf_v)) (rf_Ret rf_c) rf_Nx)) (rf_Ret (rf_Or (rf_opW ok_in rf_v) (rf_And (rf_op ok_eq (rf_CV ok_len) rf_c) (rf_op ok_eq rf_v rf_c))))))⟩
def b_l_mirror : SF := (sSeq (sIf (bOr (bNot (bZ (eIsiV 0 "list"))) (bZ (eB (gEq true) (eCV gLen 0) (eCV gLen 2)))) (sRet (eC (.bl false))) sNx) (sSeq (sForZ3 (aC (eV 0) (aC (eV 2) (aC (eV 3) aN)))  (bTup [(bName 5), (bName 6), (bName 7)]) (sSeq (sIf (bOr (bNot (bZ (eIsiV 5 "tuple"))) (bOr (bZ (eB (gEq true) (eCV gLen 5) (eC (.int 3)))) (bNot (bZ (eCB gIsi (aC (eB gIxT (eV 5) (eC (.int 2))) (aC (eC (.ty "bool")) aN))))))) (sRet (eC (.bl false))) sNx) (sSeq (sIf (bOr (bNot (bZ (eCall0 d_l_whole (aC (eB gIxT (eV 5) (eC (.int 0))) aN)))) (bOr (bNot (bZ (eCall0 d_l_whole (aC (eB gIxT (eV 5) (eC (.int 1))) aN)))) (bZ (eB (gEq true) (eB gIxT (eV 5) (eC (.int 2))) (eB gIxT (eV 6) (eC (.int 2))))))) (sRet (eC (.bl false))) sNx) (sSeq (sIf (bAnd (bZ (eV 4)) (bOr (bZ (eB (gEq true) (eB gIxT (eV 5) (eC (.int 0))) (eB gSub' (eB gIxT (eV 1) (eC (.int 0))) (eB gIxT (eV 7) (eC (.int 2)))))) (bZ (eB (gEq true) (eB gIxT (eV 5) (eC (.int 1))) (eB gIxT (eV 6) (eC (.int 1))))))) (sRet (eC (.bl false))) sNx) (sIf (bAnd (bNot (bZ (eV 4))) (bOr (bZ (eB (gEq true) (eB gIxT (eV 5) (eC (.int 1))) (eB gSub' (eB gIxT (eV 1) (eC (.int 1))) (eB gIxT (eV 7) (eC (.int 3)))))) (bZ (eB (gEq true) (eB gIxT (eV 5) (eC (.int 0))) (eB gIxT (eV 6) (eC (.int 0))))))) (sRet (eC (.bl false))) sNx))))) (sRet (eC (.bl true)))))
def d_l_mirror : List D → Option R1 := fD 8 5 b_l_mirror
theorem sc_l_mirror : FnScope ["_law_found", "_law_box_here", "_law_places", "_law_spots_here", "_law_across", "_law_told", "_law_place", "_law_spot"] ["_law_found", "_law_box_here", "_law_places", "_law_spots_here", "_law_across"] (defScope s_l_mirror) := ⟨rfl, rfl, rfl, by decide +kernel, rfl, by decide +kernel, by decide +kernel⟩
theorem ok_l_mirror {f : Addr} {fd : FuncData} (F : Fun K "_law_mirror" "_law_mirror" s_l_mirror f fd) (T : Txt K mg c) (G_l_whole : Own P w K mg base 3 "_law_whole" ["_law_found"] (spD K c d_l_whole)) : FnOk P w K mg base (CXe P w) 5 f fd ["_law_found", "_law_box_here", "_law_places", "_law_spots_here", "_law_across"] (spD K c d_l_mirror) :=
  F.okD (k := 4) sc_l_mirror fun cdv A outer s H E hr => ⟨_, (pss_cons (ps_if (PW.pt (pw_or (pt_not (pt_val (pe_callB (callK_isi (K := K)) rfl T.z_isinstance bt_isinstance (pa_cons (pv 0) (pa_cons (pe_bltn (v := .ty "list") rfl T.z_list bt_list rfl) pa_nil))))) (pw_or1 (pt_cmpR op_ne (pe_callB (callK_len_seq (K := K)) rfl T.z_len bt_len (pa_cons (pv 0) pa_nil)) (pe_callB (callK_len_seq (K := K)) rfl T.z_len bt_len (pa_cons (pv 2) pa_nil)) (nomark _))))) (pss_one (ps_ret pe_bl)) pss_nil) (pss_cons (ps_for PassesOwn.leaving rfl (pi_zip3 rfl T.z_zip (pa_cons (pv 0) (pa_cons (pv 2) (pa_cons (pv 3) pa_nil)))) (pgK_tup (K := K) (n := 3) rfl (pgs_cons (pg_name (i := 5) sc_l_mirror.nd rfl (Or.inl rfl)) (pgs_cons (pg_name (i := 6) sc_l_mirror.nd rfl (Or.inl rfl)) (pgs_cons (pg_name (i := 7) sc_l_mirror.nd rfl (Or.inl rfl)) pgs_nil)))) (pss_cons (ps_if (PW.pt (pw_or (pt_not (pt_val (pe_callB (callK_isi (K := K)) rfl T.z_isinstance bt_isinstance (pa_cons (pv 5) (pa_cons (pe_bltn (v := .ty "tuple") rfl T.z_tuple bt_tuple rfl) pa_nil))))) (pw_or (pt_cmpR op_ne (pe_callB (callK_len_seq (K := K)) rfl T.z_len bt_len (pa_cons (pv 5) pa_nil)) pe_int (nomark _)) (pw_or1 (pt_not (pt_val (pe_callB (callK_isi (K := K)) rfl T.z_isinstance bt_isinstance (pa_cons (pe_ix (ixK_tup (K := K)) (pv 5) pe_int (fun _ _ => rfl)) (pa_cons (pe_bltn (v := .ty "bool") rfl T.z_bool bt_bool rfl) pa_nil))))))))) (pss_one (ps_ret pe_bl)) pss_nil) (pss_cons (ps_if (PW.pt (pw_or (pt_not (pt_val (pe_own G_l_whole hr (by decide) pass0e (pa_cons (pe_ix (ixK_tup (K := K)) (pv 5) pe_int (fun _ _ => rfl)) pa_nil)))) (pw_or (pt_not (pt_val (pe_own G_l_whole hr (by decide) pass0e (pa_cons (pe_ix (ixK_tup (K := K)) (pv 5) pe_int (fun _ _ => rfl)) pa_nil)))) (pw_or1 (pt_cmpR op_ne (pe_ix (ixK_tup (K := K)) (pv 5) pe_int (fun _ _ => rfl)) (pe_ix (ixK_tup (K := K)) (pv 6) pe_int (fun _ _ => rfl)) (nomark _)))))) (pss_one (ps_ret pe_bl)) pss_nil) (pss_cons (ps_if (PW.pt (pw_and (pt_val (pv 4)) (pw_and1 (PW.pt (pw_or (pt_cmpR op_ne (pe_ix (ixK_tup (K := K)) (pv 5) pe_int (fun _ _ => rfl)) (pe_op op_sub (pe_ix (ixK_tup (K := K)) (pv 1) pe_int (fun _ _ => rfl)) (pe_ix (ixK_tup (K := K)) (pv 7) pe_int (fun _ _ => rfl))) (nomark _)) (pw_or1 (pt_cmpR op_ne (pe_ix (ixK_tup (K := K)) (pv 5) pe_int (fun _ _ => rfl)) (pe_ix (ixK_tup (K := K)) (pv 6) pe_int (fun _ _ => rfl)) (nomark _)))))))) (pss_one (ps_ret pe_bl)) pss_nil) (pss_one (ps_if (PW.pt (pw_and (pt_not (pt_val (pv 4))) (pw_and1 (PW.pt (pw_or (pt_cmpR op_ne (pe_ix (ixK_tup (K := K)) (pv 5) pe_int (fun _ _ => rfl)) (pe_op op_sub (pe_ix (ixK_tup (K := K)) (pv 1) pe_int (fun _ _ => rfl)) (pe_ix (ixK_tup (K := K)) (pv 7) pe_int (fun _ _ => rfl))) (nomark _)) (pw_or1 (pt_cmpR op_ne (pe_ix (ixK_tup (K := K)) (pv 5) pe_int (fun _ _ => rfl)) (pe_ix (ixK_tup (K := K)) (pv 6) pe_int (fun _ _ => rfl)) (nomark _)))))))) (pss_one (ps_ret pe_bl)) pss_nil)))))) (pss_one (ps_ret pe_bl)))), (rf_Seq (rf_If' (rf_bOr (rf_bNot (rf_bZ rf_IsiV)) (rf_bT (rf_op ok_ne (rf_CV ok_len) (rf_CV ok_len)))) (rf_Ret rf_c) rf_Nx) (rf_Seq (rf_ForZ3 (rf_aC rf_v (rf_aC rf_v (rf_aC rf_v rf_aN))) (rf_gTup (rf_gCons (rf_gName (k := 8) (by decide)) (rf_gCons (rf_gName (k := 8) (by decide)) (rf_gCons (rf_gName (k := 8) (by decide)) rf_gNil))) rfl) (rf_Seq (rf_If' (rf_bOr (rf_bNot (rf_bZ rf_IsiV)) (rf_bOr (rf_bT (rf_op ok_ne (rf_CV ok_len) rf_c)) (rf_bNot (rf_bZ (rf_CB ok_isi (rf_aC (rf_op ok_ixT rf_v rf_c) (rf_aC rf_c rf_aN))))))) (rf_Ret rf_c) rf_Nx) (rf_Seq (rf_If' (rf_bOr (rf_bNot (rf_bZ (rf_Call0 (rf_aC (rf_op ok_ixT rf_v rf_c) rf_aN)))) (rf_bOr (rf_bNot (rf_bZ (rf_Call0 (rf_aC (rf_op ok_ixT rf_v rf_c) rf_aN)))) (rf_bT (rf_op ok_ne (rf_op ok_ixT rf_v rf_c) (rf_op ok_ixT rf_v rf_c))))) (rf_Ret rf_c) rf_Nx) (rf_Seq (rf_If' (rf_bAnd (rf_bZ rf_v) (rf_bOr (rf_bT (rf_op ok_ne (rf_op ok_ixT rf_v rf_c) (rf_op ok_sub (rf_op ok_ixT rf_v rf_c) (rf_op ok_ixT rf_v rf_c)))) (rf_bT (rf_op ok_ne (rf_op ok_ixT rf_v rf_c) (rf_op ok_ixT rf_v rf_c))))) (rf_Ret rf_c) rf_Nx) (rf_If' (rf_bAnd (rf_bNot (rf_bZ rf_v)) (rf_bOr (rf_bT (rf_op ok_ne (rf_op ok_ixT rf_v rf_c) (rf_op ok_sub (rf_op ok_ixT rf_v rf_c) (rf_op ok_ixT rf_v rf_c)))) (rf_bT (rf_op ok_ne (rf_op ok_ixT rf_v rf_c) (rf_op ok_ixT rf_v rf_c))))) (rf_Ret rf_c) rf_Nx))))) (rf_Ret rf_c)))⟩
def b_l_good : SF := (sSeq (sSetC0 3 d_l_spots (aC (eV 1) (aC (eV 2) aN))) (sSeq (sSetC0 4 d_l_used (aC (eV 1) (aC (eV 2) aN))) (sSeq (sIf (bOr (bNot (bZ (eIsiV 4 "tuple"))) (bZ (eB (gEq true) (eCV gLen 4) (eC (.int 2))))) (sRet (eC (.bl false))) sNx) (sSeq (sIf (bOr (bNot (bZ (eCall0 d_l_ends (aC (eB gIxT (eV 4) (eC (.int 0))) (aC (zN (nCompV 3 1 [] (bName 0) bTrue (eB gIxT (eV 0) (eC (.int 2))))) aN))))) (bNot (bZ (eCall0 d_l_ends (aC (eB gIxT (eV 4) (eC (.int 1))) (aC (zN (nCompV 3 1 [] (bName 0) bTrue (eB gIxT (eV 0) (eC (.int 3))))) aN)))))) (sRet (eC (.bl false))) sNx) (sSeq (sFor (zN (eL (aC (eC (.bl true)) (aC (eC (.bl false)) aN))))  (bName 5) (sIf (bNot (bZ (eCall0 d_l_mirror (aC (eCall0 d_l_mirrored (aC (eV 0) (aC (eV 1) (aC (eV 2) (aC (eV 5) aN))))) (aC (eV 0) (aC (eV 2) (aC (eV 3) (aC (eV 5) aN)))))))) (sRet (eC (.bl false))) sNx)) (sRet (eC (.bl true))))))))
def d_l_good : List D → Option R1 := fD 6 3 b_l_good
theorem sc_l_good : FnScope ["_law_box_here", "_law_wares", "_law_places", "_law_spots_here", "_law_found", "_law_across"] ["_law_box_here", "_law_wares", "_law_places"] (defScope s_l_good) := ⟨rfl, rfl, rfl, by decide +kernel, rfl, by decide +kernel, by decide +kernel⟩
theorem ok_l_good {f : Addr} {fd : FuncData} (F : Fun K "_law_good" "_law_good" s_l_good f fd) (T : Txt K mg c) (G_l_spots : Own P w K mg base 3 "_law_spots" ["_law_wares", "_law_places"] (spD K c d_l_spots)) (G_l_used : Own P w K mg base 11 "_law_used" ["_law_wares", "_law_places"] (spD K c d_l_used)) (G_l_ends : Own P w K mg base 5 "_law_ends" ["_law_found", "_law_ends_here"] (spD K c d_l_ends)) (G_l_mirror : Own P w K mg base 5 "_law_mirror" ["_law_found", "_law_box_here", "_law_places", "_law_spots_here", "_law_across"] (spD K c d_l_mirror)) (G_l_mirrored : Own P w K mg base 11 "_law_mirrored" ["_law_box_here", "_law_wares", "_law_places", "_law_across"] (spD K c d_l_mirrored)) : FnOk P w K mg base (CXe P w) 13 f fd ["_law_box_here", "_law_wares", "_law_places"] (spD K c d_l_good) :=
  F.okD (k := 12) sc_l_good fun cdv A outer s H E hr => ⟨_, (pss_cons (ps_set (i := 3) sc_l_good.nd rfl (Or.inl rfl) (pe_own G_l_spots hr (by decide) pass0e (pa_cons (pv 1) (pa_cons (pv 2) pa_nil)))) (pss_cons (ps_set (i := 4) sc_l_good.nd rfl (Or.inl rfl) (pe_own G_l_used hr (by decide) pass0e (pa_cons (pv 1) (pa_cons (pv 2) pa_nil)))) (pss_cons (ps_if (PW.pt (pw_or (pt_not (pt_val (pe_callB (callK_isi (K := K)) rfl T.z_isinstance bt_isinstance (pa_cons (pv 4) (pa_cons (pe_bltn (v := .ty "tuple") rfl T.z_tuple bt_tuple rfl) pa_nil))))) (pw_or1 (pt_cmpR op_ne (pe_callB (callK_len_seq (K := K)) rfl T.z_len bt_len (pa_cons (pv 4) pa_nil)) pe_int (nomark _))))) (pss_one (ps_ret pe_bl)) pss_nil) (pss_cons (ps_if (PW.pt (pw_or (pt_not (pt_val (pe_own G_l_ends hr (by decide) pass0e (pa_cons (pe_ix (ixK_tup (K := K)) (pv 4) pe_int (fun _ _ => rfl)) (pa_cons (pe_comp (Nc := ["_law_spot"]) (k := 1) (js := []) rfl ⟨by decide +kernel, rfl, by decide +kernel, (by change ∀ y ∈ Scope.names _, y.2 = NameKind.free → (defScope s_l_good).names.lookup y.1 = some .cell ∨ (defScope s_l_good).names.lookup y.1 = some .free; decide +kernel), by decide +kernel, rfl, rfl, by decide +kernel⟩ (pi_list (pv 3)) (fun _ _ _ _ _ => (pg_name (i := 0) (by show List.Nodup [("_law_spot" : Str)]; decide +kernel) rfl (Or.inl rfl))) (fun _ _ _ _ _ => pf_nil) (fun _ _ _ _ _ => (pe_ix (ixK_tup (K := K)) (pv 0) pe_int (fun _ _ => rfl)))) pa_nil))))) (pw_or1 (pt_not (pt_val (pe_own G_l_ends hr (by decide) pass0e (pa_cons (pe_ix (ixK_tup (K := K)) (pv 4) pe_int (fun _ _ => rfl)) (pa_cons (pe_comp (Nc := ["_law_spot"]) (k := 1) (js := []) rfl ⟨by decide +kernel, rfl, by decide +kernel, (by change ∀ y ∈ Scope.names _, y.2 = NameKind.free → (defScope s_l_good).names.lookup y.1 = some .cell ∨ (defScope s_l_good).names.lookup y.1 = some .free; decide +kernel), by decide +kernel, rfl, rfl, by decide +kernel⟩ (pi_list (pv 3)) (fun _ _ _ _ _ => (pg_name (i := 0) (by show List.Nodup [("_law_spot" : Str)]; decide +kernel) rfl (Or.inl rfl))) (fun _ _ _ _ _ => pf_nil) (fun _ _ _ _ _ => (pe_ix (ixK_tup (K := K)) (pv 0) pe_int (fun _ _ => rfl)))) pa_nil)))))))) (pss_one (ps_ret pe_bl)) pss_nil) (pss_cons (ps_for PassesOwn.leaving rfl (pi_list (pe_lst (pa_cons pe_bl (pa_cons pe_bl pa_nil)))) (pg_name (i := 5) sc_l_good.nd rfl (Or.inl rfl)) (pss_one (ps_if (pt_not (pt_val (pe_own G_l_mirror hr (by decide) pass0e (pa_cons (pe_own G_l_mirrored hr (by decide) pass0e (pa_cons (pv 0) (pa_cons (pv 1) (pa_cons (pv 2) (pa_cons (pv 5) pa_nil))))) (pa_cons (pv 0) (pa_cons (pv 2) (pa_cons (pv 3) (pa_cons (pv 5) pa_nil)))))))) (pss_one (ps_ret pe_bl)) pss_nil))) (pss_one (ps_ret pe_bl))))))), (rf_Seq (rf_SetC0 (rf_aC rf_v (rf_aC rf_v rf_aN))) (rf_Seq (rf_SetC0 (rf_aC rf_v (rf_aC rf_v rf_aN))) (rf_Seq (rf_If' (rf_bOr (rf_bNot (rf_bZ rf_IsiV)) (rf_bT (rf_op ok_ne (rf_CV ok_len) rf_c))) (rf_Ret rf_c) rf_Nx) (rf_Seq (rf_If' (rf_bOr (rf_bNot (rf_bZ (rf_Call0 (rf_aC (rf_op ok_ixT rf_v rf_c) (rf_aC (rf_zN (rf_CompV (by decide) (rf_gName (k := 1) (by decide)) rf_bTrue (rf_op ok_ixT rf_v rf_c))) rf_aN))))) (rf_bNot (rf_bZ (rf_Call0 (rf_aC (rf_op ok_ixT rf_v rf_c) (rf_aC (rf_zN (rf_CompV (by decide) (rf_gName (k := 1) (by decide)) rf_bTrue (rf_op ok_ixT rf_v rf_c))) rf_aN)))))) (rf_Ret rf_c) rf_Nx) (rf_Seq (rf_For (rf_zN (rf_L (rf_aC rf_c (rf_aC rf_c rf_aN)))) (rf_gName (k := 6) (by decide)) (rf_If' (rf_bNot (rf_bZ (rf_Call0 (rf_aC (rf_Call0 (rf_aC rf_v (rf_aC rf_v (rf_aC rf_v (rf_aC rf_v rf_aN))))) (rf_aC rf_v (rf_aC rf_v (rf_aC rf_v (rf_aC rf_v rf_aN)))))))) (rf_Ret rf_c) rf_Nx)) (rf_Ret rf_c))))))⟩
def b_law : SF := (sSeq (sSetC0 1 d_l_box (aC (eCall0 d_l_cell_at (aC (eV 0) (aC (eC (.int 0)) aN))) (aC (eCall0 d_l_cell_at (aC (eV 0) (aC (eC (.int 1)) aN))) aN))) (sSeq (sAsg (eCall0 d_l_case (aC (eV 0) aN)) (bTup [(bName 2), (bName 3)])) (sSeq (sIf (bLend (bOr (bNot (bZ (eCall0 d_l_good (aC (eV 1) (aC (eV 2) (aC (eV 3) aN)))))) (bNot (bZ (eCall0 d_l_good (aC (eV 1) (aC (zN (nSlV 2 oN (oS (eC (.int 1))))) (aC (zN (nSlV 3 oN (oS (eC (.int 1))))) aN)))))))) (sRet (eC (.bl false))) sNx) (sSeq (sIf (bZ (eB (gEq false) (eB gMod (eCall0 d_l_cell_at (aC (eV 0) (aC (eC (.int 2)) aN))) (eC (.int 4))) (eC (.int 1)))) (sSeq (sSet 4 (eB gMod (eCall0 d_l_cell_at (aC (eV 0) (aC (eC (.int 3)) aN))) (eB gAdd (eCV gLen 2) (eC (.int 1))))) (sSeq (sSetN 2 (nB gCat (zN (nB gCat (zN (nSlV 2 oN (oS (eV 4)))) (zN (eL (aC (eT (aC (eC (.int 3)) (aC (eC (.int 3)) (aC (eC (.bl false)) aN)))) aN))))) (zN (nSlV 2 (oS (eV 4)) oN)))) (sSeq (sSetN 3 (nB gCat (zN (nB gCat (zN (nSlV 3 oN (oS (eV 4)))) (zN (eL (aC (eT (aC (eC (.int 0)) (aC (eC (.int 1)) (aC (eC (.bl true)) aN)))) aN))))) (zN (nSlV 3 (oS (eV 4)) oN)))) (sSeq (sIf (bLend (bZ (eB (gEqT true) (eCall0 d_l_used (aC (eV 2) (aC (eV 3) aN))) (zN (eL (aC (eC (.bl true)) (aC (eC (.bl false)) aN))))))) (sRet (eC (.bl false))) sNx) (sSeq (sFor (zN (eL (aC (eC (.bl true)) (aC (eC (.bl false)) aN))))  (bName 5) (sIf (bLend (bZ (eB (gEqT true) (eCall0 d_l_mirrored (aC (eV 1) (aC (eV 2) (aC (eV 3) (aC (eV 5) aN))))) (zN (eL (aC (eC (.bl true)) (aC (eC (.bl false)) aN))))))) (sRet (eC (.bl false))) sNx)) (sSub 2 (eV 4) (eT (aC (eC (.int 3)) (aC (eC (.int 3)) (aC (eC (.bl true)) aN)))))))))) sNx) (sSeq (sSetN 6 (eL (aC (zN (nCV gList 2)) (aC (zN (nCV gList 3)) aN)))) (sRet (eAnd (eCall0 d_l_good (aC (eV 1) (aC (eBV gIxL 6 (eC (.int 0))) (aC (eBV gIxL 6 (eC (.int 1))) aN)))) (eBV (gEqT false) 6 (zN (eL (aC (eV 2) (aC (eV 3) aN))))))))))))
def d_law : List D → Option R1 := fD 7 1 b_law
theorem sc_law : FnScope ["_law_script", "_law_box_here", "_law_wares", "_law_places", "_law_at", "_law_across", "_law_handed"] ["_law_script"] (defScope s_law) := ⟨rfl, rfl, rfl, by decide +kernel, rfl, by decide +kernel, by decide +kernel⟩
theorem ok_law0 {f : Addr} {fd : FuncData} (F : Fun K "law" "law" s_law f fd) (T : Txt K mg c) (G_l_box : Own P w K mg base 3 "_law_box" ["_law_cell", "_law_other"] (spD K c d_l_box)) (G_l_cell_at : Own P w K mg base 3 "_law_cell_at" ["_law_script", "_law_k"] (spD K c d_l_cell_at)) (G_l_case : Own P w K mg base 7 "_law_case" ["_law_script"] (spD K c d_l_case)) (G_l_good : Own P w K mg base 13 "_law_good" ["_law_box_here", "_law_wares", "_law_places"] (spD K c d_l_good)) (G_l_used : Own P w K mg base 11 "_law_used" ["_law_wares", "_law_places"] (spD K c d_l_used)) (G_l_mirrored : Own P w K mg base 11 "_law_mirrored" ["_law_box_here", "_law_wares", "_law_places", "_law_across"] (spD K c d_l_mirrored)) : FnOk P w K mg base (CXe P w) 15 f fd ["_law_script"] (spD K c d_law) :=
  F.okD (k := 14) sc_law fun cdv A outer s H E hr => ⟨_, (pss_cons (ps_set (i := 1) sc_law.nd rfl (Or.inl rfl) (pe_own G_l_box hr (by decide) pass0e (pa_cons (pe_own G_l_cell_at hr (by decide) pass0e (pa_cons (pv 0) (pa_cons pe_int pa_nil))) (pa_cons (pe_own G_l_cell_at hr (by decide) pass0e (pa_cons (pv 0) (pa_cons pe_int pa_nil))) pa_nil)))) (pss_cons (ps_asg (pe_own G_l_case hr (by decide) pass0e (pa_cons (pv 0) pa_nil)) (pgK_tup (K := K) (n := 2) rfl (pgs_cons (pg_name (i := 2) sc_law.nd rfl (Or.inl rfl)) (pgs_cons (pg_name (i := 3) sc_law.nd rfl (Or.inl rfl)) pgs_nil)))) (pss_cons (ps_if (PW.pt (pw_or (pt_not (pt_val (pe_own G_l_good hr (by decide) pass0e (pa_cons (pv 1) (pa_cons (pv 2) (pa_cons (pv 3) pa_nil)))))) (pw_or1 (pt_not (pt_val (pe_own G_l_good hr (by decide) pass0e (pa_cons (pv 1) (pa_cons (pe_slice (slK_list (K := K)) (pv 2) po_none (po_some pe_int)) (pa_cons (pe_slice (slK_list (K := K)) (pv 3) po_none (po_some pe_int)) pa_nil))))))))) (pss_one (ps_ret pe_bl)) pss_nil) (pss_cons (ps_if (pt_cmpR op_eq (pe_op op_mod (pe_own G_l_cell_at hr (by decide) pass0e (pa_cons (pv 0) (pa_cons pe_int pa_nil))) pe_int) pe_int (nomark _)) (pss_cons (ps_set (i := 4) sc_law.nd rfl (Or.inl rfl) (pe_op op_mod (pe_own G_l_cell_at hr (by decide) pass0e (pa_cons (pv 0) (pa_cons pe_int pa_nil))) (pe_op op_add (pe_callB (callK_len_seq (K := K)) rfl T.z_len bt_len (pa_cons (pv 2) pa_nil)) pe_int))) (pss_cons (ps_set (i := 2) sc_law.nd rfl (Or.inl rfl) (pe_op op_cat (pe_op op_cat (pe_slice (slK_list (K := K)) (pv 2) po_none (po_some (pv 4))) (pe_lst (pa_cons (pe_tup (pa_cons pe_int (pa_cons pe_int (pa_cons pe_bl pa_nil)))) pa_nil))) (pe_slice (slK_list (K := K)) (pv 2) (po_some (pv 4)) po_none))) (pss_cons (ps_set (i := 3) sc_law.nd rfl (Or.inl rfl) (pe_op op_cat (pe_op op_cat (pe_slice (slK_list (K := K)) (pv 3) po_none (po_some (pv 4))) (pe_lst (pa_cons (pe_tup (pa_cons pe_int (pa_cons pe_int (pa_cons pe_bl pa_nil)))) pa_nil))) (pe_slice (slK_list (K := K)) (pv 3) (po_some (pv 4)) po_none))) (pss_cons (ps_if (pt_cmpR (opK_neT (K := K) (cl := c) (hu40 hr)) (pe_own G_l_used hr (by decide) pass0e (pa_cons (pv 2) (pa_cons (pv 3) pa_nil))) (pe_lst (pa_cons pe_bl (pa_cons pe_bl pa_nil))) (nomark _)) (pss_one (ps_ret pe_bl)) pss_nil) (pss_cons (ps_for PassesOwn.leaving rfl (pi_list (pe_lst (pa_cons pe_bl (pa_cons pe_bl pa_nil)))) (pg_name (i := 5) sc_law.nd rfl (Or.inl rfl)) (pss_one (ps_if (pt_cmpR (opK_neT (K := K) (cl := c) (hu40 hr)) (pe_own G_l_mirrored hr (by decide) pass0e (pa_cons (pv 1) (pa_cons (pv 2) (pa_cons (pv 3) (pa_cons (pv 5) pa_nil))))) (pe_lst (pa_cons pe_bl (pa_cons pe_bl pa_nil))) (nomark _)) (pss_one (ps_ret pe_bl)) pss_nil))) (pss_one (ps_asg (pe_tup (pa_cons pe_int (pa_cons pe_int (pa_cons pe_bl pa_nil)))) (pg_sub (pv 2) (pv 4) set_list)))))))) pss_nil) (pss_cons (ps_set (i := 6) sc_law.nd rfl (Or.inl rfl) (pe_lst (pa_cons (pe_callTy (callK_list_of (K := K)) rfl T.z_list bt_list (pa_cons (pv 2) pa_nil)) (pa_cons (pe_callTy (callK_list_of (K := K)) rfl T.z_list bt_list (pa_cons (pv 3) pa_nil)) pa_nil)))) (pss_one (ps_ret (pe_and (pe_own G_l_good hr (by decide) pass0e (pa_cons (pv 1) (pa_cons (pe_ix (ixK_list (K := K)) (pv 6) pe_int (fun _ _ => rfl)) (pa_cons (pe_ix (ixK_list (K := K)) (pv 6) pe_int (fun _ _ => rfl)) pa_nil)))) (pe_one (pe_cmpR (opK_eqT (K := K) (cl := c) (hu40 hr)) (pv 6) (pe_lst (pa_cons (pv 2) (pa_cons (pv 3) pa_nil))) (nomark _))))))))))), (rf_Seq (rf_SetC0 (rf_aC (rf_Call0 (rf_aC rf_v (rf_aC rf_c rf_aN))) (rf_aC (rf_Call0 (rf_aC rf_v (rf_aC rf_c rf_aN))) rf_aN))) (rf_Seq (rf_Asg (rf_Call0 (rf_aC rf_v rf_aN)) (rf_gTup (rf_gCons (rf_gName (k := 7) (by decide)) (rf_gCons (rf_gName (k := 7) (by decide)) rf_gNil)) rfl)) (rf_Seq (rf_If' (rf_bLend (rf_bOr (rf_bNot (rf_bZ (rf_Call0 (rf_aC rf_v (rf_aC rf_v (rf_aC rf_v rf_aN)))))) (rf_bNot (rf_bZ (rf_Call0 (rf_aC rf_v (rf_aC (rf_zN (rf_SlV rf_oN (rf_oS rf_c))) (rf_aC (rf_zN (rf_SlV rf_oN (rf_oS rf_c))) rf_aN)))))))) (rf_Ret rf_c) rf_Nx) (rf_Seq (rf_If' (rf_bT (rf_op ok_eq (rf_op ok_mod (rf_Call0 (rf_aC rf_v (rf_aC rf_c rf_aN))) rf_c) rf_c)) (rf_Seq (rf_Set (rf_op ok_mod (rf_Call0 (rf_aC rf_v (rf_aC rf_c rf_aN))) (rf_op ok_add (rf_CV ok_len) rf_c))) (rf_Seq (rf_SetN (rf_nB ok_cat (rf_zN (rf_nB ok_cat (rf_zN (rf_SlV rf_oN (rf_oS rf_v))) (rf_zN (rf_L (rf_aC (rf_T (rf_aC rf_c (rf_aC rf_c (rf_aC rf_c rf_aN)))) rf_aN))))) (rf_zN (rf_SlV (rf_oS rf_v) rf_oN)))) (rf_Seq (rf_SetN (rf_nB ok_cat (rf_zN (rf_nB ok_cat (rf_zN (rf_SlV rf_oN (rf_oS rf_v))) (rf_zN (rf_L (rf_aC (rf_T (rf_aC rf_c (rf_aC rf_c (rf_aC rf_c rf_aN)))) rf_aN))))) (rf_zN (rf_SlV (rf_oS rf_v) rf_oN)))) (rf_Seq (rf_If' (rf_bLend (rf_bT (rf_op ok_eqT (rf_Call0 (rf_aC rf_v (rf_aC rf_v rf_aN))) (rf_zN (rf_L (rf_aC rf_c (rf_aC rf_c rf_aN))))))) (rf_Ret rf_c) rf_Nx) (rf_Seq (rf_For (rf_zN (rf_L (rf_aC rf_c (rf_aC rf_c rf_aN)))) (rf_gName (k := 7) (by decide)) (rf_If' (rf_bLend (rf_bT (rf_op ok_eqT (rf_Call0 (rf_aC rf_v (rf_aC rf_v (rf_aC rf_v (rf_aC rf_v rf_aN))))) (rf_zN (rf_L (rf_aC rf_c (rf_aC rf_c rf_aN))))))) (rf_Ret rf_c) rf_Nx)) (rf_Sub (rf_T (rf_aC rf_c (rf_aC rf_c (rf_aC rf_c rf_aN)))) rf_v)))))) rf_Nx) (rf_Seq (rf_SetN (rf_L (rf_aC (rf_zN (rf_nCV ok_list)) (rf_aC (rf_zN (rf_nCV ok_list)) rf_aN)))) (rf_Ret (rf_And (rf_Call0 (rf_aC rf_v (rf_aC (rf_opV ok_ixL rf_c) (rf_aC (rf_opV ok_ixL rf_c) rf_aN)))) (rf_opV ok_eqT (rf_zN (rf_L (rf_aC rf_v (rf_aC rf_v rf_aN))))))))))))⟩
end Law
namespace Law
open PySem L2 PyProof.Rows
set_option maxRecDepth 100000
set_option maxHeartbeats 4000000
variable {P : Program} {w : World} {K : PySem.W.Frag} {mg : Str → Option Value} {base : Heap} {c : Str → Addr}
local macro_rules | `(tactic| walk_at "ev") => `(tactic| simp (decide := true) only [fD_eq, sSeq_eq, seqR_nx, seqR_rt, seqR_ro, seqR_ex, seqR_bk, seqR_ct, seqR_no, seqR_ite, bnd_ite, sbn_ite, opt_ite, toZ_ite, toZ0_ite, toSet_ite, toSet0_ite, toRet_ite, toRet0_ite, toZ_ret, toZ_own, toZ_ex, toZ0_ret, toZ0_own, toSet_ret, toSet_own, toSet_ex, toSet0_ret, toSet0_own, toRet_ret, toRet_own, toRet_ex, toRet0_ret, toRet0_own, finR_nx, finR_rt, finR_ro, finR_ex, finR_ite, forK_nx, forK_ct, forK_bk, forK_rt, forK_ro, forK_ex, forK_ite, forD_nil, forD_step, optR_some, nxOf_nx, nxOf_ct, nxOf_rt, nxOf_ex, nxOf_ro, nxOf_ite, optB_some, compD_nil, compD_cons, compE, capS, nCompR, nCompT, nComp, nCompV, nCompZ, seq2, sForZ, sForZ3, seq3, sPar, bLend_eq, bLd_ok, bLd_ex, bLd_ite, zLend_eq, zLd_ok, zLd_ex, zLd_ite, frzE, frzS_no, frzS_fz, frzS_ow, frzS_hd, noL, noLs, nSl, nSlV, oN, oS, zSlT, gSum, eMaxD, gMaxD, sForV, sForE, sForEV, unhide, sTryAs_eq, tryR_nx, tryR_ex, tryR_rt, tryR_ro, tryR_ite, susR_nx, susR_rt, susR_ro, gEqL, eqDs, eqD, gEqT, eqB, eqBs, plainD, plainDs, depD, depDs, seqD?, Nat.max_self, Nat.zero_max, Nat.max_zero, decide_true, Bool.or_true, Bool.true_or, Bool.or_false, List.isEmpty_nil, gMax2, gMin2, gMinT_4, gInt1, gIn, inD, List.any_cons, List.any_nil, sAug, zPop, sMeth0, sExt, gAddS, flatD, List.all_cons, List.all_nil, Bool.and_self, Bool.and_true, Bool.true_and, beq_self_eq_true, gAdd_eq, gSub_eq, gLt_eq, gLe_eq, gGt_eq, gGe_eq, gMul_l, gMul_r, gDiv_eq, gMod_eq, gPow_eq, sIf, sSet, sSetN, sSetC, sSetC0, sRet, sRetN, sRetC, sRetC0, sRetV, sRetO, sNx, sBk, sCt, sAsg, sRaise, sEx, sApp, sIns, sSub, sForT, sFor, sForR, put_eq, okS_some, okS_none, notHd_no, notHd_fz, notHd_ow, notHd_hd, notHd_un, frzS_un, noHd_nil, noHd_cons, eC, eV, eB, eBV, eBW, eBVV, eT, eL, zN, aN, aC, eCall, eCall0, eNot, eAnd, eOr, eIf, nIf, eU, gNeg, eCB, eCV, nCB, nCV, nB, gCat, g1, gLen, gAbs, gList, bZ, bNot, bAnd, bOr, bTrue, bName_eq, bTup, bEach, bnd_ok, bnd_ex, bnd_no, sbn_ok, sbn_ex, sbn_no, opt_some, opt_none, look, gIxT, gIxL, gEq_int, gEq_bl, gEq_str, gIsN, gIsB_bl, eIsiV, gIsi_eq, gIsiV, tyN, eChain, seqL, atI_0, atI_1, atI_2, atI_3, atI_4, atI_5, atI_6, List.map_cons, List.map_nil, List.length_cons, List.length_nil, List.cons_append, List.nil_append, List.replicate_succ, List.replicate_zero, List.getElem?_cons_zero, List.getElem?_cons_succ, List.set_cons_zero, List.set_cons_succ, Nat.reduceAdd, Nat.reduceSub, if_true, if_false, Bool.not_true, Bool.not_false, Bool.not_not, Nat.zero_add, Bool.false_eq_true, decide_eq_true_eq, Bool.not_eq_true', decide_eq_false_iff_not, Option.map_some, Option.map_none, ite_self, xm_BadTurn])
local macro_rules | `(tactic| walk_at "eh") => `(tactic| simp (decide := true) only [fD_eq, sSeq_eq, seqR_nx, seqR_rt, seqR_ro, seqR_ex, seqR_bk, seqR_ct, seqR_no, seqR_ite, bnd_ite, sbn_ite, opt_ite, toZ_ite, toZ0_ite, toSet_ite, toSet0_ite, toRet_ite, toRet0_ite, toZ_ret, toZ_own, toZ_ex, toZ0_ret, toZ0_own, toSet_ret, toSet_own, toSet_ex, toSet0_ret, toSet0_own, toRet_ret, toRet_own, toRet_ex, toRet0_ret, toRet0_own, finR_nx, finR_rt, finR_ro, finR_ex, finR_ite, forK_nx, forK_ct, forK_bk, forK_rt, forK_ro, forK_ex, forK_ite, forD_nil, forD_step, optR_some, nxOf_nx, nxOf_ct, nxOf_rt, nxOf_ex, nxOf_ro, nxOf_ite, optB_some, compD_nil, compD_cons, compE, capS, nCompR, nCompT, nComp, nCompV, nCompZ, seq2, sForZ, sForZ3, seq3, sPar, bLend_eq, bLd_ok, bLd_ex, bLd_ite, zLend_eq, zLd_ok, zLd_ex, zLd_ite, frzE, frzS_no, frzS_fz, frzS_ow, frzS_hd, noL, noLs, nSl, nSlV, oN, oS, zSlT, gSum, eMaxD, gMaxD, sForV, sForE, sForEV, unhide, sTryAs_eq, tryR_nx, tryR_ex, tryR_rt, tryR_ro, tryR_ite, susR_nx, susR_rt, susR_ro, gEqL, eqDs, eqD, gEqT, eqB, eqBs, plainD, plainDs, depD, depDs, seqD?, Nat.max_self, Nat.zero_max, Nat.max_zero, decide_true, Bool.or_true, Bool.true_or, Bool.or_false, List.isEmpty_nil, gMax2, gMin2, gMinT_4, gInt1, gIn, inD, List.any_cons, List.any_nil, sAug, zPop, sMeth0, sExt, gAddS, flatD, List.all_cons, List.all_nil, Bool.and_self, Bool.and_true, Bool.true_and, beq_self_eq_true, gAdd_eq, gSub_eq, gLt_eq, gLe_eq, gGt_eq, gGe_eq, gMul_l, gMul_r, gDiv_eq, gMod_eq, gPow_eq, sIf, sSet, sSetN, sSetC, sSetC0, sRet, sRetN, sRetC, sRetC0, sRetV, sRetO, sNx, sBk, sCt, sAsg, sRaise, sEx, sApp, sIns, sSub, sForT, sFor, sForR, put_eq, okS_some, okS_none, notHd_no, notHd_fz, notHd_ow, notHd_hd, notHd_un, frzS_un, noHd_nil, noHd_cons, eC, eV, eB, eBV, eBW, eBVV, eT, eL, zN, aN, aC, eCall, eCall0, eNot, eAnd, eOr, eIf, nIf, eU, gNeg, eCB, eCV, nCB, nCV, nB, gCat, g1, gLen, gAbs, gList, bZ, bNot, bAnd, bOr, bTrue, bName_eq, bTup, bEach, bnd_ok, bnd_ex, bnd_no, sbn_ok, sbn_ex, sbn_no, opt_some, opt_none, look, gIxT, gIxL, gEq_int, gEq_bl, gEq_str, gIsN, gIsB_bl, eIsiV, gIsi_eq, gIsiV, tyN, eChain, seqL, atI_0, atI_1, atI_2, atI_3, atI_4, atI_5, atI_6, List.map_cons, List.map_nil, List.length_cons, List.length_nil, List.cons_append, List.nil_append, List.replicate_succ, List.replicate_zero, List.getElem?_cons_zero, List.getElem?_cons_succ, List.set_cons_zero, List.set_cons_succ, Nat.reduceAdd, Nat.reduceSub, if_true, if_false, Bool.not_true, Bool.not_false, Bool.not_not, Nat.zero_add, Bool.false_eq_true, decide_eq_true_eq, Bool.not_eq_true', decide_eq_false_iff_not, Option.map_some, Option.map_none, ite_self, xm_BadTurn, *])
abbrev T3 := Int × Int × Bool
abbrev t3 (p : T3) : D := .tup [.int p.1, .int p.2.1, .bl p.2.2]
abbrev T4 := Int × Int × Int × Int
abbrev t4 (p : T4) : D := .tup [.int p.1, .int p.2.1, .int p.2.2.1, .int p.2.2.2]
def bad (q : T3 × T3) : Bool := q.2.2.2 && !q.1.2.2
def spt (q : T3 × T3) : T4 := if q.2.2.2 = true then (q.2.1, q.2.2.1, q.2.1 + q.1.2.1, q.2.2.1 + q.1.1) else (q.2.1, q.2.2.1, q.2.1 + q.1.1, q.2.2.1 + q.1.2.1)
theorem spot_ok (q : T3 × T3) : d_spot_of [t3 q.1, t3 q.2] = if bad q = true then some (.ex "BadTurn") else some (.ret (t4 (spt q))) := by
  obtain ⟨⟨w, h, t⟩, ⟨x, y, l⟩⟩ := q
  unfold d_spot_of b_spot_of d_sides_of b_sides_of bad spt
  cases l <;> cases t <;> (simp only [Bool.and_true, Bool.and_false, Bool.not_true, Bool.not_false, Bool.true_and, Bool.false_and]; walk_at "ev")
theorem spots_ok (ws ps : List T3) (hw : ws.length ≤ 1000) : d_spots_of [.lst (ws.map t3), .lst (ps.map t3)] = if (ws.zip ps).any bad = true then some (.ex "BadTurn") else some (.own ((ws.zip ps).map fun q => t4 (spt q))) := by
  have hl : (ws.zip ps).length ≤ 1000 := by rw [List.length_zip]; omega
  have key : ∀ eo, compD (bTup [bName 0, bName 1]) bTrue (eCall d_spot_of (aC (eV 0) (aC (eV 1) aN))) [.no, .no] eo ((ws.zip ps).map fun q => D.tup [t3 q.1, t3 q.2]) [] = if (ws.zip ps).any bad = true then some (.ex "BadTurn") else some (.ok ((ws.zip ps).map fun q => t4 (spt q)) eo) := fun eo =>
    comp_ex (fun q : T3 × T3 => D.tup [t3 q.1, t3 q.2]) (fun q => t4 (spt q)) bad _ [] (by show 0 + _ ≤ 2 ^ 24; omega) fun q _ => by
      have h := spot_ok q
      refine ⟨[.fz (t3 q.1), .fz (t3 q.2)], rfl, ?_⟩
      split
      · rename_i z; rw [if_pos z] at h; walk_at "eh"
      · rename_i z; rw [if_neg z] at h; walk_at "eh"; exact ⟨_, rfl⟩
  have hz := zipD_map t3 t3 ws ps
  unfold d_spots_of b_spots_of
  clear hl hw
  walk_at "eh"
def ends (k : T4 → Int) (sp : List T4) : Int := topI 0 (sp.map k)
theorem compV {n : Nat} (k : T4 → Int) (j : Int) (sp : List T4) (hn : sp.length ≤ 1000) (hj : ∀ s : T4, gIxT (t4 s) (.int j) = some (.int (k s))) (eo : DE) : compD (bName 0) bTrue (eB gIxT (eV 0) (eC (.int j))) [.no] eo (sp.map t4) [] = some (.ok ((sp.map k).map .int) eo) := by
  have := comp_map (b := bName 0) (c := bTrue) (el := eB gIxT (eV 0) (eC (.int j))) (ec := [.no]) (eo := eo) t4 (fun s => D.int (k s)) (fun _ => true) sp [] (by show 0 + _ ≤ 2 ^ 24; omega) fun s _ => ⟨[.fz (t4 s)], [.fz (t4 s)], rfl, rfl, fun _ => by
    have h := hj s
    simp (decide := true) only [eB, eV, eC, List.getElem?_cons_zero, bnd_ok, h, opt_some]; exact ⟨_, rfl⟩⟩
  rw [this, List.filter_eq_self.mpr (fun _ _ => rfl), List.nil_append, List.map_map]; rfl
theorem used_ok (ws ps : List T3) (hw : ws.length ≤ 1000) : d_used [.lst (ws.map t3), .lst (ps.map t3)] = if (ws.zip ps).any bad = true then some (.ex "BadTurn") else some (.ret (.tup [.int (ends (·.2.2.1) ((ws.zip ps).map spt)), .int (ends (·.2.2.2) ((ws.zip ps).map spt))])) := by
  have h := spots_ok ws ps hw
  unfold d_used b_used
  by_cases z : (ws.zip ps).any bad = true
  · rw [if_pos z] at h ⊢
    walk_at "eh"
  · rw [if_neg z] at h ⊢
    have hl : ((ws.zip ps).map spt).length ≤ 1000 := by rw [List.length_map, List.length_zip]; omega
    have e : ((ws.zip ps).map fun q => t4 (spt q)) = ((ws.zip ps).map spt).map t4 := by rw [List.map_map]; rfl
    rw [e] at h
    have c2 := compV (n := 0) (·.2.2.1) 2 ((ws.zip ps).map spt) hl (fun s => rfl)
    have c3 := compV (n := 0) (·.2.2.2) 3 ((ws.zip ps).map spt) hl (fun s => rfl)
    have m2 := L2.ints_map (((ws.zip ps).map spt).map (·.2.2.1))
    have m3 := L2.ints_map (((ws.zip ps).map spt).map (·.2.2.2))
    generalize ((ws.zip ps).map spt) = sp at *
    unfold ends
    clear e hl z hw
    walk_at "eh"
theorem kinds_ok : d_l_kinds [.exc "BadTurn"] = some (.own [.bl true, .bl false]) := by
  unfold d_l_kinds b_l_kinds
  walk_at "eh"
  rfl
theorem lused_ok (ws ps : List T3) (hw : ws.length ≤ 1000) : d_l_used [.lst (ws.map t3), .lst (ps.map t3)] = if (ws.zip ps).any bad = true then some (.own [.bl true, .bl false]) else some (.ret (.tup [.int (ends (·.2.2.1) ((ws.zip ps).map spt)), .int (ends (·.2.2.2) ((ws.zip ps).map spt))])) := by
  have h := used_ok ws ps hw
  have k := kinds_ok
  clear hw
  unfold d_l_used b_l_used
  by_cases z : (ws.zip ps).any bad = true
  · rw [if_pos z] at h ⊢
    walk_at "eh"
  · rw [if_neg z] at h ⊢
    walk_at "eh"
def mir (bx : Int × Int) (ac : Bool) (q : T3 × T4) : T3 := if ac = true then (bx.1 - q.2.2.2.1, q.1.2.1, q.1.2.2) else (q.1.1, bx.2 - q.2.2.2.2, q.1.2.2)
abbrev t2 (b : Int × Int) : D := .tup [.int b.1, .int b.2]
theorem mirrored_ok (bx : Int × Int) (ws ps : List T3) (ac : Bool) (hw : ws.length ≤ 1000) : d_mirrored [t2 bx, .lst (ws.map t3), .lst (ps.map t3), .bl ac] = if (ws.zip ps).any bad = true then some (.ex "BadTurn") else some (.own ((ps.zip ((ws.zip ps).map spt)).map fun q => t3 (mir bx ac q))) := by
  have h := spots_ok ws ps hw
  unfold d_mirrored b_mirrored
  by_cases z : (ws.zip ps).any bad = true
  · rw [if_pos z] at h ⊢
    clear z hw
    walk_at "eh"
  · rw [if_neg z] at h ⊢
    have hl : ((ws.zip ps).map spt).length ≤ 1000 := by rw [List.length_map, List.length_zip]; omega
    have e : ((ws.zip ps).map fun q => t4 (spt q)) = ((ws.zip ps).map spt).map t4 := by rw [List.map_map]; rfl
    rw [e] at h
    generalize (ws.zip ps).map spt = sp at *
    have hz := zipD_map t3 t4 ps sp
    have hk : (ps.zip sp).length ≤ 1000 := by rw [List.length_zip]; omega
    obtain ⟨e', k1, o5, o6, o7, o8, o9, rfl⟩ := for_map (b := bTup [bName 5, bName 6]) (body := (sSeq (sAsg (eV 5) (bTup [(bName 7), (bName 8), (bName 9)])) (sIf (bZ (eV 3)) (sApp 4 (eT (aC (eB gSub' (eB gIxT (eV 0) (eC (.int 0))) (eB gIxT (eV 6) (eC (.int 2)))) (aC (eV 8) (aC (eV 9) aN))))) (sApp 4 (eT (aC (eV 7) (aC (eB gSub' (eB gIxT (eV 0) (eC (.int 1))) (eB gIxT (eV 6) (eC (.int 3)))) (aC (eV 9) aN))))))))
      (fun q : T3 × T4 => D.tup [t3 q.1, t4 q.2])
      (fun pre e => ∃ o5 o6 o7 o8 o9, e = [.fz (t2 bx), .fz (.lst (ws.map t3)), .fz (.lst (ps.map t3)), .fz (.bl ac), .ow (pre.map fun q => t3 (mir bx ac q)), un o5, un o6, un o7, un o8, un o9])
      (ps.zip sp) [.fz (t2 bx), .fz (.lst (ws.map t3)), .fz (.lst (ps.map t3)), .fz (.bl ac), .ow [], .no, .no, .no, .no, .no] ⟨none, none, none, none, none, rfl⟩ (by
        rintro pre ⟨⟨x, y, l⟩, ⟨a, b, c, d⟩⟩ post e hq ⟨o5, o6, o7, o8, o9, rfl⟩
        have hs : (pre.map fun q => t3 (mir bx ac q)).length < sizeLine := by
          rw [hq, List.length_append] at hk
          rw [List.length_map]; show _ < 2 ^ 24; omega
        rw [List.map_append]
        generalize (pre.map fun q => t3 (mir bx ac q)) = acc at *
        clear hq hk hl h hz e z
        unfold mir
        cases ac <;> (walk_at "eh"; exact ⟨_, rfl, some _, some _, some _, some _, some _, rfl⟩))
    clear z hl e hk
    walk_at "eh"
theorem lmirrored_ok (bx : Int × Int) (ws ps : List T3) (ac : Bool) (hw : ws.length ≤ 1000) : d_l_mirrored [t2 bx, .lst (ws.map t3), .lst (ps.map t3), .bl ac] = if (ws.zip ps).any bad = true then some (.own [.bl true, .bl false]) else some (.own ((ps.zip ((ws.zip ps).map spt)).map fun q => t3 (mir bx ac q))) := by
  have h := mirrored_ok bx ws ps ac hw
  have k := kinds_ok
  clear hw
  unfold d_l_mirrored b_l_mirrored
  by_cases z : (ws.zip ps).any bad = true
  · rw [if_pos z] at h ⊢
    walk_at "eh"
  · rw [if_neg z] at h ⊢
    walk_at "eh"
theorem lspots_ok (ws ps : List T3) (hw : ws.length ≤ 1000) : d_l_spots [.lst (ws.map t3), .lst (ps.map t3)] = some (.own ((ws.zip ps).map fun q => t4 (spt q))) := by
  have hz := zipD_map t3 t3 ws ps
  have hk : (ws.zip ps).length ≤ 1000 := by rw [List.length_zip]; omega
  obtain ⟨e', k1, o3, o4, o5, o6, rfl⟩ := for_map (b := bTup [bName 3, bName 4]) (body := (sSeq (sPar 5 6 (aC (eB gIxT (eV 3) (eC (.int 0))) (aC (eB gIxT (eV 3) (eC (.int 1))) aN))) (sSeq (sIf (bZ (eB gIxT (eV 4) (eC (.int 2)))) (sPar 5 6 (aC (eV 6) (aC (eV 5) aN))) sNx) (sApp 2 (eT (aC (eB gIxT (eV 4) (eC (.int 0))) (aC (eB gIxT (eV 4) (eC (.int 1))) (aC (eB gAdd (eB gIxT (eV 4) (eC (.int 0))) (eV 5)) (aC (eB gAdd (eB gIxT (eV 4) (eC (.int 1))) (eV 6)) aN)))))))))
    (fun q : T3 × T3 => D.tup [t3 q.1, t3 q.2])
    (fun pre e => ∃ o3 o4 o5 o6, e = [.fz (.lst (ws.map t3)), .fz (.lst (ps.map t3)), .ow (pre.map fun q => t4 (spt q)), un o3, un o4, un o5, un o6])
    (ws.zip ps) [.fz (.lst (ws.map t3)), .fz (.lst (ps.map t3)), .ow [], .no, .no, .no, .no] ⟨none, none, none, none, rfl⟩ (by
      rintro pre ⟨⟨w, h, t⟩, ⟨x, y, l⟩⟩ post e hq ⟨o5, o6, o7, o8, rfl⟩
      have hs : (pre.map fun q => t4 (spt q)).length < sizeLine := by
        rw [hq, List.length_append] at hk
        rw [List.length_map]; show _ < 2 ^ 24; omega
      rw [List.map_append]
      generalize (pre.map fun q => t4 (spt q)) = acc at *
      clear hq hk hz
      unfold spt
      cases l <;> (walk_at "eh"; exact ⟨_, rfl, some _, some _, some _, some _, rfl⟩))
  clear hk hw
  unfold d_l_spots b_l_spots
  walk_at "eh"
theorem top_le (ns : List Int) (a : Int) (h : a ∈ ns) : a ≤ topI 0 ns := by
  cases ns with
  | nil => cases h
  | cons n ns =>
    have := foldl_max_le ns n
    rcases List.mem_cons.mp h with rfl | h
    · exact this.1
    · exact this.2 a h
theorem top_mem (ns : List Int) (h : ns ≠ []) : topI 0 ns ∈ ns := by
  cases ns with
  | nil => exact absurd rfl h
  | cons n ns =>
    rcases foldl_max_mem ns n with e | e
    · show ns.foldl max n ∈ _; rw [e]; exact List.mem_cons_self
    · exact List.mem_cons_of_mem _ e
theorem whole_ok (i : Int) : d_l_whole [.int i] = some (.ret (.bl true)) := rfl
theorem lends_ok (ns : List Int) : d_l_ends [.int (topI 0 ns), .lst (ns.map .int)] = some (.ret (.bl true)) := by
  have w := whole_ok
  have key := for_stop (b := bName 2) (body := (sIf (bZ (eB gGt (eV 2) (eV 0))) (sRet (eC (.bl false))) sNx)) (r := .rt (.bl false)) rfl D.int (fun _ e => ∃ o, e = [.fz (.int (topI 0 ns)), .fz (.lst (ns.map .int)), un o]) (fun n => decide (topI 0 ns < n)) ns [.fz (.int (topI 0 ns)), .fz (.lst (ns.map .int)), .no] ⟨none, rfl⟩ (by
    rintro pre x post e hq ⟨o, rfl⟩
    have hx : ¬ topI 0 ns < x := by have := top_le ns x (by rw [hq]; simp); omega
    clear hq
    rw [if_neg (by simpa using hx)]
    walk_at "eh"
    exact ⟨_, rfl, some _, rfl⟩)
  rw [if_neg (by
    rw [List.any_eq_true]
    rintro ⟨x, m, h⟩
    have := top_le ns x m
    simp at h
    omega)] at key
  obtain ⟨e', k1, o, rfl⟩ := key
  unfold d_l_ends b_l_ends
  cases ns with
  | nil => walk_at "eh"
  | cons n ns =>
    have f6 := gIn_ints false (topI 0 (n :: ns)) (n :: ns)
    rw [List.contains_iff_mem.mpr (top_mem (n :: ns) (by simp))] at f6
    generalize topI 0 (n :: ns) = t at *
    generalize (n :: ns).map D.int = l at *
    generalize gIn false = g at *
    walk_at "eh"
theorem lmirror_ok (bx : Int × Int) (ps : List T3) (sp : List T4) (ac : Bool) (hl : ps.length = sp.length) : d_l_mirror [.lst ((ps.zip sp).map fun q => t3 (mir bx ac q)), t2 bx, .lst (ps.map t3), .lst (sp.map t4), .bl ac] = some (.ret (.bl true)) := by
  have w := whole_ok
  have l1 : (((ps.zip sp).map fun q => t3 (mir bx ac q)).length : Int) = ps.length := by rw [List.length_map, List.length_zip]; omega
  have l2 : ((ps.map t3).length : Int) = ps.length := by rw [List.length_map]
  have hz := zip3D_map (fun q => t3 (mir bx ac q)) t3 t4 (ps.zip sp) ps sp
  obtain ⟨e', k1, o5, o6, o7, rfl⟩ := for_map (b := bTup [bName 5, bName 6, bName 7]) (body := (sSeq (sIf (bOr (bNot (bZ (eIsiV 5 "tuple"))) (bOr (bZ (eB (gEq true) (eCV gLen 5) (eC (.int 3)))) (bNot (bZ (eCB gIsi (aC (eB gIxT (eV 5) (eC (.int 2))) (aC (eC (.ty "bool")) aN))))))) (sRet (eC (.bl false))) sNx) (sSeq (sIf (bOr (bNot (bZ (eCall0 d_l_whole (aC (eB gIxT (eV 5) (eC (.int 0))) aN)))) (bOr (bNot (bZ (eCall0 d_l_whole (aC (eB gIxT (eV 5) (eC (.int 1))) aN)))) (bZ (eB (gEq true) (eB gIxT (eV 5) (eC (.int 2))) (eB gIxT (eV 6) (eC (.int 2))))))) (sRet (eC (.bl false))) sNx) (sSeq (sIf (bAnd (bZ (eV 4)) (bOr (bZ (eB (gEq true) (eB gIxT (eV 5) (eC (.int 0))) (eB gSub' (eB gIxT (eV 1) (eC (.int 0))) (eB gIxT (eV 7) (eC (.int 2)))))) (bZ (eB (gEq true) (eB gIxT (eV 5) (eC (.int 1))) (eB gIxT (eV 6) (eC (.int 1))))))) (sRet (eC (.bl false))) sNx) (sIf (bAnd (bNot (bZ (eV 4))) (bOr (bZ (eB (gEq true) (eB gIxT (eV 5) (eC (.int 1))) (eB gSub' (eB gIxT (eV 1) (eC (.int 1))) (eB gIxT (eV 7) (eC (.int 3)))))) (bZ (eB (gEq true) (eB gIxT (eV 5) (eC (.int 0))) (eB gIxT (eV 6) (eC (.int 0))))))) (sRet (eC (.bl false))) sNx)))))
    (fun q : (T3 × T4) × T3 × T4 => D.tup [t3 (mir bx ac q.1), t3 q.2.1, t4 q.2.2])
    (fun pre e => ∃ o5 o6 o7, e = [.fz (.lst ((ps.zip sp).map fun q => t3 (mir bx ac q))), .fz (t2 bx), .fz (.lst (ps.map t3)), .fz (.lst (sp.map t4)), .fz (.bl ac), un o5, un o6, un o7])
    ((ps.zip sp).zip (ps.zip sp)) [.fz (.lst ((ps.zip sp).map fun q => t3 (mir bx ac q))), .fz (t2 bx), .fz (.lst (ps.map t3)), .fz (.lst (sp.map t4)), .fz (.bl ac), .no, .no, .no] ⟨none, none, none, rfl⟩ (by
      rintro pre ⟨q1, q2⟩ post e hq ⟨o5, o6, o7, rfl⟩
      have hm : (q1, q2) ∈ (ps.zip sp).zip (ps.zip sp) := by rw [hq]; simp
      have he : q1 = q2 := by
        have := List.of_mem_zip hm
        clear this
        have : ∀ (l : List (T3 × T4)) (a b : T3 × T4), (a, b) ∈ l.zip l → a = b := fun l => by
          induction l with
          | nil => intro a b h; cases h
          | cons c l ih =>
            intro a b h
            rw [List.zip_cons_cons] at h
            rcases List.mem_cons.mp h with h | h
            · cases h; rfl
            · exact ih a b h
        exact this _ _ _ hm
      subst he
      generalize D.lst ((ps.zip sp).map fun q => t3 (mir bx ac q)) = L1 at *
      clear hq hm hz l1 l2 hl
      obtain ⟨⟨x, y, l⟩, ⟨a, b, c, d⟩⟩ := q1
      unfold mir
      cases ac <;> cases l <;> (walk_at "eh"; exact ⟨_, rfl, some _, some _, some _, rfl⟩))
  have hzz : ((ps.zip sp).zip (ps.zip sp)).map (fun q => D.tup [t3 (mir bx ac q.1), t3 q.2.1, t4 q.2.2]) = zip3D ((ps.zip sp).map fun q => t3 (mir bx ac q)) (ps.map t3) (sp.map t4) := hz.symm
  rw [hzz] at k1
  generalize (ps.zip sp).map (fun q => t3 (mir bx ac q)) = L1 at *
  clear hz hzz
  generalize ps.map t3 = L2' at *
  generalize sp.map t4 = L3 at *
  clear hl
  unfold d_l_mirror b_l_mirror
  walk_at "eh"
theorem good_ok (bx : Int × Int) (ws ps : List T3) (hl : ws.length = ps.length) (hw : ws.length ≤ 1000) (hb : (ws.zip ps).any bad = false) : d_l_good [t2 bx, .lst (ws.map t3), .lst (ps.map t3)] = some (.ret (.bl true)) := by
  have h1 := lspots_ok ws ps hw
  have h2 := lused_ok ws ps hw
  have h3 := fun ac => lmirrored_ok bx ws ps ac hw
  have h4 := lmirror_ok bx ps ((ws.zip ps).map spt)
  have hs : ((ws.zip ps).map spt).length ≤ 1000 := by rw [List.length_map, List.length_zip]; omega
  have h5 := fun ac => h4 ac (by rw [List.length_map, List.length_zip]; omega)
  rw [hb] at h2
  simp only [hb] at h3
  have e : ((ws.zip ps).map fun q => t4 (spt q)) = ((ws.zip ps).map spt).map t4 := by rw [List.map_map]; rfl
  rw [e] at h1
  have c2 := compV (n := 0) (·.2.2.1) 2 ((ws.zip ps).map spt) hs (fun s => rfl)
  have c3 := compV (n := 0) (·.2.2.2) 3 ((ws.zip ps).map spt) hs (fun s => rfl)
  have m2 := lends_ok (((ws.zip ps).map spt).map (·.2.2.1))
  have m3 := lends_ok (((ws.zip ps).map spt).map (·.2.2.2))
  unfold ends at h2
  clear hb hw hl h4 hs e
  generalize ((ws.zip ps).map spt) = sp at *
  unfold d_l_good b_l_good
  walk_at "eh"
theorem cell_ok {ns : List Int} {k : Int} (hk : 0 ≤ k) : d_l_cell_at [.scr ns, .int k] = some (.ret (.int (cellAt ns k))) := by
  rw [← cell_eq hk]
  unfold d_l_cell_at b_l_cell_at
  walk_at "ev"
  split
  · cases atI ns k <;> rfl
  · rfl
theorem side_ok {i : Int} (h : Fits i) : ∃ v, d_l_side [.int i] = some (.ret (.int v)) := by
  have hm : gMul (.int (i / 5)) (.int (7919 ^ Int.toNat 11)) = some (.int (i / 5 * 7919 ^ Int.toNat 11)) := gMul_eq (h.div.mul (fits_lit (by decide +kernel)))
  unfold d_l_side b_l_side
  walk_at "ev"
  rw [hm]
  walk_at "ev"
  split
  · exact ⟨_, rfl⟩
  split
  · exact ⟨_, rfl⟩
  split
  · exact ⟨_, rfl⟩
  exact ⟨_, rfl⟩
theorem ware_ok0 (i : Int) : ∃ w h t, d_l_ware [.int i] = some (.ret (.tup [.int w, .int h, .bl t])) := by
  have f1 : Fits (i % 10 ^ 60) := .mod (by decide) fits_lit
  obtain ⟨a, ha⟩ := side_ok (i := i % 10 ^ Int.toNat 60) f1
  have f2 : Fits ((i % 10 ^ Int.toNat 60 * 48271 + 29) % 2147483647 / 12) := (Fits.mod (by decide) fits_lit).div
  obtain ⟨b, hb⟩ := side_ok f2
  have f3 : Fits (i % 10 ^ 60 * 69621 + 3) := (fits_lit (i := 10 ^ 60 * 69622)).le (by
    have h1 := Int.emod_nonneg i (show (10 ^ 60 : Int) ≠ 0 by decide)
    have h2 := Int.emod_lt_of_pos i (show (0 : Int) < 10 ^ 60 by decide)
    omega)
  obtain ⟨c', hc⟩ := side_ok (i := i % 10 ^ Int.toNat 60 * 69621 + 3) f3
  unfold d_l_ware b_l_ware
  walk_at "eh"
  split
  · split
    · exact ⟨_, _, _, rfl⟩
    · exact ⟨_, _, _, rfl⟩
  · split
    · exact ⟨_, _, _, rfl⟩
    · exact ⟨_, _, _, rfl⟩
theorem far_ok {i : Int} (h : Fits i) : ∃ v, d_l_far [.int i] = some (.ret (.int v)) := by
  have hm : gMul (.int (i / 3)) (.int (7919 ^ Int.toNat 11)) = some (.int (i / 3 * 7919 ^ Int.toNat 11)) := gMul_eq (h.div.mul (fits_lit (by decide +kernel)))
  have h1 := Int.emod_nonneg (i / 3) (show (6 : Int) ≠ 0 by decide)
  have h2 := Int.emod_lt_of_pos (i / 3) (show (0 : Int) < 6 by decide)
  unfold d_l_far b_l_far
  walk_at "ev"
  rw [hm]
  walk_at "ev"
  split
  · exact ⟨_, rfl⟩
  split
  · rcases (show i / 3 % 6 = 0 ∨ i / 3 % 6 = 1 ∨ i / 3 % 6 = 2 ∨ i / 3 % 6 = 3 ∨ i / 3 % 6 = 4 ∨ i / 3 % 6 = 5 by omega) with e | e | e | e | e | e <;> (rw [e]; walk_at "ev"; exact ⟨_, rfl⟩)
  · exact ⟨_, rfl⟩
theorem ware_ok (i : Int) : ∃ w : T3, d_l_ware [.int i] = some (.ret (t3 w)) := by
  obtain ⟨w, h, t, e⟩ := ware_ok0 i
  exact ⟨(w, h, t), e⟩
theorem at4 (a b c d : Int) (i : Int) : ∃ v, atI [D.int a, .int b, .int c, .int d] (i % 4) = some (.int v) := by
  rcases (show i % 4 = 0 ∨ i % 4 = 1 ∨ i % 4 = 2 ∨ i % 4 = 3 by omega) with e | e | e | e <;> rw [e]
  · exact ⟨_, atI_0⟩
  · exact ⟨_, atI_1⟩
  · exact ⟨_, atI_2⟩
  · exact ⟨_, atI_3⟩
theorem box_ok {i j : Int} (hi : Fits i) (hj : Fits j) : ∃ p : Int × Int, d_l_box [.int i, .int j] = some (.ret (t2 p)) := by
  have h1 : gMul (.int i) (.int (7919 ^ Int.toNat 11)) = some (.int (i * 7919 ^ Int.toNat 11)) := gMul_eq (hi.mul (fits_lit (by decide +kernel)))
  have h2 : gMul (.int j) (.int (7919 ^ Int.toNat 11)) = some (.int (j * 7919 ^ Int.toNat 11)) := gMul_eq (hj.mul (fits_lit (by decide +kernel)))
  obtain ⟨v, hv⟩ := at4 0 1 (10 ^ Int.toNat 42) (10 ^ Int.toNat 42 - 1) (i / 3)
  obtain ⟨u, hu⟩ := at4 0 1 (10 ^ Int.toNat 42) (10 ^ Int.toNat 42 - 1) (j / 3)
  clear hi hj
  unfold d_l_box b_l_box
  have e1 : i % 3 = 0 ∨ i % 3 = 1 ∨ i % 3 = 2 := by omega
  have e2 : j % 3 = 0 ∨ j % 3 = 1 ∨ j % 3 = 2 := by omega
  rcases e1 with e1 | e1 | e1 <;> rcases e2 with e2 | e2 | e2 <;> (walk_at "eh"; exact ⟨(_, _), rfl⟩)
theorem case_ok (ns : List Int) : ∃ ws ps : List T3, d_l_case [.scr ns] = some (.ret (.tup [.lst (ws.map t3), .lst (ps.map t3)])) ∧ ws.length = ps.length ∧ ws.length ≤ 30 ∧ (ws.zip ps).any bad = false := by
  have hc : cutD (ns.map D.int) (some 4) (some 34) = ((ns.drop 4).take 30).map D.int := by
    rw [cut_mid (by decide) (by decide)]
    show ((ns.map D.int).drop 4).take 30 = _
    rw [List.map_take, List.map_drop]
  have hlen : ((ns.drop 4).take 30).length ≤ 30 := by rw [List.length_take]; omega
  generalize (ns.drop 4).take 30 = l at *
  obtain ⟨e', k1, ws, ps, o3, o4, o5, o6, h1, h2, h3, rfl⟩ := for_map (b := bName 3) (body := (sSeq (sSet 4 (eB gMod (eV 3) (eB gPow (eC (.int 10)) (eC (.int 60))))) (sSeq (sSet 5 (eB gMod (eB gAdd (eB gMul (eV 4) (eC (.int 48271))) (eC (.int 7))) (eC (.int 2147483647)))) (sSeq (sSetC0 6 d_l_ware (aC (eB gAdd (eB gMul (eV 4) (eC (.int 31))) (eC (.int 5))) aN)) (sSeq (sApp 1 (eV 6)) (sApp 2 (eT (aC (eCall0 d_l_far (aC (eV 4) aN)) (aC (eCall0 d_l_far (aC (eB gDiv (eV 5) (eC (.int 4))) aN)) (aC (eAnd (eB gIxT (eV 6) (eC (.int 2))) (eB gGt (eB gMod (eV 5) (eC (.int 4))) (eC (.int 1)))) aN))))))))))
    D.int (fun pre e => ∃ (ws ps : List T3) (o3 o4 o5 o6 : Option D), ws.length = pre.length ∧ ps.length = pre.length ∧ (ws.zip ps).any bad = false ∧ e = [.fz (.scr ns), .ow (ws.map t3), .ow (ps.map t3), un o3, un o4, un o5, un o6])
    l [.fz (.scr ns), .ow [], .ow [], .no, .no, .no, .no] ⟨[], [], none, none, none, none, rfl, rfl, rfl, rfl⟩ (by
      rintro pre i post e hq ⟨ws, ps, o3, o4, o5, o6, h1, h2, h3, rfl⟩
      have hp : pre.length < 30 := by rw [hq, List.length_append, List.length_cons] at hlen; omega
      have f1 : Fits (i % 10 ^ Int.toNat 60) := .mod (by decide) fits_lit
      have f2 : Fits ((i % 10 ^ Int.toNat 60 * 48271 + 7) % 2147483647 / 4) := (Fits.mod (by decide) fits_lit).div
      obtain ⟨⟨w, h, t⟩, e1⟩ := ware_ok (i % 10 ^ Int.toNat 60 * 31 + 5)
      obtain ⟨x, e2⟩ := far_ok f1
      obtain ⟨y, e3⟩ := far_ok f2
      have s1 : (ws.map t3).length < sizeLine := by rw [List.length_map]; show _ < 2 ^ 24; omega
      have s2 : (ps.map t3).length < sizeLine := by rw [List.length_map]; show _ < 2 ^ 24; omega
      have key : ∀ b : Bool, (b = true → t = true) → ∀ e2, e2 = [Sl.fz (.scr ns), .ow (ws.map t3 ++ [t3 (w, h, t)]), .ow (ps.map t3 ++ [t3 (x, y, b)]), .fz (.int i), .fz (.int (i % 10 ^ Int.toNat 60)), .fz (.int ((i % 10 ^ Int.toNat 60 * 48271 + 7) % 2147483647)), .fz (t3 (w, h, t))] → ∃ (ws ps : List T3) (o3 o4 o5 o6 : Option D), ws.length = (pre ++ [i]).length ∧ ps.length = (pre ++ [i]).length ∧ (ws.zip ps).any bad = false ∧ e2 = [.fz (.scr ns), .ow (ws.map t3), .ow (ps.map t3), un o3, un o4, un o5, un o6] := by
        rintro b hb e2 rfl
        refine ⟨ws ++ [(w, h, t)], ps ++ [(x, y, b)], some _, some _, some _, some _, by simp [h1], by simp [h2], ?_, by rw [List.map_append, List.map_append]; rfl⟩
        rw [List.zip_append (by omega), List.any_append, h3]
        unfold bad
        cases b
        · simp
        · simp [hb rfl]
      generalize ws.map t3 = A at *
      generalize ps.map t3 = B at *
      clear f1 f2 hq hlen hc
      generalize hI : (fun e2 => ∃ (ws ps : List T3) (o3 o4 o5 o6 : Option D), ws.length = (pre ++ [i]).length ∧ ps.length = (pre ++ [i]).length ∧ (ws.zip ps).any bad = false ∧ e2 = [Sl.fz (.scr ns), .ow (ws.map t3), .ow (ps.map t3), un o3, un o4, un o5, un o6]) = J
      have key : ∀ b : Bool, (b = true → t = true) → J [Sl.fz (.scr ns), .ow (A ++ [t3 (w, h, t)]), .ow (B ++ [t3 (x, y, b)]), .fz (.int i), .fz (.int (i % 10 ^ Int.toNat 60)), .fz (.int ((i % 10 ^ Int.toNat 60 * 48271 + 7) % 2147483647)), .fz (t3 (w, h, t))] := fun b hb => by rw [← hI]; exact key b hb _ rfl
      show ∃ e2, _ ∧ (fun e2 => ∃ (ws ps : List T3) (o3 o4 o5 o6 : Option D), ws.length = (pre ++ [i]).length ∧ ps.length = (pre ++ [i]).length ∧ (ws.zip ps).any bad = false ∧ e2 = [Sl.fz (.scr ns), .ow (ws.map t3), .ow (ps.map t3), un o3, un o4, un o5, un o6]) e2
      rw [hI]
      clear hI h1 h2 h3 hp
      cases t
      · have key := key false (by simp)
        walk_at "eh"
        exact ⟨_, rfl, key⟩
      · have k1 := fun b => key b (fun _ => rfl)
        clear key
        walk_at "eh"
        exact ⟨_, rfl, k1 _⟩)
  refine ⟨ws, ps, ?_, by omega, by omega, h3⟩
  clear h1 h2 h3 hlen
  unfold d_l_case b_l_case
  walk_at "eh"
theorem bad_sub {l l' : List (T3 × T3)} (h : l'.any bad = false) (s : ∀ q ∈ l, q ∈ l') : l.any bad = false := by
  rw [List.any_eq_false] at h ⊢
  exact fun q m => h q (s q m)
theorem plain3 (l : List T3) : plainDs (l.map t3) = true := plainDs_map fun a _ => rfl
theorem dep3 (l : List T3) : depDs (l.map t3) ≤ 2 := depDs_map fun a _ => by simp [depD, depDs]
theorem eq_refl2 (ws ps : List T3) : gEqT false (.lst [.lst (ws.map t3), .lst (ps.map t3)]) (.lst [.lst (ws.map t3), .lst (ps.map t3)]) = some (.bl true) := by
  have := gEqT_refl (d := .lst [.lst (ws.map t3), .lst (ps.map t3)]) false (by simp only [plainD, plainDs, plain3]; rfl) (by
    have h1 := dep3 ws
    have h2 := dep3 ps
    simp only [depD, depDs]; omega) rfl
  exact this
theorem main (ns : List Int) (hl : ns.length ≤ 63) (hb : ∀ m ∈ ns, Builtin.Int.intBits m ≤ 2 ^ 20) : d_law [.scr ns] = some (.ret (.bl true)) := by
  have c := fun (k : Int) (hk : 0 ≤ k) => cell_ok (ns := ns) hk
  obtain ⟨bx, b1⟩ := box_ok (fits_cell hb 0) (fits_cell hb 1)
  obtain ⟨ws, ps, k1, k2, k3, k4⟩ := case_ok ns
  have g1 := good_ok bx ws ps k2 (by omega) k4
  have g2 := good_ok bx (ws.take 1) (ps.take 1) (by simp [k2]) (by simp; omega) (bad_sub k4 fun q m => by
    rw [zip_take] at m; exact List.mem_of_mem_take m)
  have t1 : cutD (ws.map t3) none (some 1) = (ws.take 1).map t3 := by rw [cut_take (by decide), List.map_take]; rfl
  have t2' : cutD (ps.map t3) none (some 1) = (ps.take 1).map t3 := by rw [cut_take (by decide), List.map_take]; rfl
  have r := eq_refl2
  have ll : (ws.map t3).length = ws.length := List.length_map ..
  have hE : gEqT true (.lst [.bl true, .bl false]) (.lst [.bl true, .bl false]) = some (.bl false) := rfl
  by_cases z : cellAt ns 2 % 4 = 1
  · obtain ⟨n, hn, hn'⟩ : ∃ n : Nat, cellAt ns 3 % ((ws.length : Int) + 1) = (n : Int) ∧ n ≤ ws.length := by
      have p1 := Int.emod_nonneg (cellAt ns 3) (show ((ws.length : Int) + 1) ≠ 0 by omega)
      have p2 := Int.emod_lt_of_pos (cellAt ns 3) (show (0 : Int) < (ws.length : Int) + 1 by omega)
      exact ⟨(cellAt ns 3 % ((ws.length : Int) + 1)).toNat, by omega, by omega⟩
    have hpos : 0 < (ws.length : Int) + 1 := by omega
    have m1 : gMod (.int (cellAt ns 3)) (.int ((ws.length : Int) + 1)) = some (.int (n : Int)) := by rw [gMod_eq hpos, hn]
    have u1 : cutD (ws.map t3) none (some (n : Int)) = (ws.take n).map t3 := by rw [cut_take (by omega), List.map_take]; rfl
    have u2 : cutD (ws.map t3) (some (n : Int)) none = (ws.drop n).map t3 := by rw [cut_drop (by omega), List.map_drop]; rfl
    have u3 : cutD (ps.map t3) none (some (n : Int)) = (ps.take n).map t3 := by rw [cut_take (by omega), List.map_take]; rfl
    have u4 : cutD (ps.map t3) (some (n : Int)) none = (ps.drop n).map t3 := by rw [cut_drop (by omega), List.map_drop]; rfl
    have a1 : gCat (.lst ((ws.take n).map t3)) (.lst [.tup [.int 3, .int 3, .bl false]]) = some ((ws.take n ++ [(3, 3, false)]).map t3) := by
      rw [gCat_eq (by simp; omega), List.map_append]; rfl
    have a2 : gCat (.lst ((ws.take n ++ [(3, 3, false)]).map t3)) (.lst ((ws.drop n).map t3)) = some ((ws.take n ++ [(3, 3, false)] ++ ws.drop n).map t3) := by
      rw [gCat_eq (by simp; omega), List.map_append (l₂ := ws.drop n)]
    have a3 : gCat (.lst ((ps.take n).map t3)) (.lst [.tup [.int 0, .int 1, .bl true]]) = some ((ps.take n ++ [(0, 1, true)]).map t3) := by
      rw [gCat_eq (by simp; omega), List.map_append]; rfl
    have a4 : gCat (.lst ((ps.take n ++ [(0, 1, true)]).map t3)) (.lst ((ps.drop n).map t3)) = some ((ps.take n ++ [(0, 1, true)] ++ ps.drop n).map t3) := by
      rw [gCat_eq (by simp; omega), List.map_append (l₂ := ps.drop n)]
    have zz : ∀ b : Bool, (ws.take n ++ [(3, 3, b)] ++ ws.drop n).zip (ps.take n ++ [(0, 1, true)] ++ ps.drop n) = (ws.take n).zip (ps.take n) ++ [((3, 3, b), (0, 1, true))] ++ (ws.drop n).zip (ps.drop n) := fun b => by
      rw [List.zip_append (by simp; omega), List.zip_append (by simp; omega)]; rfl
    have n1 : ((ws.take n).zip (ps.take n)).any bad = false := bad_sub k4 fun q m => by rw [zip_take] at m; exact List.mem_of_mem_take m
    have n2 : ((ws.drop n).zip (ps.drop n)).any bad = false := bad_sub k4 fun q m => by rw [zip_drop] at m; exact List.mem_of_mem_drop m
    have B1 : ((ws.take n ++ [(3, 3, false)] ++ ws.drop n).zip (ps.take n ++ [(0, 1, true)] ++ ps.drop n)).any bad = true := by
      rw [zz, List.any_append, List.any_append, n1, n2]; rfl
    have B2 : ((ws.take n ++ [(3, 3, true)] ++ ws.drop n).zip (ps.take n ++ [(0, 1, true)] ++ ps.drop n)).any bad = false := by
      rw [zz, List.any_append, List.any_append, n1, n2]; rfl
    have v1 := lused_ok (ws.take n ++ [(3, 3, false)] ++ ws.drop n) (ps.take n ++ [(0, 1, true)] ++ ps.drop n) (by simp; omega)
    rw [if_pos B1] at v1
    have v2 := fun ac => lmirrored_ok bx (ws.take n ++ [(3, 3, false)] ++ ws.drop n) (ps.take n ++ [(0, 1, true)] ++ ps.drop n) ac (by simp; omega)
    simp only [if_pos B1] at v2
    have g3 := good_ok bx (ws.take n ++ [(3, 3, true)] ++ ws.drop n) (ps.take n ++ [(0, 1, true)] ++ ps.drop n) (by simp; omega) (by simp; omega) B2
    have i1 : ixN ((ws.take n ++ [(3, 3, false)] ++ ws.drop n).map t3).length (n : Int) = some n := by
      exact ixN_nat (by simp; omega)
    have i2 : ((ws.take n ++ [(3, 3, false)] ++ ws.drop n).map t3).set n (.tup [.int 3, .int 3, .bl true]) = (ws.take n ++ [(3, 3, true)] ++ ws.drop n).map t3 := by
      rw [← List.map_set (f := t3) (a := (3, 3, true)), List.set_append_left _ _ (by simp; omega), List.set_append_right _ _ (by simp; omega)]
      have : n - (List.take n ws).length = 0 := by simp; omega
      rw [this]; rfl
    have r1 := r (ws.take n ++ [(3, 3, true)] ++ ws.drop n) (ps.take n ++ [(0, 1, true)] ++ ps.drop n)
    clear r B1 B2 n1 n2 zz k4 k2 k3 hb hl hn hn' hpos
    generalize (ws.take n ++ [(3, 3, false)] ++ ws.drop n) = W2 at *
    generalize (ws.take n ++ [(3, 3, true)] ++ ws.drop n) = W3 at *
    generalize (ps.take n ++ [(0, 1, true)] ++ ps.drop n) = P2 at *
    unfold d_law b_law
    generalize gEqT = gq at *
    generalize gCat = gc at *
    walk_at "eh"
  · have r := r ws ps
    clear k4 k2 k3 hb hl
    unfold d_law b_law
    generalize gEqT = gq at *
    walk_at "eh"
def sp_law (K : PySem.W.Frag) (c : Str → Addr) : Sp := fun vs H Q _ => ∃ a, ∃ ns : List Int, vs = [.ref a] ∧ Scr K H a (ns.map V.int) ∧ (∀ m ∈ ns, Builtin.Int.intBits m ≤ 2 ^ 20) ∧ ns.length ≤ 63 ∧ ∀ H', Q (.bl true) H'
theorem ok_law {f : Addr} {fd : FuncData} (F : Fun K "law" "law" s_law f fd) (T : Txt K mg c) (G_l_box : Own P w K mg base 3 "_law_box" ["_law_cell", "_law_other"] (spD K c d_l_box)) (G_l_cell_at : Own P w K mg base 3 "_law_cell_at" ["_law_script", "_law_k"] (spD K c d_l_cell_at)) (G_l_case : Own P w K mg base 7 "_law_case" ["_law_script"] (spD K c d_l_case)) (G_l_good : Own P w K mg base 13 "_law_good" ["_law_box_here", "_law_wares", "_law_places"] (spD K c d_l_good)) (G_l_used : Own P w K mg base 11 "_law_used" ["_law_wares", "_law_places"] (spD K c d_l_used)) (G_l_mirrored : Own P w K mg base 11 "_law_mirrored" ["_law_box_here", "_law_wares", "_law_places", "_law_across"] (spD K c d_l_mirrored)) : FnOk P w K mg base (CXe P w) 15 f fd ["_law_script"] (sp_law K c) :=
  (ok_law0 F T G_l_box G_l_cell_at G_l_case G_l_good G_l_used G_l_mirrored).imp fun vs H Q E ⟨a, ns, e, h, hb, hl, q⟩ => spD_law e h q (main ns hl hb)
def cOf (l : List (Str × Addr)) (x : Str) : Addr := (l.lookup x).getD 0
theorem all_mk {w : World} {K : PySem.W.Frag} {h : Heap} {mg : Str → Option Value} {fa : Addr} (X : K.In h) (G : h.Ns mainGlobals mg) (hfa : mg "law" = some (.ref fa))
    {c_BadPacking c_BadPlan c_BadSide c_BadTurn c_CrateError c_Full c_Hangs c_NoDeed c_NoDrawing c_NoPicker c_NoSheet c_NoText c_NoWare c_NoWeighing c_NothingDone c_Ring c_TooMany c_TooWide : Addr} {f_sides_of : Addr} {oc_sides_of kV_sides_of dc_sides_of pm_sides_of cd_sides_of ct_sides_of : Value} {od_sides_of an_sides_of : Option Addr} {sl_sides_of : Array (Option Value)} {f_spot_of : Addr} {oc_spot_of kV_spot_of dc_spot_of pm_spot_of cd_spot_of ct_spot_of : Value} {od_spot_of an_spot_of : Option Addr} {sl_spot_of : Array (Option Value)} {f_spots_of : Addr} {oc_spots_of kV_spots_of dc_spots_of pm_spots_of cd_spots_of ct_spots_of : Value} {od_spots_of an_spots_of : Option Addr} {sl_spots_of : Array (Option Value)} {f_used : Addr} {oc_used kV_used dc_used pm_used cd_used ct_used : Value} {od_used an_used : Option Addr} {sl_used : Array (Option Value)} {f_mirrored : Addr} {oc_mirrored kV_mirrored dc_mirrored pm_mirrored cd_mirrored ct_mirrored : Value} {od_mirrored an_mirrored : Option Addr} {sl_mirrored : Array (Option Value)} {f_l_cell_at : Addr} {oc_l_cell_at kV_l_cell_at dc_l_cell_at pm_l_cell_at cd_l_cell_at ct_l_cell_at : Value} {od_l_cell_at an_l_cell_at : Option Addr} {sl_l_cell_at : Array (Option Value)} {f_l_whole : Addr} {oc_l_whole kV_l_whole dc_l_whole pm_l_whole cd_l_whole ct_l_whole : Value} {od_l_whole an_l_whole : Option Addr} {sl_l_whole : Array (Option Value)} {f_l_side : Addr} {oc_l_side kV_l_side dc_l_side pm_l_side cd_l_side ct_l_side : Value} {od_l_side an_l_side : Option Addr} {sl_l_side : Array (Option Value)} {f_l_ware : Addr} {oc_l_ware kV_l_ware dc_l_ware pm_l_ware cd_l_ware ct_l_ware : Value} {od_l_ware an_l_ware : Option Addr} {sl_l_ware : Array (Option Value)} {f_l_far : Addr} {oc_l_far kV_l_far dc_l_far pm_l_far cd_l_far ct_l_far : Value} {od_l_far an_l_far : Option Addr} {sl_l_far : Array (Option Value)} {f_l_box : Addr} {oc_l_box kV_l_box dc_l_box pm_l_box cd_l_box ct_l_box : Value} {od_l_box an_l_box : Option Addr} {sl_l_box : Array (Option Value)} {f_l_kinds : Addr} {oc_l_kinds kV_l_kinds dc_l_kinds pm_l_kinds cd_l_kinds ct_l_kinds : Value} {od_l_kinds an_l_kinds : Option Addr} {sl_l_kinds : Array (Option Value)} {f_l_case : Addr} {oc_l_case kV_l_case dc_l_case pm_l_case cd_l_case ct_l_case : Value} {od_l_case an_l_case : Option Addr} {sl_l_case : Array (Option Value)} {f_l_spots : Addr} {oc_l_spots kV_l_spots dc_l_spots pm_l_spots cd_l_spots ct_l_spots : Value} {od_l_spots an_l_spots : Option Addr} {sl_l_spots : Array (Option Value)} {f_l_used : Addr} {oc_l_used kV_l_used dc_l_used pm_l_used cd_l_used ct_l_used : Value} {od_l_used an_l_used : Option Addr} {sl_l_used : Array (Option Value)} {f_l_mirrored : Addr} {oc_l_mirrored kV_l_mirrored dc_l_mirrored pm_l_mirrored cd_l_mirrored ct_l_mirrored : Value} {od_l_mirrored an_l_mirrored : Option Addr} {sl_l_mirrored : Array (Option Value)} {f_l_ends : Addr} {oc_l_ends kV_l_ends dc_l_ends pm_l_ends cd_l_ends ct_l_ends : Value} {od_l_ends an_l_ends : Option Addr} {sl_l_ends : Array (Option Value)} {f_l_mirror : Addr} {oc_l_mirror kV_l_mirror dc_l_mirror pm_l_mirror cd_l_mirror ct_l_mirror : Value} {od_l_mirror an_l_mirror : Option Addr} {sl_l_mirror : Array (Option Value)} {f_l_good : Addr} {oc_l_good kV_l_good dc_l_good pm_l_good cd_l_good ct_l_good : Value} {od_l_good an_l_good : Option Addr} {sl_l_good : Array (Option Value)} {f_law : Addr} {oc_law kV_law dc_law pm_law cd_law ct_law : Value} {od_law an_law : Option Addr} {sl_law : Array (Option Value)}
    (a_sides_of : PySem.W.nsIn K mainGlobals "sides_of" = some (some (.ref f_sides_of)))
    (l_sides_of : K.lookup f_sides_of = some ⟨oc_sides_of, od_sides_of, .func (PySem.W.fnOf "sides_of" "sides_of" (defArgs s_sides_of) (defBody s_sides_of) (defScope s_sides_of) .none kV_sides_of dc_sides_of pm_sides_of an_sides_of cd_sides_of ct_sides_of), sl_sides_of⟩)
    (c_sides_of : PySem.W.codeIn K cd_sides_of "sides_of" = true)
    (k_sides_of : PySem.W.keepIn K (.ref f_sides_of) = true)
    (a_spot_of : PySem.W.nsIn K mainGlobals "spot_of" = some (some (.ref f_spot_of)))
    (l_spot_of : K.lookup f_spot_of = some ⟨oc_spot_of, od_spot_of, .func (PySem.W.fnOf "spot_of" "spot_of" (defArgs s_spot_of) (defBody s_spot_of) (defScope s_spot_of) .none kV_spot_of dc_spot_of pm_spot_of an_spot_of cd_spot_of ct_spot_of), sl_spot_of⟩)
    (c_spot_of : PySem.W.codeIn K cd_spot_of "spot_of" = true)
    (k_spot_of : PySem.W.keepIn K (.ref f_spot_of) = true)
    (a_spots_of : PySem.W.nsIn K mainGlobals "spots_of" = some (some (.ref f_spots_of)))
    (l_spots_of : K.lookup f_spots_of = some ⟨oc_spots_of, od_spots_of, .func (PySem.W.fnOf "spots_of" "spots_of" (defArgs s_spots_of) (defBody s_spots_of) (defScope s_spots_of) .none kV_spots_of dc_spots_of pm_spots_of an_spots_of cd_spots_of ct_spots_of), sl_spots_of⟩)
    (c_spots_of : PySem.W.codeIn K cd_spots_of "spots_of" = true)
    (k_spots_of : PySem.W.keepIn K (.ref f_spots_of) = true)
    (a_used : PySem.W.nsIn K mainGlobals "used" = some (some (.ref f_used)))
    (l_used : K.lookup f_used = some ⟨oc_used, od_used, .func (PySem.W.fnOf "used" "used" (defArgs s_used) (defBody s_used) (defScope s_used) .none kV_used dc_used pm_used an_used cd_used ct_used), sl_used⟩)
    (c_used : PySem.W.codeIn K cd_used "used" = true)
    (k_used : PySem.W.keepIn K (.ref f_used) = true)
    (a_mirrored : PySem.W.nsIn K mainGlobals "mirrored" = some (some (.ref f_mirrored)))
    (l_mirrored : K.lookup f_mirrored = some ⟨oc_mirrored, od_mirrored, .func (PySem.W.fnOf "mirrored" "mirrored" (defArgs s_mirrored) (defBody s_mirrored) (defScope s_mirrored) .none kV_mirrored dc_mirrored pm_mirrored an_mirrored cd_mirrored ct_mirrored), sl_mirrored⟩)
    (c_mirrored : PySem.W.codeIn K cd_mirrored "mirrored" = true)
    (k_mirrored : PySem.W.keepIn K (.ref f_mirrored) = true)
    (a_l_cell_at : PySem.W.nsIn K mainGlobals "_law_cell_at" = some (some (.ref f_l_cell_at)))
    (l_l_cell_at : K.lookup f_l_cell_at = some ⟨oc_l_cell_at, od_l_cell_at, .func (PySem.W.fnOf "_law_cell_at" "_law_cell_at" (defArgs s_l_cell_at) (defBody s_l_cell_at) (defScope s_l_cell_at) .none kV_l_cell_at dc_l_cell_at pm_l_cell_at an_l_cell_at cd_l_cell_at ct_l_cell_at), sl_l_cell_at⟩)
    (c_l_cell_at : PySem.W.codeIn K cd_l_cell_at "_law_cell_at" = true)
    (k_l_cell_at : PySem.W.keepIn K (.ref f_l_cell_at) = true)
    (a_l_whole : PySem.W.nsIn K mainGlobals "_law_whole" = some (some (.ref f_l_whole)))
    (l_l_whole : K.lookup f_l_whole = some ⟨oc_l_whole, od_l_whole, .func (PySem.W.fnOf "_law_whole" "_law_whole" (defArgs s_l_whole) (defBody s_l_whole) (defScope s_l_whole) .none kV_l_whole dc_l_whole pm_l_whole an_l_whole cd_l_whole ct_l_whole), sl_l_whole⟩)
    (c_l_whole : PySem.W.codeIn K cd_l_whole "_law_whole" = true)
    (k_l_whole : PySem.W.keepIn K (.ref f_l_whole) = true)
    (a_l_side : PySem.W.nsIn K mainGlobals "_law_side" = some (some (.ref f_l_side)))
    (l_l_side : K.lookup f_l_side = some ⟨oc_l_side, od_l_side, .func (PySem.W.fnOf "_law_side" "_law_side" (defArgs s_l_side) (defBody s_l_side) (defScope s_l_side) .none kV_l_side dc_l_side pm_l_side an_l_side cd_l_side ct_l_side), sl_l_side⟩)
    (c_l_side : PySem.W.codeIn K cd_l_side "_law_side" = true)
    (k_l_side : PySem.W.keepIn K (.ref f_l_side) = true)
    (a_l_ware : PySem.W.nsIn K mainGlobals "_law_ware" = some (some (.ref f_l_ware)))
    (l_l_ware : K.lookup f_l_ware = some ⟨oc_l_ware, od_l_ware, .func (PySem.W.fnOf "_law_ware" "_law_ware" (defArgs s_l_ware) (defBody s_l_ware) (defScope s_l_ware) .none kV_l_ware dc_l_ware pm_l_ware an_l_ware cd_l_ware ct_l_ware), sl_l_ware⟩)
    (c_l_ware : PySem.W.codeIn K cd_l_ware "_law_ware" = true)
    (k_l_ware : PySem.W.keepIn K (.ref f_l_ware) = true)
    (a_l_far : PySem.W.nsIn K mainGlobals "_law_far" = some (some (.ref f_l_far)))
    (l_l_far : K.lookup f_l_far = some ⟨oc_l_far, od_l_far, .func (PySem.W.fnOf "_law_far" "_law_far" (defArgs s_l_far) (defBody s_l_far) (defScope s_l_far) .none kV_l_far dc_l_far pm_l_far an_l_far cd_l_far ct_l_far), sl_l_far⟩)
    (c_l_far : PySem.W.codeIn K cd_l_far "_law_far" = true)
    (k_l_far : PySem.W.keepIn K (.ref f_l_far) = true)
    (a_l_box : PySem.W.nsIn K mainGlobals "_law_box" = some (some (.ref f_l_box)))
    (l_l_box : K.lookup f_l_box = some ⟨oc_l_box, od_l_box, .func (PySem.W.fnOf "_law_box" "_law_box" (defArgs s_l_box) (defBody s_l_box) (defScope s_l_box) .none kV_l_box dc_l_box pm_l_box an_l_box cd_l_box ct_l_box), sl_l_box⟩)
    (c_l_box : PySem.W.codeIn K cd_l_box "_law_box" = true)
    (k_l_box : PySem.W.keepIn K (.ref f_l_box) = true)
    (a_l_kinds : PySem.W.nsIn K mainGlobals "_law_kinds" = some (some (.ref f_l_kinds)))
    (l_l_kinds : K.lookup f_l_kinds = some ⟨oc_l_kinds, od_l_kinds, .func (PySem.W.fnOf "_law_kinds" "_law_kinds" (defArgs s_l_kinds) (defBody s_l_kinds) (defScope s_l_kinds) .none kV_l_kinds dc_l_kinds pm_l_kinds an_l_kinds cd_l_kinds ct_l_kinds), sl_l_kinds⟩)
    (c_l_kinds : PySem.W.codeIn K cd_l_kinds "_law_kinds" = true)
    (k_l_kinds : PySem.W.keepIn K (.ref f_l_kinds) = true)
    (a_l_case : PySem.W.nsIn K mainGlobals "_law_case" = some (some (.ref f_l_case)))
    (l_l_case : K.lookup f_l_case = some ⟨oc_l_case, od_l_case, .func (PySem.W.fnOf "_law_case" "_law_case" (defArgs s_l_case) (defBody s_l_case) (defScope s_l_case) .none kV_l_case dc_l_case pm_l_case an_l_case cd_l_case ct_l_case), sl_l_case⟩)
    (c_l_case : PySem.W.codeIn K cd_l_case "_law_case" = true)
    (k_l_case : PySem.W.keepIn K (.ref f_l_case) = true)
    (a_l_spots : PySem.W.nsIn K mainGlobals "_law_spots" = some (some (.ref f_l_spots)))
    (l_l_spots : K.lookup f_l_spots = some ⟨oc_l_spots, od_l_spots, .func (PySem.W.fnOf "_law_spots" "_law_spots" (defArgs s_l_spots) (defBody s_l_spots) (defScope s_l_spots) .none kV_l_spots dc_l_spots pm_l_spots an_l_spots cd_l_spots ct_l_spots), sl_l_spots⟩)
    (c_l_spots : PySem.W.codeIn K cd_l_spots "_law_spots" = true)
    (k_l_spots : PySem.W.keepIn K (.ref f_l_spots) = true)
    (a_l_used : PySem.W.nsIn K mainGlobals "_law_used" = some (some (.ref f_l_used)))
    (l_l_used : K.lookup f_l_used = some ⟨oc_l_used, od_l_used, .func (PySem.W.fnOf "_law_used" "_law_used" (defArgs s_l_used) (defBody s_l_used) (defScope s_l_used) .none kV_l_used dc_l_used pm_l_used an_l_used cd_l_used ct_l_used), sl_l_used⟩)
    (c_l_used : PySem.W.codeIn K cd_l_used "_law_used" = true)
    (k_l_used : PySem.W.keepIn K (.ref f_l_used) = true)
    (a_l_mirrored : PySem.W.nsIn K mainGlobals "_law_mirrored" = some (some (.ref f_l_mirrored)))
    (l_l_mirrored : K.lookup f_l_mirrored = some ⟨oc_l_mirrored, od_l_mirrored, .func (PySem.W.fnOf "_law_mirrored" "_law_mirrored" (defArgs s_l_mirrored) (defBody s_l_mirrored) (defScope s_l_mirrored) .none kV_l_mirrored dc_l_mirrored pm_l_mirrored an_l_mirrored cd_l_mirrored ct_l_mirrored), sl_l_mirrored⟩)
    (c_l_mirrored : PySem.W.codeIn K cd_l_mirrored "_law_mirrored" = true)
    (k_l_mirrored : PySem.W.keepIn K (.ref f_l_mirrored) = true)
    (a_l_ends : PySem.W.nsIn K mainGlobals "_law_ends" = some (some (.ref f_l_ends)))
    (l_l_ends : K.lookup f_l_ends = some ⟨oc_l_ends, od_l_ends, .func (PySem.W.fnOf "_law_ends" "_law_ends" (defArgs s_l_ends) (defBody s_l_ends) (defScope s_l_ends) .none kV_l_ends dc_l_ends pm_l_ends an_l_ends cd_l_ends ct_l_ends), sl_l_ends⟩)
    (c_l_ends : PySem.W.codeIn K cd_l_ends "_law_ends" = true)
    (k_l_ends : PySem.W.keepIn K (.ref f_l_ends) = true)
    (a_l_mirror : PySem.W.nsIn K mainGlobals "_law_mirror" = some (some (.ref f_l_mirror)))
    (l_l_mirror : K.lookup f_l_mirror = some ⟨oc_l_mirror, od_l_mirror, .func (PySem.W.fnOf "_law_mirror" "_law_mirror" (defArgs s_l_mirror) (defBody s_l_mirror) (defScope s_l_mirror) .none kV_l_mirror dc_l_mirror pm_l_mirror an_l_mirror cd_l_mirror ct_l_mirror), sl_l_mirror⟩)
    (c_l_mirror : PySem.W.codeIn K cd_l_mirror "_law_mirror" = true)
    (k_l_mirror : PySem.W.keepIn K (.ref f_l_mirror) = true)
    (a_l_good : PySem.W.nsIn K mainGlobals "_law_good" = some (some (.ref f_l_good)))
    (l_l_good : K.lookup f_l_good = some ⟨oc_l_good, od_l_good, .func (PySem.W.fnOf "_law_good" "_law_good" (defArgs s_l_good) (defBody s_l_good) (defScope s_l_good) .none kV_l_good dc_l_good pm_l_good an_l_good cd_l_good ct_l_good), sl_l_good⟩)
    (c_l_good : PySem.W.codeIn K cd_l_good "_law_good" = true)
    (k_l_good : PySem.W.keepIn K (.ref f_l_good) = true)
    (a_law : PySem.W.nsIn K mainGlobals "law" = some (some (.ref f_law)))
    (l_law : K.lookup f_law = some ⟨oc_law, od_law, .func (PySem.W.fnOf "law" "law" (defArgs s_law) (defBody s_law) (defScope s_law) .none kV_law dc_law pm_law an_law cd_law ct_law), sl_law⟩)
    (c_law : PySem.W.codeIn K cd_law "law" = true)
    (k_law : PySem.W.keepIn K (.ref f_law) = true)
    (z_ValueError : PySem.W.nsIn K mainGlobals "ValueError" = some none)
    (z_bool : PySem.W.nsIn K mainGlobals "bool" = some none)
    (z_int : PySem.W.nsIn K mainGlobals "int" = some none)
    (z_isinstance : PySem.W.nsIn K mainGlobals "isinstance" = some none)
    (z_len : PySem.W.nsIn K mainGlobals "len" = some none)
    (z_list : PySem.W.nsIn K mainGlobals "list" = some none)
    (z_max : PySem.W.nsIn K mainGlobals "max" = some none)
    (z_tuple : PySem.W.nsIn K mainGlobals "tuple" = some none)
    (z_zip : PySem.W.nsIn K mainGlobals "zip" = some none)
    (m_BadPacking : PySem.W.nsIn K mainGlobals "BadPacking" = some (some (.ref c_BadPacking)))
    (m_BadPlan : PySem.W.nsIn K mainGlobals "BadPlan" = some (some (.ref c_BadPlan)))
    (m_BadSide : PySem.W.nsIn K mainGlobals "BadSide" = some (some (.ref c_BadSide)))
    (m_BadTurn : PySem.W.nsIn K mainGlobals "BadTurn" = some (some (.ref c_BadTurn)))
    (m_CrateError : PySem.W.nsIn K mainGlobals "CrateError" = some (some (.ref c_CrateError)))
    (m_Full : PySem.W.nsIn K mainGlobals "Full" = some (some (.ref c_Full)))
    (m_Hangs : PySem.W.nsIn K mainGlobals "Hangs" = some (some (.ref c_Hangs)))
    (m_NoDeed : PySem.W.nsIn K mainGlobals "NoDeed" = some (some (.ref c_NoDeed)))
    (m_NoDrawing : PySem.W.nsIn K mainGlobals "NoDrawing" = some (some (.ref c_NoDrawing)))
    (m_NoPicker : PySem.W.nsIn K mainGlobals "NoPicker" = some (some (.ref c_NoPicker)))
    (m_NoSheet : PySem.W.nsIn K mainGlobals "NoSheet" = some (some (.ref c_NoSheet)))
    (m_NoText : PySem.W.nsIn K mainGlobals "NoText" = some (some (.ref c_NoText)))
    (m_NoWare : PySem.W.nsIn K mainGlobals "NoWare" = some (some (.ref c_NoWare)))
    (m_NoWeighing : PySem.W.nsIn K mainGlobals "NoWeighing" = some (some (.ref c_NoWeighing)))
    (m_NothingDone : PySem.W.nsIn K mainGlobals "NothingDone" = some (some (.ref c_NothingDone)))
    (m_Ring : PySem.W.nsIn K mainGlobals "Ring" = some (some (.ref c_Ring)))
    (m_TooMany : PySem.W.nsIn K mainGlobals "TooMany" = some (some (.ref c_TooMany)))
    (m_TooWide : PySem.W.nsIn K mainGlobals "TooWide" = some (some (.ref c_TooWide)))
    (x_BadTurn : PySem.W.excIn K c_BadTurn vErr "ValueError.__new__" = true)
    (t_exc_BadTurn1 : PySem.W.findIn K (.ref c_BadTurn) "__getattribute__" = some (some (.builtin "BaseException.__getattribute__")))
    (t_exc_BadTurn2 : PySem.W.findIn K (.ref c_BadTurn) "__getattr__" = some none)
    (t_exc_BadTurn3 : PySem.W.findIn K (.ref c_BadTurn) "__class__" = some (some (.builtin "object.__class__")))
    (t_exc_BadTurn4 : PySem.W.mroIn K c_BadTurn (.type "object") = some true)
    (t_exc_BadTurn5 : PySem.W.subIn K (.ref c_BadTurn) (.type "BaseException") = some true)
    (t_any_BadTurn_0 : PySem.W.kitAny K (.ref c_BadTurn) [.ref c_BadSide, .ref c_NoText, .ref c_TooMany, .ref c_Ring, .ref c_NoWeighing, .ref c_NoPicker, .ref c_NoSheet, .ref c_NoDrawing] = some false)
    (t_any_BadTurn_1 : PySem.W.kitAny K (.ref c_BadTurn) [.ref c_NoDeed, .ref c_NoWare, .ref c_Full, .ref c_NothingDone, .ref c_TooWide, .ref c_Hangs, .ref c_BadPlan, .ref c_BadPacking] = some false)
    (t_one_BadTurn_CrateError : PySem.W.kitOne K (.ref c_BadTurn) (.ref c_CrateError) = some true)
    (t_one_BadTurn_ValueError : PySem.W.kitOne K (.ref c_BadTurn) (.type "ValueError") = some true)
    (t_exm_BadTurn_BadTurn : PySem.W.exmOne K (.ref c_BadTurn) (.ref c_BadTurn) = some true)
    : ∃ fd : FuncData, (∀ (s : Shared) (v : Value), BindsTo s fd ⟨[v], []⟩ [("_law_script", v)]) ∧ ∃ c : Str → Addr, ∀ base : Heap, K.In base → base.Ns mainGlobals mg → FnOk (PySem.Challenge.rw_cratefit_k12_used_and_mirrored).prog w K mg base (CXe (PySem.Challenge.rw_cratefit_k12_used_and_mirrored).prog w) 15 fa fd ["_law_script"] (sp_law K c) := by
  have e := hfa.symm.trans (PySem.W.mg_of X G a_law)
  cases e
  have T : Txt K mg (cOf [("BadPacking", c_BadPacking), ("BadPlan", c_BadPlan), ("BadSide", c_BadSide), ("BadTurn", c_BadTurn), ("CrateError", c_CrateError), ("Full", c_Full), ("Hangs", c_Hangs), ("NoDeed", c_NoDeed), ("NoDrawing", c_NoDrawing), ("NoPicker", c_NoPicker), ("NoSheet", c_NoSheet), ("NoText", c_NoText), ("NoWare", c_NoWare), ("NoWeighing", c_NoWeighing), ("NothingDone", c_NothingDone), ("Ring", c_Ring), ("TooMany", c_TooMany), ("TooWide", c_TooWide)]) := ⟨PySem.W.mg_none_of X G z_ValueError, PySem.W.mg_none_of X G z_bool, PySem.W.mg_none_of X G z_int, PySem.W.mg_none_of X G z_isinstance, PySem.W.mg_none_of X G z_len, PySem.W.mg_none_of X G z_list, PySem.W.mg_none_of X G z_max, PySem.W.mg_none_of X G z_tuple, PySem.W.mg_none_of X G z_zip, PySem.W.mg_of X G m_BadPacking, PySem.W.mg_of X G m_BadPlan, PySem.W.mg_of X G m_BadSide, PySem.W.mg_of X G m_BadTurn, PySem.W.mg_of X G m_CrateError, PySem.W.mg_of X G m_Full, PySem.W.mg_of X G m_Hangs, PySem.W.mg_of X G m_NoDeed, PySem.W.mg_of X G m_NoDrawing, PySem.W.mg_of X G m_NoPicker, PySem.W.mg_of X G m_NoSheet, PySem.W.mg_of X G m_NoText, PySem.W.mg_of X G m_NoWare, PySem.W.mg_of X G m_NoWeighing, PySem.W.mg_of X G m_NothingDone, PySem.W.mg_of X G m_Ring, PySem.W.mg_of X G m_TooMany, PySem.W.mg_of X G m_TooWide, x_BadTurn, ⟨t_exc_BadTurn1, t_exc_BadTurn2, t_exc_BadTurn3, t_exc_BadTurn4, t_exc_BadTurn5⟩, t_any_BadTurn_0, t_any_BadTurn_1, t_one_BadTurn_CrateError, t_one_BadTurn_ValueError, t_exm_BadTurn_BadTurn⟩
  refine ⟨PySem.W.fnOf "law" "law" (defArgs s_law) (defBody s_law) (defScope s_law) .none kV_law dc_law pm_law an_law cd_law ct_law, fun s v => .of_eq rfl, cOf [("BadPacking", c_BadPacking), ("BadPlan", c_BadPlan), ("BadSide", c_BadSide), ("BadTurn", c_BadTurn), ("CrateError", c_CrateError), ("Full", c_Full), ("Hangs", c_Hangs), ("NoDeed", c_NoDeed), ("NoDrawing", c_NoDrawing), ("NoPicker", c_NoPicker), ("NoSheet", c_NoSheet), ("NoText", c_NoText), ("NoWare", c_NoWare), ("NoWeighing", c_NoWeighing), ("NothingDone", c_NothingDone), ("Ring", c_Ring), ("TooMany", c_TooMany), ("TooWide", c_TooWide)], fun base _ _ => ?_⟩
  have F_sides_of := fun_mk (st := s_sides_of) l_sides_of c_sides_of k_sides_of
  have B_sides_of := F_sides_of.binds (ps := ["ware", "lie"]) fun _ _ _ _ _ _ us hl => match us, hl with | [_, _], _ => rfl
  have O_sides_of : Own (PySem.Challenge.rw_cratefit_k12_used_and_mirrored).prog w K mg base 3 "sides_of" ["ware", "lie"] (spD K (cOf [("BadPacking", c_BadPacking), ("BadPlan", c_BadPlan), ("BadSide", c_BadSide), ("BadTurn", c_BadTurn), ("CrateError", c_CrateError), ("Full", c_Full), ("Hangs", c_Hangs), ("NoDeed", c_NoDeed), ("NoDrawing", c_NoDrawing), ("NoPicker", c_NoPicker), ("NoSheet", c_NoSheet), ("NoText", c_NoText), ("NoWare", c_NoWare), ("NoWeighing", c_NoWeighing), ("NothingDone", c_NothingDone), ("Ring", c_Ring), ("TooMany", c_TooMany), ("TooWide", c_TooWide)]) d_sides_of) := ⟨_, _, ok_sides_of F_sides_of T , B_sides_of, k_sides_of, PySem.W.mg_of X G a_sides_of⟩
  have F_spot_of := fun_mk (st := s_spot_of) l_spot_of c_spot_of k_spot_of
  have B_spot_of := F_spot_of.binds (ps := ["ware", "place"]) fun _ _ _ _ _ _ us hl => match us, hl with | [_, _], _ => rfl
  have O_spot_of : Own (PySem.Challenge.rw_cratefit_k12_used_and_mirrored).prog w K mg base 5 "spot_of" ["ware", "place"] (spD K (cOf [("BadPacking", c_BadPacking), ("BadPlan", c_BadPlan), ("BadSide", c_BadSide), ("BadTurn", c_BadTurn), ("CrateError", c_CrateError), ("Full", c_Full), ("Hangs", c_Hangs), ("NoDeed", c_NoDeed), ("NoDrawing", c_NoDrawing), ("NoPicker", c_NoPicker), ("NoSheet", c_NoSheet), ("NoText", c_NoText), ("NoWare", c_NoWare), ("NoWeighing", c_NoWeighing), ("NothingDone", c_NothingDone), ("Ring", c_Ring), ("TooMany", c_TooMany), ("TooWide", c_TooWide)]) d_spot_of) := ⟨_, _, ok_spot_of F_spot_of T O_sides_of, B_spot_of, k_spot_of, PySem.W.mg_of X G a_spot_of⟩
  have F_spots_of := fun_mk (st := s_spots_of) l_spots_of c_spots_of k_spots_of
  have B_spots_of := F_spots_of.binds (ps := ["wares", "places"]) fun _ _ _ _ _ _ us hl => match us, hl with | [_, _], _ => rfl
  have O_spots_of : Own (PySem.Challenge.rw_cratefit_k12_used_and_mirrored).prog w K mg base 7 "spots_of" ["wares", "places"] (spD K (cOf [("BadPacking", c_BadPacking), ("BadPlan", c_BadPlan), ("BadSide", c_BadSide), ("BadTurn", c_BadTurn), ("CrateError", c_CrateError), ("Full", c_Full), ("Hangs", c_Hangs), ("NoDeed", c_NoDeed), ("NoDrawing", c_NoDrawing), ("NoPicker", c_NoPicker), ("NoSheet", c_NoSheet), ("NoText", c_NoText), ("NoWare", c_NoWare), ("NoWeighing", c_NoWeighing), ("NothingDone", c_NothingDone), ("Ring", c_Ring), ("TooMany", c_TooMany), ("TooWide", c_TooWide)]) d_spots_of) := ⟨_, _, ok_spots_of F_spots_of T O_spot_of, B_spots_of, k_spots_of, PySem.W.mg_of X G a_spots_of⟩
  have F_used := fun_mk (st := s_used) l_used c_used k_used
  have B_used := F_used.binds (ps := ["wares", "places"]) fun _ _ _ _ _ _ us hl => match us, hl with | [_, _], _ => rfl
  have O_used : Own (PySem.Challenge.rw_cratefit_k12_used_and_mirrored).prog w K mg base 9 "used" ["wares", "places"] (spD K (cOf [("BadPacking", c_BadPacking), ("BadPlan", c_BadPlan), ("BadSide", c_BadSide), ("BadTurn", c_BadTurn), ("CrateError", c_CrateError), ("Full", c_Full), ("Hangs", c_Hangs), ("NoDeed", c_NoDeed), ("NoDrawing", c_NoDrawing), ("NoPicker", c_NoPicker), ("NoSheet", c_NoSheet), ("NoText", c_NoText), ("NoWare", c_NoWare), ("NoWeighing", c_NoWeighing), ("NothingDone", c_NothingDone), ("Ring", c_Ring), ("TooMany", c_TooMany), ("TooWide", c_TooWide)]) d_used) := ⟨_, _, ok_used F_used T O_spots_of, B_used, k_used, PySem.W.mg_of X G a_used⟩
  have F_mirrored := fun_mk (st := s_mirrored) l_mirrored c_mirrored k_mirrored
  have B_mirrored := F_mirrored.binds (ps := ["box", "wares", "places", "across"]) fun _ _ _ _ _ _ us hl => match us, hl with | [_, _, _, _], _ => rfl
  have O_mirrored : Own (PySem.Challenge.rw_cratefit_k12_used_and_mirrored).prog w K mg base 9 "mirrored" ["box", "wares", "places", "across"] (spD K (cOf [("BadPacking", c_BadPacking), ("BadPlan", c_BadPlan), ("BadSide", c_BadSide), ("BadTurn", c_BadTurn), ("CrateError", c_CrateError), ("Full", c_Full), ("Hangs", c_Hangs), ("NoDeed", c_NoDeed), ("NoDrawing", c_NoDrawing), ("NoPicker", c_NoPicker), ("NoSheet", c_NoSheet), ("NoText", c_NoText), ("NoWare", c_NoWare), ("NoWeighing", c_NoWeighing), ("NothingDone", c_NothingDone), ("Ring", c_Ring), ("TooMany", c_TooMany), ("TooWide", c_TooWide)]) d_mirrored) := ⟨_, _, ok_mirrored F_mirrored T O_spots_of, B_mirrored, k_mirrored, PySem.W.mg_of X G a_mirrored⟩
  have F_l_cell_at := fun_mk (st := s_l_cell_at) l_l_cell_at c_l_cell_at k_l_cell_at
  have B_l_cell_at := F_l_cell_at.binds (ps := ["_law_script", "_law_k"]) fun _ _ _ _ _ _ us hl => match us, hl with | [_, _], _ => rfl
  have O_l_cell_at : Own (PySem.Challenge.rw_cratefit_k12_used_and_mirrored).prog w K mg base 3 "_law_cell_at" ["_law_script", "_law_k"] (spD K (cOf [("BadPacking", c_BadPacking), ("BadPlan", c_BadPlan), ("BadSide", c_BadSide), ("BadTurn", c_BadTurn), ("CrateError", c_CrateError), ("Full", c_Full), ("Hangs", c_Hangs), ("NoDeed", c_NoDeed), ("NoDrawing", c_NoDrawing), ("NoPicker", c_NoPicker), ("NoSheet", c_NoSheet), ("NoText", c_NoText), ("NoWare", c_NoWare), ("NoWeighing", c_NoWeighing), ("NothingDone", c_NothingDone), ("Ring", c_Ring), ("TooMany", c_TooMany), ("TooWide", c_TooWide)]) d_l_cell_at) := ⟨_, _, ok_l_cell_at F_l_cell_at T , B_l_cell_at, k_l_cell_at, PySem.W.mg_of X G a_l_cell_at⟩
  have F_l_whole := fun_mk (st := s_l_whole) l_l_whole c_l_whole k_l_whole
  have B_l_whole := F_l_whole.binds (ps := ["_law_found"]) fun _ _ _ _ _ _ us hl => match us, hl with | [_], _ => rfl
  have O_l_whole : Own (PySem.Challenge.rw_cratefit_k12_used_and_mirrored).prog w K mg base 3 "_law_whole" ["_law_found"] (spD K (cOf [("BadPacking", c_BadPacking), ("BadPlan", c_BadPlan), ("BadSide", c_BadSide), ("BadTurn", c_BadTurn), ("CrateError", c_CrateError), ("Full", c_Full), ("Hangs", c_Hangs), ("NoDeed", c_NoDeed), ("NoDrawing", c_NoDrawing), ("NoPicker", c_NoPicker), ("NoSheet", c_NoSheet), ("NoText", c_NoText), ("NoWare", c_NoWare), ("NoWeighing", c_NoWeighing), ("NothingDone", c_NothingDone), ("Ring", c_Ring), ("TooMany", c_TooMany), ("TooWide", c_TooWide)]) d_l_whole) := ⟨_, _, ok_l_whole F_l_whole T , B_l_whole, k_l_whole, PySem.W.mg_of X G a_l_whole⟩
  have F_l_side := fun_mk (st := s_l_side) l_l_side c_l_side k_l_side
  have B_l_side := F_l_side.binds (ps := ["_law_cell"]) fun _ _ _ _ _ _ us hl => match us, hl with | [_], _ => rfl
  have O_l_side : Own (PySem.Challenge.rw_cratefit_k12_used_and_mirrored).prog w K mg base 3 "_law_side" ["_law_cell"] (spD K (cOf [("BadPacking", c_BadPacking), ("BadPlan", c_BadPlan), ("BadSide", c_BadSide), ("BadTurn", c_BadTurn), ("CrateError", c_CrateError), ("Full", c_Full), ("Hangs", c_Hangs), ("NoDeed", c_NoDeed), ("NoDrawing", c_NoDrawing), ("NoPicker", c_NoPicker), ("NoSheet", c_NoSheet), ("NoText", c_NoText), ("NoWare", c_NoWare), ("NoWeighing", c_NoWeighing), ("NothingDone", c_NothingDone), ("Ring", c_Ring), ("TooMany", c_TooMany), ("TooWide", c_TooWide)]) d_l_side) := ⟨_, _, ok_l_side F_l_side T , B_l_side, k_l_side, PySem.W.mg_of X G a_l_side⟩
  have F_l_ware := fun_mk (st := s_l_ware) l_l_ware c_l_ware k_l_ware
  have B_l_ware := F_l_ware.binds (ps := ["_law_cell"]) fun _ _ _ _ _ _ us hl => match us, hl with | [_], _ => rfl
  have O_l_ware : Own (PySem.Challenge.rw_cratefit_k12_used_and_mirrored).prog w K mg base 5 "_law_ware" ["_law_cell"] (spD K (cOf [("BadPacking", c_BadPacking), ("BadPlan", c_BadPlan), ("BadSide", c_BadSide), ("BadTurn", c_BadTurn), ("CrateError", c_CrateError), ("Full", c_Full), ("Hangs", c_Hangs), ("NoDeed", c_NoDeed), ("NoDrawing", c_NoDrawing), ("NoPicker", c_NoPicker), ("NoSheet", c_NoSheet), ("NoText", c_NoText), ("NoWare", c_NoWare), ("NoWeighing", c_NoWeighing), ("NothingDone", c_NothingDone), ("Ring", c_Ring), ("TooMany", c_TooMany), ("TooWide", c_TooWide)]) d_l_ware) := ⟨_, _, ok_l_ware F_l_ware T O_l_side, B_l_ware, k_l_ware, PySem.W.mg_of X G a_l_ware⟩
  have F_l_far := fun_mk (st := s_l_far) l_l_far c_l_far k_l_far
  have B_l_far := F_l_far.binds (ps := ["_law_cell"]) fun _ _ _ _ _ _ us hl => match us, hl with | [_], _ => rfl
  have O_l_far : Own (PySem.Challenge.rw_cratefit_k12_used_and_mirrored).prog w K mg base 3 "_law_far" ["_law_cell"] (spD K (cOf [("BadPacking", c_BadPacking), ("BadPlan", c_BadPlan), ("BadSide", c_BadSide), ("BadTurn", c_BadTurn), ("CrateError", c_CrateError), ("Full", c_Full), ("Hangs", c_Hangs), ("NoDeed", c_NoDeed), ("NoDrawing", c_NoDrawing), ("NoPicker", c_NoPicker), ("NoSheet", c_NoSheet), ("NoText", c_NoText), ("NoWare", c_NoWare), ("NoWeighing", c_NoWeighing), ("NothingDone", c_NothingDone), ("Ring", c_Ring), ("TooMany", c_TooMany), ("TooWide", c_TooWide)]) d_l_far) := ⟨_, _, ok_l_far F_l_far T , B_l_far, k_l_far, PySem.W.mg_of X G a_l_far⟩
  have F_l_box := fun_mk (st := s_l_box) l_l_box c_l_box k_l_box
  have B_l_box := F_l_box.binds (ps := ["_law_cell", "_law_other"]) fun _ _ _ _ _ _ us hl => match us, hl with | [_, _], _ => rfl
  have O_l_box : Own (PySem.Challenge.rw_cratefit_k12_used_and_mirrored).prog w K mg base 3 "_law_box" ["_law_cell", "_law_other"] (spD K (cOf [("BadPacking", c_BadPacking), ("BadPlan", c_BadPlan), ("BadSide", c_BadSide), ("BadTurn", c_BadTurn), ("CrateError", c_CrateError), ("Full", c_Full), ("Hangs", c_Hangs), ("NoDeed", c_NoDeed), ("NoDrawing", c_NoDrawing), ("NoPicker", c_NoPicker), ("NoSheet", c_NoSheet), ("NoText", c_NoText), ("NoWare", c_NoWare), ("NoWeighing", c_NoWeighing), ("NothingDone", c_NothingDone), ("Ring", c_Ring), ("TooMany", c_TooMany), ("TooWide", c_TooWide)]) d_l_box) := ⟨_, _, ok_l_box F_l_box T , B_l_box, k_l_box, PySem.W.mg_of X G a_l_box⟩
  have F_l_kinds := fun_mk (st := s_l_kinds) l_l_kinds c_l_kinds k_l_kinds
  have B_l_kinds := F_l_kinds.binds (ps := ["_law_e"]) fun _ _ _ _ _ _ us hl => match us, hl with | [_], _ => rfl
  have O_l_kinds : OwnW (PySem.Challenge.rw_cratefit_k12_used_and_mirrored).prog w K mg base 3 "_law_kinds" ["_law_e"] (spD K (cOf [("BadPacking", c_BadPacking), ("BadPlan", c_BadPlan), ("BadSide", c_BadSide), ("BadTurn", c_BadTurn), ("CrateError", c_CrateError), ("Full", c_Full), ("Hangs", c_Hangs), ("NoDeed", c_NoDeed), ("NoDrawing", c_NoDrawing), ("NoPicker", c_NoPicker), ("NoSheet", c_NoSheet), ("NoText", c_NoText), ("NoWare", c_NoWare), ("NoWeighing", c_NoWeighing), ("NothingDone", c_NothingDone), ("Ring", c_Ring), ("TooMany", c_TooMany), ("TooWide", c_TooWide)]) d_l_kinds) := ⟨_, _, ok_l_kinds F_l_kinds T , B_l_kinds, k_l_kinds, PySem.W.mg_of X G a_l_kinds⟩
  have F_l_case := fun_mk (st := s_l_case) l_l_case c_l_case k_l_case
  have B_l_case := F_l_case.binds (ps := ["_law_script"]) fun _ _ _ _ _ _ us hl => match us, hl with | [_], _ => rfl
  have O_l_case : Own (PySem.Challenge.rw_cratefit_k12_used_and_mirrored).prog w K mg base 7 "_law_case" ["_law_script"] (spD K (cOf [("BadPacking", c_BadPacking), ("BadPlan", c_BadPlan), ("BadSide", c_BadSide), ("BadTurn", c_BadTurn), ("CrateError", c_CrateError), ("Full", c_Full), ("Hangs", c_Hangs), ("NoDeed", c_NoDeed), ("NoDrawing", c_NoDrawing), ("NoPicker", c_NoPicker), ("NoSheet", c_NoSheet), ("NoText", c_NoText), ("NoWare", c_NoWare), ("NoWeighing", c_NoWeighing), ("NothingDone", c_NothingDone), ("Ring", c_Ring), ("TooMany", c_TooMany), ("TooWide", c_TooWide)]) d_l_case) := ⟨_, _, ok_l_case F_l_case T O_l_ware O_l_far, B_l_case, k_l_case, PySem.W.mg_of X G a_l_case⟩
  have F_l_spots := fun_mk (st := s_l_spots) l_l_spots c_l_spots k_l_spots
  have B_l_spots := F_l_spots.binds (ps := ["_law_wares", "_law_places"]) fun _ _ _ _ _ _ us hl => match us, hl with | [_, _], _ => rfl
  have O_l_spots : Own (PySem.Challenge.rw_cratefit_k12_used_and_mirrored).prog w K mg base 3 "_law_spots" ["_law_wares", "_law_places"] (spD K (cOf [("BadPacking", c_BadPacking), ("BadPlan", c_BadPlan), ("BadSide", c_BadSide), ("BadTurn", c_BadTurn), ("CrateError", c_CrateError), ("Full", c_Full), ("Hangs", c_Hangs), ("NoDeed", c_NoDeed), ("NoDrawing", c_NoDrawing), ("NoPicker", c_NoPicker), ("NoSheet", c_NoSheet), ("NoText", c_NoText), ("NoWare", c_NoWare), ("NoWeighing", c_NoWeighing), ("NothingDone", c_NothingDone), ("Ring", c_Ring), ("TooMany", c_TooMany), ("TooWide", c_TooWide)]) d_l_spots) := ⟨_, _, ok_l_spots F_l_spots T , B_l_spots, k_l_spots, PySem.W.mg_of X G a_l_spots⟩
  have F_l_used := fun_mk (st := s_l_used) l_l_used c_l_used k_l_used
  have B_l_used := F_l_used.binds (ps := ["_law_wares", "_law_places"]) fun _ _ _ _ _ _ us hl => match us, hl with | [_, _], _ => rfl
  have O_l_used : Own (PySem.Challenge.rw_cratefit_k12_used_and_mirrored).prog w K mg base 11 "_law_used" ["_law_wares", "_law_places"] (spD K (cOf [("BadPacking", c_BadPacking), ("BadPlan", c_BadPlan), ("BadSide", c_BadSide), ("BadTurn", c_BadTurn), ("CrateError", c_CrateError), ("Full", c_Full), ("Hangs", c_Hangs), ("NoDeed", c_NoDeed), ("NoDrawing", c_NoDrawing), ("NoPicker", c_NoPicker), ("NoSheet", c_NoSheet), ("NoText", c_NoText), ("NoWare", c_NoWare), ("NoWeighing", c_NoWeighing), ("NothingDone", c_NothingDone), ("Ring", c_Ring), ("TooMany", c_TooMany), ("TooWide", c_TooWide)]) d_l_used) := ⟨_, _, ok_l_used F_l_used T O_used O_l_kinds, B_l_used, k_l_used, PySem.W.mg_of X G a_l_used⟩
  have F_l_mirrored := fun_mk (st := s_l_mirrored) l_l_mirrored c_l_mirrored k_l_mirrored
  have B_l_mirrored := F_l_mirrored.binds (ps := ["_law_box_here", "_law_wares", "_law_places", "_law_across"]) fun _ _ _ _ _ _ us hl => match us, hl with | [_, _, _, _], _ => rfl
  have O_l_mirrored : Own (PySem.Challenge.rw_cratefit_k12_used_and_mirrored).prog w K mg base 11 "_law_mirrored" ["_law_box_here", "_law_wares", "_law_places", "_law_across"] (spD K (cOf [("BadPacking", c_BadPacking), ("BadPlan", c_BadPlan), ("BadSide", c_BadSide), ("BadTurn", c_BadTurn), ("CrateError", c_CrateError), ("Full", c_Full), ("Hangs", c_Hangs), ("NoDeed", c_NoDeed), ("NoDrawing", c_NoDrawing), ("NoPicker", c_NoPicker), ("NoSheet", c_NoSheet), ("NoText", c_NoText), ("NoWare", c_NoWare), ("NoWeighing", c_NoWeighing), ("NothingDone", c_NothingDone), ("Ring", c_Ring), ("TooMany", c_TooMany), ("TooWide", c_TooWide)]) d_l_mirrored) := ⟨_, _, ok_l_mirrored F_l_mirrored T O_mirrored O_l_kinds, B_l_mirrored, k_l_mirrored, PySem.W.mg_of X G a_l_mirrored⟩
  have F_l_ends := fun_mk (st := s_l_ends) l_l_ends c_l_ends k_l_ends
  have B_l_ends := F_l_ends.binds (ps := ["_law_found", "_law_ends_here"]) fun _ _ _ _ _ _ us hl => match us, hl with | [_, _], _ => rfl
  have O_l_ends : Own (PySem.Challenge.rw_cratefit_k12_used_and_mirrored).prog w K mg base 5 "_law_ends" ["_law_found", "_law_ends_here"] (spD K (cOf [("BadPacking", c_BadPacking), ("BadPlan", c_BadPlan), ("BadSide", c_BadSide), ("BadTurn", c_BadTurn), ("CrateError", c_CrateError), ("Full", c_Full), ("Hangs", c_Hangs), ("NoDeed", c_NoDeed), ("NoDrawing", c_NoDrawing), ("NoPicker", c_NoPicker), ("NoSheet", c_NoSheet), ("NoText", c_NoText), ("NoWare", c_NoWare), ("NoWeighing", c_NoWeighing), ("NothingDone", c_NothingDone), ("Ring", c_Ring), ("TooMany", c_TooMany), ("TooWide", c_TooWide)]) d_l_ends) := ⟨_, _, ok_l_ends F_l_ends T O_l_whole, B_l_ends, k_l_ends, PySem.W.mg_of X G a_l_ends⟩
  have F_l_mirror := fun_mk (st := s_l_mirror) l_l_mirror c_l_mirror k_l_mirror
  have B_l_mirror := F_l_mirror.binds (ps := ["_law_found", "_law_box_here", "_law_places", "_law_spots_here", "_law_across"]) fun _ _ _ _ _ _ us hl => match us, hl with | [_, _, _, _, _], _ => rfl
  have O_l_mirror : Own (PySem.Challenge.rw_cratefit_k12_used_and_mirrored).prog w K mg base 5 "_law_mirror" ["_law_found", "_law_box_here", "_law_places", "_law_spots_here", "_law_across"] (spD K (cOf [("BadPacking", c_BadPacking), ("BadPlan", c_BadPlan), ("BadSide", c_BadSide), ("BadTurn", c_BadTurn), ("CrateError", c_CrateError), ("Full", c_Full), ("Hangs", c_Hangs), ("NoDeed", c_NoDeed), ("NoDrawing", c_NoDrawing), ("NoPicker", c_NoPicker), ("NoSheet", c_NoSheet), ("NoText", c_NoText), ("NoWare", c_NoWare), ("NoWeighing", c_NoWeighing), ("NothingDone", c_NothingDone), ("Ring", c_Ring), ("TooMany", c_TooMany), ("TooWide", c_TooWide)]) d_l_mirror) := ⟨_, _, ok_l_mirror F_l_mirror T O_l_whole, B_l_mirror, k_l_mirror, PySem.W.mg_of X G a_l_mirror⟩
  have F_l_good := fun_mk (st := s_l_good) l_l_good c_l_good k_l_good
  have B_l_good := F_l_good.binds (ps := ["_law_box_here", "_law_wares", "_law_places"]) fun _ _ _ _ _ _ us hl => match us, hl with | [_, _, _], _ => rfl
  have O_l_good : Own (PySem.Challenge.rw_cratefit_k12_used_and_mirrored).prog w K mg base 13 "_law_good" ["_law_box_here", "_law_wares", "_law_places"] (spD K (cOf [("BadPacking", c_BadPacking), ("BadPlan", c_BadPlan), ("BadSide", c_BadSide), ("BadTurn", c_BadTurn), ("CrateError", c_CrateError), ("Full", c_Full), ("Hangs", c_Hangs), ("NoDeed", c_NoDeed), ("NoDrawing", c_NoDrawing), ("NoPicker", c_NoPicker), ("NoSheet", c_NoSheet), ("NoText", c_NoText), ("NoWare", c_NoWare), ("NoWeighing", c_NoWeighing), ("NothingDone", c_NothingDone), ("Ring", c_Ring), ("TooMany", c_TooMany), ("TooWide", c_TooWide)]) d_l_good) := ⟨_, _, ok_l_good F_l_good T O_l_spots O_l_used O_l_ends O_l_mirror O_l_mirrored, B_l_good, k_l_good, PySem.W.mg_of X G a_l_good⟩
  have F_law := fun_mk (st := s_law) l_law c_law k_law
  exact ok_law F_law T O_l_box O_l_cell_at O_l_case O_l_good O_l_used O_l_mirrored
end Law
namespace Law
open PySem L2 PyProof.Rows
theorem walk {q : Program} {loose : List Str} {XP : (Str → Option Value) → Heap → Prop} {YP : World → Heap → Prop} {d : DefRec} {K : Params → PySem.W.Frag} (hdf : d.params.defaults = []) (hY : ∀ (w : World) (h : Heap), YP w h → (K w.params).In h)
    (F : ∀ (w : World) (mg : Str → Option Value) (fa : Addr) (h : Heap), (K w.params).In h → h.Ns mainGlobals mg → mg d.name = some (.ref fa) →
      ∃ fd : FuncData, (∀ (s : Shared) (u : Value), BindsTo s fd ⟨[u], []⟩ [("_law_script", u)]) ∧ ∃ c : Str → Addr, ∀ base : Heap, (K w.params).In base → base.Ns mainGlobals mg → FnOk (PySem.Challenge.rw_cratefit_k12_used_and_mirrored).prog w (K w.params) mg base (CXe (PySem.Challenge.rw_cratefit_k12_used_and_mirrored).prog w) 15 fa fd ["_law_script"] (sp_law (K w.params) c)) :
    PySem.W.WalkO q loose XP YP (PySem.Challenge.rw_cratefit_k12_used_and_mirrored).row.toRowW d [] (fun f vs => PySem.call f vs) := by
  refine L2.walk_ofB (l := PySem.Challenge.rw_cratefit_k12_used_and_mirrored) (n := 63) (k := 15) (x := "_law_script") (K := K) (CX := fun w => CXe (PySem.Challenge.rw_cratefit_k12_used_and_mirrored).prog w) (sp := fun w vs H Q E => ∀ c, sp_law (K w.params) c vs H Q E) rfl (by decide) hdf ⟨rfl, by decide, by decide⟩ hY (fun w mg fa h KX G hm => ?_) (fun w H a ns h1 h2 h3 h4 c => ⟨a, ns, rfl, .of h4 h3, h2, h1, fun _ => rfl⟩) fun w H s e s' z => noCXe H s e s' z
  obtain ⟨fd, hb, c, hF⟩ := F w mg fa h KX G hm
  exact ⟨fd, hb, fun base kb nb => (hF base kb nb).imp fun vs H Q E z => z c⟩
end Law
theorem PySem.W.Fast.tw3562613448412887040 : True := trivial
theorem PySem.W.Fast.tw882840699053897888 : True := trivial
theorem PySem.W.Fast.tw1772423888120583392 : True := trivial
theorem PySem.W.Fast.tw5827964428932904256 : True := trivial
theorem PySem.W.Fast.tw683544172158692928 : True := trivial
theorem PySem.W.Fast.tw13560159340448083552 : True := trivial
theorem PySem.W.Fast.tw17039862393970521760 : True := trivial
theorem PySem.W.Fast.tw7612989240080162624 : True := trivial
theorem PySem.W.Fast.tw2875149915049443264 : True := trivial
theorem PySem.W.Fast.tw15661184896859553760 : True := trivial
theorem PySem.W.Fast.tw16392869826983754720 : True := trivial
theorem PySem.W.Fast.tw6843011716423530561 : True := trivial
theorem PySem.W.Fast.tw1955579927416622657 : True := trivial
theorem PySem.W.Fast.tw13813303344679198305 : True := trivial
theorem PySem.W.Fast.tw14915123341620293217 : True := trivial
theorem PySem.W.Fast.tw15292547924451801697 : True := trivial
theorem PySem.W.Fast.tw13662503568495078049 : True := trivial
theorem PySem.W.Fast.tw3838944774214714049 : True := trivial
theorem PySem.W.Fast.tw4844360033156988609 : True := trivial
theorem PySem.W.Fast.tw14002468571243874049 : True := trivial
theorem PySem.W.Fast.tw13596680949197283169 : True := trivial
theorem PySem.W.Fast.tw3666696725558556641 : True := trivial
theorem PySem.W.Fast.tw16514028572607883266 : True := trivial
theorem PySem.W.Fast.tw15144734493863513186 : True := trivial
theorem PySem.W.Fast.tw5584470543672271010 : True := trivial
theorem PySem.W.Fast.tw17856283496139005090 : True := trivial
theorem PySem.W.Fast.tw17977461706124215586 : True := trivial
theorem PySem.W.Fast.tw7619773451109435746 : True := trivial
theorem PySem.W.Fast.tw15925002519588798914 : True := trivial
theorem PySem.W.Fast.tw1611948985736657442 : True := trivial
theorem PySem.W.Fast.tw3029223125801400898 : True := trivial
theorem PySem.W.Fast.tw6880581334442940002 : True := trivial
theorem PySem.W.Fast.tw70673001573819074 : True := trivial
theorem PySem.W.Fast.tw17467859137885882082 : True := trivial
theorem PySem.W.Fast.tw10773704639117168386 : True := trivial
theorem PySem.W.Fast.tw12965414946811940674 : True := trivial
theorem PySem.W.Fast.tw6259839456580715362 : True := trivial
theorem PySem.W.Fast.tw17661024801142250402 : True := trivial
theorem PySem.W.Fast.tw11381489263028579266 : True := trivial
theorem PySem.W.Fast.tw13181292421879519235 : True := trivial
theorem PySem.W.Fast.tw422504212943985667 : True := trivial
theorem PySem.W.Fast.tw13245448929120539683 : True := trivial
theorem PySem.W.Fast.tw101260128480472163 : True := trivial
theorem PySem.W.Fast.tw2791162506704796899 : True := trivial
theorem PySem.W.Fast.tw873284209266533603 : True := trivial
theorem PySem.W.Fast.tw3725996825165287779 : True := trivial
theorem PySem.W.Fast.tw17176171202028439939 : True := trivial
theorem PySem.W.Fast.tw591772829885447619 : True := trivial
theorem PySem.W.Fast.tw3363446421556583939 : True := trivial
theorem PySem.W.Fast.tw9946670919381026435 : True := trivial
theorem PySem.W.Fast.tw12723212295866312323 : True := trivial
theorem PySem.W.Fast.tw14314195383864303299 : True := trivial
theorem PySem.W.Fast.tw17368810778125505251 : True := trivial
theorem PySem.W.Fast.tw9832975048492848963 : True := trivial
theorem PySem.W.Fast.tw870407292741676899 : True := trivial
theorem PySem.W.Fast.tw3862166508238953315 : True := trivial
theorem PySem.W.Fast.tw15243546752690019171 : True := trivial
theorem PySem.W.Fast.tw6020957139306353571 : True := trivial
theorem PySem.W.Fast.tw8824637248147367843 : True := trivial
theorem PySem.W.Fast.tw18095424114707788707 : True := trivial
theorem PySem.W.Fast.tw15004765757543252931 : True := trivial
theorem PySem.W.Fast.tw16197628637095827395 : True := trivial
theorem PySem.W.Fast.tw10859450396831436739 : True := trivial
theorem PySem.W.Fast.tw10514675555397741539 : True := trivial
theorem PySem.W.Fast.tw16964442143038955491 : True := trivial
theorem PySem.W.Fast.tw7441999483641997283 : True := trivial
theorem PySem.W.Fast.tw17656014947371068484 : True := trivial
theorem PySem.W.Fast.tw1595772249797589092 : True := trivial
theorem PySem.W.Fast.tw7916184465687909700 : True := trivial
theorem PySem.W.Fast.tw2316639954393659748 : True := trivial
theorem PySem.W.Fast.tw9479829527745256932 : True := trivial
theorem PySem.W.Fast.tw10794205234707968644 : True := trivial
theorem PySem.W.Fast.tw3360125765123024612 : True := trivial
theorem PySem.W.Fast.tw3268312481685684132 : True := trivial
theorem PySem.W.Fast.tw7173449871172476933 : True := trivial
theorem PySem.W.Fast.tw5803710372217480197 : True := trivial
theorem PySem.W.Fast.tw18300677919524079717 : True := trivial
theorem PySem.W.Fast.tw852830330218604677 : True := trivial
theorem PySem.W.Fast.tw3245639735526477989 : True := trivial
theorem PySem.W.Fast.tw13833655878937741573 : True := trivial
theorem PySem.W.Fast.tw9746698142434455845 : True := trivial
theorem PySem.W.Fast.tw5477986600573892933 : True := trivial
theorem PySem.W.Fast.tw227496064025934277 : True := trivial
theorem PySem.W.Fast.tw5405139348976362981 : True := trivial
theorem PySem.W.Fast.tw1949015683481024069 : True := trivial
theorem PySem.W.Fast.tw18249616596182810277 : True := trivial
theorem PySem.W.Fast.tw16372083036834198245 : True := trivial
theorem PySem.W.Fast.tw17366552911925753701 : True := trivial
theorem PySem.W.Fast.tw432736680347465766 : True := trivial
theorem PySem.W.Fast.tw6107937691475693670 : True := trivial
theorem PySem.W.Fast.tw10287666111642815782 : True := trivial
theorem PySem.W.Fast.tw12490163871286132070 : True := trivial
theorem PySem.W.Fast.tw14630600575629120966 : True := trivial
theorem PySem.W.Fast.tw17991589365654566502 : True := trivial
theorem PySem.W.Fast.tw2271806084681385606 : True := trivial
theorem PySem.W.Fast.tw14074976015469107910 : True := trivial
theorem PySem.W.Fast.tw818744925131690694 : True := trivial
theorem PySem.W.Fast.tw8036606110758481638 : True := trivial
theorem PySem.W.Fast.tw55475728085025574 : True := trivial
theorem PySem.W.Fast.tw1786444970751014694 : True := trivial
theorem PySem.W.Fast.tw7914147839989479270 : True := trivial
theorem PySem.W.Fast.tw18292807433874742150 : True := trivial
theorem PySem.W.Fast.tw9846552861385769991 : True := trivial
theorem PySem.W.Fast.tw5343070918680915047 : True := trivial
theorem PySem.W.Fast.tw5922525106613950599 : True := trivial
theorem PySem.W.Fast.tw3164762377206018343 : True := trivial
theorem PySem.W.Fast.tw3513947268827201959 : True := trivial
theorem PySem.W.Fast.tw4317889628978375079 : True := trivial
theorem PySem.W.Fast.tw4495844561261780487 : True := trivial
theorem PySem.W.Fast.tw13476468587472815847 : True := trivial
theorem PySem.W.Fast.tw9353728585955104487 : True := trivial
theorem PySem.W.Fast.tw6110622999607878760 : True := trivial
theorem PySem.W.Fast.tw6581745441909239944 : True := trivial
theorem PySem.W.Fast.tw6703496245648278856 : True := trivial
theorem PySem.W.Fast.tw133374318209386888 : True := trivial
theorem PySem.W.Fast.tw7958852571988112936 : True := trivial
theorem PySem.W.Fast.tw13316596413905666664 : True := trivial
theorem PySem.W.Fast.tw11417749369966077608 : True := trivial
theorem PySem.W.Fast.tw4279916909994795720 : True := trivial
theorem PySem.W.Fast.tw14410467143519503112 : True := trivial
theorem PySem.W.Fast.tw11448102355458106312 : True := trivial
theorem PySem.W.Fast.tw8100282281176319113 : True := trivial
theorem PySem.W.Fast.tw4426656141713806633 : True := trivial
theorem PySem.W.Fast.tw3450357883290907977 : True := trivial
theorem PySem.W.Fast.tw14715579105222324617 : True := trivial
theorem PySem.W.Fast.tw2122471386871038473 : True := trivial
theorem PySem.W.Fast.tw4710319155546347113 : True := trivial
theorem PySem.W.Fast.tw15765566264041051849 : True := trivial
theorem PySem.W.Fast.tw4345442636744065833 : True := trivial
theorem PySem.W.Fast.tw15120704492280214313 : True := trivial
theorem PySem.W.Fast.tw3124431631657030569 : True := trivial
theorem PySem.W.Fast.tw16346588996630462409 : True := trivial
theorem PySem.W.Fast.tw14500935098055069706 : True := trivial
theorem PySem.W.Fast.tw5101939855694125066 : True := trivial
theorem PySem.W.Fast.tw18224407506337943594 : True := trivial
theorem PySem.W.Fast.tw7100986684308735018 : True := trivial
theorem PySem.W.Fast.tw5972757321632451786 : True := trivial
theorem PySem.W.Fast.tw3639922654941446378 : True := trivial
theorem PySem.W.Fast.tw5270386521857751338 : True := trivial
theorem PySem.W.Fast.tw9457884865933523274 : True := trivial
theorem PySem.W.Fast.tw12946826270468934026 : True := trivial
theorem PySem.W.Fast.tw1447872669621393834 : True := trivial
theorem PySem.W.Fast.tw18323631292695512554 : True := trivial
theorem PySem.W.Fast.tw15691725997715145386 : True := trivial
theorem PySem.W.Fast.tw10933315108806767306 : True := trivial
theorem PySem.W.Fast.tw9007223551535711018 : True := trivial
theorem PySem.W.Fast.tw4649841463973893994 : True := trivial
theorem PySem.W.Fast.tw12102455042824795179 : True := trivial
theorem PySem.W.Fast.tw6577345864586041547 : True := trivial
theorem PySem.W.Fast.tw13889649461254461675 : True := trivial
theorem PySem.W.Fast.tw17863319010410731819 : True := trivial
theorem PySem.W.Fast.tw12824084238540578155 : True := trivial
theorem PySem.W.Fast.tw15436707889701697899 : True := trivial
theorem PySem.W.Fast.tw4839302551995166091 : True := trivial
theorem PySem.W.Fast.tw6006451784300758507 : True := trivial
theorem PySem.W.Fast.tw3815496244028650059 : True := trivial
theorem PySem.W.Fast.tw16124410020946051659 : True := trivial
theorem PySem.W.Fast.tw2387969844791455339 : True := trivial
theorem PySem.W.Fast.tw6693398715365349067 : True := trivial
theorem PySem.W.Fast.tw10701252837619637003 : True := trivial
theorem PySem.W.Fast.tw8768191271023105803 : True := trivial
theorem PySem.W.Fast.tw3757214953908692907 : True := trivial
theorem PySem.W.Fast.tw11911755214468995084 : True := trivial
theorem PySem.W.Fast.tw2855718025237529644 : True := trivial
theorem PySem.W.Fast.tw5334826925196149932 : True := trivial
theorem PySem.W.Fast.tw9283921813791039660 : True := trivial
theorem PySem.W.Fast.tw16973000114541832460 : True := trivial
theorem PySem.W.Fast.tw151039948625487276 : True := trivial
theorem PySem.W.Fast.tw8069614547068043692 : True := trivial
theorem PySem.W.Fast.tw844702453622891948 : True := trivial
theorem PySem.W.Fast.tw5530069080759784972 : True := trivial
theorem PySem.W.Fast.tw7870244129362993676 : True := trivial
theorem PySem.W.Fast.tw1986631064997014060 : True := trivial
theorem PySem.W.Fast.tw6864946424936396332 : True := trivial
theorem PySem.W.Fast.tw257764890236833676 : True := trivial
theorem PySem.W.Fast.tw12667714113046716332 : True := trivial
theorem PySem.W.Fast.tw17130769378967039980 : True := trivial
theorem PySem.W.Fast.tw13110747437525939245 : True := trivial
theorem PySem.W.Fast.tw16309490056173007917 : True := trivial
theorem PySem.W.Fast.tw10908045557430501453 : True := trivial
theorem PySem.W.Fast.tw3667514469934359757 : True := trivial
theorem PySem.W.Fast.tw2086538129868130861 : True := trivial
theorem PySem.W.Fast.tw3183683647797563149 : True := trivial
theorem PySem.W.Fast.tw6751936862260672269 : True := trivial
theorem PySem.W.Fast.tw13382135423786420013 : True := trivial
theorem PySem.W.Fast.tw6634829147875473229 : True := trivial
theorem PySem.W.Fast.tw11372239844831354733 : True := trivial
theorem PySem.W.Fast.tw17503723646033453037 : True := trivial
theorem PySem.W.Fast.tw17192625189578944558 : True := trivial
theorem PySem.W.Fast.tw14629144303591572526 : True := trivial
theorem PySem.W.Fast.tw5546712640135550030 : True := trivial
theorem PySem.W.Fast.tw6906138033655854190 : True := trivial
theorem PySem.W.Fast.tw8951153365606095054 : True := trivial
theorem PySem.W.Fast.tw17467731497971733742 : True := trivial
theorem PySem.W.Fast.tw460809290749607342 : True := trivial
theorem PySem.W.Fast.tw16860005619383705038 : True := trivial
theorem PySem.W.Fast.tw823901711930564110 : True := trivial
theorem PySem.W.Fast.tw8998418017577563726 : True := trivial
theorem PySem.W.Fast.tw5266027074696286862 : True := trivial
theorem PySem.W.Fast.tw17101023336067077806 : True := trivial
theorem PySem.W.Fast.tw2502761728314251982 : True := trivial
theorem PySem.W.Fast.tw12430776581510056686 : True := trivial
theorem PySem.W.Fast.tw3640882179393646350 : True := trivial
theorem PySem.W.Fast.tw12786350234589478798 : True := trivial
theorem PySem.W.Fast.tw12196731580401684430 : True := trivial
theorem PySem.W.Fast.tw10614424053016698862 : True := trivial
theorem PySem.W.Fast.tw13141096132264991951 : True := trivial
theorem PySem.W.Fast.tw4240175474023297327 : True := trivial
theorem PySem.W.Fast.tw13002027669363231183 : True := trivial
theorem PySem.W.Fast.tw12979736017585848783 : True := trivial
theorem PySem.W.Fast.tw14515971118182979023 : True := trivial
theorem PySem.W.Fast.tw16212374243006015983 : True := trivial
theorem PySem.W.Fast.tw4322495383885406767 : True := trivial
theorem PySem.W.Fast.tw1725556265710139023 : True := trivial
theorem PySem.W.Fast.tw14503322913483026127 : True := trivial
theorem PySem.W.Fast.tw16758131272366579439 : True := trivial
theorem PySem.W.Fast.tw641065839231920911 : True := trivial
theorem PySem.W.Fast.tw11894723765429492527 : True := trivial
theorem PySem.W.Fast.tw1078029015860897583 : True := trivial
theorem PySem.W.Fast.tw8010847854634992463 : True := trivial
theorem PySem.W.Fast.tw13088944966741963599 : True := trivial
theorem PySem.W.Fast.tw3700959197553549135 : True := trivial
theorem PySem.W.Fast.tw13874645027291452271 : True := trivial
theorem PySem.W.Fast.tw9959801465480050639 : True := trivial
theorem PySem.W.Fast.tw11292272618297219023 : True := trivial
theorem PySem.W.Fast.tw2745988762075199471 : True := trivial
theorem PySem.W.Fast.tw15689038342579354640 : True := trivial
theorem PySem.W.Fast.tw14043158007375969328 : True := trivial
theorem PySem.W.Fast.tw8845995041410642992 : True := trivial
theorem PySem.W.Fast.tw2910442136636316752 : True := trivial
theorem PySem.W.Fast.tw17187643331419706544 : True := trivial
theorem PySem.W.Fast.tw18142824569887287504 : True := trivial
theorem PySem.W.Fast.tw16743551251120996592 : True := trivial
theorem PySem.W.Fast.tw10277690188608358704 : True := trivial
theorem PySem.W.Fast.tw11293337576738766224 : True := trivial
theorem PySem.W.Fast.tw3059031832041881008 : True := trivial
theorem PySem.W.Fast.tw3729604405993827824 : True := trivial
theorem PySem.W.Fast.tw13790983143360325136 : True := trivial
theorem PySem.W.Fast.tw22846189086875248 : True := trivial
theorem PySem.W.Fast.tw3155424552978116304 : True := trivial
theorem PySem.W.Fast.tw16944862431531591440 : True := trivial
theorem PySem.W.Fast.tw8394231113302182704 : True := trivial
theorem PySem.W.Fast.tw188939712078586704 : True := trivial
theorem PySem.W.Fast.tw8030291336593999696 : True := trivial
theorem PySem.W.Fast.tw16241820025383118736 : True := trivial
theorem PySem.W.Fast.tw3234969777042435984 : True := trivial
theorem PySem.W.Fast.tw10586867628056729520 : True := trivial
theorem PySem.W.Fast.tw2729323683295426673 : True := trivial
theorem PySem.W.Fast.tw2950022842434473137 : True := trivial
theorem PySem.W.Fast.tw14226308917596241105 : True := trivial
theorem PySem.W.Fast.tw15821200251688751441 : True := trivial
theorem PySem.W.Fast.tw9253374330508336529 : True := trivial
theorem PySem.W.Fast.tw10541656182666544561 : True := trivial
theorem PySem.W.Fast.tw4553141028383962577 : True := trivial
theorem PySem.W.Fast.tw3402806354829940209 : True := trivial
theorem PySem.W.Fast.tw562790041695285809 : True := trivial
theorem PySem.W.Fast.tw97062479519663665 : True := trivial
theorem PySem.W.Fast.tw16460188547379919409 : True := trivial
theorem PySem.W.Fast.tw9670663956515471953 : True := trivial
theorem PySem.W.Fast.tw8321003234377405009 : True := trivial
theorem PySem.W.Fast.tw7438353300048076401 : True := trivial
theorem PySem.W.Fast.tw10418982314417941105 : True := trivial
theorem PySem.W.Fast.tw445473845794247441 : True := trivial
theorem PySem.W.Fast.tw7847355700155847665 : True := trivial
theorem PySem.W.Fast.tw15169004402968559826 : True := trivial
theorem PySem.W.Fast.tw7520325742977902834 : True := trivial
theorem PySem.W.Fast.tw5262818539612676338 : True := trivial
theorem PySem.W.Fast.tw12326646804623507826 : True := trivial
theorem PySem.W.Fast.tw11485074665834292594 : True := trivial
theorem PySem.W.Fast.tw17548830421093835218 : True := trivial
theorem PySem.W.Fast.tw2755560865303568882 : True := trivial
theorem PySem.W.Fast.tw9785737479740125810 : True := trivial
theorem PySem.W.Fast.tw2925392095924266610 : True := trivial
theorem PySem.W.Fast.tw17634104812146989810 : True := trivial
theorem PySem.W.Fast.tw15864302828748367634 : True := trivial
theorem PySem.W.Fast.tw9881422552407578450 : True := trivial
theorem PySem.W.Fast.tw13670070133614448498 : True := trivial
theorem PySem.W.Fast.tw7241050740144326514 : True := trivial
theorem PySem.W.Fast.tw4140324937199210386 : True := trivial
theorem PySem.W.Fast.tw5968284776505142162 : True := trivial
theorem PySem.W.Fast.tw15867727185979070386 : True := trivial
theorem PySem.W.Fast.tw5941260053358078003 : True := trivial
theorem PySem.W.Fast.tw4109532581996699731 : True := trivial
theorem PySem.W.Fast.tw374871642845238419 : True := trivial
theorem PySem.W.Fast.tw14279051616853055731 : True := trivial
theorem PySem.W.Fast.tw2908957554785167667 : True := trivial
theorem PySem.W.Fast.tw615357263003539763 : True := trivial
theorem PySem.W.Fast.tw7065256288851084627 : True := trivial
theorem PySem.W.Fast.tw10206419443665512851 : True := trivial
theorem PySem.W.Fast.tw14149617635633764851 : True := trivial
theorem PySem.W.Fast.tw3997111484943809043 : True := trivial
theorem PySem.W.Fast.tw15645394190118805043 : True := trivial
theorem PySem.W.Fast.tw10903312521067201107 : True := trivial
theorem PySem.W.Fast.tw8865197429440078675 : True := trivial
theorem PySem.W.Fast.tw14697238588485325651 : True := trivial
theorem PySem.W.Fast.tw5417134485952328756 : True := trivial
theorem PySem.W.Fast.tw11839340419173368916 : True := trivial
theorem PySem.W.Fast.tw5973174749000141940 : True := trivial
theorem PySem.W.Fast.tw3031225272285142164 : True := trivial
theorem PySem.W.Fast.tw3577987146710567092 : True := trivial
theorem PySem.W.Fast.tw9033622656616119508 : True := trivial
theorem PySem.W.Fast.tw12134532431273157876 : True := trivial
theorem PySem.W.Fast.tw14416557710187558132 : True := trivial
theorem PySem.W.Fast.tw4015497022565033268 : True := trivial
theorem PySem.W.Fast.tw15059540256119717172 : True := trivial
theorem PySem.W.Fast.tw2953774269282525652 : True := trivial
theorem PySem.W.Fast.tw14070303975823011284 : True := trivial
theorem PySem.W.Fast.tw12688761820349165044 : True := trivial
theorem PySem.W.Fast.tw11736743963829104372 : True := trivial
theorem PySem.W.Fast.tw8644289677592303380 : True := trivial
theorem PySem.W.Fast.tw1315697853144003412 : True := trivial
theorem PySem.W.Fast.tw4992990523604091860 : True := trivial
theorem PySem.W.Fast.tw4316971724835421205 : True := trivial
theorem PySem.W.Fast.tw17572410646221728853 : True := trivial
theorem PySem.W.Fast.tw13416063624264180885 : True := trivial
theorem PySem.W.Fast.tw8789802845579868373 : True := trivial
theorem PySem.W.Fast.tw15780492014382565621 : True := trivial
theorem PySem.W.Fast.tw15857195279298294133 : True := trivial
theorem PySem.W.Fast.tw9815411730655657365 : True := trivial
theorem PySem.W.Fast.tw10662782345033050517 : True := trivial
theorem PySem.W.Fast.tw17594898183536540117 : True := trivial
theorem PySem.W.Fast.tw8917348361751866901 : True := trivial
theorem PySem.W.Fast.tw16365067806181745173 : True := trivial
theorem PySem.W.Fast.tw646504741729173077 : True := trivial
theorem PySem.W.Fast.tw7114227945786576469 : True := trivial
theorem PySem.W.Fast.tw1040099230223301237 : True := trivial
theorem PySem.W.Fast.tw11375611714429130389 : True := trivial
theorem PySem.W.Fast.tw2487069540764441301 : True := trivial
theorem PySem.W.Fast.tw10788129933319346965 : True := trivial
theorem PySem.W.Fast.tw12082170562092146453 : True := trivial
theorem PySem.W.Fast.tw1529231499483143989 : True := trivial
theorem PySem.W.Fast.tw12174081205838053205 : True := trivial
theorem PySem.W.Fast.tw4563825073806266325 : True := trivial
theorem PySem.W.Fast.tw11089084732876992501 : True := trivial
theorem PySem.W.Fast.tw17090675202472470838 : True := trivial
theorem PySem.W.Fast.tw18281554916613288278 : True := trivial
theorem PySem.W.Fast.tw99522383164004758 : True := trivial
theorem PySem.W.Fast.tw9821433455536912790 : True := trivial
theorem PySem.W.Fast.tw2279530844078600630 : True := trivial
theorem PySem.W.Fast.tw8821920505194776022 : True := trivial
theorem PySem.W.Fast.tw15432914762535887350 : True := trivial
theorem PySem.W.Fast.tw13087790167672313366 : True := trivial
theorem PySem.W.Fast.tw2990716089089514166 : True := trivial
theorem PySem.W.Fast.tw16180345289017220790 : True := trivial
theorem PySem.W.Fast.tw4826764435953328918 : True := trivial
theorem PySem.W.Fast.tw18374198845150402358 : True := trivial
theorem PySem.W.Fast.tw13950899260726419350 : True := trivial
theorem PySem.W.Fast.tw10387944345649937495 : True := trivial
theorem PySem.W.Fast.tw1673219502583849207 : True := trivial
theorem PySem.W.Fast.tw12843730707523821847 : True := trivial
theorem PySem.W.Fast.tw9690522505392451895 : True := trivial
theorem PySem.W.Fast.tw15148523472911387959 : True := trivial
theorem PySem.W.Fast.tw3098698368198288823 : True := trivial
theorem PySem.W.Fast.tw18190443848344038999 : True := trivial
theorem PySem.W.Fast.tw11775981847910910583 : True := trivial
theorem PySem.W.Fast.tw15867094649544886935 : True := trivial
theorem PySem.W.Fast.tw12043178480388609847 : True := trivial
theorem PySem.W.Fast.tw12175861647396729944 : True := trivial
theorem PySem.W.Fast.tw12868330761468380280 : True := trivial
theorem PySem.W.Fast.tw1603259604259584248 : True := trivial
theorem PySem.W.Fast.tw2993636011456110200 : True := trivial
theorem PySem.W.Fast.tw16300055654401036984 : True := trivial
theorem PySem.W.Fast.tw1006233078322935576 : True := trivial
theorem PySem.W.Fast.tw11621839008567883576 : True := trivial
theorem PySem.W.Fast.tw3349526935896595352 : True := trivial
theorem PySem.W.Fast.tw11860535863396974488 : True := trivial
theorem PySem.W.Fast.tw405045824661159864 : True := trivial
theorem PySem.W.Fast.tw5076365591263596472 : True := trivial
theorem PySem.W.Fast.tw11288061019370551256 : True := trivial
theorem PySem.W.Fast.tw14004745121314271257 : True := trivial
theorem PySem.W.Fast.tw6505327719435879801 : True := trivial
theorem PySem.W.Fast.tw11844752162569554329 : True := trivial
theorem PySem.W.Fast.tw14309926767306444185 : True := trivial
theorem PySem.W.Fast.tw17712872312509596089 : True := trivial
theorem PySem.W.Fast.tw17902028471495103161 : True := trivial
theorem PySem.W.Fast.tw3992520384400945977 : True := trivial
theorem PySem.W.Fast.tw17132604047284323193 : True := trivial
theorem PySem.W.Fast.tw1684827178497040345 : True := trivial
theorem PySem.W.Fast.tw13698900833305082873 : True := trivial
theorem PySem.W.Fast.tw9534983746214585370 : True := trivial
theorem PySem.W.Fast.tw7717556126320595034 : True := trivial
theorem PySem.W.Fast.tw10441505072956366970 : True := trivial
theorem PySem.W.Fast.tw18002809998321293658 : True := trivial
theorem PySem.W.Fast.tw11021650971384345082 : True := trivial
theorem PySem.W.Fast.tw2227614447876279834 : True := trivial
theorem PySem.W.Fast.tw4273788657548813914 : True := trivial
theorem PySem.W.Fast.tw215996627010090586 : True := trivial
theorem PySem.W.Fast.tw3797675449054956218 : True := trivial
theorem PySem.W.Fast.tw3858232071209306842 : True := trivial
theorem PySem.W.Fast.tw11538211038896737050 : True := trivial
theorem PySem.W.Fast.tw2901415266595552090 : True := trivial
theorem PySem.W.Fast.tw2260201028880673658 : True := trivial
theorem PySem.W.Fast.tw1759991756136564602 : True := trivial
theorem PySem.W.Fast.tw5231129319163769818 : True := trivial
theorem PySem.W.Fast.tw3767814027052101626 : True := trivial
theorem PySem.W.Fast.tw2985680808721640475 : True := trivial
theorem PySem.W.Fast.tw8630184978604342395 : True := trivial
theorem PySem.W.Fast.tw14579543927563326587 : True := trivial
theorem PySem.W.Fast.tw2038371490937589051 : True := trivial
theorem PySem.W.Fast.tw3086212933185971611 : True := trivial
theorem PySem.W.Fast.tw13952820859579590043 : True := trivial
theorem PySem.W.Fast.tw919218855038351771 : True := trivial
theorem PySem.W.Fast.tw7776559601217158619 : True := trivial
theorem PySem.W.Fast.tw17228200971765747259 : True := trivial
theorem PySem.W.Fast.tw8998774467719583291 : True := trivial
theorem PySem.W.Fast.tw13573418995540775515 : True := trivial
theorem PySem.W.Fast.tw387960819732903611 : True := trivial
theorem PySem.W.Fast.tw16213073215562612539 : True := trivial
theorem PySem.W.Fast.tw12174438271908895643 : True := trivial
theorem PySem.W.Fast.tw3068801639337226171 : True := trivial
theorem PySem.W.Fast.tw2913029777979890651 : True := trivial
theorem PySem.W.Fast.tw8108001524418237435 : True := trivial
theorem PySem.W.Fast.tw6520756594765872156 : True := trivial
theorem PySem.W.Fast.tw17964847572979871772 : True := trivial
theorem PySem.W.Fast.tw1856431230711030972 : True := trivial
theorem PySem.W.Fast.tw3017548345198283036 : True := trivial
theorem PySem.W.Fast.tw18350030589223667100 : True := trivial
theorem PySem.W.Fast.tw17229188518778341852 : True := trivial
theorem PySem.W.Fast.tw15925295921288665628 : True := trivial
theorem PySem.W.Fast.tw12430445871723092540 : True := trivial
theorem PySem.W.Fast.tw15365045083782890236 : True := trivial
theorem PySem.W.Fast.tw4250071836831445916 : True := trivial
theorem PySem.W.Fast.tw3021596708955980732 : True := trivial
theorem PySem.W.Fast.tw6011108925860180956 : True := trivial
theorem PySem.W.Fast.tw6433737211559940060 : True := trivial
theorem PySem.W.Fast.tw14676260713461564669 : True := trivial
theorem PySem.W.Fast.tw14685230136264995069 : True := trivial
theorem PySem.W.Fast.tw13443480809351052605 : True := trivial
theorem PySem.W.Fast.tw3227654083652457821 : True := trivial
theorem PySem.W.Fast.tw2420405431620485533 : True := trivial
theorem PySem.W.Fast.tw9556465840657087933 : True := trivial
theorem PySem.W.Fast.tw10174818374214336989 : True := trivial
theorem PySem.W.Fast.tw11870911232136145629 : True := trivial
theorem PySem.W.Fast.tw17830046533232124669 : True := trivial
theorem PySem.W.Fast.tw13306947697285806909 : True := trivial
theorem PySem.W.Fast.tw2648733158567926653 : True := trivial
theorem PySem.W.Fast.tw11934189553267549117 : True := trivial
theorem PySem.W.Fast.tw14991589177954628541 : True := trivial
theorem PySem.W.Fast.tw13257100771278074845 : True := trivial
theorem PySem.W.Fast.tw780736093980845182 : True := trivial
theorem PySem.W.Fast.tw15472984381390727326 : True := trivial
theorem PySem.W.Fast.tw5772202672686324990 : True := trivial
theorem PySem.W.Fast.tw4409620175388889374 : True := trivial
theorem PySem.W.Fast.tw8996042064044062174 : True := trivial
theorem PySem.W.Fast.tw5640097106094261790 : True := trivial
theorem PySem.W.Fast.tw17239881287958004286 : True := trivial
theorem PySem.W.Fast.tw6156929669894997694 : True := trivial
theorem PySem.W.Fast.tw17078225986831877918 : True := trivial
theorem PySem.W.Fast.tw2254243459974302494 : True := trivial
theorem PySem.W.Fast.tw12132619583792863006 : True := trivial
theorem PySem.W.Fast.tw14798987613444631358 : True := trivial
theorem PySem.W.Fast.tw10660270763780159326 : True := trivial
theorem PySem.W.Fast.tw9385971420631829374 : True := trivial
theorem PySem.W.Fast.tw12823358162248421246 : True := trivial
theorem PySem.W.Fast.tw10654667417807178654 : True := trivial
theorem PySem.W.Fast.tw9686483638258861054 : True := trivial
theorem PySem.W.Fast.tw1918957022108975167 : True := trivial
theorem PySem.W.Fast.tw16648853710709159999 : True := trivial
theorem PySem.W.Fast.tw15305253632370629759 : True := trivial
theorem PySem.W.Fast.tw10642329236021325375 : True := trivial
theorem PySem.W.Fast.tw12465201591111226079 : True := trivial
theorem PySem.W.Fast.tw18129665564083282751 : True := trivial
theorem PySem.W.Fast.tw18022962257332375455 : True := trivial
theorem PySem.W.Fast.tw16830033101295939519 : True := trivial
open PySem PySem.W PyProof.Rows
set_option maxRecDepth 100000 in
set_option maxHeartbeats 0 in
theorem PySem.Challenge.cw_cratefit_k12_used_and_mirrored_holds : PySem.Challenge.rw_cratefit_k12_used_and_mirrored.Holds := by
  w_on; o_law; k_head; (case hw => w_witness2)
  k_fill
  refine Law.walk rfl (fun w h Y => PySem.W.kIn_of Y) ?F
  case F =>
    intro w mg fa h KX G hmg
    refine' Law.all_mk KX G hmg ?a_sides_of ?l_sides_of ?c_sides_of ?k_sides_of ?a_spot_of ?l_spot_of ?c_spot_of ?k_spot_of ?a_spots_of ?l_spots_of ?c_spots_of ?k_spots_of ?a_used ?l_used ?c_used ?k_used ?a_mirrored ?l_mirrored ?c_mirrored ?k_mirrored ?a_l_cell_at ?l_l_cell_at ?c_l_cell_at ?k_l_cell_at ?a_l_whole ?l_l_whole ?c_l_whole ?k_l_whole ?a_l_side ?l_l_side ?c_l_side ?k_l_side ?a_l_ware ?l_l_ware ?c_l_ware ?k_l_ware ?a_l_far ?l_l_far ?c_l_far ?k_l_far ?a_l_box ?l_l_box ?c_l_box ?k_l_box ?a_l_kinds ?l_l_kinds ?c_l_kinds ?k_l_kinds ?a_l_case ?l_l_case ?c_l_case ?k_l_case ?a_l_spots ?l_l_spots ?c_l_spots ?k_l_spots ?a_l_used ?l_l_used ?c_l_used ?k_l_used ?a_l_mirrored ?l_l_mirrored ?c_l_mirrored ?k_l_mirrored ?a_l_ends ?l_l_ends ?c_l_ends ?k_l_ends ?a_l_mirror ?l_l_mirror ?c_l_mirror ?k_l_mirror ?a_l_good ?l_l_good ?c_l_good ?k_l_good ?a_law ?l_law ?c_law ?k_law ?z_ValueError ?z_bool ?z_int ?z_isinstance ?z_len ?z_list ?z_max ?z_tuple ?z_zip ?m_BadPacking ?m_BadPlan ?m_BadSide ?m_BadTurn ?m_CrateError ?m_Full ?m_Hangs ?m_NoDeed ?m_NoDrawing ?m_NoPicker ?m_NoSheet ?m_NoText ?m_NoWare ?m_NoWeighing ?m_NothingDone ?m_Ring ?m_TooMany ?m_TooWide ?x_BadTurn ?t_exc_BadTurn1 ?t_exc_BadTurn2 ?t_exc_BadTurn3 ?t_exc_BadTurn4 ?t_exc_BadTurn5 ?t_any_BadTurn_0 ?t_any_BadTurn_1 ?t_one_BadTurn_CrateError ?t_one_BadTurn_ValueError ?t_exm_BadTurn_BadTurn
    (case a_sides_of => k_is)
    (case l_sides_of => k_is)
    (case c_sides_of => k_is)
    (case k_sides_of => k_is)
    (case a_spot_of => k_is)
    (case l_spot_of => k_is)
    (case c_spot_of => k_is)
    (case k_spot_of => k_is)
    (case a_spots_of => k_is)
    (case l_spots_of => k_is)
    (case c_spots_of => k_is)
    (case k_spots_of => k_is)
    (case a_used => k_is)
    (case l_used => k_is)
    (case c_used => k_is)
    (case k_used => k_is)
    (case a_mirrored => k_is)
    (case l_mirrored => k_is)
    (case c_mirrored => k_is)
    (case k_mirrored => k_is)
    (case a_l_cell_at => k_is)
    (case l_l_cell_at => k_is)
    (case c_l_cell_at => k_is)
    (case k_l_cell_at => k_is)
    (case a_l_whole => k_is)
    (case l_l_whole => k_is)
    (case c_l_whole => k_is)
    (case k_l_whole => k_is)
    (case a_l_side => k_is)
    (case l_l_side => k_is)
    (case c_l_side => k_is)
    (case k_l_side => k_is)
    (case a_l_ware => k_is)
    (case l_l_ware => k_is)
    (case c_l_ware => k_is)
    (case k_l_ware => k_is)
    (case a_l_far => k_is)
    (case l_l_far => k_is)
    (case c_l_far => k_is)
    (case k_l_far => k_is)
    (case a_l_box => k_is)
    (case l_l_box => k_is)
    (case c_l_box => k_is)
    (case k_l_box => k_is)
    (case a_l_kinds => k_is)
    (case l_l_kinds => k_is)
    (case c_l_kinds => k_is)
    (case k_l_kinds => k_is)
    (case a_l_case => k_is)
    (case l_l_case => k_is)
    (case c_l_case => k_is)
    (case k_l_case => k_is)
    (case a_l_spots => k_is)
    (case l_l_spots => k_is)
    (case c_l_spots => k_is)
    (case k_l_spots => k_is)
    (case a_l_used => k_is)
    (case l_l_used => k_is)
    (case c_l_used => k_is)
    (case k_l_used => k_is)
    (case a_l_mirrored => k_is)
    (case l_l_mirrored => k_is)
    (case c_l_mirrored => k_is)
    (case k_l_mirrored => k_is)
    (case a_l_ends => k_is)
    (case l_l_ends => k_is)
    (case c_l_ends => k_is)
    (case k_l_ends => k_is)
    (case a_l_mirror => k_is)
    (case l_l_mirror => k_is)
    (case c_l_mirror => k_is)
    (case k_l_mirror => k_is)
    (case a_l_good => k_is)
    (case l_l_good => k_is)
    (case c_l_good => k_is)
    (case k_l_good => k_is)
    (case a_law => k_is)
    (case l_law => k_is)
    (case c_law => k_is)
    (case k_law => k_is)
    (case z_ValueError => k_is)
    (case z_bool => k_is)
    (case z_int => k_is)
    (case z_isinstance => k_is)
    (case z_len => k_is)
    (case z_list => k_is)
    (case z_max => k_is)
    (case z_tuple => k_is)
    (case z_zip => k_is)
    (case m_BadPacking => k_is)
    (case m_BadPlan => k_is)
    (case m_BadSide => k_is)
    (case m_BadTurn => k_is)
    (case m_CrateError => k_is)
    (case m_Full => k_is)
    (case m_Hangs => k_is)
    (case m_NoDeed => k_is)
    (case m_NoDrawing => k_is)
    (case m_NoPicker => k_is)
    (case m_NoSheet => k_is)
    (case m_NoText => k_is)
    (case m_NoWare => k_is)
    (case m_NoWeighing => k_is)
    (case m_NothingDone => k_is)
    (case m_Ring => k_is)
    (case m_TooMany => k_is)
    (case m_TooWide => k_is)
    (case x_BadTurn => kernel_rfl)
    (case t_exc_BadTurn1 => k_is)
    (case t_exc_BadTurn2 => k_is)
    (case t_exc_BadTurn3 => k_is)
    (case t_exc_BadTurn4 => k_is)
    (case t_exc_BadTurn5 => k_is)
    (case t_any_BadTurn_0 => kit_is)
    (case t_any_BadTurn_1 => kit_is)
    (case t_one_BadTurn_CrateError => kit_is)
    (case t_one_BadTurn_ValueError => kit_is)
    (case t_exm_BadTurn_BadTurn => kts_exm)
