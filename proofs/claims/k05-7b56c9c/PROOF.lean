import PyProof.Rows.All
import Wide.All
import OpenK.AllK
import Wide.FinOn
import Lean
import PyProof.EqAt
import PyProof.EqKinds
import PyProof.TupleCall
import PySem.Challenge.RW_cratefit_k05_wares_refused
set_option Elab.async false
set_option linter.all false
set_option maxRecDepth 100000
namespace L2
open PySem PySem.Spec PyProof.Rows
abbrev Key := Sum Int Str
def keyIs : Key → Value → Bool
  | .inl k, v => Value.isInt k v
  | .inr x, v => Value.isStrOf x v
def keyH (w : World) : Key → Int
  | .inl k => hashInt k
  | .inr x => hashStr w x
theorem keyIs_shape : ∀ {k : Key} {v : Value}, keyIs k v = true → (∃ i t, k = Sum.inl i ∧ v = Value.int i t) ∨ (∃ x t, k = Sum.inr x ∧ v = Value.str x t)
  | .inl i, v, h => by
    obtain ⟨t, e⟩ := Value.isInt_shape (k := i) (v := v) h
    exact .inl ⟨i, t, rfl, e⟩
  | .inr x, v, h => by
    obtain ⟨t, e⟩ := Value.isStrOf_shape (x := x) (v := v) h
    exact .inr ⟨x, t, rfl, e⟩
theorem key_ll (a b : Int) : decide ((Sum.inl a : Key) = Sum.inl b) = (a == b) := by
  by_cases e : a = b
  · subst e; simp
  · have h : ¬ (Sum.inl a : Key) = Sum.inl b := fun q => e (Sum.inl.inj q)
    rw [decide_eq_false h]
    exact (beq_eq_false_iff_ne.mpr e).symm
theorem key_rr (a b : Str) : decide ((Sum.inr a : Key) = Sum.inr b) = decide (a = b) := by
  by_cases e : a = b
  · subst e; simp
  · have h : ¬ (Sum.inr a : Key) = Sum.inr b := fun q => e (Sum.inr.inj q)
    rw [decide_eq_false h, decide_eq_false e]
theorem key_lr (a : Int) (b : Str) : decide ((Sum.inl a : Key) = Sum.inr b) = false := decide_eq_false (fun q => nomatch q)
theorem key_rl (a : Str) (b : Int) : decide ((Sum.inr a : Key) = Sum.inl b) = false := decide_eq_false (fun q => nomatch q)
def mixKind (prog : Program) (w : World) : PySem.KeyKind prog w Key where
  is := keyIs
  hash := keyH w
  inj := fun v a b ha hb => by
    rcases keyIs_shape ha with ⟨i, t, rfl, rfl⟩ | ⟨x, t, rfl, rfl⟩
    · rcases keyIs_shape hb with ⟨j, u, rfl, e⟩ | ⟨y, u, rfl, e⟩
      · injection e with e1 _; rw [e1]
      · exact nomatch e
    · rcases keyIs_shape hb with ⟨j, u, rfl, e⟩ | ⟨y, u, rfl, e⟩
      · exact nomatch e
      · injection e with e1 _; rw [e1]
  byValue := fun k v h => by
    rcases keyIs_shape h with ⟨i, t, rfl, rfl⟩ | ⟨x, t, rfl, rfl⟩ <;> rfl
  pyHash := fun hv h => by
    rcases keyIs_shape hv with ⟨i, t, rfl, rfl⟩ | ⟨x, t, rfl, rfl⟩
    · exact wpAny_pyHash_int h
    · exact wpAny_pyHash_str h
  eqBool := fun hu hv h => by
    rcases keyIs_shape hu with ⟨i, t, rfl, rfl⟩ | ⟨x, t, rfl, rfl⟩
    · rcases keyIs_shape hv with ⟨j, u, rfl, rfl⟩ | ⟨y, u, rfl, rfl⟩
      · rw [key_ll] at h; exact wpAny_eqBool_int h
      · rw [key_lr] at h; exact SeqAt.EqAt.int_str i t y u _ _ _ _ h
    · rcases keyIs_shape hv with ⟨j, u, rfl, rfl⟩ | ⟨y, u, rfl, rfl⟩
      · rw [key_rl] at h; exact SeqAt.EqAt.str_int x t j u _ _ _ _ h
      · rw [key_rr] at h; exact wpAny_eqBool_str h
  «strs» := fun k x t v h => by
    rcases keyIs_shape h with ⟨i, u, rfl, e⟩ | ⟨y, u, rfl, e⟩
    · exact nomatch e
    · injection e with e1 _
      subst e1
      cases v <;> rfl
end L2
namespace L2
open PySem PySem.Spec PyProof.Rows
inductive V where
  | non | bl (b : Bool) | int (i : Int) | str (x : Str) | byt (b : Array UInt8) | flt (b : UInt64) | ref (a : Addr) | ty (n : String)
  deriving DecidableEq
def RelV : V → Value → Prop
  | .non, u => u = Value.none
  | .bl b, u => u = Value.bool b
  | .int i, u => ∃ t, u = Value.int i t
  | .str x, u => ∃ t, u = Value.str x t
  | .byt b, u => ∃ t, u = Value.bytes b t
  | .flt b, u => ∃ t, u = Value.float b t
  | .ref a, u => u = Value.ref a
  | .ty n, u => u = Value.type n
abbrev Vals : List V → List Value → Prop := Paired RelV
theorem Vals.length {xs : List V} {us : List Value} (r : Vals xs us) : xs.length = us.length := Paired.length r
theorem Vals.get : ∀ {xs : List V} {us : List Value} {i : Nat} {x : V}, Vals xs us → xs[i]? = some x → ∃ u, us[i]? = some u ∧ RelV x u
  | _, _, _, _, .nil, e => by simp at e
  | _, _, 0, _, .cons r _, e => by simp at e; subst e; exact ⟨_, rfl, r⟩
  | _, _, i + 1, x, .cons _ t, e => by
    obtain ⟨u, h1, h2⟩ := Vals.get (i := i) (x := x) t (by simpa using e)
    exact ⟨u, by simpa using h1, h2⟩
theorem Vals.set {x : V} {u : Value} (r : RelV x u) : ∀ {xs : List V} {us : List Value} (i : Nat), Vals xs us → Vals (xs.set i x) (us.set i u)
  | _, _, _, .nil => .nil
  | _, _, 0, .cons _ t => .cons r t
  | _, _, i + 1, .cons q t => .cons q (Vals.set r i t)
theorem Vals.append : ∀ {xs ys : List V} {us ws : List Value}, Vals xs us → Vals ys ws → Vals (xs ++ ys) (us ++ ws)
  | _, _, _, _, .nil, s => s
  | _, _, _, _, .cons r t, s => .cons r (Vals.append t s)
theorem Vals.take : ∀ {xs : List V} {us : List Value} (n : Nat), Vals xs us → Vals (xs.take n) (us.take n)
  | _, _, 0, _ => .nil
  | _, _, _ + 1, .nil => .nil
  | _, _, n + 1, .cons r t => .cons r (Vals.take n t)
theorem Vals.drop : ∀ {xs : List V} {us : List Value} (n : Nat), Vals xs us → Vals (xs.drop n) (us.drop n)
  | _, _, 0, r => r
  | _, _, _ + 1, .nil => .nil
  | _, _, n + 1, .cons _ t => Vals.drop n t
def RelO : Option V → Option Value → Prop
  | some v, some u => RelV v u
  | none, none => True
  | _, _ => False
def KV {κ : Type} : List (κ × V) → List (κ × Value) → Prop := Paired fun (p : κ × V) (q : κ × Value) => p.1 = q.1 ∧ RelV p.2 q.2
def kV : Key → V
  | .inl i => .int i
  | .inr x => .str x
inductive HO where
  /-- a list -/
  | lst (xs : List V)
  /-- a tuple (never changes) -/
  | tup (xs : List V)
  /-- a dict whose keys are ints and texts; one whose keys are tuples of ints and texts (the empty one is both) -/
  | dK (kvs : List (Key × V)) | dT (kvs : List (List Key × V))
  /-- a set of ints: its members, its size -/
  | set (S : Int → Bool) (n : Nat)
  /-- an instance of the class at C, its dict at dx, its attributes -/
  | ins (C dx : Addr) (fs : List (Str × V))
  /-- the dict of the instance at x -/
  | own (x : Addr)
  /-- the dict of an exception -/
  | xd (fs : List (Str × V))
  /-- a bound method, f of x -/
  | met (f x : Addr)
  /-- a range object lo, lo + 1, .. below hi -/
  | rng (lo hi : Int)
  /-- a thing that is known to the object (the script; a dict while a loop walks it): read, never written while it is so -/
  | frz (o : Obj) (u : HO)
  /-- a code object's table -/
  | tbl (ps : Array Value)
  /-- any other thing, by what is true of its one object (a def of one's own: SetO a S n := HO.ext fun h => ..) -/
  | ext (φ : Heap → Prop)
abbrev Hp := Addr → Option HO
def upd (H : Hp) (a : Addr) (o : HO) : Hp := fun b => if b = a then some o else H b
theorem upd_same {H : Hp} {a : Addr} {o : HO} : upd H a o a = some o := by unfold upd; rw [if_pos rfl]
theorem upd_ne {H : Hp} {a b : Addr} {o : HO} (h : b ≠ a) : upd H a o b = H b := by unfold upd; rw [if_neg h]
theorem ne_of {H : Hp} {a b : Addr} {o u : HO} (h : H a = some o) (h' : H b = some u) (d : o ≠ u) : a ≠ b := by
  intro e; subst e; rw [h] at h'; exact d (Option.some.inj h')
theorem ne_of_none {H : Hp} {a b : Addr} {o : HO} (h : H a = some o) (h' : H b = none) : a ≠ b := by
  intro e; subst e; rw [h] at h'; cases h'
section
variable (P : Program) (w : World)
def ObjOk (H : Hp) (h : Heap) (a : Addr) : HO → Prop
  | .lst xs => xs.length ≤ sizeLine ∧ ∃ (its : List Value) (n : Nat), Vals xs its ∧ h.get? a = some { cls := .type "list", data := .seq its.toArray n }
  | .tup xs => xs.length ≤ sizeLine ∧ ∃ its : List Value, Vals xs its ∧ IsTup h a its.toArray
  | .dK kvs => kvs.length ≤ sizeLine ∧ (a == sysModules) = false ∧ ∃ vs, KV kvs vs ∧ h.DictOf (mixKind P w) a vs
  | .dT kvs => kvs.length ≤ sizeLine ∧ (a == sysModules) = false ∧ ∃ xs : List (List Key × Addr × Value),
      Paired (fun (p : List Key × V) (q : List Key × Addr × Value) => p.1 = q.1 ∧ H q.2.1 = some (.tup (p.1.map kV)) ∧ RelV p.2 q.2.2) kvs xs ∧
      ∃ o es ep, h.get? a = some o ∧ o.ExactDict ∧ o.data = .dict es ep ∧ es.toList = xs.map (entryOfKey (tupleKind (mixKind P w))) ∧ (xs.map (·.1)).Nodup
  | .set S n => h.SetOf (intKind P w) a S n
  | .ins C dx fs => H dx = some (.own a) ∧ fs.length ≤ 1000 ∧ dx ≠ a ∧ h.get? a = some (PySem.W.instObj C dx) ∧
      ∃ mA, h.Ns1 dx mA ∧ (∀ f, RelO (fs.lookup f) (mA f)) ∧ PySem.Within mA (fs.map (·.1))
  | .own _ => ∃ o, h.get? a = some o
  | .xd fs => ∃ mA, h.Ns1 a mA ∧ ∀ f, RelO (fs.lookup f) (mA f)
  | .rng lo hi => ∃ t u v, h.get? a = some { cls := .type "range", data := .fields #[.int lo t, .int hi u, .int 1 v] }
  | .frz o u => h.get? a = some o ∧ ObjOk H h a u
  | .tbl ps => h.get? a = some { cls := .none, data := .fields ps }
  | .met f x => h.get? a = some (PySem.W.methodObj (.ref f) (.ref x))
  | .ext φ => φ h ∧ (∃ o, h.get? a = some o) ∧ ∀ h1 h2 : Heap, φ h1 → (∀ o, h1.get? a = some o → h2.get? a = some o) → φ h2
def HOk (H : Hp) (h : Heap) : Prop := ∀ a o, H a = some o → ObjOk P w H h a o
end
section
variable {P : Program} {w : World} {H H' : Hp} {h h' : Heap} {a : Addr} {o : HO}
theorem ObjOk.lt (x : ObjOk P w H h a o) : a < h.objs.size := by
  cases o with
  | lst xs => obtain ⟨_, _, _, _, e⟩ := x; exact Heap.lt_size e
  | tup xs => obtain ⟨_, _, _, p⟩ := x; exact p.lt
  | dK kvs => obtain ⟨_, _, _, _, o, _, _, e, _⟩ := x; exact Heap.lt_size e
  | dT kvs => obtain ⟨_, _, _, _, o, _, _, e, _⟩ := x; exact Heap.lt_size e
  | set S n => obtain ⟨o, _, _, _, e, _⟩ := x; exact Heap.lt_size e
  | ins C dx fs => obtain ⟨_, _, _, e, _⟩ := x; exact Heap.lt_size e
  | own y => obtain ⟨_, e⟩ := x; exact Heap.lt_size e
  | xd fs => obtain ⟨_, ⟨_, _, _, e, _⟩, _⟩ := x; exact Heap.lt_size e
  | rng lo hi => obtain ⟨_, _, _, e⟩ := x; exact Heap.lt_size e
  | frz ob u => obtain ⟨e, _⟩ := x; exact Heap.lt_size e
  | tbl ps => exact Heap.lt_size (show h.get? a = some _ from x)
  | met f y => exact Heap.lt_size (show h.get? a = some _ from x)
  | ext φ => obtain ⟨_, ⟨_, e⟩, _⟩ := x; exact Heap.lt_size e
theorem Paired.mapP {α β : Type} {F G : α → β → Prop} : ∀ {l₁ : List α} {l₂ : List β}, Paired F l₁ l₂ → (∀ a b, F a b → G a b) → Paired G l₁ l₂
  | _, _, .nil, _ => .nil
  | _, _, .cons r t, f => .cons (f _ _ r) (Paired.mapP t f)
theorem ObjOk.stay (x : ObjOk P w H h a o) (k : ∀ b u, (b = a ∨ H b = some (.own a)) → h.get? b = some u → h'.get? b = some u)
    (ho : ∀ b, H b = some (.own a) → H' b = some (.own a)) (ht : ∀ b xs, H b = some (.tup xs) → H' b = some (.tup xs)) : ObjOk P w H' h' a o := by
  induction o with
  | lst xs => obtain ⟨z, its, n, r, e⟩ := x; exact ⟨z, its, n, r, k _ _ (.inl rfl) e⟩
  | tup xs => obtain ⟨z, its, r, ob, e, c⟩ := x; exact ⟨z, its, r, ob, k _ _ (.inl rfl) e, c⟩
  | dK kvs => obtain ⟨z, y, vs, r, ob, es, ep, e, c⟩ := x; exact ⟨z, y, vs, r, ob, es, ep, k _ _ (.inl rfl) e, c⟩
  | dT kvs =>
    obtain ⟨z, y, xs, r, ob, es, ep, e, c⟩ := x
    exact ⟨z, y, xs, Paired.mapP r fun p q z => ⟨z.1, ht _ _ z.2.1, z.2.2⟩, ob, es, ep, k _ _ (.inl rfl) e, c⟩
  | set S n => obtain ⟨ob, es, ep, t, e, c⟩ := x; exact ⟨ob, es, ep, t, k _ _ (.inl rfl) e, c⟩
  | ins C dx fs =>
    obtain ⟨d, z, ne, e, mA, ⟨od, es, ep, e2, c⟩, r⟩ := x
    exact ⟨ho _ d, z, ne, k _ _ (.inl rfl) e, mA, ⟨od, es, ep, k _ _ (.inr d) e2, c⟩, r⟩
  | own y => obtain ⟨ob, e⟩ := x; exact ⟨ob, k _ _ (.inl rfl) e⟩
  | xd fs => obtain ⟨mA, ⟨od, es, ep, e, c⟩, r⟩ := x; exact ⟨mA, ⟨od, es, ep, k _ _ (.inl rfl) e, c⟩, r⟩
  | rng lo hi => obtain ⟨t, u, v, e⟩ := x; exact ⟨t, u, v, k _ _ (.inl rfl) e⟩
  | frz ob u ih => obtain ⟨e, q⟩ := x; exact ⟨k _ _ (.inl rfl) e, ih q⟩
  | tbl ps =>
    have e : h.get? a = some { cls := .none, data := .fields ps } := x
    show h'.get? a = some { cls := .none, data := .fields ps }
    exact k a _ (.inl rfl) e
  | met f y =>
    have e : h.get? a = some (PySem.W.methodObj (.ref f) (.ref y)) := x
    show h'.get? a = some (PySem.W.methodObj (.ref f) (.ref y))
    exact k a _ (.inl rfl) e
  | ext φ => obtain ⟨p, ⟨o, e⟩, st⟩ := x; exact ⟨st _ _ p fun o q => k _ _ (.inl rfl) q, ⟨o, k _ _ (.inl rfl) e⟩, st⟩
theorem HOk.lt (x : HOk P w H h) (e : H a = some o) : a < h.objs.size := (x a o e).lt
theorem HOk.fresh (x : HOk P w H h) (e : h.objs.size ≤ a) : H a = none := by
  cases q : H a with
  | none => rfl
  | some u => exact absurd (Nat.lt_of_lt_of_le (x.lt q) e) (Nat.lt_irrefl _)
theorem HOk.kept (x : HOk P w H h) (k : ∀ b u, h.get? b = some u → h'.get? b = some u) : HOk P w H h' := fun a o e =>
  (x a o e).stay (fun b u _ q => k b u q) (fun _ q => q) fun _ _ q => q
theorem HOk.laid (x : HOk P w H h) (k : ∀ b u, h.get? b = some u → h'.get? b = some u) (hp : h.objs.size ≤ a) (new : ObjOk P w (upd H a o) h' a o) : HOk P w (upd H a o) h' := fun b u e => by
  have hn := x.fresh hp
  by_cases hb : b = a
  · subst hb; rw [upd_same] at e; cases e; exact new
  · rw [upd_ne hb] at e
    exact (x b u e).stay (fun c v _ q => k c v q) (fun c q => by rw [upd_ne (ne_of_none q hn)]; exact q) fun c xs q => by rw [upd_ne (ne_of_none q hn)]; exact q
end
def Rd (H : Hp) (a : Addr) (u : HO) : Prop := H a = some u ∨ ∃ o, H a = some (.frz o u)
theorem Rd.of {H : Hp} {a : Addr} {u : HO} (h : H a = some u) : Rd H a u := .inl h
theorem Rd.ok {P : Program} {w : World} {H : Hp} {h : Heap} {a : Addr} {u : HO} (r : Rd H a u) (x : HOk P w H h) : ObjOk P w H h a u := by
  rcases r with r | ⟨o, r⟩
  · exact x a u r
  · obtain ⟨_, q⟩ := x a _ r
    exact q
def Mut : Option HO → Prop
  | some (.lst _) => True
  | some (.dK _) => True
  | some (.dT _) => True
  | some (.set _ _) => True
  | some (.ins _ _ _) => True
  | some (.ext _) => True
  | _ => False
section
variable {P : Program} {w : World} {H : Hp} {h h' : Heap} {x e : Addr} {o' : HO}
theorem HOk.write (ok : HOk P w H h) (mu : Mut (H x)) (he : e = x ∨ H e = some (.own x)) (k : ∀ b u, b ≠ e → h.get? b = some u → h'.get? b = some u) (heo : ∃ u, h'.get? e = some u)
    (new : ObjOk P w (upd H x o') h' x o') : HOk P w (upd H x o') h' := fun b u q => by
  have nown : ∀ c y, H c = some (.own y) → c ≠ x := fun c y r z => by subst z; rw [r] at mu; exact mu
  have ntup : ∀ c xs, H c = some (.tup xs) → c ≠ x := fun c xs r z => by subst z; rw [r] at mu; exact mu
  by_cases hb : b = x
  · subst hb; rw [upd_same] at q; cases q; exact new
  · rw [upd_ne hb] at q
    by_cases hbe : b = e
    · have q' : H b = some (.own x) := by
        rcases he with z | z
        · exact absurd (hbe.trans z) hb
        · rw [hbe]; exact z
      rw [q] at q'; cases q'
      obtain ⟨v, hv⟩ := heo
      exact ⟨v, by rw [hbe]; exact hv⟩
    · refine (ok b u q).stay (fun c v hc r => k c v ?_ r) (fun c r => by rw [upd_ne (nown c b r)]; exact r) fun c xs r => by rw [upd_ne (ntup c xs r)]; exact r
      rcases hc with rfl | hc
      · exact hbe
      · rintro rfl
        rcases he with z | z
        · exact nown c b hc z
        · rw [hc] at z; cases z; exact hb rfl
end
structure Un (fs ex : List Addr) (H H' : Hp) (h h' : Heap) : Prop where
  keep : ∀ b o, h.get? b = some o → H b = none → b ∉ fs → b ∉ ex → h'.get? b = some o
  slot : ∀ b o, h.get? b = some o → H b = none → b ∈ fs → b ∉ ex → ∃ sl, h'.get? b = some { o with slots := sl }
  free : ∀ b o, h.get? b = some o → H b = none → b ∉ ex → H' b = none
  there : ∀ b o, h.get? b = some o → b ∉ ex → ∃ o', h'.get? b = some o'
  tups : ∀ b xs, H b = some (.tup xs) → H' b = some (.tup xs)
  frzs : ∀ b o u, H b = some (.frz o u) → H' b = some (.frz o u)
  tbls : ∀ b ps, H b = some (.tbl ps) → ∃ more, H' b = some (.tbl (ps ++ more))
section
variable {fs fs' ex ex' : List Addr} {H H1 H2 : Hp} {h h1 h2 h' : Heap} {a x e : Addr} {o : HO}
theorem Un.any (u : Un fs ex H H1 h h1) {b : Addr} {ob : Obj} (q : h.get? b = some ob) (n : H b = none) (hx : b ∉ ex) : ∃ sl, h1.get? b = some { ob with slots := sl } := by
  by_cases hb : b ∈ fs
  · exact u.slot b ob q n hb hx
  · exact ⟨ob.slots, u.keep b ob q n hb hx⟩
theorem Un.trans (a : Un fs ex H H1 h h1) (b : Un fs ex H1 H2 h1 h2) : Un fs ex H H2 h h2 where
  keep := fun c ob q n hc hx => b.keep c ob (a.keep c ob q n hc hx) (a.free c ob q n hx) hc hx
  slot := fun c ob q n hc hx => by
    obtain ⟨sl, e1⟩ := a.slot c ob q n hc hx
    obtain ⟨sl', e2⟩ := b.slot c _ e1 (a.free c ob q n hx) hc hx
    exact ⟨sl', e2⟩
  free := fun c ob q n hx => by
    obtain ⟨o', e1⟩ := a.there c ob q hx
    exact b.free c o' e1 (a.free c ob q n hx) hx
  there := fun c ob q hx => by
    obtain ⟨o', e1⟩ := a.there c ob q hx
    exact b.there c o' e1 hx
  tups := fun c xs q => b.tups c xs (a.tups c xs q)
  frzs := fun c ob xs q => b.frzs c ob xs (a.frzs c ob xs q)
  tbls := fun c ps q => by
    obtain ⟨m1, e1⟩ := a.tbls c ps q
    obtain ⟨m2, e2⟩ := b.tbls c _ e1
    exact ⟨m1 ++ m2, by rw [e2, Array.append_assoc]⟩
theorem Un.kept (k : ∀ b u, h.get? b = some u → h'.get? b = some u) : Un fs ex H H h h' :=
  ⟨fun b ob q _ _ _ => k b ob q, fun b ob q _ _ _ => ⟨ob.slots, k b ob q⟩, fun _ _ _ n _ => n, fun b ob q _ => ⟨ob, k b ob q⟩, fun _ _ q => q, fun _ _ _ q => q, fun _ ps q => ⟨#[], by rw [q]; simp⟩⟩
theorem Un.refl : Un fs ex H H h h := Un.kept fun _ _ q => q
theorem Un.laid (k : ∀ b u, h.get? b = some u → h'.get? b = some u) (hp : h.objs.size ≤ a) (hn : H a = none) : Un fs ex H (upd H a o) h h' where
  keep := fun b u q _ _ _ => k b u q
  slot := fun b u q _ _ _ => ⟨u.slots, k b u q⟩
  free := fun b u q n _ => by rw [upd_ne (Nat.ne_of_lt (Nat.lt_of_lt_of_le (Heap.lt_size q) hp))]; exact n
  there := fun b u q _ => ⟨u, k b u q⟩
  tups := fun b xs q => by rw [upd_ne (ne_of_none q hn)]; exact q
  frzs := fun b u xs q => by rw [upd_ne (ne_of_none q hn)]; exact q
  tbls := fun b ps q => ⟨#[], by rw [upd_ne (ne_of_none q hn), q]; simp⟩
theorem Un.write (mu : Mut (H x)) (he : e = x ∨ H e = some (.own x)) (k : ∀ b u, b ≠ e → h.get? b = some u → h'.get? b = some u) (heo : ∃ u, h'.get? e = some u) : Un fs ex H (upd H x o) h h' := by
  have hx : ∀ b, H b = none → b ≠ x := fun b n z => by subst z; rw [n] at mu; exact mu
  have hb : ∀ b, H b = none → b ≠ e := fun b n z => by
    subst z
    rcases he with r | r
    · exact hx b n r
    · rw [n] at r; cases r
  have hm : ∀ b u, H b = some u → ¬ Mut (some u) → b ≠ x := fun b u q nm z => by subst z; rw [q] at mu; exact nm mu
  refine ⟨fun b u q n _ _ => k b u (hb b n) q, fun b u q n _ _ => ⟨u.slots, k b u (hb b n) q⟩, fun b u q n _ => by rw [upd_ne (hx b n)]; exact n, fun b u q _ => ?_,
    fun b xs q => by rw [upd_ne (hm b _ q fun z => z)]; exact q, fun b u xs q => by rw [upd_ne (hm b _ q fun z => z)]; exact q, fun b ps q => ⟨#[], by rw [upd_ne (hm b _ q fun z => z), q]; simp⟩⟩
  by_cases hbe : b = e
  · subst hbe; exact heo
  · exact ⟨u, k b u hbe q⟩
theorem Un.mono (u : Un fs ex H H1 h h1) (hs : ∀ b ∈ fs, b ∈ fs') (hx : ∀ b ∈ ex, b ∈ ex') : Un fs' ex' H H1 h h1 :=
  ⟨fun b ob q n hb he => u.keep b ob q n (fun z => hb (hs b z)) fun z => he (hx b z), fun _ _ q n _ he => u.any q n fun z => he (hx _ z), fun b ob q n he => u.free b ob q n fun z => he (hx b z), fun b ob q he => u.there b ob q fun z => he (hx b z), u.tups, u.frzs, u.tbls⟩
end
def trk (h : Heap) (H : Hp) : List Addr := (List.range h.objs.size).filter fun a => (H a).isSome
def hidT (h : Heap) (H : Hp) : Heap := PySem.W.hideAll h (trk h H)
theorem hidT_size (h : Heap) (H : Hp) : (hidT h H).objs.size = h.objs.size := PySem.W.hideAll_size _ _
theorem hidT_get {h : Heap} {H : Hp} {b : Addr} {o : Obj} (e : h.get? b = some o) (n : H b = none) : (hidT h H).get? b = some o :=
  PySem.W.hideAll_get _ e fun hm => by
    have q : (H b).isSome = true := (List.mem_filter.mp hm).2
    rw [n] at q; simp at q
theorem of_hidT {h : Heap} {H : Hp} {b : Addr} {o : Obj} (e : (hidT h H).get? b = some o) : h.get? b = some o ∧ H b = none := by
  have e' : h.get? b = some o := PySem.W.of_hideAll (trk h H) e
  refine ⟨e', ?_⟩
  cases q : H b with
  | none => rfl
  | some x =>
    have hm : b ∈ trk h H := List.mem_filter.mpr ⟨List.mem_range.mpr (Heap.lt_size e'), by simp [q]⟩
    have z : (hidT h H).get? b = none := PySem.W.hideAll_none (trk h H) hm
    rw [z] at e; cases e
def allNews (g h : Heap) (L : Addr) : List (Addr × Obj) := (List.range h.objs.size).filterMap fun a => if a = L ∨ (g.get? a).isSome = true then none else (h.get? a).map fun o => (a, o)
def rest (g h : Heap) (L d : Addr) : List (Addr × Obj) := (allNews g h L).filter fun p => decide (p.1 ≠ d)
end L2
namespace L2
open PySem PySem.Spec PyProof.Rows
structure Mod (K : PySem.W.Frag) (mg : Str → Option Value) (base : Heap) : Prop where
  kin : K.In base
  glob : base.Ns mainGlobals mg
  blt : ∃ mb, base.Ns builtinsNs mb ∧ ∀ x : Str, x ≠ "__name__" → mb x = bootBuiltins x
  nolimit : base.NoLimit
structure Cx where
  prog : Program
  w : World
  K : PySem.W.Frag
  mg : Str → Option Value
  base : Heap
  A : Around
  N : List Str
  s₀ : Shared
  H₀ : Hp
  env : Env
  outer : List Env
  stack : List Env
  ex : List Addr
  fn : Str → Bool
  calm : Bool
  pn : List (Addr × Obj)
  xe : Value → Shared → Prop
def frs (l : List Env) : List Addr := l.filterMap (·.frame)
abbrev Cx.fs (X : Cx) : List Addr := frs X.outer
def Vis (sc : Scope) (x : Str) : Prop := sc.names.lookup x = some .local ∨ sc.names.lookup x = some .cell ∨ sc.names.lookup x = some .free
def Loc (sc : Scope) (x : Str) : Prop := sc.names.lookup x = some .local ∨ sc.names.lookup x = some .cell
def Look (env : Env) (h : Heap) (m : Str → Option Value) (x : Str) (u : Value) : Prop :=
  (env.kindOf x = some .local ∧ m x = some u) ∨ ((env.kindOf x = some .cell ∨ env.kindOf x = some .free) ∧ ∃ c, env.cells.lookup x = some c ∧ h.IsCell c (some u))
structure Cx.Ok (X : Cx) : Prop where
  mod : Mod X.K X.mg X.base
  kind : X.env.scope.kind = .function
  glob : X.env.globals = mainGlobals
  blt : X.env.builtins = builtinsNs
  above : X.s₀.heap.objs.size ≤ X.env.locals
  inj : ∀ x y c, X.env.cells.lookup x = some c → X.env.cells.lookup y = some c → x = y
  has : ∀ x, (X.env.kindOf x = some .cell ∨ X.env.kindOf x = some .free) → ∃ c, X.env.cells.lookup x = some c
  cab : ∀ x c, X.fn x = true → X.env.cells.lookup x = some c → X.s₀.heap.objs.size ≤ c
  hd : X.calm = true → X.A.handled = none
  frames : X.A.frames = some X.stack
  stk : X.stack = X.outer ∨ (X.stack = X.env :: X.outer ∧ X.env.frame = some X.env.locals)
  exf : ∀ b ∈ X.ex, b ≠ X.env.locals ∧ ∀ x c, X.env.cells.lookup x = some c → c ≠ b
  bs : ∀ b o, X.base.get? b = some o → X.s₀.heap.get? b = some o ∧ X.H₀ b = none
  bsz : X.base.objs.size ≤ X.s₀.heap.objs.size
  noex : ∀ b o, X.base.get? b = some o → b ∉ X.ex
  exfs : ∀ b ∈ X.ex, b ∉ X.fs
  funs : X.s₀.heap.FunFrames X.base X.outer
  frf : ∀ b ∈ X.fs, X.H₀ b = none
structure Inv (X : Cx) (pins : List (Addr × Obj)) (σ : List (Option V)) (H : Hp) (s : Shared) : Prop where
  ok : X.Ok
  os : s.os = X.s₀.os
  bare : AllBare s.gens
  base : Un X.fs X.ex X.H₀ H X.s₀.heap s.heap
  loc : ∃ m, s.heap.Ns X.env.locals m ∧ ∀ (i : Nat) (x : Str) (v : V), X.N[i]? = some x → σ[i]? = some (some v) → Vis X.env.scope x → ∃ u, RelV v u ∧ Look X.env s.heap m x u
  cell : ∀ x c, X.env.cells.lookup x = some c → ∃ v, s.heap.IsCell c v
  free : H X.env.locals = none
  freeC : ∀ x c, X.env.cells.lookup x = some c → H c = none
  pin : ∀ p ∈ X.pn ++ pins, s.heap.get? p.1 = some p.2 ∧ H p.1 = none ∧ p.1 ≠ X.env.locals ∧ p.1 ∉ X.fs ∧ ∀ v, p.2.data ≠ .cell v
  hok : HOk X.prog X.w H s.heap
  len : σ.length = X.N.length
section
variable {X : Cx} {pins : List (Addr × Obj)} {σ : List (Option V)} {H H' : Hp} {s : Shared} {h' : Heap}
theorem Cx.Ok.nofr (ok : X.Ok) {b : Addr} {o : Obj} (e : X.base.get? b = some o) : b ∉ X.fs := fun hb => by
  have := (ok.funs.mem hb).1
  rw [e] at this; cases this
theorem Inv.bs (I : Inv X pins σ H s) : ∀ b o, X.base.get? b = some o → s.heap.get? b = some o ∧ H b = none := fun b o e =>
  ⟨I.base.keep b o (I.ok.bs b o e).1 (I.ok.bs b o e).2 (I.ok.nofr e) (I.ok.noex b o e), I.base.free b o (I.ok.bs b o e).1 (I.ok.bs b o e).2 (I.ok.noex b o e)⟩
theorem Inv.bk (I : Inv X pins σ H s) : ∀ b o, X.base.get? b = some o → s.heap.get? b = some o := fun b o e => (I.bs b o e).1
theorem Inv.mod (I : Inv X pins σ H s) : Mod X.K X.mg X.base := I.ok.mod
theorem Inv.kIn (I : Inv X pins σ H s) : X.K.In s.heap := I.ok.mod.kin.keeps I.bk
theorem Inv.nolimit (I : Inv X pins σ H s) : s.heap.NoLimit := I.ok.mod.nolimit.keeps I.bk
theorem Inv.fr (I : Inv X pins σ H s) : ∃ m, Fr X.base X.env.locals s.heap m :=
  let ⟨m, hn, _⟩ := I.loc
  ⟨m, hn, I.bk, Nat.le_trans I.ok.bsz I.ok.above⟩
theorem Inv.lt (I : Inv X pins σ H s) : X.env.locals < s.heap.objs.size := let ⟨_, hn, _⟩ := I.loc; hn.lt
theorem Inv.sz (I : Inv X pins σ H s) : X.s₀.heap.objs.size ≤ s.heap.objs.size := Nat.le_trans I.ok.above (Nat.le_of_lt I.lt)
theorem Inv.nofs (I : Inv X pins σ H s) {a : Addr} (h : s.heap.objs.size ≤ a) : a ∉ X.fs := fun hb => by
  obtain ⟨_, o, ho, _⟩ := I.ok.funs.mem hb
  exact absurd (Nat.lt_of_lt_of_le (Heap.lt_size ho) (Nat.le_trans I.sz h)) (Nat.lt_irrefl _)
theorem Inv.cne (I : Inv X pins σ H s) : ∀ x c, X.env.cells.lookup x = some c → c ≠ X.env.locals := fun x c e z => by
  obtain ⟨v, o, ho, hd⟩ := I.cell x c e
  obtain ⟨m, ⟨o', es, ep, ho', hd', _⟩, _⟩ := I.loc
  rw [z, ho'] at ho; cases ho; rw [hd'] at hd; cases hd
theorem Inv.funs (I : Inv X pins σ H s) : s.heap.FunFrames X.base X.outer := by
  have all : ∀ (l : List Env), (∀ b ∈ frs l, b ∈ X.fs) → X.s₀.heap.FunFrames X.base l → s.heap.FunFrames X.base l := by
    intro l
    induction l with
    | nil => intro _ _; trivial
    | cons env r ih =>
      intro hs hl
      obtain ⟨hk, ⟨L, o, hf, hn, ho, hd⟩, hr⟩ := hl
      have hL : L ∈ X.fs := hs L (by unfold frs; rw [List.filterMap_cons, hf]; exact List.mem_cons_self)
      obtain ⟨sl, e⟩ := I.base.slot L o ho (I.ok.frf L hL) hL fun z => I.ok.exfs L z hL
      exact ⟨hk, ⟨L, _, hf, hn, e, hd⟩, ih (fun b hb => hs b (by unfold frs; rw [List.filterMap_cons, hf]; exact List.mem_cons_of_mem _ hb)) hr⟩
  exact all X.outer (fun _ hb => hb) I.ok.funs
theorem Inv.stack (I : Inv X pins σ H s) : s.heap.FunFrames X.base X.stack := by
  rcases I.ok.stk with e | ⟨e, hf⟩
  · rw [e]; exact I.funs
  · rw [e]
    obtain ⟨m, hn, _⟩ := I.loc
    refine .cons (by rw [I.ok.kind]; decide) hf hn ?_ I.funs
    exact Heap.get?_none_of_le (Nat.le_trans I.ok.bsz I.ok.above)
theorem Inv.stkSub (I : Inv X pins σ H s) : ∀ b ∈ frs X.stack, b ∈ X.env.locals :: X.fs := fun b hb => by
  rcases I.ok.stk with e | ⟨e, hf⟩
  · rw [e] at hb; exact List.mem_cons_of_mem _ hb
  · rw [e] at hb
    unfold frs at hb
    rw [List.filterMap_cons, hf] at hb
    exact hb
theorem Inv.stkFree (I : Inv X pins σ H s) : ∀ b ∈ frs X.stack, H b = none := fun b hb => by
  rcases List.mem_cons.mp (I.stkSub b hb) with e | hb
  · rw [e]; exact I.free
  · obtain ⟨_, o, ho, _⟩ := I.ok.funs.mem hb
    exact I.base.free b o ho (I.ok.frf b hb) fun z => I.ok.exfs b z hb
theorem Inv.step {g' : Array GenState} {t' : Nat} {d' : Drawn} {ch : List Addr} (I : Inv X pins σ H s)
    (hch : ∀ b ∈ ch, (b ∈ X.ex ∨ X.s₀.heap.objs.size ≤ b) ∧ b ≠ X.env.locals ∧ (∀ x c, X.env.cells.lookup x = some c → c ≠ b) ∧ ∀ p ∈ X.pn ++ pins, p.1 ≠ b)
    (keep : ∀ b o, b ≠ X.env.locals → b ∉ X.fs → b ∉ ch → s.heap.get? b = some o → H b = none → h'.get? b = some o)
    (slot : ∀ b o, b ≠ X.env.locals → b ∈ X.fs → b ∉ ch → s.heap.get? b = some o → H b = none → ∃ sl, h'.get? b = some { o with slots := sl }) (free : ∀ b o, b ∉ ch → s.heap.get? b = some o → H b = none → H' b = none)
    (there : ∀ b o, b ∉ ch → s.heap.get? b = some o → ∃ o', h'.get? b = some o')
    (tups : ∀ b xs, H b = some (.tup xs) → H' b = some (.tup xs)) (frzs : ∀ b o u, H b = some (.frz o u) → H' b = some (.frz o u)) (tbls : ∀ b ps, H b = some (.tbl ps) → ∃ more, H' b = some (.tbl (ps ++ more)))
    (ns : ∀ m, s.heap.Ns X.env.locals m → h'.Ns X.env.locals m) (hok : HOk X.prog X.w H' h') (hg : AllBare g') :
    Inv X pins σ H' { s with heap := h', gens := g', drawn := d', toks := t' } := by
  have neL : ∀ b o, X.s₀.heap.get? b = some o → b ≠ X.env.locals := fun b o e => Nat.ne_of_lt (Nat.lt_of_lt_of_le (Heap.lt_size e) I.ok.above)
  have neC : ∀ b o, X.s₀.heap.get? b = some o → b ∉ X.ex → b ∉ ch := fun b o e hx hb => by
    rcases (hch b hb).1 with z | z
    · exact hx z
    · exact absurd (Nat.lt_of_lt_of_le (Heap.lt_size e) z) (Nat.lt_irrefl _)
  have cellK : ∀ x c, X.env.cells.lookup x = some c → ∀ v, s.heap.IsCell c v → h'.IsCell c v := fun x c e v ⟨o, ho, hd⟩ => by
    have nch : c ∉ ch := fun z => (hch c z).2.2.1 x c e rfl
    by_cases hc : c ∈ X.fs
    · obtain ⟨sl, q⟩ := slot c o (I.cne x c e) hc nch ho (I.freeC x c e)
      exact ⟨_, q, hd⟩
    · exact ⟨o, keep c o (I.cne x c e) hc nch ho (I.freeC x c e), hd⟩
  refine ⟨I.ok, I.os, hg, ⟨fun b o e n hb hx => ?_, fun b o e n hb hx => ?_, fun b o e n hx => ?_, fun b o e hx => ?_, fun b xs e => tups b xs (I.base.tups b xs e), fun b o xs e => frzs b o xs (I.base.frzs b o xs e), fun b ps e => ?_⟩, ?_, fun x c e => ?_, ?_, fun x c e => ?_, fun p hp => ?_, hok, I.len⟩
  · exact keep b o (neL b o e) hb (neC b o e hx) (I.base.keep b o e n hb hx) (I.base.free b o e n hx)
  · obtain ⟨sl, e1⟩ := I.base.slot b o e n hb hx
    obtain ⟨sl', e2⟩ := slot b _ (neL b o e) hb (neC b o e hx) e1 (I.base.free b o e n hx)
    exact ⟨sl', e2⟩
  · obtain ⟨o', e1⟩ := I.base.there b o e hx
    exact free b o' (neC b o e hx) e1 (I.base.free b o e n hx)
  · obtain ⟨o', e1⟩ := I.base.there b o e hx
    exact there b o' (neC b o e hx) e1
  · obtain ⟨m1, e1⟩ := I.base.tbls b ps e
    obtain ⟨m2, e2⟩ := tbls b _ e1
    exact ⟨m1 ++ m2, by rw [e2, Array.append_assoc]⟩
  · obtain ⟨m, hn, hl⟩ := I.loc
    refine ⟨m, ns m hn, fun i x v e1 e2 e3 => ?_⟩
    obtain ⟨u, r, l⟩ := hl i x v e1 e2 e3
    refine ⟨u, r, ?_⟩
    rcases l with l | ⟨k, c, e, z⟩
    · exact .inl l
    · exact .inr ⟨k, c, e, cellK x c e _ z⟩
  · obtain ⟨v, z⟩ := I.cell x c e
    exact ⟨v, cellK x c e v z⟩
  · obtain ⟨m, ⟨o, _, _, ho, _⟩, _⟩ := I.loc
    exact free _ o (fun z => (hch _ z).2.1 rfl) ho I.free
  · obtain ⟨v, o, ho, hd⟩ := I.cell x c e
    exact free c o (fun z => (hch c z).2.2.1 x c e rfl) ho (I.freeC x c e)
  · obtain ⟨e, n, ne, nf, d⟩ := I.pin p hp
    have nch : p.1 ∉ ch := fun z => (hch p.1 z).2.2.2 p hp rfl
    exact ⟨keep p.1 p.2 ne nf nch e n, free p.1 p.2 nch e n, ne, nf, d⟩
theorem Inv.un {t' : Nat} (I : Inv X pins σ H s) (u : Un X.fs [] H H' s.heap h') (hok : HOk X.prog X.w H' h') : Inv X pins σ H' { s with heap := h', toks := t' } := by
  obtain ⟨m, ⟨o, es, ep, ho, r⟩, _⟩ := id I.loc
  obtain ⟨sl, hL⟩ := u.any ho I.free (by simp)
  exact I.step (g' := s.gens) (d' := s.drawn) (ch := []) (fun _ z => nomatch z) (fun b o _ hb _ e n => u.keep b o e n hb (by simp)) (fun b o _ hb _ e n => u.slot b o e n hb (by simp)) (fun b o _ e n => u.free b o e n (by simp)) (fun b o _ e => u.there b o e (by simp)) u.tups u.frzs u.tbls (fun m' hm => by
    obtain ⟨o', es', ep', ho', r'⟩ := hm
    rw [ho] at ho'; cases ho'
    exact ⟨_, es', ep', hL, r'⟩) hok I.bare
theorem Inv.call {g' : Array GenState} {t' : Nat} {d' : Drawn} {ch : List Addr} (I : Inv X pins σ H s) (u : Un (frs X.stack) ch H H' s.heap h') (hok : HOk X.prog X.w H' h') (hg : AllBare g')
    (hch : ∀ b ∈ ch, (b ∈ X.ex ∨ X.s₀.heap.objs.size ≤ b) ∧ b ≠ X.env.locals ∧ (∀ x c, X.env.cells.lookup x = some c → c ≠ b) ∧ ∀ p ∈ X.pn ++ pins, p.1 ≠ b) :
    Inv X pins σ H' { s with heap := h', gens := g', drawn := d', toks := t' } := by
  obtain ⟨m, ⟨o, es, ep, ho, r⟩, _⟩ := id I.loc
  obtain ⟨sl, hL⟩ := u.any ho I.free fun z => (hch _ z).2.1 rfl
  exact I.step (ch := ch) hch (fun b o hL hb hc e n => u.keep b o e n (fun z => (List.mem_cons.mp (I.stkSub b z)).elim hL hb) hc) (fun b o _ _ hc e n => u.any e n hc) (fun b o hc e n => u.free b o e n hc) (fun b o hc e => u.there b o e hc) u.tups u.frzs u.tbls (fun m' hm => by
    obtain ⟨o', es', ep', ho', r'⟩ := hm
    rw [ho] at ho'; cases ho'
    exact ⟨_, es', ep', hL, r'⟩) hok hg
theorem Inv.turned {t' : Nat} {it : Addr} (I : Inv X pins σ H s) (k : ∀ b o, b ≠ it → s.heap.get? b = some o → h'.get? b = some o) (hn : H it = none) (hL : it ≠ X.env.locals)
    (h1 : it ∈ X.ex ∨ X.s₀.heap.objs.size ≤ it) (h2 : ∀ x c, X.env.cells.lookup x = some c → c ≠ it) (h3 : ∀ p ∈ X.pn ++ pins, p.1 ≠ it) : Inv X pins σ H { s with heap := h', toks := t' } := by
  have nit : ∀ b u, H b = some u → b ≠ it := fun b u e z => by rw [z, hn] at e; cases e
  refine I.step (g' := s.gens) (d' := s.drawn) (ch := [it]) (fun b hb => ?_) (fun b o _ _ hc e _ => k b o (fun z => hc (by simp [z])) e) (fun b o _ _ hc e _ => ⟨o.slots, k b o (fun z => hc (by simp [z])) e⟩) (fun _ _ _ _ n => n)
    (fun b o hc e => ⟨o, k b o (fun z => hc (by simp [z])) e⟩) (fun _ _ e => e) (fun _ _ _ e => e) (fun b ps e => ⟨#[], by rw [e]; simp⟩) (fun m hm => ?_) (fun b u e => ?_) I.bare
  · have e : b = it := by simpa using hb
    subst e
    exact ⟨h1, hL, h2, h3⟩
  · obtain ⟨o, es, ep, ho, r⟩ := hm
    exact ⟨o, es, ep, k _ o (Ne.symm hL) ho, r⟩
  · refine (I.hok b u e).stay (fun c v hc q => k c v ?_ q) (fun _ q => q) fun _ _ q => q
    rcases hc with z | z
    · rw [z]; exact nit b u e
    · exact nit c _ z
theorem Inv.tok (I : Inv X pins σ H s) (t : Nat) : Inv X pins σ H { s with toks := t } := I.un (h' := s.heap) (t' := t) Un.refl I.hok
theorem Inv.kept {t' : Nat} (I : Inv X pins σ H s) (k : ∀ b u, s.heap.get? b = some u → h'.get? b = some u) : Inv X pins σ H { s with heap := h', toks := t' } := I.un (Un.kept k) (I.hok.kept k)
theorem Inv.laid {a : Addr} {o : HO} {t' : Nat} (I : Inv X pins σ H s) (k : ∀ b u, s.heap.get? b = some u → h'.get? b = some u) (hp : s.heap.objs.size ≤ a) (new : ObjOk X.prog X.w (upd H a o) h' a o) :
    Inv X pins σ (upd H a o) { s with heap := h', toks := t' } := I.un (Un.laid k hp (I.hok.fresh hp)) (I.hok.laid k hp new)
theorem Inv.write {x e : Addr} {o : HO} {t' : Nat} (I : Inv X pins σ H s) (mu : Mut (H x)) (he : e = x ∨ H e = some (.own x)) (k : ∀ b u, b ≠ e → s.heap.get? b = some u → h'.get? b = some u) (heo : ∃ u, h'.get? e = some u)
    (new : ObjOk X.prog X.w (upd H x o) h' x o) : Inv X pins σ (upd H x o) { s with heap := h', toks := t' } := I.un (Un.write mu he k heo) (I.hok.write mu he k heo new)
theorem Inv.weak {σ' : List (Option V)} (I : Inv X pins σ H s) (hl : σ'.length = σ.length) (w : ∀ (i : Nat) v, σ'[i]? = some (some v) → σ[i]? = some (some v)) : Inv X pins σ' H s :=
  ⟨I.ok, I.os, I.bare, I.base, let ⟨m, hn, hl'⟩ := I.loc; ⟨m, hn, fun i x v e1 e2 e3 => hl' i x v e1 (w i v e2) e3⟩, I.cell, I.free, I.freeC, I.pin, I.hok, hl.trans I.len⟩
theorem Inv.pins_of {pins' : List (Addr × Obj)} (I : Inv X pins σ H s) (h : ∀ p ∈ pins', s.heap.get? p.1 = some p.2 ∧ H p.1 = none ∧ p.1 ≠ X.env.locals ∧ p.1 ∉ X.fs ∧ ∀ v, p.2.data ≠ .cell v) : Inv X pins' σ H s :=
  ⟨I.ok, I.os, I.bare, I.base, I.loc, I.cell, I.free, I.freeC, fun p hp => (List.mem_append.mp hp).elim (fun z => I.pin p (List.mem_append_left _ z)) (h p), I.hok, I.len⟩
theorem nodup_ix {N : List Str} (hN : N.Nodup) {i j : Nat} {x : Str} (a : N[i]? = some x) (b : N[j]? = some x) : i = j := by
  obtain ⟨h1, e1⟩ := List.getElem?_eq_some_iff.mp a
  obtain ⟨h2, e2⟩ := List.getElem?_eq_some_iff.mp b
  exact (List.getElem_inj hN).mp (e1.trans e2.symm)
theorem store_ok2 {M : Model} {A : Around} {E : Value → Shared → Prop} {i : Nat} {x : Str} {v : V} {u : Value} {Q : Unit → Shared → Prop} (I : Inv X pins σ H s) (hN : X.N.Nodup) (hi : X.N[i]? = some x) (hx : Loc X.env.scope x) (r : RelV v u)
    (h : ∀ s', Inv X pins (σ.set i (some v)) H s' → (∃ a, Heap.SameBut a s.heap s'.heap ∧ (a = X.env.locals ∨ X.env.cells.lookup x = some a)) → Q () s') (hf : X.fn x = true ∨ X.env.scope.names.lookup x = some .local := by first | exact .inl rfl | exact .inr rfl | assumption) : wpAny M A (storeName X.env x u) Q E s := by
  obtain ⟨m, hn, hl⟩ := id I.loc
  have hcls : (X.env.scope.kind == .class || (X.env.scope.kind == .module && X.env.locals != X.env.globals)) = false := by rw [I.ok.kind]; rfl
  have hiσ : i < σ.length := by rw [I.len]; exact (List.getElem?_eq_some_iff.mp hi).1
  have cne := I.cne
  have tracked : ∀ {a : Addr} {h' : Heap}, (∃ o, s.heap.get? a = some o ∧ H a = none) → Heap.SameBut a s.heap h' → HOk X.prog X.w H h' := fun {a h'} ha hs b ob e => by
    obtain ⟨_, _, hfree⟩ := ha
    refine (I.hok b ob e).stay (fun c w' hc q => (hs.2 c ?_).trans q) (fun _ q => q) fun _ _ q => q
    rintro rfl
    rcases hc with rfl | hc
    · rw [hfree] at e; cases e
    · rw [hfree] at hc; cases hc
  rcases hx with hk | hk
  · refine wpAny_storeName_local hk hn (fun h' hn' hs => ?_) hcls
    obtain ⟨oL, _, _, hoL, _⟩ := id hn
    refine h _ ⟨I.ok, I.os, I.bare, ⟨fun b o e n hb hx => ?_, fun b o e n hb hx => ?_, I.base.free, fun b o e hx => ?_, I.base.tups, I.base.frzs, I.base.tbls⟩, ⟨_, hn', fun j y v' e1 e2 e3 => ?_⟩, fun y c e => ?_, I.free, I.freeC, fun p hp => ?_, tracked ⟨oL, hoL, I.free⟩ hs, by simpa using I.len⟩ ⟨_, hs, .inl rfl⟩
    · exact (hs.2 b (Nat.ne_of_lt (Nat.lt_of_lt_of_le (Heap.lt_size e) I.ok.above))).trans (I.base.keep b o e n hb hx)
    · obtain ⟨sl, e1⟩ := I.base.slot b o e n hb hx
      exact ⟨sl, (hs.2 b (Nat.ne_of_lt (Nat.lt_of_lt_of_le (Heap.lt_size e) I.ok.above))).trans e1⟩
    · obtain ⟨o', e1⟩ := I.base.there b o e hx
      exact ⟨o', (hs.2 b (Nat.ne_of_lt (Nat.lt_of_lt_of_le (Heap.lt_size e) I.ok.above))).trans e1⟩
    · by_cases hj : j = i
      · subst hj
        rw [hi] at e1; cases e1
        rw [List.getElem?_set_self hiσ] at e2
        cases e2
        exact ⟨u, r, .inl ⟨hk, by simp⟩⟩
      · rw [List.getElem?_set_ne (Ne.symm hj)] at e2
        obtain ⟨u', r', q⟩ := hl j y v' e1 e2 e3
        refine ⟨u', r', ?_⟩
        rcases q with ⟨k, e⟩ | ⟨k, c, e, z⟩
        · refine .inl ⟨k, ?_⟩
          have : y ≠ x := fun e => hj (nodup_ix hN e1 (e ▸ hi))
          simp [this, e]
        · exact .inr ⟨k, c, e, z.sameBut hs (cne y c e)⟩
    · obtain ⟨w', z⟩ := I.cell y c e
      exact ⟨w', z.sameBut hs (cne y c e)⟩
    · obtain ⟨e, n, ne, nf, d⟩ := I.pin p hp
      exact ⟨(hs.2 p.1 ne).trans e, n, ne, nf, d⟩
  · have hfn : X.fn x = true := by
      rcases hf with z | z
      · exact z
      · rw [z] at hk; cases hk
    obtain ⟨c, hc⟩ := I.ok.has x (.inl hk)
    obtain ⟨w', z⟩ := I.cell x c hc
    refine wpAny_storeName_cell I.ok.kind hk hc z (fun h' hc' hs => ?_)
    obtain ⟨oc, hoc, hocd⟩ := id z
    refine h { s with heap := h' } ⟨I.ok, I.os, I.bare, ⟨fun b o e n hb hx => ?_, fun b o e n hb hx => ?_, I.base.free, fun b o e hx => ?_, I.base.tups, I.base.frzs, I.base.tbls⟩, ⟨m, hn.sameBut hs (Ne.symm (cne x c hc)), fun j y v' e1 e2 e3 => ?_⟩, fun y c' e => ?_, I.free, I.freeC, fun p hp => ?_, tracked ⟨oc, hoc, I.freeC x c hc⟩ hs, by simpa using I.len⟩ ⟨c, hs, .inr hc⟩
    · exact (hs.2 b (Nat.ne_of_lt (Nat.lt_of_lt_of_le (Heap.lt_size e) (I.ok.cab x c hfn hc)))).trans (I.base.keep b o e n hb hx)
    · obtain ⟨sl, e1⟩ := I.base.slot b o e n hb hx
      exact ⟨sl, (hs.2 b (Nat.ne_of_lt (Nat.lt_of_lt_of_le (Heap.lt_size e) (I.ok.cab x c hfn hc)))).trans e1⟩
    · obtain ⟨o', e1⟩ := I.base.there b o e hx
      exact ⟨o', (hs.2 b (Nat.ne_of_lt (Nat.lt_of_lt_of_le (Heap.lt_size e) (I.ok.cab x c hfn hc)))).trans e1⟩
    · by_cases hj : j = i
      · subst hj
        rw [hi] at e1; cases e1
        rw [List.getElem?_set_self hiσ] at e2
        cases e2
        exact ⟨u, r, .inr ⟨.inl hk, c, hc, hc'⟩⟩
      · rw [List.getElem?_set_ne (Ne.symm hj)] at e2
        obtain ⟨u', r', q⟩ := hl j y v' e1 e2 e3
        refine ⟨u', r', ?_⟩
        rcases q with q | ⟨k, c', e, z'⟩
        · exact .inl q
        · refine .inr ⟨k, c', e, z'.sameBut hs ?_⟩
          rintro rfl
          exact hj (nodup_ix hN e1 (I.ok.inj _ _ _ e hc ▸ hi))
    · by_cases hcc : c' = c
      · subst hcc; exact ⟨_, hc'⟩
      · obtain ⟨w2, z2⟩ := I.cell y c' e
        exact ⟨w2, z2.sameBut hs hcc⟩
    · obtain ⟨e, n, ne, nf, d⟩ := I.pin p hp
      refine ⟨(hs.2 p.1 ?_).trans e, n, ne, nf, d⟩
      intro q
      rw [q, hoc] at e
      have q' : oc = p.2 := Option.some.inj e
      exact d w' (by rw [← q']; exact hocd)
theorem store_ok {M : Model} {A : Around} {E : Value → Shared → Prop} {i : Nat} {x : Str} {v : V} {u : Value} {Q : Unit → Shared → Prop} (I : Inv X pins σ H s) (hN : X.N.Nodup) (hi : X.N[i]? = some x) (hx : Loc X.env.scope x) (r : RelV v u)
    (h : ∀ s', Inv X pins (σ.set i (some v)) H s' → Q () s') (hf : X.fn x = true ∨ X.env.scope.names.lookup x = some .local := by first | exact .inl rfl | exact .inr rfl | assumption) : wpAny M A (storeName X.env x u) Q E s :=
  store_ok2 I hN hi hx r (fun s' I' _ => h s' I') hf
theorem Inv.call' {s' : Shared} {ch : List Addr} (I : Inv X pins σ H s) (ho : s'.os = s.os) (u : Un (frs X.stack) ch H H' s.heap s'.heap) (hok : HOk X.prog X.w H' s'.heap) (hg : AllBare s'.gens)
    (hch : ∀ b ∈ ch, (b ∈ X.ex ∨ X.s₀.heap.objs.size ≤ b) ∧ b ≠ X.env.locals ∧ (∀ x c, X.env.cells.lookup x = some c → c ≠ b) ∧ ∀ p ∈ X.pn ++ pins, p.1 ≠ b) : Inv X pins σ H' s' := by
  obtain ⟨h', g', d', t', o'⟩ := s'
  have e : o' = s.os := ho
  subst e
  exact I.call (g' := g') (t' := t') (d' := d') u hok hg hch
end
abbrev XK := Value → Option Addr → Hp → Prop
abbrev St := List (Option V)
abbrev VK := V → Hp → Prop
abbrev TE := St → Hp → VK → Prop
abbrev TT := St → Hp → (Bool → Hp → Prop) → Prop
abbrev TA := St → Hp → (List V → Hp → Prop) → Prop
structure Ends where
  nx : St → Hp → Prop
  rt : VK
  bk : St → Hp → Prop := fun _ _ => False
  ct : St → Hp → Prop := fun _ _ => False
abbrev TS := Ends → St → Hp → Prop
def EP (X : Cx) (pins : List (Addr × Obj)) (σ : St) (Q : VK) (u : Value) (s' : Shared) : Prop := ∃ v H', Inv X pins σ H' s' ∧ RelV v u ∧ Q v H'
def TP (X : Cx) (pins : List (Addr × Obj)) (σ : St) (Q : Bool → Hp → Prop) (b : Bool) (s' : Shared) : Prop := ∃ H', Inv X pins σ H' s' ∧ Q b H'
def AP (X : Cx) (pins : List (Addr × Obj)) (σ : St) (Q : List V → Hp → Prop) (us : List Value) (s' : Shared) : Prop := ∃ vs H', Inv X pins σ H' s' ∧ Vals vs us ∧ Q vs H'
def SP (X : Cx) (pins : List (Addr × Obj)) (D : Ends) (f : Flow) (s' : Shared) : Prop :=
  match f with
  | .next => ∃ σ' H', Inv X pins σ' H' s' ∧ D.nx σ' H'
  | .brk => ∃ σ' H', Inv X pins σ' H' s' ∧ D.bk σ' H'
  | .cont => ∃ σ' H', Inv X pins σ' H' s' ∧ D.ct σ' H'
  | .ret u => ∃ v σ' H', Inv X pins σ' H' s' ∧ RelV v u ∧ D.rt v H'
def PE (X : Cx) (e : Expr) (t : TE) : Prop :=
  ∀ (pins : List (Addr × Obj)) (s : Shared) (σ : St) (H : Hp) (Q : VK), Inv X pins σ H s → t σ H Q → wpAny (model X.prog X.w) X.A (eval e X.env) (EP X pins σ Q) X.xe s
def PT (X : Cx) (e : Expr) (t : TT) : Prop :=
  ∀ (pins : List (Addr × Obj)) (s : Shared) (σ : St) (H : Hp) (Q : Bool → Hp → Prop), Inv X pins σ H s → t σ H Q → wpAny (model X.prog X.w) X.A (isTrue e X.env (eval e X.env)) (TP X pins σ Q) X.xe s
def PW (X : Cx) (e : Expr) (t : TT) : Prop :=
  ∀ (whole : Sem Value) (pins : List (Addr × Obj)) (s : Shared) (σ : St) (H : Hp) (Q : Bool → Hp → Prop), Inv X pins σ H s → t σ H Q → wpAny (model X.prog X.w) X.A (isTrue e X.env whole) (TP X pins σ Q) X.xe s
theorem PW.pt {X : Cx} {e : Expr} {t : TT} (h : PW X e t) : PT X e t := h _
def PA (X : Cx) (es : List Expr) (t : TA) : Prop :=
  ∀ (pos : Pos) (pins : List (Addr × Obj)) (s : Shared) (σ : St) (H : Hp) (Q : List V → Hp → Prop), Inv X pins σ H s → t σ H Q → wpAny (model X.prog X.w) X.A (spliced (backTo pos (starEach es X.env))) (AP X pins σ Q) X.xe s
def PS (X : Cx) (st : Stmt) (t : TS) : Prop :=
  ∀ (pins : List (Addr × Obj)) (s : Shared) (σ : St) (H : Hp) (D : Ends), Inv X pins σ H s → t D σ H → wpAny (model X.prog X.w) X.A (exec st X.env) (SP X pins D) X.xe s
def PSs (X : Cx) (st : List Stmt) (t : TS) : Prop :=
  ∀ (pins : List (Addr × Obj)) (s : Shared) (σ : St) (H : Hp) (D : Ends), Inv X pins σ H s → t D σ H → wpAny (model X.prog X.w) X.A (execs st X.env) (SP X pins D) X.xe s
theorem thn {α : Type} {t : Sem α} {Q Q' : α → Shared → Prop} {M : Model} {A : Around} {E : Value → Shared → Prop} {s : Shared} (h : wpAny M A t Q E s) (hQ : ∀ a s, Q a s → Q' a s) : wpAny M A t Q' E s := wpAny_mono h hQ fun _ _ x => x
end L2
namespace L2
open PySem PySem.Spec PyProof.Rows
section
variable {X : Cx}
def tVar (i : Nat) : TE := fun σ H Q => ∃ v, σ[i]? = some (some v) ∧ Q v H
def tC (v : V) : TE := fun _ H Q => Q v H
theorem pe_var {i : Nat} {x : Str} {pos : Pos} (hN : X.N[i]? = some x) (hv : Vis X.env.scope x) (hd : (x == ("__debug__" : Str)) = false := by decide) (hcd : (x == ("__classdict__" : Str)) = false := by decide) : PE X (.Name x pos) (tVar i) := by
  intro pins s σ H Q I h
  obtain ⟨v, e, h⟩ := h
  obtain ⟨m, hn, hl⟩ := I.loc
  obtain ⟨u, r, l⟩ := hl i x v hN e hv
  have fin : EP X pins σ Q u s := ⟨v, H, I, r, h⟩
  rcases l with ⟨hk, hm⟩ | ⟨hk, c, hc, hcell⟩
  · exact wpAny_Name (wpAny_loadName_local I.ok.kind hk hn hm fin) hd
  · rcases hk with hk | hk
    · exact wpAny_Name (wpAny_loadName_cell I.ok.kind hk hc hcell fin) hd
    · exact wpAny_Name (wpAny_loadName_free I.ok.kind hk hc hcell fin hcd) hd
theorem pe_int {i j pos} : PE X (.Constant (.int i) j pos) (tC (.int i)) := fun _ _ _ H _ I h => wpAny_Constant_int ⟨.int i, H, I.tok _, ⟨_, rfl⟩, h⟩
theorem pe_bl {b j pos} : PE X (.Constant (.bool b) j pos) (tC (.bl b)) := fun _ _ _ H _ I h => Constant_bool ⟨.bl b, H, I, rfl, h⟩
theorem pe_non {j pos} : PE X (.Constant .none j pos) (tC .non) := fun _ _ _ H _ I h => Constant_none ⟨.non, H, I, rfl, h⟩
theorem pe_str {x j pos} : PE X (.Constant (.str x) j pos) (tC (.str x)) := fun _ _ _ H _ I h => Calls.Constant_str ⟨.str x, H, I.tok _, ⟨_, rfl⟩, h⟩
def Gl (X : Cx) (x : Str) : Prop := X.env.kindOf x = some .globalImplicit
theorem ld_glob {E : Value → Shared → Prop} {pins : List (Addr × Obj)} {s : Shared} {σ : St} {H : Hp} {x : Str} {u : Value} {pos : Pos} {Q : Value → Shared → Prop} (I : Inv X pins σ H s) (hg : Gl X x) (hm : X.mg x = some u) (h : Q u s)
    (hd : (x == ("__debug__" : Str)) = false := by decide) : wpAny (model X.prog X.w) X.A (eval (.Name x pos) X.env) Q E s :=
  Calls.Name_function_global I.ok.kind hg (Calls.loadGlobal_global (by rw [I.ok.glob]; exact I.mod.glob.keeps I.bk) hm h) hd
theorem ld_blt {E : Value → Shared → Prop} {pins : List (Addr × Obj)} {s : Shared} {σ : St} {H : Hp} {x : Str} {u : Value} {pos : Pos} {Q : Value → Shared → Prop} (I : Inv X pins σ H s) (hg : Gl X x) (hm : X.mg x = none) (hv : bootBuiltins x = some u) (h : Q u s)
    (hn : x ≠ "__name__" := by decide) (hd : (x == ("__debug__" : Str)) = false := by decide) : wpAny (model X.prog X.w) X.A (eval (.Name x pos) X.env) Q E s := by
  obtain ⟨mb, h1, h2⟩ := I.mod.blt
  exact Calls.Name_function_global I.ok.kind hg (Calls.loadGlobal_builtin (by rw [I.ok.glob]; exact I.mod.glob.keeps I.bk) hm (by rw [I.ok.blt]; exact h1.keeps I.bk) ((h2 x hn).trans hv) h) hd
theorem pe_glob {x : Str} {v : V} {u : Value} {pos : Pos} (hg : Gl X x) (hm : X.mg x = some u) (r : RelV v u) (hd : (x == ("__debug__" : Str)) = false := by decide) : PE X (.Name x pos) (tC v) :=
  fun _ _ _ H _ I h => ld_glob I hg hm ⟨v, H, I, r, h⟩ hd
theorem pe_bltn {x : Str} {v : V} {u : Value} {pos : Pos} (hg : Gl X x) (hm : X.mg x = none) (hv : bootBuiltins x = some u) (r : RelV v u) (hn : x ≠ "__name__" := by decide) (hd : (x == ("__debug__" : Str)) = false := by decide) : PE X (.Name x pos) (tC v) :=
  fun _ _ _ H _ I h => ld_blt I hg hm hv ⟨v, H, I, r, h⟩ hn hd
variable {a b : Expr} {ta tb : TE} {pos : Pos}
def tB (t : TE) : TT := fun σ H Q => t σ H fun x H1 => ∃ c, x = .bl c ∧ Q c H1
theorem pt_val {e : Expr} {t : TE} (h : PE X e t) (he : ∀ whole, isTrue e X.env whole = (do let v ← whole; standAt e.pos; holding [v] (truthy v)) := by intro _; rfl) : PT X e (tB t) := by
  intro pins s σ H Q I hw
  refine isTrue_plain (thn (h pins s σ H _ I hw) fun v s1 ⟨x, H1, I1, r1, q1⟩ => ?_) (he _)
  obtain ⟨d, rfl, q⟩ := q1
  cases r1
  exact wpAny_truthy_bool ⟨H1, I1, q⟩
variable {tA tB' : TT} {rest : List Expr}
def tAnd (t u : TT) : TT := fun σ H Q => t σ H fun c H1 => if c = true then u σ H1 Q else Q false H1
def tOr (t u : TT) : TT := fun σ H Q => t σ H fun c H1 => if c = true then Q true H1 else u σ H1 Q
def tNot (t : TT) : TT := fun σ H Q => t σ H fun c H1 => Q (!c) H1
theorem pw_and1 (ha : PT X a tA) : PW X (.BoolOp .And [a] pos) tA := by
  intro wh pins s σ H Q I h
  refine isTrue_and (thn (ha pins s σ H Q I h) fun c s1 e => ?_)
  cases c with
  | true => exact isTrue_and_nil e
  | false => exact e
theorem pw_or1 (ha : PT X a tA) : PW X (.BoolOp .Or [a] pos) tA := by
  intro wh pins s σ H Q I h
  refine isTrue_or (thn (ha pins s σ H Q I h) fun c s1 e => ?_)
  cases c with
  | false => exact isTrue_or_nil e
  | true => exact e
theorem pw_and (ha : PT X a tA) (hb : PW X (.BoolOp .And (b :: rest) pos) tB') : PW X (.BoolOp .And (a :: b :: rest) pos) (tAnd tA tB') := by
  intro wh pins s σ H Q I h
  refine isTrue_and (thn (ha pins s σ H _ I h) fun c s1 ⟨H1, I1, q1⟩ => ?_)
  cases c with
  | true => exact hb wh pins s1 σ H1 Q I1 q1
  | false => exact ⟨H1, I1, q1⟩
theorem pw_or (ha : PT X a tA) (hb : PW X (.BoolOp .Or (b :: rest) pos) tB') : PW X (.BoolOp .Or (a :: b :: rest) pos) (tOr tA tB') := by
  intro wh pins s σ H Q I h
  refine isTrue_or (thn (ha pins s σ H _ I h) fun c s1 ⟨H1, I1, q1⟩ => ?_)
  cases c with
  | true => exact ⟨H1, I1, q1⟩
  | false => exact hb wh pins s1 σ H1 Q I1 q1
theorem pt_not (ha : PT X a tA) : PT X (.UnaryOp .Not a pos) (tNot tA) := by
  intro pins s σ H Q I h
  exact isTrue_not (ha pins s σ H (fun c H1 => Q (!c) H1) I h)
def tAndV (ta tb : TE) : TE := fun σ H Q => ta σ H fun x H1 => ∃ c, x = .bl c ∧ if c = true then tb σ H1 Q else Q (.bl false) H1
def tOrV (ta tb : TE) : TE := fun σ H Q => ta σ H fun x H1 => ∃ c, x = .bl c ∧ if c = true then Q (.bl true) H1 else tb σ H1 Q
def tNotV (ta : TE) : TE := fun σ H Q => ta σ H fun x H1 => ∃ c, x = .bl c ∧ Q (.bl (!c)) H1
theorem pe_one {op} {t : TE} (h : PE X a t) : PE X (.BoolOp op [a] pos) t := fun pins s σ H Q I hw => BoolOp_one (h pins s σ H Q I hw)
theorem pe_and (ha : PE X a ta) (hb : PE X (.BoolOp .And (b :: rest) pos) tb) : PE X (.BoolOp .And (a :: b :: rest) pos) (tAndV ta tb) := by
  intro pins s σ H Q I h
  refine BoolOp_and (thn (ha pins s σ H _ I h) fun v s1 ⟨x, H1, I1, r1, q1⟩ => ?_)
  obtain ⟨c, rfl, q1⟩ := q1
  cases r1
  refine wpAny_truthy_bool ?_
  cases c with
  | true => exact hb pins s1 σ H1 Q I1 q1
  | false => exact ⟨.bl false, H1, I1, rfl, q1⟩
theorem pe_or (ha : PE X a ta) (hb : PE X (.BoolOp .Or (b :: rest) pos) tb) : PE X (.BoolOp .Or (a :: b :: rest) pos) (tOrV ta tb) := by
  intro pins s σ H Q I h
  refine BoolOp_or (thn (ha pins s σ H _ I h) fun v s1 ⟨x, H1, I1, r1, q1⟩ => ?_)
  obtain ⟨c, rfl, q1⟩ := q1
  cases r1
  refine wpAny_truthy_bool ?_
  cases c with
  | false => exact hb pins s1 σ H1 Q I1 q1
  | true => exact ⟨.bl true, H1, I1, rfl, q1⟩
theorem pe_not (ha : PE X a ta) : PE X (.UnaryOp .Not a pos) (tNotV ta) := by
  intro pins s σ H Q I h
  refine UnaryOp_ (thn (ha pins s σ H _ I h) fun v s1 ⟨x, H1, I1, r1, q1⟩ => ?_)
  obtain ⟨c, rfl, q1⟩ := q1
  cases r1
  exact not_of (wpAny_truthy_bool ⟨.bl (!c), H1, I1, rfl, q1⟩)
def tIf (t : TT) (ta tb : TE) : TE := fun σ H Q => t σ H fun c H1 => if c = true then ta σ H1 Q else tb σ H1 Q
theorem pe_ifExp {c : Expr} (hc : PT X c tA) (ha : PE X a ta) (hb : PE X b tb) : PE X (.IfExp c a b pos) (tIf tA ta tb) := by
  intro pins s σ H Q I h
  refine wpAny_IfExp (thn (hc pins s σ H _ I h) fun d s1 ⟨H1, I1, q1⟩ => ?_)
  cases d with
  | true => exact ha pins s1 σ H1 Q I1 q1
  | false => exact hb pins s1 σ H1 Q I1 q1
end
end L2
namespace L2
open PySem PySem.Spec PyProof.Rows
def SqL (K : PySem.W.Frag) (H : Hp) (a : Addr) (xs : List V) : Prop :=
  Rd H a (.lst xs) ∨
    ∃ (o : Obj) (its : Array Value) (n : Nat), K.lookup a = some o ∧ o.cls = .type "list" ∧ o.dict = none ∧ o.data = .seq its n ∧ its.size ≤ sizeLine ∧ Vals xs its.toList
def SqT (K : PySem.W.Frag) (H : Hp) (a : Addr) (xs : List V) : Prop :=
  Rd H a (.tup xs) ∨
    ∃ (o : Obj) (its : Array Value) (n : Nat), K.lookup a = some o ∧ o.cls = .type "tuple" ∧ o.data = .seq its n ∧ its.size ≤ sizeLine ∧ Vals xs its.toList
def absV : Value → Option V
  | .none => some .non
  | .bool b => some (.bl b)
  | .int i _ => some (.int i)
  | .str x _ => some (.str x)
  | .bytes b _ => some (.byt b)
  | .float b _ => some (.flt b)
  | .ref a => some (.ref a)
  | .type n => some (.ty n)
  | _ => none
theorem RelV.abs {x : V} {u : Value} (r : RelV x u) : absV u = some x := by
  cases x with
  | non => cases r; rfl
  | bl _ => cases r; rfl
  | int _ => obtain ⟨t, rfl⟩ := r; rfl
  | str _ => obtain ⟨t, rfl⟩ := r; rfl
  | byt _ => obtain ⟨t, rfl⟩ := r; rfl
  | flt _ => obtain ⟨t, rfl⟩ := r; rfl
  | ref _ => cases r; rfl
  | ty _ => cases r; rfl
theorem RelV.inj {x y : V} {u : Value} (r : RelV x u) (q : RelV y u) : x = y := Option.some.inj (r.abs.symm.trans q.abs)
theorem Vals.inj : ∀ {xs ys : List V} {us : List Value}, Vals xs us → Vals ys us → xs = ys
  | _, _, _, .nil, .nil => rfl
  | _, _, _, .cons r t, .cons r' t' => by rw [r.inj r', Vals.inj t t']
section
variable {X : Cx} {pins : List (Addr × Obj)} {σ : St} {H : Hp} {s : Shared} {a : Addr} {xs ys : List V}
theorem SqL.of {K : PySem.W.Frag} (h : H a = some (.lst xs)) : SqL K H a xs := .inl (.inl h)
theorem SqT.of {K : PySem.W.Frag} (h : H a = some (.tup xs)) : SqT K H a xs := .inl (.inl h)
theorem Inv.list (I : Inv X pins σ H s) (h : SqL X.K H a xs) : ∃ its : List Value, Vals xs its ∧ PlainL s.heap a its.toArray ∧ xs.length ≤ sizeLine := by
  rcases h with h | ⟨o, its, n, hk, hc, hd, hs, hz, r⟩
  · obtain ⟨z, its, n, r, e⟩ := h.ok I.hok
    exact ⟨its, r, ⟨_, n, e, rfl, rfl, rfl⟩, z⟩
  · refine ⟨its.toList, r, ⟨o, n, I.kIn a o hk, hc, hd, by simpa using hs⟩, ?_⟩
    have e := r.length
    simp only [Array.length_toList] at e
    omega
theorem Inv.tuple (I : Inv X pins σ H s) (h : SqT X.K H a xs) : ∃ its : List Value, Vals xs its ∧ IsTup s.heap a its.toArray ∧ xs.length ≤ sizeLine := by
  rcases h with h | ⟨o, its, n, hk, hc, hs, hz, r⟩
  · obtain ⟨z, its, r, p⟩ := h.ok I.hok
    exact ⟨its, r, p, z⟩
  · refine ⟨its.toList, r, ⟨o, I.kIn a o hk, hc, n, by simpa using hs⟩, ?_⟩
    have e := r.length
    simp only [Array.length_toList] at e
    omega
end
abbrev Cx.wish (X : Cx) (E : Value → Shared → Prop) : Cx := { X with xe := E }
abbrev Cx.nox (X : Cx) : Cx := X.wish fun _ _ => False
theorem Cx.Ok.wish {X : Cx} (ok : X.Ok) (E : Value → Shared → Prop) : (X.wish E).Ok :=
  ⟨ok.mod, ok.kind, ok.glob, ok.blt, ok.above, ok.inj, ok.has, ok.cab, ok.hd, ok.frames, ok.stk, ok.exf, ok.bs, ok.bsz, ok.noex, ok.exfs, ok.funs, ok.frf⟩
theorem Cx.Ok.unwish {X : Cx} {E : Value → Shared → Prop} (ok : (X.wish E).Ok) : X.Ok :=
  ⟨ok.mod, ok.kind, ok.glob, ok.blt, ok.above, ok.inj, ok.has, ok.cab, ok.hd, ok.frames, ok.stk, ok.exf, ok.bs, ok.bsz, ok.noex, ok.exfs, ok.funs, ok.frf⟩
section
variable {X : Cx} {pins : List (Addr × Obj)} {σ : St} {H : Hp} {s : Shared} {E : Value → Shared → Prop}
theorem Inv.wish (I : Inv X pins σ H s) (E : Value → Shared → Prop) : Inv (X.wish E) pins σ H s := ⟨I.ok.wish E, I.os, I.bare, I.base, I.loc, I.cell, I.free, I.freeC, I.pin, I.hok, I.len⟩
theorem Inv.unwish (I : Inv (X.wish E) pins σ H s) : Inv X pins σ H s := ⟨I.ok.unwish, I.os, I.bare, I.base, I.loc, I.cell, I.free, I.freeC, I.pin, I.hok, I.len⟩
theorem SP.unwish {D : Ends} {f : Flow} {s' : Shared} (h : SP (X.wish E) pins D f s') : SP X pins D f s' := by
  cases f with
  | next => obtain ⟨σ', H', I, q⟩ := h; exact ⟨σ', H', I.unwish, q⟩
  | brk => obtain ⟨σ', H', I, q⟩ := h; exact ⟨σ', H', I.unwish, q⟩
  | cont => obtain ⟨σ', H', I, q⟩ := h; exact ⟨σ', H', I.unwish, q⟩
  | ret u => obtain ⟨v, σ', H', I, r, q⟩ := h; exact ⟨v, σ', H', I.unwish, r, q⟩
theorem PE.nox {e : Expr} {t : TE} (h : PE X.nox e t) : PE X e t := fun pins s σ H Q I hw =>
  wpAny_mono (h pins s σ H Q (I.wish _) hw) (fun _ _ ⟨v, H', I', r, q⟩ => ⟨v, H', I'.unwish, r, q⟩) fun _ _ z => False.elim z
theorem PT.nox {e : Expr} {t : TT} (h : PT X.nox e t) : PT X e t := fun pins s σ H Q I hw =>
  wpAny_mono (h pins s σ H Q (I.wish _) hw) (fun _ _ ⟨H', I', q⟩ => ⟨H', I'.unwish, q⟩) fun _ _ z => False.elim z
theorem PSs.nox {st : List Stmt} {t : TS} (h : PSs X.nox st t) : PSs X st t := fun pins s σ H D I hw =>
  wpAny_mono (h pins s σ H D (I.wish _) hw) (fun _ _ q => q.unwish) fun _ _ z => False.elim z
end
section
variable {X : Cx} {st : Stmt} {rest : List Stmt} {t u : TS} {e : Expr} {te : TE} {pos : Pos}
def tNext : TS := fun D σ H => D.nx σ H
def tSeq (t u : TS) : TS := fun D σ H => t { D with nx := u D } σ H
theorem pss_nil : PSs X [] tNext := fun _ _ σ H _ I h => wpAny_execs_nil ⟨σ, H, I, h⟩
theorem pss_cons (h1 : PS X st t) (h2 : PSs X rest u) : PSs X (st :: rest) (tSeq t u) := by
  intro pins s σ H D I h
  refine wpAny_execs_cons (thn (h1 pins s σ H { D with nx := u D } I h) fun f s1 q => ?_)
  cases f with
  | next =>
    obtain ⟨σ', H', I', q⟩ := q
    exact h2 pins s1 σ' H' D I' q
  | ret v => exact q
  | brk => exact q
  | cont => exact q
theorem pss_one (h1 : PS X st t) : PSs X [st] t := by
  intro pins s σ H D I h
  refine wpAny_execs_cons (thn (h1 pins s σ H D I h) fun f s1 q => ?_)
  cases f with
  | next => exact wpAny_execs_nil q
  | ret v => exact q
  | brk => exact q
  | cont => exact q
theorem Inv.quiet {pins : List (Addr × Obj)} {σ : St} {H : Hp} {s : Shared} (I : Inv X pins σ H s) : interactive X.env = false := by simp [interactive, I.ok.kind]
def tDrop (te : TE) : TS := fun D σ H => te σ H fun _ H1 => D.nx σ H1
theorem ps_expr (he : PE X e te) (hs : swapsWith e none pos.line X.env = pure false := by rfl) : PS X (.Expr e pos) (tDrop te) := by
  intro pins s σ H D I h
  exact wpAny_Expr_any (thn (he pins s σ H _ I h) fun v s1 ⟨x, H1, I1, r1, q1⟩ => ⟨σ, H1, I1, q1⟩) I.quiet hs
def tRet (te : TE) : TS := fun D σ H => te σ H D.rt
theorem ps_ret (he : PE X e te) : PS X (.Return (some e) pos) (tRet te) := by
  intro pins s σ H D I h
  exact wpAny_Return_some (thn (he pins s σ H _ I h) fun v s1 ⟨x, H1, I1, r1, q1⟩ => ⟨x, σ, H1, I1, r1, q1⟩)
def tIfS (c : TT) (t u : TS) : TS := fun D σ H => c σ H fun b H1 => if b = true then t D σ H1 else u D σ H1
theorem ps_if {c : Expr} {a b : List Stmt} {tc : TT} (hc : PT X c tc) (ha : PSs X a t) (hb : PSs X b u) : PS X (.If c a b pos) (tIfS tc t u) := by
  intro pins s σ H D I h
  refine wpAny_If (thn (hc pins s σ H _ I h) fun d s1 ⟨H1, I1, q1⟩ => ?_)
  cases d with
  | true => exact ha pins s1 σ H1 D I1 q1
  | false => exact hb pins s1 σ H1 D I1 q1
end
abbrev TG := V → St → Hp → (St → Hp → Prop) → Prop
abbrev TGs := List V → St → Hp → (St → Hp → Prop) → Prop
def PG (X : Cx) (target : Expr) (t : TG) : Prop :=
  ∀ (pins : List (Addr × Obj)) (s : Shared) (σ : St) (H : Hp) (v : V) (u : Value) (Q : St → Hp → Prop), Inv X pins σ H s → RelV v u → t v σ H Q →
    wpAny (model X.prog X.w) X.A (assign target X.env u) (fun _ s' => ∃ σ' H', Inv X pins σ' H' s' ∧ Q σ' H') X.xe s
def PGs (X : Cx) (ts : List Expr) (t : TGs) : Prop :=
  ∀ (pins : List (Addr × Obj)) (s : Shared) (σ : St) (H : Hp) (vs : List V) (us : List Value) (Q : St → Hp → Prop), Inv X pins σ H s → Vals vs us → t vs σ H Q →
    wpAny (model X.prog X.w) X.A (assignInOrder ((assignEach ts X.env).map (·.2)) us) (fun _ s' => ∃ σ' H', Inv X pins σ' H' s' ∧ Q σ' H') X.xe s
section
variable {X : Cx} {pos : Pos}
def gName (i : Nat) : TG := fun v σ H Q => Q (σ.set i (some v)) H
theorem pg_name {i : Nat} {x : Str} (hN : X.N.Nodup) (hi : X.N[i]? = some x) (hx : Loc X.env.scope x) (hf : X.fn x = true ∨ X.env.scope.names.lookup x = some .local := by first | exact .inl rfl | exact .inr rfl | assumption) : PG X (.Name x pos) (gName i) := by
  intro pins s σ H v u Q I r h
  exact wpAny_assign_Name (store_ok I hN hi hx r (fun s' I' => ⟨_, H, I', h⟩) hf)
def gNil : TGs := fun vs σ H Q => vs = [] ∧ Q σ H
def gCons (t : TG) (u : TGs) : TGs := fun vs σ H Q => ∃ v r, vs = v :: r ∧ t v σ H fun σ' H' => u r σ' H' Q
theorem pgs_nil : PGs X [] gNil := by
  intro pins s σ H vs us Q I r h
  obtain ⟨e, h⟩ := h
  subst e
  cases r
  exact assignInOrder_nil ⟨σ, H, I, h⟩
theorem pgs_cons {e : Expr} {es : List Expr} {t : TG} {u : TGs} (h1 : PG X e t) (h2 : PGs X es u)
    (hs : (assignEach (e :: es) X.env).map (·.2) = assign e X.env :: (assignEach es X.env).map (·.2) := by rfl) : PGs X (e :: es) (gCons t u) := by
  intro pins s σ H vs us Q I r h
  obtain ⟨v, vr, e1, h⟩ := h
  subst e1
  cases r with
  | cons r rr =>
    rw [hs]
    refine assignInOrder_cons (thn (h1 pins s σ H _ _ _ I r h) fun _ s1 ⟨σ1, H1, I1, q1⟩ => ?_)
    exact h2 pins s1 σ1 H1 _ _ Q I1 rr q1
def gTup (K : PySem.W.Frag) (n : Nat) (t : TGs) : TG := fun v σ H Q => ∃ a xs, v = .ref a ∧ SqT K H a xs ∧ xs.length = n ∧ t xs σ H Q
theorem pg_tup {es : List Expr} {k : Nat} {t : TGs} {n : Nat} (hc : X.calm = true) (h : PGs X es t)
    (hn : (assignEach es X.env).length = n := by rfl) (hst : (assignEach es X.env).findIdx? (·.1) = none := by rfl) : PG X (.Tuple es k pos) (gTup X.K n t) := by
  intro pins s σ H v u Q I r hw
  obtain ⟨a, xs, e1, hq, hl, hw⟩ := hw
  subst e1
  cases r
  obtain ⟨its, rv, ht, hz⟩ := I.tuple hq
  refine assign_Tuple_tuple (I.ok.hd hc) ht (by simp [hn, ← hl, rv.length]) hst fun h' hx => ?_
  have I1 : Inv X pins σ H { s with heap := h' } := I.kept (t' := s.toks) fun b o e => hx b o (Nat.ne_of_lt (Heap.lt_size e)) e
  exact h pins _ σ H xs _ Q I1 (by simpa using rv) hw
def tAsg (te : TE) (g : TG) : TS := fun D σ H => te σ H fun x H1 => g x σ H1 D.nx
theorem ps_asg {tg e : Expr} {te : TE} {g : TG} (he : PE X e te) (hg : PG X tg g) (hs : swapsWithSole [tg] e pos.line X.env = pure false := by rfl) (hw : swappedStores [tg] e X.env = pure none := by rfl)
    (h1 : (assignEach [tg] X.env).map (·.2) = [assign tg X.env] := by rfl) : PS X (.Assign [tg] e pos) (tAsg te g) := by
  intro pins s σ H D I h
  refine wpAny_Assign_stores (thn (he pins s σ H _ I h) fun v s1 ⟨x, H1, I1, r1, q1⟩ => ?_) hs hw
  rw [h1]
  exact thn (hg pins s1 σ H1 x v _ I1 r1 q1) fun _ s2 q => q
theorem ps_set {i : Nat} {x : Str} {e : Expr} {te : TE} {pos' : Pos} (hN : X.N.Nodup) (hi : X.N[i]? = some x) (hx : Loc X.env.scope x) (he : PE X e te) (hs : swapsWith e (some (.Name x pos')) pos.line X.env = pure false := by rfl) (hf : X.fn x = true ∨ X.env.scope.names.lookup x = some .local := by first | exact .inl rfl | exact .inr rfl | assumption) :
    PS X (.Assign [.Name x pos'] e pos) (tAsg te (gName i)) := by
  intro pins s σ H D I h
  refine wpAny_Assign_Name (thn (he pins s σ H _ I h) fun v s1 ⟨y, H1, I1, r1, q1⟩ => ?_) hs
  exact store_ok I1 hN hi hx r1 (fun s2 I2 => ⟨_, H1, I2, q1⟩) hf
end
section
variable {X : Cx} {pos : Pos}
end
structure It where
  go : Nat → Hp → Prop
  yld : Nat → Hp → V → Hp → Prop
  stop : Nat → Hp → Prop
def FpOk (X : Cx) (pins : List (Addr × Obj)) (H : Hp) (b : Addr) : Prop :=
  H b = none ∧ b ≠ X.env.locals ∧ b ∉ X.fs ∧ (b ∈ X.ex ∨ X.s₀.heap.objs.size ≤ b) ∧ (∀ x c, X.env.cells.lookup x = some c → c ≠ b) ∧ ∀ p ∈ X.pn ++ pins, p.1 ≠ b
theorem Inv.fpOk {X : Cx} {pins : List (Addr × Obj)} {σ : St} {H H' : Hp} {s : Shared} {b : Addr} (I : Inv X pins σ H s) (hb : s.heap.objs.size ≤ b) (hn : H' b = none) : FpOk X pins H' b := by
  refine ⟨hn, Nat.ne_of_gt (Nat.lt_of_lt_of_le I.lt hb), I.nofs hb, .inr (Nat.le_trans I.sz hb), fun x c e z => ?_, fun p hp z => ?_⟩
  · obtain ⟨v, q⟩ := I.cell x c e
    exact absurd (Nat.lt_of_lt_of_le q.lt (by rw [z]; exact hb)) (Nat.lt_irrefl _)
  · exact absurd (Nat.lt_of_lt_of_le (Heap.lt_size (I.pin p hp).1) (by rw [z]; exact hb)) (Nat.lt_irrefl _)
structure Turn (P : Program) (w : World) (K : PySem.W.Frag) (tg : Expr) (J : It) (fp : List Addr) (it : Addr) (tn : Nat → Heap → Prop) : Prop where
  mem : it ∈ fp
  obj : ∀ i h, tn i h → ∀ b ∈ fp, ∃ o, h.get? b = some o ∧ ∀ v, o.data ≠ .cell v
  keep : ∀ i h h', tn i h → (∀ b ∈ fp, ∀ o, h.get? b = some o → h'.get? b = some o) → tn i h'
  item : ∀ (X : Cx), X.prog = P → X.w = w → X.K = K → X.calm = true → ∀ (i : Nat) (pins : List (Addr × Obj)) (s : Shared) (σ : St) (H : Hp) (E : Value → Shared → Prop), Inv X pins σ H s → (∀ b ∈ fp, FpOk X pins H b) → tn i s.heap → J.go i H →
    wpAny (model P w) X.A (pyNext (.ref it)) (fun r s1 => ∃ u, r = some u ∧
      wpAny (model P w) X.A (letOwnedTupleGo tg (.ref it) u) (fun _ s2 => ∃ x H', Inv X pins σ H' s2 ∧ RelV x u ∧ J.yld i H x H' ∧ tn (i + 1) s2.heap ∧ ∀ b ∈ fp, H' b = none) E s1) E s
  done : ∀ (X : Cx), X.prog = P → X.w = w → X.K = K → X.calm = true → ∀ (i : Nat) (pins : List (Addr × Obj)) (s : Shared) (σ : St) (H : Hp) (E : Value → Shared → Prop), Inv X pins σ H s → (∀ b ∈ fp, FpOk X pins H b) → tn i s.heap → J.stop i H →
    wpAny (model P w) X.A (pyNext (.ref it)) (fun r s1 => r = none ∧ Inv X pins σ H s1) E s
  self : ∀ (A : Around) (i : Nat) (s : Shared) (Q : Value → Shared → Prop) (E : Value → Shared → Prop), tn i s.heap → Q (.ref it) s → wpAny (model P w) A (pyIter (.ref it)) Q E s
abbrev TI := St → Hp → (It → Hp → Prop) → Prop
def PIE (X : Cx) (pins : List (Addr × Obj)) (σ : St) (tg : Expr) (R : It → Hp → Prop) (itv : Value) (s2 : Shared) : Prop :=
  ∃ (it : Addr) (fp : List Addr) (tn : Nat → Heap → Prop) (J : It) (H' : Hp), itv = .ref it ∧ Inv X pins σ H' s2 ∧ Turn X.prog X.w X.K tg J fp it tn ∧ tn 0 s2.heap ∧ (∀ b ∈ fp, FpOk X pins H' b) ∧ R J H'
def PI (X : Cx) (tg iter : Expr) (wi : TI) : Prop :=
  ∀ (pins : List (Addr × Obj)) (s : Shared) (σ : St) (H : Hp) (R : It → Hp → Prop), Inv X pins σ H s → wi σ H R →
    wpAny (model X.prog X.w) X.A (eval iter X.env) (fun v s1 => wpAny (model X.prog X.w) X.A (pyIter v) (PIE X pins σ tg R) X.xe s1) X.xe s
theorem go_of {M : Model} {A : Around} {E : Value → Shared → Prop} {s : Shared} {tg : Expr} {it : Addr} {u : Value} {o : Obj} {n : String} {vs : Array Value} {Q : Unit → Shared → Prop} (ho : s.heap.get? it = some o) (hc : o.cls = .type n) (hd : o.data = .fields vs)
    (hn : ["enumerate", "zip", "dict_itemiterator", "dict_reverseitemiterator", "odict_iterator", "itertools.zip_longest", "itertools.pairwise"].contains n = false) (hQ : Q () s) : wpAny M A (letOwnedTupleGo tg (.ref it) u) Q E s := by
  unfold letOwnedTupleGo
  cases tg <;> first
    | exact wpAny_pure hQ
    | (cases u <;> first
        | exact wpAny_pure hQ
        | (refine wpAny_bind (wpAny_load ho ?_)
           rw [hc, hd]
           show wpAny M A (if (["enumerate", "zip", "dict_itemiterator", "dict_reverseitemiterator", "odict_iterator", "itertools.zip_longest", "itertools.pairwise"].contains n && vs[0]? == some (rawInt _)) = true then _ else _) Q E s
           rw [if_neg (by intro h; rw [hn, Bool.false_and] at h; cases h)]
           exact wpAny_pure hQ))
end L2
namespace L2
open PySem PySem.Spec PyProof.Rows
section
variable {X : Cx} {tg : Expr}
def tFor (wi : TI) (g : TG) (tb : TS) : TS := fun D σ H => wi σ H fun J H1 => ∃ W : Nat → Nat → St → Hp → Prop, (∃ m, W 0 m σ H1) ∧ ∀ i m σ H, W i m σ H →
  (J.stop i H ∧ D.nx σ H) ∨ (J.go i H ∧ ∃ N : St → Hp → Prop, (∀ σ' H', N σ' H' → ∃ m', m' < m ∧ W (i + 1) m' σ' H') ∧ ∀ x H', J.yld i H x H' → g x σ H' fun σ2 H2 => tb { D with nx := N, ct := N, bk := D.nx } σ2 H2)
def pinsAt (fp : List Addr) (h : Heap) : List (Addr × Obj) := fp.filterMap fun b => (h.get? b).map fun o => (b, o)
theorem mem_pinsAt {fp : List Addr} {h : Heap} {b : Addr} {o : Obj} (hb : b ∈ fp) (e : h.get? b = some o) : (b, o) ∈ pinsAt fp h := List.mem_filterMap.mpr ⟨b, hb, by rw [e]; rfl⟩
theorem of_pinsAt {fp : List Addr} {h : Heap} {p : Addr × Obj} (hp : p ∈ pinsAt fp h) : p.1 ∈ fp ∧ h.get? p.1 = some p.2 := by
  obtain ⟨b, hb, e⟩ := List.mem_filterMap.mp hp
  cases q : h.get? b with
  | none => rw [q] at e; cases e
  | some o =>
    rw [q] at e
    have e' : (b, o) = p := Option.some.inj e
    subst e'
    exact ⟨hb, q⟩
theorem Inv.pinned {pins : List (Addr × Obj)} {σ : St} {H : Hp} {s : Shared} {fp : List Addr} (I : Inv X pins σ H s) (hf : ∀ b ∈ fp, FpOk X pins H b) (ho : ∀ b ∈ fp, ∃ o, s.heap.get? b = some o ∧ ∀ v, o.data ≠ .cell v) : Inv X (pins ++ pinsAt fp s.heap) σ H s :=
  I.pins_of fun p hp => (List.mem_append.mp hp).elim (fun z => I.pin p (List.mem_append_right _ z)) fun z => by
    obtain ⟨hb, e⟩ := of_pinsAt z
    obtain ⟨f0, f1, f2, _⟩ := hf p.1 hb
    obtain ⟨o, e', d⟩ := ho p.1 hb
    rw [e] at e'; cases e'
    exact ⟨e, f0, f1, f2, d⟩
theorem Inv.unpinned {pins pl : List (Addr × Obj)} {σ : St} {H : Hp} {s : Shared} (I : Inv X (pins ++ pl) σ H s) : Inv X pins σ H s := I.pins_of fun p hp => I.pin p (List.mem_append_right _ (List.mem_append_left _ hp))
theorem ps_for {iter : Expr} {body : List Stmt} {wi : TI} {g : TG} {tb : TS} {pos : Pos} (hp : PassesOwn (model X.prog X.w) X.A X.env X.xe) (hc : X.calm = true) (hi : PI X tg iter wi) (hg : PG X tg g) (hb : PSs X body tb)
    (hs : ∀ x, foldedSetIterable iter X.env x = pure x := by intro _; rfl) : PS X (.For tg iter body [] pos) (tFor wi g tb) := by
  intro pins s σ H D I h
  refine wpAny_For (thn (hi pins s σ H _ I h) fun v s1 h1 => thn h1 fun itv s2 h2 => ?_) hs
  obtain ⟨it, fp, tn, J, H2, e, I2, T, st2, f2, W, ⟨m0, w0⟩, turn⟩ := h2
  subst e
  -- what stays true of the iterator's objects through the loop
  have stat : ∀ {H' : Hp}, (∀ b ∈ fp, H' b = none) → ∀ b ∈ fp, FpOk X pins H' b := fun hn b hb => ⟨hn b hb, (f2 b hb).2⟩
  refine codeAny_forLoop_any (fun n s' => ∃ i σ' H', Inv X pins σ' H' s' ∧ tn i s'.heap ∧ (∀ b ∈ fp, H' b = none) ∧ W i n σ' H') ?_ m0 ⟨0, σ, H2, I2, st2, fun b hb => (f2 b hb).1, w0⟩
  rintro n s3 ⟨i, σ3, H3, I3, st3, fr3, w3⟩
  rcases turn i n σ3 H3 w3 with ⟨stop, qn⟩ | ⟨go, N, hN, step⟩
  · refine wpAny_passesOwn hp (thn (T.done X rfl rfl rfl hc i pins s3 σ3 H3 X.xe I3 (stat fr3) st3 stop) fun r s4 ⟨hr, I4⟩ => ?_)
    subst hr
    exact wpAny_execs_nil ⟨σ3, H3, I4, qn⟩
  · refine wpAny_passesOwn hp (thn (T.item X rfl rfl rfl hc i pins s3 σ3 H3 X.xe I3 (stat fr3) st3 go) fun r s4 ⟨u, hr, h4⟩ => ?_)
    subst hr
    refine wpAny_passesOwn hp (thn h4 fun _ s5 ⟨x, H5, I5, r5, y5, st5, fr5⟩ => ?_)
    have I5' := I5.pinned (stat fr5) (T.obj _ _ st5)
    refine wpAny_passesOwn hp (thn (hg _ s5 σ3 H5 x u _ I5' r5 (step x H5 y5)) fun _ s6 ⟨σ6, H6, I6, q6⟩ => ?_)
    refine wpAny_passesOwn hp (thn (hb _ s6 σ6 H6 _ I6 q6) fun f s7 q7 => ?_)
    have again : ∀ {σ7 : St} {H7 : Hp}, Inv X (pins ++ pinsAt fp s5.heap) σ7 H7 s7 → N σ7 H7 → ∃ m, m < n ∧ ∃ i σ' H', Inv X pins σ' H' s7 ∧ tn i s7.heap ∧ (∀ b ∈ fp, H' b = none) ∧ W i m σ' H' := fun {σ7 H7} I7 n7 => by
      obtain ⟨m', hm, w7⟩ := hN σ7 H7 n7
      refine ⟨m', hm, i + 1, σ7, H7, I7.unpinned, T.keep _ _ _ st5 fun b hb o e => (I7.pin (b, o) (List.mem_append_right _ (List.mem_append_right _ (mem_pinsAt hb e)))).1, fun b hb => ?_, w7⟩
      obtain ⟨o, e, d⟩ := T.obj _ _ st5 b hb
      exact (I7.pin (b, o) (List.mem_append_right _ (List.mem_append_right _ (mem_pinsAt hb e)))).2.1
    cases f with
    | next => obtain ⟨σ7, H7, I7, n7⟩ := q7; exact again I7 n7
    | cont => obtain ⟨σ7, H7, I7, n7⟩ := q7; exact again I7 n7
    | brk => obtain ⟨σ7, H7, I7, q7⟩ := q7; exact ⟨σ7, H7, I7.unpinned, q7⟩
    | ret v => obtain ⟨x7, σ7, H7, I7, r7, q7⟩ := q7; exact ⟨x7, σ7, H7, I7.unpinned, r7, q7⟩
end
end L2
namespace L2
open PySem PySem.Spec PyProof.Rows
abbrev R2 := V → V → Hp → VK → Prop
def OpR (X : Cx) (f : Value → Value → Sem Value) (r : R2) : Prop :=
  ∀ (pins : List (Addr × Obj)) (s : Shared) (σ : St) (H : Hp) (x y : V) (v u : Value) (Q : VK), Inv X pins σ H s → RelV x v → RelV y u → r x y H Q →
    wpAny (model X.prog X.w) X.A (f v u) (EP X pins σ Q) X.xe s
def UnR (X : Cx) (f : Value → Sem Value) (r : V → Hp → VK → Prop) : Prop :=
  ∀ (pins : List (Addr × Obj)) (s : Shared) (σ : St) (H : Hp) (x : V) (v : Value) (Q : VK), Inv X pins σ H s → RelV x v → r x H Q →
    wpAny (model X.prog X.w) X.A (f v) (EP X pins σ Q) X.xe s
def CallR (X : Cx) (f : Value) (r : List V → Hp → VK → Prop) : Prop :=
  ∀ (pins : List (Addr × Obj)) (s : Shared) (σ : St) (H : Hp) (xs : List V) (us : List Value) (Q : VK), Inv X pins σ H s → Vals xs us → r xs H Q →
    wpAny (model X.prog X.w) X.A (call f us) (EP X pins σ Q) X.xe s
def tOp (r : R2) (ta tb : TE) : TE := fun σ H Q => ta σ H fun x H1 => tb σ H1 fun y H2 => r x y H2 Q
def tUn (r : V → Hp → VK → Prop) (ta : TE) : TE := fun σ H Q => ta σ H fun x H1 => r x H1 Q
def rI (C : Int → Int → Prop) (g : Int → Int → V) : R2 := fun x y H Q => ∃ i j, x = .int i ∧ y = .int j ∧ C i j ∧ Q (g i j) H
def rI0 (g : Int → Int → V) : R2 := fun x y H Q => ∃ i j, x = .int i ∧ y = .int j ∧ Q (g i j) H
def rU (g : Int → V) : V → Hp → VK → Prop := fun x H Q => ∃ i, x = .int i ∧ Q (g i) H
section
variable {X : Cx} {a b c : Expr} {ta tb tc : TE} {pos : Pos}
theorem binT (ha : PE X a ta) (hb : PE X b tb) {pins : List (Addr × Obj)} {s : Shared} {σ : St} {H : Hp} {R : V → V → Hp → Prop} (I : Inv X pins σ H s)
    (h : ta σ H fun x H1 => tb σ H1 fun y H2 => R x y H2) {Q : Value → Shared → Prop} {f : Value → Value → Sem Value}
    (hf : ∀ v u s2 x y H2, Inv X pins σ H2 s2 → RelV x v → RelV y u → R x y H2 → wpAny (model X.prog X.w) X.A (f v u) Q X.xe s2) :
    wpAny (model X.prog X.w) X.A (eval a X.env) (fun v s₁ => wpAny (model X.prog X.w) X.A (eval b X.env) (fun u s₂ => wpAny (model X.prog X.w) X.A (f v u) Q X.xe s₂) X.xe s₁) X.xe s := by
  refine thn (ha pins s σ H _ I h) fun v s1 ⟨x, H1, I1, r1, q1⟩ => ?_
  refine thn (hb pins s1 σ H1 _ I1 q1) fun u s2 ⟨y, H2, I2, r2, q2⟩ => ?_
  exact hf v u s2 x y H2 I2 r1 r2 q2
theorem pe_op {op : Operator} {r : R2} (ho : OpR X (binaryOp op) r) (ha : PE X a ta) (hb : PE X b tb) : PE X (.BinOp a op b pos) (tOp r ta tb) := by
  intro pins s σ H Q I h
  exact wpAny_BinOp (binT ha hb I h fun v u s2 x y H2 I2 rx ry q => ho pins s2 σ H2 x y v u Q I2 rx ry q)
theorem pe_un {op : UnaryOp} {r : V → Hp → VK → Prop} (ho : UnR X (unaryOp op) r) (ha : PE X a ta) : PE X (.UnaryOp op a pos) (tUn r ta) := by
  intro pins s σ H Q I h
  exact UnaryOp_ (thn (ha pins s σ H _ I h) fun v s1 ⟨x, H1, I1, r1, q1⟩ => ho pins s1 σ H1 x v Q I1 r1 q1)
theorem opI {f : Value → Value → Sem Value} {C : Int → Int → Prop} {g : Int → Int → Int}
    (rule : ∀ (i j : Int) (t u : Tok) (s : Shared) (Q : Value → Shared → Prop) (E : Value → Shared → Prop), C i j → Q (.int (g i j) s.toks) { s with toks := s.toks + 1 } → wpAny (model X.prog X.w) X.A (f (.int i t) (.int j u)) Q E s) :
    OpR X f (rI C fun i j => .int (g i j)) := by
  intro pins s σ H x y v u Q I rx ry h
  obtain ⟨i, j, rfl, rfl, hc, q⟩ := h
  obtain ⟨t, rfl⟩ := rx
  obtain ⟨t', rfl⟩ := ry
  exact rule i j t t' s _ _ hc ⟨.int (g i j), H, I.tok _, ⟨_, rfl⟩, q⟩
theorem opI0 {f : Value → Value → Sem Value} {g : Int → Int → Int}
    (rule : ∀ (i j : Int) (t u : Tok) (s : Shared) (Q : Value → Shared → Prop) (E : Value → Shared → Prop), Q (.int (g i j) s.toks) { s with toks := s.toks + 1 } → wpAny (model X.prog X.w) X.A (f (.int i t) (.int j u)) Q E s) :
    OpR X f (rI0 fun i j => .int (g i j)) := by
  intro pins s σ H x y v u Q I rx ry h
  obtain ⟨i, j, rfl, rfl, q⟩ := h
  obtain ⟨t, rfl⟩ := rx
  obtain ⟨t', rfl⟩ := ry
  exact rule i j t t' s _ _ ⟨.int (g i j), H, I.tok _, ⟨_, rfl⟩, q⟩
theorem opB0 {f : Value → Value → Sem Value} {g : Int → Int → Bool}
    (rule : ∀ (i j : Int) (t u : Tok) (s : Shared) (Q : Value → Shared → Prop) (E : Value → Shared → Prop), Q (.bool (g i j)) s → wpAny (model X.prog X.w) X.A (f (.int i t) (.int j u)) Q E s) :
    OpR X f (rI0 fun i j => .bl (g i j)) := by
  intro pins s σ H x y v u Q I rx ry h
  obtain ⟨i, j, rfl, rfl, q⟩ := h
  obtain ⟨t, rfl⟩ := rx
  obtain ⟨t', rfl⟩ := ry
  exact rule i j t t' s _ _ ⟨.bl (g i j), H, I, rfl, q⟩
def CPow (i j : Int) : Prop := 0 ≤ j ∧ j ≤ 1000000 ∧ i.natAbs < 2 ^ 64
def CMul (i j : Int) : Prop := (-(2 ^ 64) < i ∧ i < 2 ^ 64) ∨ (-(2 ^ 64) < j ∧ j < 2 ^ 64)
theorem CMul.ok {i j : Int} (h : CMul i j) : IntMulOk i j := by
  rcases h with ⟨h1, h2⟩ | ⟨h1, h2⟩
  · exact .of_left (intBits_le_64 h1 h2)
  · exact .of_right (intBits_le_64 h1 h2)
theorem op_add : OpR X (binaryOp .Add) (rI0 fun i j => .int (i + j)) := opI0 fun _ _ _ _ _ _ _ q => add_int q
theorem op_sub : OpR X (binaryOp .Sub) (rI0 fun i j => .int (i - j)) := opI0 fun _ _ _ _ _ _ _ q => sub_int q
theorem op_mod : OpR X (binaryOp .Mod) (rI (fun _ j => 0 < j) fun i j => .int (i % j)) := opI fun i j _ _ _ _ _ hc q => by
  have h1 : (0 : Int) < j := hc
  exact mod_int' (by omega) (by rw [Int.fmod_eq_emod_of_nonneg i (by omega)]; exact q)
theorem op_pow : OpR X (binaryOp .Pow) (rI CPow fun i j => .int (i ^ j.toNat)) := opI fun _ _ _ _ _ _ _ hc q => pow_int_small hc.1 hc.2.1 hc.2.2 q
theorem unI {f : Value → Sem Value} {g : Int → Int}
    (rule : ∀ (i : Int) (t : Tok) (s : Shared) (Q : Value → Shared → Prop) (E : Value → Shared → Prop), Q (.int (g i) s.toks) { s with toks := s.toks + 1 } → wpAny (model X.prog X.w) X.A (f (.int i t)) Q E s) :
    UnR X f (rU fun i => .int (g i)) := by
  intro pins s σ H x v Q I rx h
  obtain ⟨i, rfl, q⟩ := h
  obtain ⟨t, rfl⟩ := rx
  exact rule i t s _ _ ⟨.int (g i), H, I.tok _, ⟨_, rfl⟩, q⟩
theorem un_neg : UnR X (unaryOp .USub) (rU fun i => .int (-i)) := unI fun _ _ _ _ _ q => neg_int q
end
def scal : V → V → Bool
  | .non, .non => true | .non, .int _ => true | .int _, .non => true | .non, .bl _ => true | .bl _, .non => true | .non, .str _ => true | .str _, .non => true
  | .int _, .int _ => true | .bl _, .bl _ => true | .str _, .str _ => true | .byt _, .byt _ => true
  | .int _, .str _ => true | .str _, .int _ => true | .bl _, .str _ => true | .str _, .bl _ => true
  | _, _ => false
def rEq : R2 := fun x y H Q => scal x y = true ∧ Q (.bl (decide (x = y))) H
def rNe : R2 := fun x y H Q => scal x y = true ∧ Q (.bl (!decide (x = y))) H
theorem dec_int {i j : Int} : decide (V.int i = V.int j) = (i == j) := by
  rw [Bool.eq_iff_iff]
  simp
theorem dec_bl {i j : Bool} : decide (V.bl i = V.bl j) = (i == j) := by
  rw [Bool.eq_iff_iff]
  simp
theorem dec_str {i j : Str} : decide (V.str i = V.str j) = (i == j) := by
  rw [Bool.eq_iff_iff]
  simp
theorem dec_byt {i j : Array UInt8} : decide (V.byt i = V.byt j) = (i.toList == j.toList) := by
  rw [Bool.eq_iff_iff]
  cases i
  cases j
  simp
section
variable {X : Cx} {a b c : Expr} {ta tb tc : TE} {pos : Pos}
theorem fin_bl {pins : List (Addr × Obj)} {σ : St} {H : Hp} {s : Shared} {Q : VK} {k k' : Bool} (I : Inv X pins σ H s) (q : Q (.bl k) H) (e : k = k') : EP X pins σ Q (.bool k') s := by
  subst e
  exact ⟨.bl k, H, I, rfl, q⟩
theorem op_eq : OpR X (compareOp .Eq) rEq := by
  intro pins s σ H x y v u Q I rx ry h
  obtain ⟨hs, q⟩ := h
  cases x with
  | non =>
    cases rx
    cases y with
    | non => cases ry; exact PySem.EqNone.eq_none_none (fin_bl I q (by simp))
    | bl j => cases ry; exact PySem.EqNone.eq_none_bool (fin_bl I q (by simp))
    | int j => obtain ⟨t', rfl⟩ := ry; exact PySem.EqNone.eq_none_int (fin_bl I q (by simp))
    | str j => obtain ⟨t', rfl⟩ := ry; exact PySem.EqNone.eq_none_str (fin_bl I q (by simp))
    | _ => exact absurd (show false = true from hs) Bool.false_ne_true
  | bl i =>
    cases rx
    cases y with
    | non => cases ry; exact PySem.EqNone.eq_bool_none (fin_bl I q (by simp))
    | bl j => cases ry; exact eq_bool (fin_bl I q dec_bl)
    | str j => obtain ⟨t', rfl⟩ := ry; exact PySem.EqMixed.eq_bool_str (fin_bl I q (by simp))
    | _ => exact absurd (show false = true from hs) Bool.false_ne_true
  | int i =>
    obtain ⟨t, rfl⟩ := rx
    cases y with
    | non => cases ry; exact PySem.EqNone.eq_int_none (fin_bl I q (by simp))
    | int j => obtain ⟨t', rfl⟩ := ry; exact eq_int (fin_bl I q dec_int)
    | str j => obtain ⟨t', rfl⟩ := ry; exact PySem.EqMixed.eq_int_str (fin_bl I q (by simp))
    | _ => exact absurd (show false = true from hs) Bool.false_ne_true
  | str i =>
    obtain ⟨t, rfl⟩ := rx
    cases y with
    | non => cases ry; exact PySem.EqNone.eq_str_none (fin_bl I q (by simp))
    | bl j => cases ry; exact PySem.EqMixed.eq_str_bool (fin_bl I q (by simp))
    | int j => obtain ⟨t', rfl⟩ := ry; exact PySem.EqMixed.eq_str_int (fin_bl I q (by simp))
    | str j => obtain ⟨t', rfl⟩ := ry; exact eq_str (fin_bl I q dec_str)
    | _ => exact absurd (show false = true from hs) Bool.false_ne_true
  | byt i =>
    obtain ⟨t, rfl⟩ := rx
    cases y with
    | byt j => obtain ⟨t', rfl⟩ := ry; exact PySem.W.eq_bytes (fin_bl I q dec_byt)
    | _ => exact absurd (show false = true from hs) Bool.false_ne_true
  | _ => cases y <;> exact absurd (show false = true from hs) Bool.false_ne_true
theorem op_ne : OpR X (compareOp .NotEq) rNe := by
  intro pins s σ H x y v u Q I rx ry h
  obtain ⟨hs, q⟩ := h
  cases x with
  | non =>
    cases rx
    cases y with
    | non => cases ry; exact PySem.EqNone.ne_none_none (fin_bl I q (by simp))
    | bl j => cases ry; exact PySem.EqNone.ne_none_bool (fin_bl I q (by simp))
    | int j => obtain ⟨t', rfl⟩ := ry; exact PySem.EqNone.ne_none_int (fin_bl I q (by simp))
    | str j => obtain ⟨t', rfl⟩ := ry; exact PySem.EqNone.ne_none_str (fin_bl I q (by simp))
    | _ => exact absurd (show false = true from hs) Bool.false_ne_true
  | bl i =>
    cases rx
    cases y with
    | non => cases ry; exact PySem.EqNone.ne_bool_none (fin_bl I q (by simp))
    | bl j => cases ry; exact ne_bool (fin_bl I q (congrArg not dec_bl))
    | str j => obtain ⟨t', rfl⟩ := ry; exact PySem.EqMixed.ne_bool_str (fin_bl I q (by simp))
    | _ => exact absurd (show false = true from hs) Bool.false_ne_true
  | int i =>
    obtain ⟨t, rfl⟩ := rx
    cases y with
    | non => cases ry; exact PySem.EqNone.ne_int_none (fin_bl I q (by simp))
    | int j => obtain ⟨t', rfl⟩ := ry; exact ne_int (fin_bl I q (congrArg not dec_int))
    | str j => obtain ⟨t', rfl⟩ := ry; exact PySem.EqMixed.ne_int_str (fin_bl I q (by simp))
    | _ => exact absurd (show false = true from hs) Bool.false_ne_true
  | str i =>
    obtain ⟨t, rfl⟩ := rx
    cases y with
    | non => cases ry; exact PySem.EqNone.ne_str_none (fin_bl I q (by simp))
    | bl j => cases ry; exact PySem.EqMixed.ne_str_bool (fin_bl I q (by simp))
    | int j => obtain ⟨t', rfl⟩ := ry; exact PySem.EqMixed.ne_str_int (fin_bl I q (by simp))
    | str j => obtain ⟨t', rfl⟩ := ry; exact ne_str (fin_bl I q (congrArg not dec_str))
    | _ => exact absurd (show false = true from hs) Bool.false_ne_true
  | byt i =>
    obtain ⟨t, rfl⟩ := rx
    cases y with
    | byt j => obtain ⟨t', rfl⟩ := ry; exact PySem.W.ne_bytes (fin_bl I q (congrArg not dec_byt))
    | _ => exact absurd (show false = true from hs) Bool.false_ne_true
  | _ => cases y <;> exact absurd (show false = true from hs) Bool.false_ne_true
theorem op_lt : OpR X (compareOp .Lt) (rI0 fun i j => .bl (decide (i < j))) := opB0 fun _ _ _ _ _ _ _ q => lt_int q
theorem op_le : OpR X (compareOp .LtE) (rI0 fun i j => .bl (decide (i ≤ j))) := opB0 fun _ _ _ _ _ _ _ q => le_int q
theorem op_gt : OpR X (compareOp .Gt) (rI0 fun i j => .bl (decide (j < i))) := opB0 fun _ _ _ _ _ _ _ q => gt_int q
theorem op_isN : OpR X (compareOp .Is) (fun x y H Q => y = .non ∧ Q (.bl (decide (x = .non))) H) := by
  intro pins s σ H x y v u Q I rx ry h
  obtain ⟨rfl, q⟩ := h
  cases ry
  refine is_none_gen (fin_bl I q ?_)
  cases x <;> first
    | (cases rx; rfl)
    | (obtain ⟨t, rfl⟩ := rx; rfl)
theorem op_notin_str : OpR X (compareOp .NotIn) (fun x y H Q => ∃ i j, x = .str i ∧ y = .str j ∧ Q (.bl (!(!(Builtin.Str.occurrences j i 0 j.length 1).isEmpty))) H) := by
  intro pins s σ H x y v u Q I rx ry h
  obtain ⟨i, j, rfl, rfl, q⟩ := h
  obtain ⟨t, rfl⟩ := rx
  obtain ⟨t', rfl⟩ := ry
  exact notIn_str (fin_bl I q rfl)
theorem nomark (b : Expr) {op : CmpOp} (h : op ≠ .In := by decide) (h2 : op ≠ .NotIn := by decide) : behindInMarks op b = false := by
  have e1 : (op == CmpOp.In) = false := by cases op <;> first | rfl | exact absurd rfl h
  have e2 : (op == CmpOp.NotIn) = false := by cases op <;> first | rfl | exact absurd rfl h2
  cases b <;> simp [behindInMarks, e1, e2]
theorem pe_cmpR {op : CmpOp} {r : R2} (ho : OpR X (compareOp op) r) (ha : PE X a ta) (hb : PE X b tb) (hm : behindInMarks op b = false) : PE X (.Compare a [op] [b] pos) (tOp r ta tb) := by
  intro pins s σ H Q I h
  exact wpAny_Compare1 (binT ha hb I h fun v u s2 x y H2 I2 rx ry q => ho pins s2 σ H2 x y v u Q I2 rx ry q) hm
def tTest (t : TE) : TT := fun σ H Q => t σ H fun x H' => ∃ k, x = .bl k ∧ Q k H'
theorem pt_cmpR {op : CmpOp} {r : R2} (ho : OpR X (compareOp op) r) (ha : PE X a ta) (hb : PE X b tb) (hm : behindInMarks op b = false) : PT X (.Compare a [op] [b] pos) (tTest (tOp r ta tb)) := by
  intro pins s σ H Q I h
  refine wpAny_isTrue_Compare1 (thn (ha pins s σ H _ I h) fun v s1 ⟨x, H1, I1, r1, q1⟩ => thn (hb pins s1 σ H1 _ I1 q1) fun u s2 ⟨y, H2, I2, r2, q2⟩ =>
    thn (ho pins s2 σ H2 x y v u _ I2 r1 r2 q2) fun c s3 ⟨z, H3, I3, r3, k, e, q3⟩ => ?_) hm
  subst e
  cases r3
  exact wpAny_truthy_bool ⟨H3, I3, q3⟩
def tChain (r r' : R2) (ta tb tc : TE) : TE := fun σ H Q => ta σ H fun x H1 => tb σ H1 fun y H2 => r x y H2 fun z H3 => ∃ k, z = .bl k ∧
  (if k = true then tc σ H3 fun w' H4 => r' y w' H4 Q else Q (.bl false) H3)
theorem pt_chain {op op' : CmpOp} {r r' : R2} (ho : OpR X (compareOp op) r) (ho' : OpR X (compareOp op') r') (ha : PE X a ta) (hb : PE X b tb) (hc : PE X c tc)
    (hm : lastMarks [op, op'] [b, c] = false := by with_unfolding_all rfl) : PT X (.Compare a [op, op'] [b, c] pos) (tTest (tChain r r' ta tb tc)) := by
  intro pins s σ H Q I h
  refine isTrue_chain (thn (ha pins s σ H _ I h) fun v s1 ⟨x, H1, I1, r1, q1⟩ => test_link (thn (hb pins s1 σ H1 _ I1 q1) fun u s2 ⟨y, H2, I2, r2, q2⟩ =>
    thn (ho pins s2 σ H2 x y v u _ I2 r1 r2 q2) fun d s3 ⟨z, H3, I3, r3, k, e, q3⟩ => ?_)) hm
  subst e
  cases r3
  refine wpAny_truthy_bool ?_
  cases k with
  | false =>
    obtain ⟨k', e', q'⟩ := q3
    cases e'
    exact ite_ff ⟨H3, I3, q'⟩
  | true =>
    refine ite_tt (test_last (thn (hc pins s3 σ H3 _ I3 q3) fun w' s4 ⟨z', H4, I4, r4, q4⟩ => thn (ho' pins s4 σ H4 y z' u w' _ I4 r2 r4 q4) fun d' s5 ⟨z2, H5, I5, r5, k2, e2, q5⟩ => ?_))
    subst e2
    cases r5
    exact wpAny_truthy_bool ⟨H5, I5, q5⟩
theorem line63 : (sizeLine : Nat) < 2 ^ 63 := by rw [sizeLine_eq]; decide
theorem op_add_str : OpR X (binaryOp .Add) (fun x y H Q => ∃ i j, x = .str i ∧ y = .str j ∧ i.length + j.length ≤ sizeLine ∧ Q (.str (i ++ j)) H) := by
  intro pins s σ H x y v u Q I rx ry h
  obtain ⟨i, j, rfl, rfl, hz, q⟩ := h
  obtain ⟨t, rfl⟩ := rx
  obtain ⟨t', rfl⟩ := ry
  exact add_str (fun t' tk => ⟨.str (i ++ j), H, I.tok _, ⟨_, rfl⟩, q⟩) hz
theorem vals1 {x : V} {us : List Value} (r : Vals [x] us) : ∃ u, us = [u] ∧ RelV x u := by
  cases r with
  | cons r1 r2 => cases r2; exact ⟨_, rfl, r1⟩
theorem vals2 {x y : V} {us : List Value} (r : Vals [x, y] us) : ∃ u w', us = [u, w'] ∧ RelV x u ∧ RelV y w' := by
  cases r with
  | cons r1 r2 =>
    cases r2 with
    | cons r3 r4 => cases r4; exact ⟨_, _, rfl, r1, r3⟩
theorem call_int1 : CallR X (.type "int") (fun xs H Q => (∃ i, xs = [.int i] ∧ Q (.int i) H) ∨ ∃ k, xs = [.bl k] ∧ Q (.int (if k then 1 else 0)) H) := by
  intro pins s σ H xs us Q I r h
  rcases h with ⟨i, rfl, q⟩ | ⟨k, rfl, q⟩
  · obtain ⟨u, rfl, t, rfl⟩ := vals1 r
    exact call_int_int ⟨.int i, H, I, ⟨_, rfl⟩, q⟩
  · obtain ⟨u, rfl, r1⟩ := vals1 r
    cases r1
    exact call_int_bool ⟨.int (if k then 1 else 0), H, I.tok _, ⟨_, rfl⟩, q⟩
theorem call_str_int : CallR X (.type "str") (fun xs H Q => ∃ i, xs = [.int i] ∧ i.natAbs.log2 < 1920 ∧ Q (.str (toString i)) H) := by
  intro pins s σ H xs us Q I r h
  obtain ⟨i, rfl, hz, q⟩ := h
  obtain ⟨u, rfl, t, rfl⟩ := vals1 r
  exact PySem.P.str_of_int hz ⟨.str _, H, I.tok _, ⟨_, rfl⟩, q⟩
end
end L2
namespace L2
open PySem PySem.Spec PyProof.Rows
structure ObjM (h : Heap) (x dx C : Addr) (mA : Str → Option Value) : Prop where
  obj : h.get? x = some (PySem.W.instObj C dx)
  ns : h.Ns1 dx mA
  ne : dx ≠ x
theorem lookIn_ns {h : Heap} {dx : Addr} {mA : Str → Option Value} (n : h.Ns1 dx mA) : ∃ od, h.get? dx = some od ∧ ∀ name, PySem.W.lookIn name od = some (mA name) := by
  obtain ⟨o, es, ep, ho, hd, hk, _, hm⟩ := n
  refine ⟨o, ho, fun name => ?_⟩
  have e := hm name
  unfold nsFind findBy at e
  rw [← Array.find?_toList] at e
  unfold PySem.W.lookIn
  rw [hd]
  dsimp only
  split
  · rename_i y q
    rw [q] at e
    exact congrArg some e
  · rename_i q
    rw [q] at e
    have a : es.toList.any (·.refKey) = false := by
      rw [List.any_eq_false]
      intro y hy
      obtain ⟨z, t, hkey⟩ := hk y (Array.mem_toList_iff.mp hy)
      simp [DictEntry.refKey, hkey]
    have a' : ¬ es.toList.any (·.refKey) = true := by rw [a]; exact Bool.false_ne_true
    rw [if_neg a']
    exact congrArg some e
theorem ObjM.look {h : Heap} {x dx C : Addr} {mA : Str → Option Value} (I : ObjM h x dx C mA) : ∃ od, PySem.W.InstAt h x (PySem.W.instObj C dx) C (some od) ∧ ∀ name, PySem.W.lookIn name od = some (mA name) :=
  let ⟨od, ho, hl⟩ := lookIn_ns I.ns
  ⟨od, ⟨I.obj, rfl, rfl, ho⟩, hl⟩
section
variable {prog : Program} {w : World} {A : Around} {E : Value → Shared → Prop} {s : Shared} {K : PySem.W.Frag} {x dx C f : Addr} {mA : Str → Option Value} {name : Str} {v : Value}
end
section
variable {P : Program} {w : World} {H H' : Hp} {h h' : Heap} {a C dx : Addr} {fs fs' : List (Str × V)}
theorem ins_get (hok : HOk P w H h) (e : H a = some (.ins C dx fs)) : ∃ mA, ObjM h a dx C mA ∧ (∀ f, RelO (fs.lookup f) (mA f)) ∧ PySem.Within mA (fs.map (·.1)) ∧ fs.length ≤ 1000 ∧ H dx = some (.own a) := by
  obtain ⟨d, z, ne, ob, mA, n, r, q⟩ := (show ObjOk P w H h a (.ins C dx fs) from hok a _ e)
  exact ⟨mA, ⟨ob, n, ne⟩, r, q, z, d⟩
end
structure Cls (K : PySem.W.Frag) (C : Addr) : Prop where
  pg : PySem.W.plainGet K C Str.empty = true
  hd : PySem.W.hasDictIn K C = true
  po : PySem.W.plainOver K C = true
  sa : PySem.W.findIn K (.ref C) "__setattr__" = some (some (.builtin "object.__setattr__"))
theorem Cls.get {K : PySem.W.Frag} {C : Addr} (c : Cls K C) (f : Str) : PySem.W.plainGet K C f = true := c.pg
section
variable {X : Cx} {pins : List (Addr × Obj)} {σ : St} {H : Hp} {s : Shared} {a C dx : Addr} {fs : List (Str × V)} {f : Str} {v : V} {A : Around} {E : Value → Shared → Prop}
theorem Inv.made (I : Inv X pins σ H s) : Inv X pins σ (upd (upd H s.heap.objs.size (.own (s.heap.objs.size + 1))) (s.heap.objs.size + 1) (.ins C s.heap.objs.size []))
    { s with heap := (s.heap.push PySem.W.emptyDict).push (PySem.W.instObj C s.heap.objs.size) } := by
  have e1 : (s.heap.push PySem.W.emptyDict).get? s.heap.objs.size = some PySem.W.emptyDict := Heap.get?_push_size s.heap rfl
  have e2 : ((s.heap.push PySem.W.emptyDict).push (PySem.W.instObj C s.heap.objs.size)).get? (s.heap.objs.size + 1) = some (PySem.W.instObj C s.heap.objs.size) := by
    have := Heap.get?_push_size (s.heap.push PySem.W.emptyDict) (o := PySem.W.instObj C s.heap.objs.size) rfl
    rwa [Heap.size_push] at this
  have e3 : (s.heap.push PySem.W.emptyDict).Ns s.heap.objs.size (fun _ => none) := ⟨PySem.W.emptyDict, #[], _, e1, rfl, (fun e he => absurd he (by simp)), fun _ => rfl⟩
  have I1 := I.laid (a := s.heap.objs.size) (o := .own (s.heap.objs.size + 1)) (h' := s.heap.push PySem.W.emptyDict) (t' := s.toks) (fun b u q => Heap.get?_push_of_some _ q) (Nat.le_refl _) ⟨_, e1⟩
  refine I1.laid (a := s.heap.objs.size + 1) (o := .ins C s.heap.objs.size []) (t' := s.toks) (fun b u q => Heap.get?_push_of_some _ q) (Nat.le_of_eq (Heap.size_push _ _)) ?_
  have ne : s.heap.objs.size ≠ s.heap.objs.size + 1 := Nat.ne_of_lt (Nat.lt_succ_self _)
  refine ⟨by rw [upd_ne ne, upd_same], Nat.zero_le _, ne, e2, fun _ => none, (Heap.Ns1.of_empty e3).at fun o q => Heap.get?_push_of_some _ q, fun _ => True.intro, fun y hy => absurd rfl hy⟩
end
section
variable {X : Cx} {o e value : Expr} {f : Str} {pos pos' tpos : Pos} {ta tv : TE}
end
section
variable {X : Cx} {pins : List (Addr × Obj)} {σ : St} {H : Hp} {s : Shared} {A : Around} {E : Value → Shared → Prop} {Q : Value → Shared → Prop} {c : Value} {b : Bool}
inductive TyOf (K : PySem.W.Frag) (H : Hp) : V → Value → Prop where
  | non : TyOf K H .non (.type "NoneType")
  | bl (x : Bool) : TyOf K H (.bl x) (.type "bool")
  | int (i : Int) : TyOf K H (.int i) (.type "int")
  | str (x : Str) : TyOf K H (.str x) (.type "str")
  | flt (x : UInt64) : TyOf K H (.flt x) (.type "float")
  | lst {a : Addr} {xs : List V} (e : H a = some (.lst xs)) : TyOf K H (.ref a) (.type "list")
  | frz {a : Addr} {o : Obj} {xs : List V} (e : H a = some (.frz o (.lst xs))) : TyOf K H (.ref a) (.type "list")
  | tup {a : Addr} {xs : List V} (e : H a = some (.tup xs)) : TyOf K H (.ref a) (.type "tuple")
  | dK {a : Addr} {kvs : List (Key × V)} (e : H a = some (.dK kvs)) : TyOf K H (.ref a) (.type "dict")
  | dT {a : Addr} {kvs : List (List Key × V)} (e : H a = some (.dT kvs)) : TyOf K H (.ref a) (.type "dict")
  | ins {a C dx : Addr} {fs : List (Str × V)} (e : H a = some (.ins C dx fs)) (cl : Cls K C) (ha : PySem.W.findIn K (.ref C) "__class__" = some (some (.builtin "object.__class__")))
      (hn : PySem.W.specialIn K (.builtin "object.__class__") "__get__" = some (some (.builtin "getset_descriptor.__get__"))) (htk : PySem.W.takesIn K (.builtin "object.__class__") = some true)
      (hm : PySem.W.mroIn K C (.type "object") = some true) : TyOf K H (.ref a) (.ref C)
end
end L2
namespace L2
open PySem PySem.Spec PyProof.Rows
structure Room (k : Nat) (A : Around) : Prop where
  hd : A.handled = none
  dp : A.depth + 3 * k + 5 < recursionLimit
  un : A.units + 16 * k + 200 < cLine
theorem Room.mono {j k : Nat} {A : Around} (r : Room k A) (h : j ≤ k) : Room j A := ⟨r.hd, by have := r.dp; omega, by have := r.un; omega⟩
theorem Room.deeper {k : Nat} {A : Around} (r : Room (k + 1) A) (env : Env) : Room k (A.deeper env) :=
  ⟨r.hd, by have := r.dp; show A.depth + 1 + 3 * k + 5 < _; omega, by have := r.un; show A.units + 3 + 16 * k + 200 < _; omega⟩
theorem Room.in1 {k : Nat} {A : Around} (r : Room (k + 1) A) : Room k A.in1 :=
  ⟨r.hd, by have := r.dp; show A.depth + 3 * k + 5 < _; omega, by have := r.un; show A.units + 1 + 16 * k + 200 < _; omega⟩
theorem Room.depth {k : Nat} {A : Around} (r : Room k A) : A.depth < recursionLimit := by have := r.dp; omega
theorem Room.units {k : Nat} {A : Around} (r : Room k A) : A.units + 64 < cLine := by have := r.un; omega
def tNil : TA := fun _ H Q => Q [] H
def tCons (ta : TE) (tr : TA) : TA := fun σ H Q => ta σ H fun x H1 => tr σ H1 fun xs H2 => Q (x :: xs) H2
section
variable {X : Cx} {e : Expr} {es : List Expr} {te : TE} {t : TA} {pos : Pos}
theorem pa_nil : PA X [] tNil := fun _ _ _ _ H Q I h => Calls.spliced_nil ⟨[], H, I, .nil, h⟩
theorem pa_cons (ha : PE X e te) (hr : PA X es t) (hs : starEach (e :: es) X.env = (false, eval e X.env) :: starEach es X.env := by rfl) : PA X (e :: es) (tCons te t) := by
  intro pos pins s σ H Q I h
  rw [hs]
  show wpAny _ _ (spliced ((false, eval e X.env) :: backTo pos (starEach es X.env))) _ _ s
  refine Calls.spliced_cons (thn (ha pins s σ H _ I h) fun u s1 ⟨x, H1, I1, r1, q1⟩ => ?_)
  exact thn (hr pos pins s1 σ H1 _ I1 q1) fun us s2 ⟨xs, H2, I2, r2, q2⟩ => ⟨x :: xs, H2, I2, .cons r1 r2, q2⟩
def tTup (t : TA) : TE := fun σ H Q => t σ H fun xs H1 => xs.length ≤ sizeLine ∧ ∀ p, H1 p = none → Q (.ref p) (upd H1 p (.tup xs))
def tLst (t : TA) : TE := fun σ H Q => t σ H fun xs H1 => xs.length ≤ sizeLine ∧ ∀ p, H1 p = none → Q (.ref p) (upd H1 p (.lst xs))
theorem pe_tup {x1} (h : PA X es t) : PE X (.Tuple es x1 pos) (tTup t) := by
  intro pins s σ H Q I hq
  refine wpAny_Tuple_spliced (thn (h pos pins s σ H _ I hq) fun us s1 ⟨xs, H1, I1, r, z, q⟩ => ⟨by rw [← r.length]; exact z, ?_⟩)
  have hf : H1 s1.heap.objs.size = none := I1.hok.fresh (Nat.le_refl _)
  refine ⟨.ref s1.heap.objs.size, upd H1 s1.heap.objs.size (.tup xs), I1.laid (t' := s1.toks) (fun b u e => Heap.get?_push_of_some _ e) (Nat.le_refl _) ?_, rfl, q _ hf⟩
  exact ⟨z, us, r, ⟨_, Heap.get?_push_size _ rfl, rfl, _, rfl⟩⟩
theorem pe_lst (h : PA X es t) : PE X (.List es pos) (tLst t) := by
  intro pins s σ H Q I hq
  refine wpAny_List_spliced (thn (h pos pins s σ H _ I hq) fun us s1 ⟨xs, H1, I1, r, z, q⟩ => ⟨by rw [← r.length]; exact z, ?_⟩)
  have hf : H1 s1.heap.objs.size = none := I1.hok.fresh (Nat.le_refl _)
  refine ⟨.ref s1.heap.objs.size, upd H1 s1.heap.objs.size (.lst xs), I1.laid (t' := s1.toks) (fun b u e => Heap.get?_push_of_some _ e) (Nat.le_refl _) ?_, rfl, q _ hf⟩
  exact ⟨z, us, 0, r, Heap.get?_push_size _ rfl⟩
end
abbrev Sp := List V → Hp → VK → XK → Prop
abbrev CXT := List Env → Hp → Shared → XK → Value → Shared → Prop
structure Env0 (P : Program) (w : World) (K : PySem.W.Frag) (mg : Str → Option Value) (base : Heap) (A : Around) (outer : List Env) (s : Shared) (H : Hp) : Prop where
  frames : A.frames = some outer
  mod : Mod K mg base
  bs : ∀ b o, base.get? b = some o → s.heap.get? b = some o ∧ H b = none
  bsz : base.objs.size ≤ s.heap.objs.size
  funs : s.heap.FunFrames base outer
  frf : ∀ b ∈ frs outer, H b = none
  hok : HOk P w H s.heap
  bare : AllBare s.gens
def CE (outer : List Env) (P : Program) (w : World) (H : Hp) (s : Shared) (Q : VK) (u : Value) (s' : Shared) : Prop :=
  ∃ v H', s'.os = s.os ∧ AllBare s'.gens ∧ Un (frs outer) [] H H' s.heap s'.heap ∧ HOk P w H' s'.heap ∧ RelV v u ∧ Q v H'
def CR (CX : CXT) (outer : List Env) (P : Program) (w : World) (H : Hp) (s : Shared) (Q : VK) (E : XK) (r : Result) (s' : Shared) : Prop :=
  match r with
  | .ok (.ret u) => CE outer P w H s Q u s'
  | .ok _ => False
  | .error e => CX outer H s E e s'
structure FnOk (P : Program) (w : World) (K : PySem.W.Frag) (mg : Str → Option Value) (base : Heap) (CX : CXT) (k : Nat) (f : Addr) (fd : FuncData) (ps : List Str) (sp : Sp) : Prop where
  len : ∀ vs H Q E, sp vs H Q E → vs.length = ps.length
  run : ∀ (A : Around) (outer : List Env) (s : Shared) (H : Hp) (args : Args) (us : List Value) (vs : List V) (Q : VK) (E : XK), Room k A → Env0 P w K mg base A outer s H → BindsTo s fd args (ps.zip us) → Vals vs us → sp vs H Q E →
    codeAny (model P w) A (.call (.ref f) args) (CR CX outer P w H s Q E) s
theorem FnOk.mono {P : Program} {w : World} {K : PySem.W.Frag} {mg : Str → Option Value} {base : Heap} {CX : CXT} {j k : Nat} {f : Addr} {fd : FuncData} {ps : List Str} {sp : Sp} (F : FnOk P w K mg base CX j f fd ps sp) (h : j ≤ k) :
    FnOk P w K mg base CX k f fd ps sp := ⟨F.len, fun A outer s H args us vs Q E hr => F.run A outer s H args us vs Q E (hr.mono h)⟩
theorem FnOk.imp {P : Program} {w : World} {K : PySem.W.Frag} {mg : Str → Option Value} {base : Heap} {CX : CXT} {k : Nat} {f : Addr} {fd : FuncData} {ps : List Str} {sp sp' : Sp} (F : FnOk P w K mg base CX k f fd ps sp)
    (h : ∀ vs H Q E, sp' vs H Q E → sp vs H Q E) : FnOk P w K mg base CX k f fd ps sp' :=
  ⟨fun vs H Q E q => F.len vs H Q E (h _ _ _ _ q), fun A outer s H args us vs Q E hr he hb hv hs => F.run A outer s H args us vs Q E hr he hb hv (h _ _ _ _ hs)⟩
theorem Env0.in1 {P : Program} {w : World} {K : PySem.W.Frag} {mg : Str → Option Value} {base : Heap} {A : Around} {outer : List Env} {s : Shared} {H : Hp} (e : Env0 P w K mg base A outer s H) :
    Env0 P w K mg base A.in1 outer s H := ⟨e.frames, e.mod, e.bs, e.bsz, e.funs, e.frf, e.hok, e.bare⟩
section
variable {X : Cx} {pins : List (Addr × Obj)} {σ : St} {H : Hp} {s s' : Shared}
theorem Inv.env0 (I : Inv X pins σ H s) : Env0 X.prog X.w X.K X.mg X.base X.A X.stack s H :=
  ⟨I.ok.frames, I.ok.mod, I.bs, Nat.le_trans I.ok.bsz I.sz, I.stack, I.stkFree, I.hok, I.bare⟩
theorem Inv.after {Q : VK} {u : Value} (I : Inv X pins σ H s) (h : CE X.stack X.prog X.w H s Q u s') : EP X pins σ Q u s' := by
  obtain ⟨v, H', os, bare, un, hok, r, q⟩ := h
  obtain ⟨hh, g, d, t, os'⟩ := s'
  obtain rfl : os' = s.os := os
  exact ⟨v, H', I.call (h' := hh) (g' := g) (d' := d) (t' := t) (ch := []) un hok bare (fun b z => absurd z (by simp)), r, q⟩
end
def tCall (sp : Sp) (dvs : List V) (E : XK) (t : TA) : TE := fun σ H Q => t σ H fun vs H1 => sp (vs ++ dvs) H1 Q E
def Binds (K : PySem.W.Frag) (fd : FuncData) (ps : List Str) (ds : List Value) : Prop :=
  ∀ (s : Shared) (us : List Value), K.In s.heap → (us ++ ds).length = ps.length → BindsTo s fd ⟨us, []⟩ (ps.zip (us ++ ds))
theorem Binds.all {K : PySem.W.Frag} {fd : FuncData} {ps : List Str} (h : ∀ us : List Value, us.length = ps.length → bindArgs fd ⟨us, []⟩ = pure (ps.zip us)) : Binds K fd ps [] := fun s us _ hl => by
  rw [List.append_nil] at hl ⊢
  exact .of_eq (h us hl)
def Passes (CX : CXT) (X : Cx) (E : XK) : Prop := ∀ (pins : List (Addr × Obj)) (σ : St) (H : Hp) (s : Shared) (e : Value) (s' : Shared), Inv X pins σ H s → CX X.stack H s E e s' → X.xe e s'
section
variable {X : Cx} {CX : CXT} {k : Nat} {f C : Addr} {fd : FuncData} {ps : List Str} {sp : Sp} {dvs : List V} {ds : List Value} {E : XK} {x m : Str} {p pos apos : Pos} {e o : Expr} {es : List Expr} {ta : TE} {t : TA}
theorem run_fn {pins : List (Addr × Obj)} {σ : St} {H : Hp} {s : Shared} {Q : VK} {us : List Value} {vs : List V} (F : FnOk X.prog X.w X.K X.mg X.base CX k f fd ps sp) (hr : Room k X.A) (hb : Binds X.K fd ps ds) (hd : Vals dvs ds) (hx : Passes CX X E)
    (I : Inv X pins σ H s) (r : Vals vs us) (h : sp (vs ++ dvs) H Q E) : wpAny (model X.prog X.w) X.A (call (.ref f) us) (EP X pins σ Q) X.xe s := by
  have r2 : Vals (vs ++ dvs) (us ++ ds) := r.append hd
  have hl : (us ++ ds).length = ps.length := by rw [← r2.length]; exact F.len _ _ _ _ h
  refine wpAny_call (codeAny_mono (F.run X.A X.stack s H ⟨us, []⟩ (us ++ ds) (vs ++ dvs) Q E hr I.env0 (hb s us I.kIn hl) r2 h) fun r s' hq => ?_)
  cases r with
  | error e => exact hx pins σ H s e s' I hq
  | ok fl =>
    cases fl with
    | ret u => exact I.after hq
    | next => exact False.elim hq
    | brk => exact False.elim hq
    | cont => exact False.elim hq
theorem pe_call (F : FnOk X.prog X.w X.K X.mg X.base CX k f fd ps sp) (hr : Room k X.A) (hg : Gl X x) (hm : X.mg x = some (.ref f)) (hk : PySem.W.keepIn X.K (.ref f) = true) (hb : Binds X.K fd ps ds) (hd : Vals dvs ds) (hx : Passes CX X E)
    (ha : PA X (e :: es) t) (hdb : (x == ("__debug__" : Str)) = false := by decide) (he : starEach (e :: es) X.env = (false, eval e X.env) :: starEach es X.env := by rfl) (hpl : (backTo pos (starEach es X.env)).any (·.1) = false := by rfl) :
    PE X (.Call (.Name x p) (e :: es) [] pos) (tCall sp dvs E t) := by
  intro pins s σ H Q I h
  refine wpAny_Call_Name_kw (ld_glob I hg hm ?_ hdb)
  refine PySem.W.callWith_K (h₀ := X.base) I.ok.mod.kin hk (thn (ha pos pins s σ H _ I h) fun us s1 ⟨vs, H1, I1, r, q⟩ => ⟨I1.kIn, ?_⟩) he hpl
  exact run_fn F hr hb hd hx I1 r q
end
section
variable {X : Cx} {CX : CXT} {k : Nat} {f C : Addr} {fd : FuncData} {ps ks : List Str} {sp : Sp} {E : XK} {x m : Str} {p pos apos kpos : Pos} {e o : Expr} {es : List Expr} {kws : List Keyword} {te ta : TE} {t tk : TA} {nm : Option Str}
variable {g : List Value → List Value → List Value} {gV : List V → List V → List V}
end
structure FnScope (N P : List Str) (sc : Scope) : Prop where
  kind : sc.kind = .function
  co : sc.isCoroutine = false
  gen : sc.isGenerator = false
  nd : N.Nodup
  pre : N.take P.length = P
  par : ∀ x ∈ P, sc.names.lookup x = some .local ∨ sc.names.lookup x = some .cell
  nofree : ∀ y ∈ sc.names, y.2 ≠ .free
theorem bindL_out {kindOf : Str → Option NameKind} {x : Str} : ∀ {binds : List (Str × Value)} {m : Str → Option Value}, (∀ v, (x, v) ∉ binds) → bindL kindOf binds m x = m x
  | [], _, _ => rfl
  | (n, v) :: r, m, h => by
    unfold bindL
    rw [bindL_out fun w hw => h w (List.mem_cons_of_mem _ hw)]
    split
    · have : x ≠ n := by rintro rfl; exact h v List.mem_cons_self
      simp [this]
    · rfl
theorem bindC_out {kindOf : Str → Option NameKind} {x : Str} : ∀ {binds : List (Str × Value)} {m : Str → Option Value}, (∀ v, (x, v) ∉ binds) → bindC kindOf binds m x = m x
  | [], _, _ => rfl
  | (n, v) :: r, m, h => by
    unfold bindC
    rw [bindC_out fun w hw => h w (List.mem_cons_of_mem _ hw)]
    split
    · rfl
    · have : x ≠ n := by rintro rfl; exact h v List.mem_cons_self
      simp [this]
theorem bindL_get {kindOf : Str → Option NameKind} {x : Str} {v : Value} : ∀ {P : List Str} {vs : List Value} {i : Nat} {m : Str → Option Value}, P.Nodup → P[i]? = some x → vs[i]? = some v → kindOf x = some .local →
    bindL kindOf (P.zip vs) m x = some v
  | [], _, _, _, _, h, _, _ => by simp at h
  | _ :: _, [], _, _, _, _, h, _ => by simp at h
  | p :: P, w :: vs, 0, m, nd, h1, h2, hk => by
    simp at h1 h2; subst h1; subst h2
    show bindL kindOf ((p, w) :: P.zip vs) m p = _
    unfold bindL
    rw [bindL_out fun v hv => (List.nodup_cons.mp nd).1 (List.of_mem_zip hv).1, if_pos hk]
    simp
  | p :: P, w :: vs, i + 1, m, nd, h1, h2, hk => by
    show bindL kindOf ((p, w) :: P.zip vs) m x = _
    unfold bindL
    exact bindL_get (i := i) (List.nodup_cons.mp nd).2 (by simpa using h1) (by simpa using h2) hk
theorem bindC_get {kindOf : Str → Option NameKind} {x : Str} {v : Value} : ∀ {P : List Str} {vs : List Value} {i : Nat} {m : Str → Option Value}, P.Nodup → P[i]? = some x → vs[i]? = some v → kindOf x ≠ some .local →
    bindC kindOf (P.zip vs) m x = some v
  | [], _, _, _, _, h, _, _ => by simp at h
  | _ :: _, [], _, _, _, _, h, _ => by simp at h
  | p :: P, w :: vs, 0, m, nd, h1, h2, hk => by
    simp at h1 h2; subst h1; subst h2
    show bindC kindOf ((p, w) :: P.zip vs) m p = _
    unfold bindC
    rw [bindC_out fun v hv => (List.nodup_cons.mp nd).1 (List.of_mem_zip hv).1, if_neg hk]
    simp
  | p :: P, w :: vs, i + 1, m, nd, h1, h2, hk => by
    show bindC kindOf ((p, w) :: P.zip vs) m x = _
    unfold bindC
    exact bindC_get (i := i) (List.nodup_cons.mp nd).2 (by simpa using h1) (by simpa using h2) hk
def start (N : List Str) (vs : List V) : St := vs.map some ++ List.replicate (N.length - vs.length) none
def cxOf (CX : CXT) (P : Program) (w : World) (K : PySem.W.Frag) (mg : Str → Option Value) (base : Heap) (N : List Str) (qual : Str) (scope : Scope) (f : Addr) (cd : Value) (A : Around) (outer : List Env) (s : Shared) (H : Hp) (E : XK) : Cx where
  prog := P
  w := w
  K := K
  mg := mg
  base := base
  A := A.deeper (envOfC qual scope s.heap.objs.size f cd)
  N := N
  s₀ := s
  H₀ := H
  env := envOfC qual scope s.heap.objs.size f cd
  outer := outer
  stack := envOfC qual scope s.heap.objs.size f cd :: outer
  ex := []
  calm := true
  fn := fun _ => true
  pn := []
  xe := fun e s' => wpAny (model P w) (A.deeper (envOfC qual scope s.heap.objs.size f cd)) (leaving (envOfC qual scope s.heap.objs.size f cd) e) (fun _ s'' => CX outer H s E e s'') (fun e' s'' => CX outer H s E e' s'') s'
theorem cell_has {sc : Scope} {n : Nat} {x : Str} (h : sc.names.lookup x = some .cell) : ∃ c, (cellsFrom n sc.names []).lookup x = some c := by
  have q := PySem.W.cellsFrom_some sc.names n [] (.inl h)
  exact Option.isSome_iff_exists.mp q
theorem inv_start {CX : CXT} {P : Program} {w : World} {K : PySem.W.Frag} {mg : Str → Option Value} {base : Heap} {N ps : List Str} {qual : Str} {scope : Scope} {f : Addr} {cd : Value} {A : Around} {outer : List Env} {s s1 : Shared} {H : Hp} {E : XK} {us : List Value} {vs : List V}
    (S : FnScope N ps scope) (hd : A.handled = none) (e0 : Env0 P w K mg base A outer s H) (hl : vs.length = ps.length) (r : Vals vs us)
    (x : InCallC s s.heap.objs.size (bindL (envOfC qual scope s.heap.objs.size f cd).kindOf (ps.zip us) fun _ => none) (cellsFrom (s.heap.objs.size + 1) scope.names []) (bindC (envOfC qual scope s.heap.objs.size f cd).kindOf (ps.zip us) fun _ => none) s1) :
    Inv (cxOf CX P w K mg base N qual scope f cd A outer s H E) [] (start N vs) H s1 := by
  have hpl : ps.length ≤ N.length := by have := congrArg List.length S.pre; rw [List.length_take] at this; omega
  obtain ⟨h1, tk, rfl, hk⟩ := x.done
  have noA : ∀ b : Addr, b ∉ (cxOf CX P w K mg base N qual scope f cd A outer s H E).ex := fun b z => absurd (show b ∈ ([] : List Addr) from z) (by simp)
  refine ⟨⟨e0.mod, S.kind, rfl, rfl, Nat.le_refl _, fun y z c h1 h2 => ?_, fun y hy => ?_, fun y c _ h => ?_, fun _ => hd, Around.frames_deeper e0.frames, .inr ⟨rfl, rfl⟩, fun b z => absurd z (noA b), e0.bs, e0.bsz, fun b _ _ => noA b, fun b z => absurd z (noA b), e0.funs, e0.frf⟩,
    rfl, e0.bare, Un.kept hk, ⟨_, x.toInCall.ns, fun i y v h1 h2 h3 => ?_⟩, fun y c h => ⟨_, x.cell y c h⟩, e0.hok.fresh (Nat.le_refl _), fun y c h => ?_, fun p hp => absurd (show p ∈ ([] : List (Addr × Obj)) from hp) (by simp), e0.hok.kept hk, ?_⟩
  · exact name_of_addr x.apart (PySem.mem_of_lookup h1) (PySem.mem_of_lookup h2)
  · have hy : scope.names.lookup y = some .cell ∨ scope.names.lookup y = some .free := hy
    rcases hy with hy | hy
    · exact cell_has hy
    · exact absurd rfl (S.nofree _ (PySem.mem_of_lookup hy))
  · exact Nat.le_of_lt (x.above y c (PySem.mem_of_lookup h))
  · have hi : i < vs.length := by
      unfold start at h2
      by_cases hi : i < vs.length
      · exact hi
      · rw [List.getElem?_append_right (by simpa using hi)] at h2
        rw [List.getElem?_replicate] at h2
        split at h2 <;> cases h2
    have ha : vs[i]? = some v := by
      unfold start at h2
      rw [List.getElem?_append_left (by simpa using hi), List.getElem?_map] at h2
      cases e : vs[i]? with
      | none => rw [e] at h2; cases h2
      | some a => rw [e] at h2; cases h2; rfl
    obtain ⟨u, hu, rv⟩ := r.get ha
    have hp : ps[i]? = some y := by
      rw [← S.pre, List.getElem?_take_of_lt (by omega)]; exact h1
    have ndP : ps.Nodup := by rw [← S.pre]; exact S.nd.sublist (List.take_sublist _ _)
    refine ⟨u, rv, ?_⟩
    rcases S.par y (List.mem_of_getElem? hp) with k | k
    · exact .inl ⟨k, bindL_get ndP hp hu k⟩
    · obtain ⟨c, e⟩ := cell_has (n := s.heap.objs.size + 1) k
      refine .inr ⟨.inl k, c, e, ?_⟩
      have q := x.cell y c e
      rw [bindC_get ndP hp hu (by show scope.names.lookup y ≠ _; rw [k]; decide)] at q
      exact q
  · exact e0.hok.fresh (Nat.le_of_lt (x.above y c (PySem.mem_of_lookup h)))
  · unfold start
    show _ = N.length
    rw [List.length_append, List.length_map, List.length_replicate]
    omega
theorem fn_of {CX : CXT} {P : Program} {w : World} {K : PySem.W.Frag} {mg : Str → Option Value} {base : Heap} {k : Nat} {f : Addr} {name qual : Str} {params : Arguments} {body : List Stmt} {scope : Scope} {dV kV doc pm cdv ct oc : Value} {an od : Option Addr}
    {osl : Array (Option Value)} {N ps : List Str} {sp : Sp} (lk : K.lookup f = some ⟨oc, od, .func (PySem.W.fnOf name qual params body scope dV kV doc pm an cdv ct), osl⟩) (hcd : PySem.W.codeIn K cdv qual = true) (S : FnScope N ps scope)
    (len : ∀ vs H Q E, sp vs H Q E → vs.length = ps.length)
    (hbody : ∀ (A : Around) (outer : List Env) (s : Shared) (H : Hp) (vs : List V) (Q : VK) (E : XK), Room k (A.deeper (envOfC qual scope s.heap.objs.size f cdv)) → sp vs H Q E →
      ∃ t, PSs (cxOf CX P w K mg base N qual scope f cdv A outer s H E) body t ∧ t { nx := fun _ H' => Q .non H', rt := Q } (start N vs) H) :
    FnOk P w K mg base CX (k + 1) f (PySem.W.fnOf name qual params body scope dV kV doc pm an cdv ct) ps sp := by
  refine ⟨len, fun A outer s H args us vs Q E hr e0 hb r hsp => ?_⟩
  have hl := len _ _ _ _ hsp
  have KX : K.In s.heap := e0.mod.kin.keeps fun b o e => (e0.bs b o e).1
  have lim : s.heap.NoLimit := e0.mod.nolimit.keeps fun b o e => (e0.bs b o e).1
  have hkind : ∀ y ∈ ps.zip us, scope.names.lookup y.1 = some .local ∨ (scope.names.lookup y.1 = some .cell ∧ ((cellsFrom (s.heap.objs.size + 1) scope.names []).lookup y.1).isSome = true) := fun ⟨n, v⟩ hy => by
    rcases S.par n (List.of_mem_zip hy).1 with q | q
    · exact .inl q
    · exact .inr ⟨q, PySem.W.cellsFrom_some _ _ _ (.inl q)⟩
  refine codeAny_call_function hr.depth (KX _ _ lk) rfl S.co S.gen rfl (PySem.W.codeRec_of KX hcd) (hb _ _ _ _ ?_)
  refine wpAny_newFunctionEnv_cells S.kind hkind fun env he s1 x => ?_
  subst he
  refine ⟨lim.keeps x.toInCall.keep, codeAny_func ?_⟩
  obtain ⟨t, ht, hq⟩ := hbody A outer s H vs Q E (hr.deeper _) hsp
  have I : Inv (cxOf CX P w K mg base N qual scope f cdv A outer s H E) [] (start N vs) H s1 := inv_start S hr.hd e0 hl r x
  refine wpAny_mono (ht [] s1 (start N vs) H _ I hq) (fun fl s' hs => ?_) fun e s' hs => hs
  have fin : ∀ {σ' : St} {H' : Hp} {v : V} {u : Value}, Inv (cxOf CX P w K mg base N qual scope f cdv A outer s H E) [] σ' H' s' → RelV v u → Q v H' → CE outer P w H s Q u s' :=
    fun {σ' H' v u} J rv q => ⟨v, H', J.os, J.bare, J.base, J.hok, rv, q⟩
  cases fl with
  | ret u =>
    obtain ⟨v, σ', H', J, rv, q⟩ := hs
    exact fin J rv q
  | next =>
    obtain ⟨σ', H', J, q⟩ := hs
    exact fin (v := V.non) (u := Value.none) J rfl q
  | brk =>
    obtain ⟨_, _, _, q⟩ := hs
    exact False.elim q
  | cont =>
    obtain ⟨_, _, _, q⟩ := hs
    exact False.elim q
end L2
namespace L2
open PySem PySem.Spec PyProof.Rows
section
variable {X : Cx} {x : Str} {p pos : Pos} {e : Expr} {es : List Expr} {t : TA} {id T : String} {r : List V → Hp → VK → Prop}
def tCB (r : List V → Hp → VK → Prop) (t : TA) : TE := fun σ H Q => t σ H fun vs H1 => r vs H1 Q
theorem pe_callB (hc : CallR X (.builtin id) r) (hg : Gl X x) (hm : X.mg x = none) (hv : bootBuiltins x = some (.builtin id)) (ha : PA X (e :: es) t) (hn : x ≠ "__name__" := by decide) (hdb : (x == ("__debug__" : Str)) = false := by decide)
    (he : starEach (e :: es) X.env = (false, eval e X.env) :: starEach es X.env := by rfl) (hpl : (backTo pos (starEach es X.env)).any (·.1) = false := by rfl) : PE X (.Call (.Name x p) (e :: es) [] pos) (tCB r t) := by
  intro pins s σ H Q I h
  refine wpAny_Call_Name_kw (ld_blt I hg hm hv ?_ hn hdb)
  exact PyProof.Rows.callWith_builtin1 (thn (ha pos pins s σ H _ I h) fun us s1 ⟨vs, H1, I1, r1, q1⟩ => hc pins s1 σ H1 vs us Q I1 r1 q1) he hpl
theorem pe_callTy (hc : CallR X (.type T) r) (hg : Gl X x) (hm : X.mg x = none) (hv : bootBuiltins x = some (.type T)) (ha : PA X (e :: es) t) (hn : x ≠ "__name__" := by decide) (hdb : (x == ("__debug__" : Str)) = false := by decide)
    (he : starEach (e :: es) X.env = (false, eval e X.env) :: starEach es X.env := by rfl) (hpl : (backTo pos (starEach es X.env)).any (·.1) = false := by rfl) : PE X (.Call (.Name x p) (e :: es) [] pos) (tCB r t) := by
  intro pins s σ H Q I h
  refine wpAny_Call_Name_kw (ld_blt I hg hm hv ?_ hn hdb)
  exact PyProof.Rows.callWith_type1 (thn (ha pos pins s σ H _ I h) fun us s1 ⟨vs, H1, I1, r1, q1⟩ => hc pins s1 σ H1 vs us Q I1 r1 q1) he hpl
end
end L2
namespace HT
open PySem PyProof.Rows
section
open PySem.SeqAt
open PySem.AutoSeq1 (wpAny_loadPart')
open PySem.MeetsSeq PySem.MeetsSeq2 PySem.MeetsSeq3
end
section
variable {prog : Program} {w : World} {A : Around} {E : Value → Shared → Prop} {s : Shared}
end
end HT
namespace L2
open PySem PySem.Spec PyProof.Rows
abbrev TO := St → Hp → (Option Int → Hp → Prop) → Prop
def PO (X : Cx) (e : Option Expr) (t : TO) : Prop :=
  ∀ (pins : List (Addr × Obj)) (s : Shared) (σ : St) (H : Hp) (Q : Option Int → Hp → Prop), Inv X pins σ H s → t σ H Q →
    wpAny (model X.prog X.w) X.A (evalPart e X.env) (fun u s' => ∃ o H', Inv X pins σ H' s' ∧ IsPart u o ∧ Q o H') X.xe s
def tNoPart : TO := fun _ H Q => Q none H
def tPart (t : TE) : TO := fun σ H Q => t σ H fun x H1 => ∃ i, x = .int i ∧ Q (some i) H1
section
variable {X : Cx} {e : Expr} {te : TE} {lo hi : Option Expr} {tl th : TO} {pos p2 : Pos}
theorem po_none : PO X none tNoPart := by
  intro pins s σ H Q I h
  rw [evalPart_none]
  exact wpAny_pure ⟨none, H, I, .none, h⟩
theorem po_some (h : PE X e te) : PO X (some e) (tPart te) := by
  intro pins s σ H Q I hw
  rw [evalPart_some]
  refine thn (h pins s σ H _ I hw) fun u s1 ⟨x, H1, I1, r1, q1⟩ => ?_
  obtain ⟨i, rfl, q⟩ := q1
  obtain ⟨t, rfl⟩ := r1
  exact ⟨some i, H1, I1, .int i t, q⟩
def SlR (X : Cx) (r : V → Option Int → Option Int → Hp → VK → Prop) : Prop :=
  ∀ (pins : List (Addr × Obj)) (s : Shared) (σ : St) (H : Hp) (x : V) (v vl vu : Value) (lo hi : Option Int) (sl : Addr) (Q : VK), Inv X pins σ H s → RelV x v → s.heap.IsSliceOf sl vl vu .none → IsPart vl lo → IsPart vu hi → r x lo hi H Q →
    ∃ T id, typeLookup (.type T) "__getitem__" = pure (some (.builtin id)) ∧ s.TypeIs v T ∧ wpAny (model X.prog X.w) X.A (getItem v (.ref sl)) (EP X pins σ Q) X.xe s
def tSl (r : V → Option Int → Option Int → Hp → VK → Prop) (te : TE) (tl th : TO) : TE := fun σ H Q => te σ H fun x H1 => tl σ H1 fun l H2 => th σ H2 fun u H3 => r x l u H3 Q
theorem pe_slice {r : V → Option Int → Option Int → Hp → VK → Prop} (hr : SlR X r) (he : PE X e te) (hl : PO X lo tl) (hu : PO X hi th) : PE X (.Subscript e (.Slice lo hi none p2) pos) (tSl r te tl th) := by
  intro pins s σ H Q I h
  refine Subscript_ (thn (he pins s σ H _ I h) fun v s1 ⟨x, H1, I1, r1, q1⟩ => ?_)
  refine wpAny_Slice (thn (hl pins s1 σ H1 _ I1 q1) fun vl s2 ⟨l, H2, I2, pl, q2⟩ => thn (hu pins s2 σ H2 _ I2 q2) fun vu s3 ⟨u, H3, I3, pu, q3⟩ => ?_)
  rw [evalPart_none]
  refine wpAny_pure ?_
  have I4 : Inv X pins σ H3 { s3 with heap := s3.heap.push { cls := .type "slice", data := .fields #[vl, vu, .none] } } := I3.kept (t' := s3.toks) fun b ob q => Heap.get?_push_of_some _ q
  obtain ⟨T, id, hT, ht, hg⟩ := hr pins { s3 with heap := s3.heap.push { cls := .type "slice", data := .fields #[vl, vu, .none] } } σ H3 x v vl vu l u s3.heap.objs.size Q I4 r1 (Heap.IsSliceOf.new ..) pl pu q3
  show wpAny (model X.prog X.w) X.A (subscriptTail e (.Slice lo hi none p2) v (.ref s3.heap.objs.size)) (EP X pins σ Q) X.xe { s3 with heap := s3.heap.push { cls := .type "slice", data := .fields #[vl, vu, .none] } }
  exact tail_any (ops := [.ref s3.heap.objs.size, v]) ht hT hg (by with_unfolding_all rfl)
end
end L2
namespace L2
open PySem PySem.Spec PyProof.Rows
def ixN (n : Nat) (i : Int) : Option Nat := if 0 ≤ i then (if i < n then some i.toNat else none) else if -(n : Int) ≤ i then some (i + n).toNat else none
def atI {α : Type} (xs : List α) (i : Int) : Option α := (ixN xs.length i).bind fun j => xs[j]?
theorem ixN_seq {n : Nat} {i : Int} {j : Nat} (h : ixN n i = some j) : seqIndex? i n = some j ∧ j < n ∧ -(n : Int) ≤ i ∧ i < n := by
  unfold ixN at h
  by_cases h0 : 0 ≤ i
  · rw [if_pos h0] at h
    by_cases h1 : i < n
    · rw [if_pos h1] at h
      have e : i.toNat = j := Option.some.inj h
      exact ⟨by rw [seqIndex_of h0 h1, e], by omega, by omega, h1⟩
    · rw [if_neg h1] at h; cases h
  · rw [if_neg h0] at h
    by_cases h1 : -(n : Int) ≤ i
    · rw [if_pos h1] at h
      have e : (i + n).toNat = j := Option.some.inj h
      exact ⟨by rw [seqIndex_neg (by omega) h1, e], by omega, h1, by omega⟩
    · rw [if_neg h1] at h; cases h
theorem atI_get {α : Type} {xs : List α} {i : Int} {v : α} (h : atI xs i = some v) : ∃ j, seqIndex? i xs.length = some j ∧ xs[j]? = some v ∧ j < xs.length ∧ -(xs.length : Int) ≤ i ∧ i < xs.length := by
  unfold atI at h
  cases e : ixN xs.length i with
  | none => rw [e] at h; cases h
  | some j =>
    rw [e] at h
    obtain ⟨h1, h2, h3, h4⟩ := ixN_seq e
    exact ⟨j, h1, h, h2, h3, h4⟩
theorem atI_nat {α : Type} {xs : List α} {j : Nat} {v : α} (h : xs[j]? = some v) : atI xs (j : Int) = some v := by
  have hj : j < xs.length := (List.getElem?_eq_some_iff.mp h).1
  have e : ixN xs.length (j : Int) = some j := by
    unfold ixN
    rw [if_pos (by omega), if_pos (by omega)]; simp
  unfold atI; rw [e]; exact h
def PlainIx (b : Expr) : Prop := ∀ o i, subscripted b false o i = operate [o, i] (getItem o i)
def IxR (X : Cx) (r : R2) : Prop :=
  ∀ (value slice : Expr) (pins : List (Addr × Obj)) (s : Shared) (σ : St) (H : Hp) (x y : V) (v u : Value) (Q : VK), Inv X pins σ H s → RelV x v → RelV y u → r x y H Q →
    subscripted slice false v u = operate [v, u] (getItem v u) → wpAny (model X.prog X.w) X.A (subscriptTail value slice v u) (EP X pins σ Q) X.xe s
def MtR (X : Cx) (id : String) (r : V → List V → Hp → VK → Prop) : Prop :=
  ∀ (pins : List (Addr × Obj)) (s : Shared) (σ : St) (H : Hp) (x : V) (xs : List V) (v : Value) (us : List Value) (Q : VK), Inv X pins σ H s → RelV x v → Vals xs us → r x xs H Q →
    wpAny (model X.prog X.w) X.A (call (.builtin id) (v :: us)) (EP X pins σ Q) X.xe s
section
variable {X : Cx} {a b : Expr} {ta tb : TE} {pos : Pos}
theorem pe_ix {r : R2} (hr : IxR X r) (ha : PE X a ta) (hb : PE X b tb) (hs : PlainIx b) : PE X (.Subscript a b pos) (tOp r ta tb) := by
  intro pins s σ H Q I h
  exact Subscript_ (binT ha hb I h fun v u s2 x y H2 I2 rx ry q => hr a b pins s2 σ H2 x y v u Q I2 rx ry q (hs _ _))
def rIxL (K : PySem.W.Frag) : R2 := fun x y H Q => ∃ p xs i v, x = .ref p ∧ y = .int i ∧ SqL K H p xs ∧ atI xs i = some v ∧ Q v H
def rIxT (K : PySem.W.Frag) : R2 := fun x y H Q => ∃ p xs i v, x = .ref p ∧ y = .int i ∧ SqT K H p xs ∧ atI xs i = some v ∧ Q v H
def rIxS : R2 := fun x y H Q => ∃ z i c, x = .str z ∧ y = .int i ∧ z.length ≤ sizeLine ∧ atI z.cps.toList i = some c ∧ Q (.str ⟨#[c]⟩) H
theorem ix_list : IxR X (rIxL X.K) := by
  intro value slice pins s σ H x y v u Q I rx ry h hs
  obtain ⟨p, xs, i, z, rfl, rfl, hq, he, q⟩ := h
  cases rx
  obtain ⟨t, rfl⟩ := ry
  obtain ⟨its, r, pl, hz⟩ := I.list hq
  obtain ⟨j, h1, h2, h3, h4, h5⟩ := atI_get he
  obtain ⟨w, ew, rw'⟩ := r.get h2
  have hl := r.length
  have hn := line63
  have fin : EP X pins σ Q w s := ⟨z, H, I, rw', q⟩
  by_cases h0 : 0 ≤ i
  · have hj : i.toNat = j := by
      rw [seqIndex_of h0 h5] at h1
      exact Option.some.inj h1
    exact item_listR pl.isList h0 (by omega) (by rw [hj]; simpa using ew) fin hs
  · have hj : (i + (its.toArray.size : Int)).toNat = j := by
      rw [seqIndex_neg (by omega) h4] at h1
      rw [List.size_toArray, ← hl]
      exact Option.some.inj h1
    exact subscriptTail_builtinR (x := w) pl.isList.typeIs slot_list_getitem.lookup
      (wpAny_getItem_list_neg (Q := fun r s' => r = w ∧ EP X pins σ Q r s') pl.isList (by omega) (by rw [List.size_toArray] <;> omega) (by omega) (by rw [hj]; simpa using ew) ⟨rfl, fin⟩) hs
theorem ix_tup : IxR X (rIxT X.K) := by
  intro value slice pins s σ H x y v u Q I rx ry h hs
  obtain ⟨p, xs, i, z, rfl, rfl, hq, he, q⟩ := h
  cases rx
  obtain ⟨t, rfl⟩ := ry
  obtain ⟨its, r, pl, hz⟩ := I.tuple hq
  obtain ⟨j, h1, h2, h3, h4, h5⟩ := atI_get he
  obtain ⟨w, ew, rw'⟩ := r.get h2
  have hl := r.length
  have hn := line63
  have fin : EP X pins σ Q w s := ⟨z, H, I, rw', q⟩
  exact subscriptTail_builtinR (x := w) pl.typeIs slot_tuple_getitem.lookup
    (getItem_tuple (j := j) (Q := fun r s' => r = w ∧ EP X pins σ Q r s') pl (by omega) (by omega) (by rw [List.size_toArray, ← hl]; exact h1) (by simpa using ew) ⟨rfl, fin⟩) hs
theorem ix_str : IxR X rIxS := by
  intro value slice pins s σ H x y v u Q I rx ry h hs
  obtain ⟨z, i, c, rfl, rfl, hz, he, q⟩ := h
  obtain ⟨t, rfl⟩ := rx
  obtain ⟨t', rfl⟩ := ry
  obtain ⟨j, h1, h2, h3, h4, h5⟩ := atI_get he
  have hl : z.cps.toList.length = z.length := by simp [Str.length]
  rw [hl] at h1 h4 h5
  have hn := line63
  exact tail_any (typeIs_str s z t) slot_str_getitem.lookup (getItem_str (c := c) (by
    have e1 : decide (i < -(2 ^ 63 : Int)) = false := decide_eq_false (by omega)
    have e2 : decide (i ≥ 2 ^ 63) = false := decide_eq_false (by omega)
    rw [e1, e2, Bool.or_false]) (by rw [h1]; simpa using h2) ⟨.str ⟨#[c]⟩, H, I.tok _, ⟨_, rfl⟩, q⟩) hs
theorem Inv.lst {pins : List (Addr × Obj)} {σ : St} {H : Hp} {s : Shared} {p : Addr} {xs : List V} (I : Inv X pins σ H s) (h : H p = some (.lst xs)) :
    ∃ (its : List Value) (n : Nat), Vals xs its ∧ s.heap.get? p = some { cls := .type "list", data := .seq its.toArray n } ∧ xs.length ≤ sizeLine := by
  obtain ⟨z, its, n, r, e⟩ := I.hok p _ h
  exact ⟨its, n, r, e, z⟩
def flatV : V → Bool
  | .non => true
  | .bl _ => true
  | .int _ => true
  | .str _ => true
  | _ => false
def eqV : V → V → Bool
  | .non, .non => true
  | .bl a, .bl b => a == b
  | .bl a, .int b => (if a then 1 else 0) == b
  | .int a, .bl b => a == (if b then 1 else 0)
  | .int a, .int b => a == b
  | .str a, .str b => a == b
  | _, _ => false
theorem eqAt_V {A : Around} {s : Shared} {y x : V} {u v : Value} (ry : RelV y u) (rx : RelV x v) (fy : flatV y = true) (fx : flatV x = true) : SeqAt.EqAt A s u v (eqV y x) := by
  cases y with
  | non =>
    cases ry
    cases x with
    | non => cases rx; exact SeqAt.EqAt.same _
    | bl b => cases rx; exact SeqAt.EqAt.none_bool b
    | int b => obtain ⟨t, rfl⟩ := rx; exact SeqAt.EqAt.none_int b t
    | str b => obtain ⟨t, rfl⟩ := rx; exact SeqAt.EqAt.none_str b t
    | _ => exact absurd (show false = true from fx) Bool.false_ne_true
  | bl a =>
    cases ry
    cases x with
    | non => cases rx; exact SeqAt.EqAt.bool_none a
    | bl b => cases rx; exact SeqAt.EqAt.bool_bool a b
    | int b => obtain ⟨t, rfl⟩ := rx; exact SeqAt.EqAt.bool_int a b t
    | str b => obtain ⟨t, rfl⟩ := rx; exact SeqAt.EqAt.bool_str a b t
    | _ => exact absurd (show false = true from fx) Bool.false_ne_true
  | int a =>
    obtain ⟨t', rfl⟩ := ry
    cases x with
    | non => cases rx; exact SeqAt.EqAt.int_none a t'
    | bl b => cases rx; exact SeqAt.EqAt.int_bool a t' b
    | int b => obtain ⟨t, rfl⟩ := rx; exact SeqAt.EqAt.int_int a t' b t
    | str b => obtain ⟨t, rfl⟩ := rx; exact SeqAt.EqAt.int_str a t' b t
    | _ => exact absurd (show false = true from fx) Bool.false_ne_true
  | str a =>
    obtain ⟨t', rfl⟩ := ry
    cases x with
    | non => cases rx; exact SeqAt.EqAt.str_none a t'
    | bl b => cases rx; exact SeqAt.EqAt.str_bool a t' b
    | int b => obtain ⟨t, rfl⟩ := rx; exact SeqAt.EqAt.str_int a t' b t
    | str b => obtain ⟨t, rfl⟩ := rx; exact SeqAt.EqAt.str_str a t' b t
    | _ => exact absurd (show false = true from fx) Bool.false_ne_true
  | _ => exact absurd (show false = true from fy) Bool.false_ne_true
theorem call_len_seq : CallR X (.builtin "len") (fun xs H Q => ∃ p ys, xs = [.ref p] ∧ (SqL X.K H p ys ∨ SqT X.K H p ys) ∧ Q (.int ys.length) H) := by
  intro pins s σ H xs us Q I r h
  obtain ⟨p, ys, rfl, hq, q⟩ := h
  obtain ⟨u, rfl, rx⟩ := vals1 r
  cases rx
  have hn := line63
  rcases hq with hq | hq
  · obtain ⟨its, r', pl, hz⟩ := I.list hq
    have hlen := r'.length
    exact Calls.call_len_list pl.isList (by simp only [List.size_toArray] <;> omega) ⟨.int ys.length, H, I.tok _, ⟨s.toks + 1, by rw [List.size_toArray, hlen]⟩, q⟩
  · obtain ⟨its, r', pl, hz⟩ := I.tuple hq
    have hlen := r'.length
    exact len_tuple pl (by simp only [List.size_toArray] <;> omega) ⟨.int ys.length, H, I.tok _, ⟨s.toks + 1, by rw [List.size_toArray, hlen]⟩, q⟩
theorem call_len_str : CallR X (.builtin "len") (fun xs H Q => ∃ z, xs = [.str z] ∧ z.length ≤ sizeLine ∧ Q (.int z.length) H) := by
  intro pins s σ H xs us Q I r h
  obtain ⟨z, rfl, hz, q⟩ := h
  obtain ⟨u, rfl, t, rfl⟩ := vals1 r
  have hn := line63
  exact len_str (by omega) ⟨.int z.length, H, I.tok _, ⟨_, rfl⟩, q⟩
def tyV (K : PySem.W.Frag) (T : String) (x : V) (H : Hp) : Prop := match x with
  | .str _ => T = "str"
  | .int _ => T = "int"
  | .ref p => (T = "list" ∧ ∃ xs, SqL K H p xs) ∨ (T = "tuple" ∧ ∃ o, K.lookup p = some o ∧ o.cls = .type "tuple" ∧ o.dict = none) ∨
      (T = "dict" ∧ ((∃ kvs, H p = some (.dK kvs)) ∨ ∃ kvs, H p = some (.dT kvs))) ∨ (T = "set" ∧ ∃ S n, H p = some (.set S n))
  | _ => False
theorem tyV_is {pins : List (Addr × Obj)} {σ : St} {H : Hp} {s : Shared} {T : String} {x : V} {v : Value} (I : Inv X pins σ H s) (r : RelV x v) (ty : tyV X.K T x H) :
    s.TypeIs v T ∧ ∀ a, v = .ref a → ∃ ob, s.heap.get? a = some ob ∧ ob.dict = none := by
  cases x with
  | str z =>
    obtain ⟨t, rfl⟩ := r
    cases (show T = "str" from ty)
    exact ⟨typeIs_str s z t, fun _ e => nomatch e⟩
  | int i =>
    obtain ⟨t, rfl⟩ := r
    cases (show T = "int" from ty)
    exact ⟨typeIs_int s i t, fun _ e => nomatch e⟩
  | ref p =>
    cases r
    rcases ty with ⟨rfl, xs, hq⟩ | ⟨rfl, o, hk, hc, hd⟩ | ⟨rfl, hk⟩ | ⟨rfl, S, n, hk⟩
    · obtain ⟨its, _, pl, _⟩ := I.list hq
      refine ⟨pl.isList.typeIs, fun a e => ?_⟩
      cases e
      obtain ⟨o, n, e, c, hd, _⟩ := pl
      exact ⟨o, e, hd⟩
    · refine ⟨⟨o, I.kIn p o hk, hc⟩, fun a e => ?_⟩
      cases e
      exact ⟨o, I.kIn _ o hk, hd⟩
    · have z : ∃ o, s.heap.get? p = some o ∧ o.ExactDict := by
        rcases hk with ⟨kvs, hk⟩ | ⟨kvs, hk⟩
        · obtain ⟨_, _, _, _, o, _, _, e, ex, _⟩ := I.hok p _ hk
          exact ⟨o, e, ex⟩
        · obtain ⟨_, _, _, _, o, _, _, e, ex, _⟩ := I.hok p _ hk
          exact ⟨o, e, ex⟩
      obtain ⟨o, e, ex⟩ := z
      refine ⟨⟨o, e, ex.1⟩, fun a e2 => ?_⟩
      cases e2
      exact ⟨o, e, ex.2.1⟩
    · obtain ⟨o, _, _, _, e, ex, _⟩ := I.hok p _ hk
      refine ⟨⟨o, e, ex.1⟩, fun a e2 => ?_⟩
      cases e2
      exact ⟨o, e, ex.2.1⟩
  | _ => exact False.elim ty
def tBM (K : PySem.W.Frag) (T : String) (r : V → List V → Hp → VK → Prop) (to : TE) (t : TA) : TE := fun σ H Q => to σ H fun x H1 => tyV K T x H1 ∧ t σ H1 fun xs H2 => r x xs H2 Q
variable {o e : Expr} {es : List Expr} {to : TE} {t : TA} {name : Str} {apos cpos : Pos} {T id : String} {r : V → List V → Hp → VK → Prop}
theorem pe_bm (pa : PlainAttrs T) (slot : Slot T name id) (hty : typeOf (.builtin id) = pure (.type "method_descriptor")) (hm : MtR X id r) (ho : PE X o to) (ha : PA X (e :: es) t)
    (hbase : attributeBase o name X.env (eval o X.env) = eval o X.env := by rfl)
    (hfew : ((backTo cpos (starEach (e :: es) X.env)).all (fun x => !x.1) && (backToKw cpos (keywordEach [] X.env)).all (fun x => x.1.isSome)
      && decide ((e :: es).length + ([] : List Keyword).length + (if ([] : List Keyword).isEmpty then 0 else 1) < 30)) = true := by rfl)
    (hline : (apos.endLine == cpos.line) = true := by rfl) (hs : starEach (e :: es) X.env = (false, eval e X.env) :: starEach es X.env := by rfl) (hplain : (backTo cpos (starEach es X.env)).any (·.1) = false := by rfl) :
    PE X (.Call (.Attribute o name apos) (e :: es) [] cpos) (tBM X.K T r to t) := by
  intro pins s σ H Q I h
  refine wpAny_Call_method_late hbase hfew hline rfl (thn (ho pins s σ H _ I h) fun v s1 ⟨x, H1, I1, r1, ty, q1⟩ => ?_)
  obtain ⟨h1, h2⟩ := tyV_is I1 r1 ty
  refine ⟨T, id, pa, slot, hty, h1, h2, ?_⟩
  have hA := ha cpos pins s1 σ H1 _ I1 q1
  rw [hs] at hA ⊢
  refine Calls.callWith_builtin (by show (false || (backTo cpos (starEach es X.env)).any (·.1)) = false; rw [hplain] <;> rfl) (Calls.evalArgs_plain ?_)
  exact thn hA fun us s2 ⟨vs, H2, I2, r2, q2⟩ => hm pins s2 σ H2 x vs v us Q I2 r1 r2 q2
end
end L2
namespace L2
open PySem PySem.Spec PyProof.Rows
def MtM (X : Cx) (id : String) (r : V → List V → Hp → VK → Prop) : Prop :=
  ∀ (pins : List (Addr × Obj)) (s : Shared) (σ : St) (H : Hp) (x : V) (xs : List V) (v : Value) (us : List Value) (Q : VK), Inv X pins σ H s → RelV x v → Vals xs us → r x xs H Q →
    wpAny (model X.prog X.w) X.A (call (.builtin id) (v :: us)) (EP X pins σ Q) X.xe s
theorem Vals.one : ∀ {x : V} {us : List Value}, Vals [x] us → ∃ u, us = [u] ∧ RelV x u
  | _, _, .cons r .nil => ⟨_, rfl, r⟩
theorem Vals.zero : ∀ {us : List Value}, Vals [] us → us = []
  | _, .nil => rfl
theorem Vals.dropLast {xs : List V} {us : List Value} (h : Vals xs us) : Vals xs.dropLast us.dropLast := by
  induction h with
  | nil => exact .nil
  | cons r t ih =>
    cases t with
    | nil => exact .nil
    | cons q t' => exact .cons r ih
section
variable {X : Cx} {pins : List (Addr × Obj)} {σ : St} {H : Hp} {s : Shared} {l b : Addr} {xs ys zs : List V}
theorem Inv.lset {its its' : List Value} {n : Nat} {f : Array Value → Array Value} {t' : Nat} (I : Inv X pins σ H s) (hH : H l = some (.lst xs))
    (e : s.heap.get? l = some { cls := .type "list", data := .seq its.toArray n }) (hf : f its.toArray = its'.toArray) (hv : Vals ys its') (hz : ys.length ≤ sizeLine) :
    Inv X pins σ (upd H l (.lst ys)) { s with heap := s.heap.update l (Obj.mapSeq f), toks := t' } := by
  have q := PySem.IsL.update e f
  rw [hf] at q
  refine I.write (x := l) (e := l) (by rw [hH]; exact trivial) (.inl rfl) (fun b' u hb hu => (Heap.get?_update_other s.heap (Obj.mapSeq f) (Ne.symm hb)).trans hu) ⟨_, q⟩ ?_
  exact ⟨hz, its', _, hv, q⟩
theorem Inv.lnew {its : List Value} {t' : Nat} (I : Inv X pins σ H s) (hv : Vals ys its) (hz : ys.length ≤ sizeLine) :
    Inv X pins σ (upd H s.heap.objs.size (.lst ys)) { s with heap := s.heap.push { cls := .type "list", data := .seq its.toArray }, toks := t' } :=
  I.laid (fun _ _ q => Heap.get?_push_of_some _ q) (Nat.le_refl _) ⟨hz, its, 0, hv, Heap.get?_push_size _ rfl⟩
theorem Inv.fresh (I : Inv X pins σ H s) : H s.heap.objs.size = none := I.hok.fresh (Nat.le_refl _)
theorem Inv.lstM (I : Inv X pins σ H s) (hH : H l = some (.lst xs)) : xs.length ≤ sizeLine ∧ ∃ (its : List Value) (n : Nat), Vals xs its ∧ xs.length = its.length ∧ s.heap.get? l = some { cls := .type "list", data := .seq its.toArray n } := by
  obtain ⟨z, its, n, r, e⟩ := I.hok l _ hH
  exact ⟨z, its, n, r, r.length, e⟩
end
section
variable {X : Cx}
def rAppend : V → List V → Hp → VK → Prop := fun x vs H Q => ∃ l xs y, x = .ref l ∧ vs = [y] ∧ H l = some (.lst xs) ∧ xs.length < sizeLine ∧ Q .non (upd H l (.lst (xs ++ [y])))
theorem mt_append : MtM X "list.append" rAppend := by
  intro pins s σ H x vs v us Q I rx rv h
  obtain ⟨l, xs, y, rfl, rfl, hH, hz, q⟩ := h
  cases rx
  obtain ⟨u, rfl, ru⟩ := rv.one
  obtain ⟨z, its, n, r, hl, e⟩ := I.lstM hH
  refine call_meets F.slot_list_append ⟨_, e, rfl⟩ F.entry_list_append (F.args_list_append_2 _ _) (PySem.list_append l its.toArray n u (by rw [List.size_toArray]; omega)) ⟨e, ?_⟩
  refine ⟨.non, _, I.lset (its' := its ++ [u]) hH e (by simp) (r.append (.cons ru .nil)) ?_, rfl, q⟩
  rw [List.length_append, List.length_singleton]
  omega
def rCat : R2 := fun x y H Q => ∃ l b xs zs, x = .ref l ∧ y = .ref b ∧ H l = some (.lst xs) ∧ H b = some (.lst zs) ∧ xs.length + zs.length ≤ sizeLine ∧ ∀ p, H p = none → Q (.ref p) (upd H p (.lst (xs ++ zs)))
theorem op_cat : OpR X (binaryOp .Add) rCat := by
  intro pins s σ H x y v u Q I rx ry h
  obtain ⟨l, b, xs, zs, rfl, rfl, hH, hB, hz, q⟩ := h
  cases rx
  cases ry
  obtain ⟨z, its, n, r, hl, e⟩ := I.lstM hH
  obtain ⟨z2, its2, n2, r2, hl2, e2⟩ := I.lstM hB
  refine PySem.P.add_list e e2 ?_ (by rw [List.size_toArray, List.size_toArray]; omega)
  have ea : its.toArray ++ its2.toArray = (its ++ its2).toArray := by simp
  rw [ea]
  exact ⟨.ref _, _, I.lnew (t' := s.toks) (r.append r2) (by rw [List.length_append]; omega), rfl, q _ I.fresh⟩
end
section
variable {prog : Program} {w : World} {A : Around} {E : Value → Shared → Prop} {s : Shared}
end
section
variable {X : Cx}
end
end L2
namespace Att
open PySem PySem.W PySem.Calls PyProof.Rows
theorem ints_of_wellAll {P : Params} {h : Heap} : ∀ (ns : List Int) (vs : List Value), WellAll P h vs (ns.map WData.int) → IntsAre vs ns := by
  intro ns
  induction ns with
  | nil =>
    intro vs w
    rw [List.map_nil] at w
    cases w
    exact .nil
  | cons n ns ih =>
    intro vs w
    rw [List.map_cons] at w
    cases w with
    | cons a b =>
      cases a
      exact .cons _ _ (ih _ b)
theorem script_of {l : OpenLaw} {n : Nat} (hn : l.most = some n) {P : Params} {h : Heap} {args : List WData} {vals : List Value}
    (hpre : l.row.toRowW.claim.pre args = true) (hwl : WellAll P h vals args) :
    ∃ a vs ns, vals = [Value.ref a] ∧ args = [WData.list (ns.map WData.int)] ∧ h.get? a = some { cls := .type "list", data := .seq vs.toArray } ∧ IntsAre vs ns ∧ ns.length ≤ n := by
  have hsh : WShape.hasAll [] args [.list .int] = true := (pre_splitW hpre).1
  have hc : l.pre.holds [] { args := args } = true := (pre_splitW hpre).2
  obtain ⟨d, r, rfl, h1, h2⟩ := hasAllW_cons hsh
  obtain rfl := hasAllW_nil h2
  obtain ⟨xs, rfl, h3⟩ := hasW_list h1
  obtain ⟨ns, rfl⟩ := items_int h3
  have hlen : ns.length ≤ n := by
    unfold OpenLaw.pre at hc
    have h4 : (WTm.not (.lt (.lit (.int (n : Int))) (.len (.arg 0)))).holds [] { args := [.list (ns.map .int)] } = true := by
      have h4 := (holds_andW hc).1
      rw [hn] at h4
      exact h4
    have h5 := condW_of h4 (w_not (w_lt w_lit (w_len_list (w_arg rfl))))
    rw [List.length_map] at h5
    refine Nat.le_of_not_lt fun q => ?_
    have q' : (n : Int) < ((ns.length : Nat) : Int) := by omega
    first
      | (rw [decide_eq_true q'] at h5; exact absurd h5 (by decide))
      | (simp at h5; omega)
  cases hwl with
  | cons w1 w2 =>
    cases w2
    cases w1 with
    | list ho hall => exact ⟨_, _, ns, rfl, rfl, ho, ints_of_wellAll ns _ hall, hlen⟩
theorem post_true (l : OpenLaw) (args : List WData) : l.row.toRowW.claim.post args (.bool true) args = true :=
  postW_of (r := l.row.toRowW) (X := (true == true))
    (show WShape.has [] (.bool true) .bool = true by first | rfl | decide | simp [WShape.has, WShape.arms, WShape.armsAll])
    (show (WTm.eq .res (.lit (.bool true))).value [] { args := args, res := some (.bool true), after := args } = some (.bool (true == true)) from w_eq_bool (w_res rfl) w_lit) rfl
section
variable {prog : Program} {w : World} {A : Around} {E : Value → Shared → Prop} {s : Shared} {K : Frag}
end
end Att
namespace L2
open PySem PySem.Spec PyProof.Rows
theorem vals_ints : ∀ {vs : List Value} {ns : List Int}, IntsAre vs ns → Vals (ns.map V.int) vs
  | _, _, .nil => .nil
  | _, _, .cons n t h => .cons ⟨t, rfl⟩ (vals_ints h)
def Only (H : Hp) : Prop := ∀ b, H b = none ∨ ∃ o xs, H b = some (.frz o (.lst xs))
theorem law_call {P : Program} {w : World} {K : PySem.W.Frag} {mg mb : Str → Option Value} {CX : CXT} {k : Nat} {fa a : Addr} {fd : FuncData} {x : Str} {sp : Sp} {s₁ : Shared} {vs : List Value} {ns : List Int}
    (KX : K.In s₁.heap) (hns : s₁.heap.Ns mainGlobals mg) (hb : s₁.heap.Ns builtinsNs mb) (hbb : ∀ x : Str, x ≠ "__name__" → mb x = bootBuiltins x) (hlim : s₁.heap.NoLimit) (hg : s₁.gens = #[])
    (ha : s₁.heap.get? a = some { cls := .type "list", data := .seq vs.toArray }) (hi : IntsAre vs ns) (hl : ns.length ≤ sizeLine) (hr : Room k callerA)
    (F : ∀ base : Heap, K.In base → base.Ns mainGlobals mg → FnOk P w K mg base CX k fa fd [x] sp) (hbind : ∀ (s : Shared) (u : Value), BindsTo s fd ⟨[u], []⟩ [(x, u)])
    (hsp : ∀ H : Hp, Only H → SqL K H a (ns.map V.int) → sp [.ref a] H (fun v _ => v = .bl true) fun _ _ _ => False)
    (hCX : ∀ H e s', CX [] H s₁ (fun _ _ _ => False) e s' → False) :
    codeAny (model P w) callerA (.call (.ref fa) ⟨[.ref a], []⟩) (fun r s' => r = .ok (.ret (.bool true)) ∧ OldK s₁.heap s'.heap ∧ s'.os = s₁.os ∧ AllBare s'.gens) s₁ := by
  have rv := vals_ints hi
  have lenV := hi.length
  -- from an abstract heap in which nothing but the script may be tracked
  have core : ∀ H : Hp, Only H → SqL K H a (ns.map V.int) → HOk P w H s₁.heap → (∀ b, H b ≠ none → b = a) → (H a ≠ none → K.lookup a = none) →
      codeAny (model P w) callerA (.call (.ref fa) ⟨[.ref a], []⟩) (fun r s' => r = .ok (.ret (.bool true)) ∧ OldK s₁.heap s'.heap ∧ s'.os = s₁.os ∧ AllBare s'.gens) s₁ := by
    intro H hO hS hok hA hK
    have base_of : ∀ {b : Addr} {o : Obj}, s₁.heap.get? b = some o → H b = none → (hidT s₁.heap H).get? b = some o := fun e n => hidT_get e n
    have noA : ∀ {b : Addr} {o : Obj} {es : Array DictEntry} {ep : Nat}, s₁.heap.get? b = some o → o.data = .dict es ep → H b = none := fun {b o es ep} e d => by
      cases q : H b with
      | none => rfl
      | some u =>
        have e' : b = a := hA b (by rw [q]; simp)
        subst e'
        rw [ha] at e; cases e
        have d' : Data.seq vs.toArray _ = Data.dict es ep := d
        cases d'
    have nsK : ∀ {b : Addr} {m : Str → Option Value}, s₁.heap.Ns b m → (hidT s₁.heap H).Ns b m := fun {b m} ⟨o, es, ep, e, d, r⟩ => ⟨o, es, ep, base_of e (noA e d), d, r⟩
    have hKb : K.In (hidT s₁.heap H) := fun b o e => base_of (KX b o e) (by
      cases q : H b with
      | none => rfl
      | some u =>
        have e' : b = a := hA b (by rw [q]; simp)
        subst e'
        rw [hK (by rw [q]; simp)] at e; cases e)
    have hM : Mod K mg (hidT s₁.heap H) := ⟨hKb, nsK hns, ⟨mb, nsK hb, hbb⟩, let ⟨mc, h1, h2⟩ := hlim; ⟨mc, nsK h1, h2⟩⟩
    have e0 : Env0 P w K mg (hidT s₁.heap H) callerA [] s₁ H := ⟨rfl, hM, fun b o e => of_hidT e, Nat.le_of_eq (hidT_size _ _), trivial, fun b hb => absurd (show b ∈ ([] : List Addr) from hb) (by simp), hok, .of_eq hg⟩
    refine codeAny_mono ((F _ hKb (nsK hns)).run callerA [] s₁ H ⟨[.ref a], []⟩ [.ref a] [.ref a] _ _ hr e0 (hbind s₁ (.ref a)) (.cons rfl .nil) (hsp H hO hS)) fun r s' h => ?_
    cases r with
    | error e => exact (hCX H e s' h).elim
    | ok fl =>
      cases fl with
      | next => exact False.elim h
      | brk => exact False.elim h
      | cont => exact False.elim h
      | ret u =>
        obtain ⟨v, H', os, bare, un, hok', r', q⟩ := h
        have q' : v = .bl true := q
        subst q'
        obtain rfl : u = Value.bool true := r'
        refine ⟨rfl, OldK.of_keep fun b o e => ?_, os, bare⟩
        cases q : H b with
        | none => exact un.keep b o e q (by intro z; exact absurd (show b ∈ ([] : List Addr) from z) (by simp)) (by simp)
        | some u =>
          rcases hO b with z | ⟨ob, xs, z⟩
          · rw [q] at z; cases z
          · have z2 := un.frzs b ob _ z
            obtain ⟨e1, _⟩ := hok b _ z
            obtain ⟨e2, _⟩ := hok' b _ z2
            rw [e] at e1; cases e1
            exact e2
  cases hk : K.lookup a with
  | some o =>
    -- the script is one of the module's own objects
    have e := KX a o hk
    rw [ha] at e
    cases e
    refine core (fun _ => none) (fun _ => .inl rfl) (.inr ⟨_, vs.toArray, _, hk, rfl, rfl, rfl, by rw [List.size_toArray, lenV]; exact hl, by simpa using rv⟩) (fun b u z => by have z' : (none : Option HO) = some u := z; cases z') (fun b z => absurd rfl z) fun z => absurd rfl z
  | none =>
    refine core (fun b => if b = a then some (.frz { cls := .type "list", data := .seq vs.toArray } (.lst (ns.map V.int))) else none) (fun b => ?_) (.inl (.inr ⟨{ cls := .type "list", data := .seq vs.toArray }, if_pos rfl⟩)) (fun b u z => ?_) (fun b z => ?_) fun _ => hk
    · by_cases hb : b = a
      · exact .inr ⟨_, _, if_pos hb⟩
      · exact .inl (if_neg hb)
    · by_cases hb : b = a
      · have z' := (if_pos hb).symm.trans z
        cases z'
        subst hb
        exact ⟨ha, by rw [List.length_map]; exact hl, vs, _, rv, ha⟩
      · have z' := (if_neg hb).symm.trans z
        cases z'
    · by_cases hb : b = a
      · exact hb
      · exact absurd (if_neg hb) z
end L2
namespace L2
open PySem PySem.Spec PyProof.Rows
end L2
namespace L2
open PySem PySem.Spec PyProof.Rows
def defArgs (s : Stmt) : Arguments := match s with
  | .FunctionDef _ a _ _ _ _ _ _ _ _ => a
  | _ => { posonlyargs := [], args := [], vararg := none, kwonlyargs := [], kw_defaults := [], kwarg := none, defaults := [] }
def defBody (s : Stmt) : List Stmt := match s with
  | .FunctionDef _ _ b _ _ _ _ _ _ _ => b
  | _ => []
def defScope (s : Stmt) : Scope := match s with
  | .FunctionDef _ _ _ _ _ _ sc _ _ _ => sc
  | _ => { kind := .function, names := [], isGenerator := false, isCoroutine := false }
abbrev CX0 : CXT := fun _ _ _ _ _ _ => False
abbrev E0 : XK := fun _ _ _ => False
structure Fun (K : PySem.W.Frag) (x qual : Str) (st : Stmt) (f : Addr) (fd : FuncData) : Prop where
  ex : ∃ (oc : Value) (od : Option Addr) (kV doc pm : Value) (an : Option Addr) (cdv ct : Value) (osl : Array (Option Value)),
    fd = PySem.W.fnOf x qual (defArgs st) (defBody st) (defScope st) .none kV doc pm an cdv ct ∧ K.lookup f = some ⟨oc, od, .func fd, osl⟩ ∧ PySem.W.codeIn K cdv qual = true
  kp : PySem.W.keepIn K (.ref f) = true
section
variable {P : Program} {w : World} {K : PySem.W.Frag} {mg : Str → Option Value} {base : Heap}
theorem Fun.ok {x qual : Str} {st : Stmt} {f : Addr} {fd : FuncData} {N ps : List Str} {k : Nat} {sp : Sp} (F : Fun K x qual st f fd) (S : FnScope N ps (defScope st)) (len : ∀ vs H Q E, sp vs H Q E → vs.length = ps.length)
    (hbody : ∀ (cdv : Value) (A : Around) (outer : List Env) (s : Shared) (H : Hp) (vs : List V) (Q : VK) (E : XK), Room k (A.deeper (envOfC qual (defScope st) s.heap.objs.size f cdv)) → sp vs H Q E →
      ∃ t, PSs (cxOf CX0 P w K mg base N qual (defScope st) f cdv A outer s H E).nox (defBody st) t ∧ t { nx := fun _ H' => Q .non H', rt := Q } (start N vs) H) : FnOk P w K mg base CX0 (k + 1) f fd ps sp := by
  obtain ⟨oc, od, kV, doc, pm, an, cdv, ct, osl, rfl, lk, hcd⟩ := F.ex
  refine fn_of lk hcd S len fun A outer s H vs Q E hr hsp => ?_
  obtain ⟨t, h, q⟩ := hbody cdv A outer s H vs Q E hr hsp
  exact ⟨t, h.nox, q⟩
theorem Fun.binds {x qual : Str} {st : Stmt} {f : Addr} {fd : FuncData} {ps : List Str} (F : Fun K x qual st f fd)
    (h : ∀ (kV doc pm : Value) (an : Option Addr) (cdv ct : Value) (us : List Value), us.length = ps.length → bindArgs (PySem.W.fnOf x qual (defArgs st) (defBody st) (defScope st) .none kV doc pm an cdv ct) ⟨us, []⟩ = pure (ps.zip us)) : Binds K fd ps [] := by
  obtain ⟨oc, od, kV, doc, pm, an, cdv, ct, osl, rfl, lk, hcd⟩ := F.ex
  exact .all (h kV doc pm an cdv ct)
theorem fun_mk {x qual : Str} {st : Stmt} {f : Addr} {oc : Value} {od an : Option Addr} {osl : Array (Option Value)} {kV doc pm cdv ct : Value} (l : K.lookup f = some ⟨oc, od, .func (PySem.W.fnOf x qual (defArgs st) (defBody st) (defScope st) .none kV doc pm an cdv ct), osl⟩)
    (c : PySem.W.codeIn K cdv qual = true) (k : PySem.W.keepIn K (.ref f) = true) : Fun K x qual st f (PySem.W.fnOf x qual (defArgs st) (defBody st) (defScope st) .none kV doc pm an cdv ct) := ⟨⟨oc, od, kV, doc, pm, an, cdv, ct, osl, rfl, l, c⟩, k⟩
end
theorem hu_of {A : Around} {k : Nat} (hr : Room k A) : A.units + 1 < cLine := Nat.lt_of_le_of_lt (Nat.add_le_add_left (by decide : 1 ≤ 64) _) hr.units
section
variable {X : Cx}
theorem pv (i : Nat) {x : Str} {pos : Pos} (hN : X.N[i]? = some x := by rfl) (hv : Vis X.env.scope x := by first | exact Or.inl rfl | exact Or.inr (Or.inl rfl) | exact Or.inr (Or.inr rfl)) (hd : (x == ("__debug__" : Str)) = false := by decide)
    (hcd : (x == ("__classdict__" : Str)) = false := by decide) : PE X (.Name x pos) (tVar i) := pe_var hN hv hd hcd
end
theorem iteF {A B : Prop} (h : B) : if false = true then A else B := by
  rw [if_neg Bool.false_ne_true]
  exact h
theorem iteT {A B : Prop} (h : A) : if true = true then A else B := by
  rw [if_pos rfl]
  exact h
theorem ite2 {c A B : Prop} [Decidable c] (h1 : c → A) (h2 : ¬ c → B) : if c then A else B := by
  by_cases h : c
  · rw [if_pos h]
    exact h1 h
  · rw [if_neg h]
    exact h2 h
def Same (H H' : Hp) : Prop := ∀ b o, H b = some o → H' b = some o
theorem Same.refl (H : Hp) : Same H H := fun _ _ h => h
theorem Same.trans {H H1 H2 : Hp} (a : Same H H1) (b : Same H1 H2) : Same H H2 := fun c o h => b c o (a c o h)
theorem Same.free {H H' : Hp} (e : Same H H') {l : Addr} (h : H' l = Option.none) : H l = Option.none := by
  cases q : H l with
  | none => rfl
  | some o =>
    rw [e l o q] at h
    cases h
theorem Same.seq {K : PySem.W.Frag} {H H' : Hp} {a : Addr} {xs : List V} (e : Same H H') (h : SqL K H a xs) : SqL K H' a xs := by
  rcases h with (h | ⟨o, h⟩) | h
  · exact .inl (.inl (e _ _ h))
  · exact .inl (.inr ⟨o, e _ _ h⟩)
  · exact .inr h
end L2
set_option Elab.async false
set_option linter.all false
set_option maxRecDepth 100000
set_option maxHeartbeats 4000000
namespace L2
open PySem PySem.Spec PyProof.Rows
theorem ObjOk.there {P : Program} {w : World} {H : Hp} {h : Heap} {a : Addr} {o : HO} (x : ObjOk P w H h a o) : ∃ ob, h.get? a = some ob := by
  cases o with
  | lst xs => obtain ⟨_, _, _, _, e⟩ := x; exact ⟨_, e⟩
  | tup xs => obtain ⟨_, _, _, p⟩ := x; obtain ⟨o, e, _⟩ := p; exact ⟨_, e⟩
  | dK kvs => obtain ⟨_, _, _, _, o, _, _, e, _⟩ := x; exact ⟨_, e⟩
  | dT kvs => obtain ⟨_, _, _, _, o, _, _, e, _⟩ := x; exact ⟨_, e⟩
  | set S n => obtain ⟨o, _, _, _, e, _⟩ := x; exact ⟨_, e⟩
  | ins C dx fs => obtain ⟨_, _, _, e, _⟩ := x; exact ⟨_, e⟩
  | own y => obtain ⟨_, e⟩ := x; exact ⟨_, e⟩
  | xd fs => obtain ⟨_, ⟨_, _, _, e, _⟩, _⟩ := x; exact ⟨_, e⟩
  | rng lo hi => obtain ⟨_, _, _, e⟩ := x; exact ⟨_, e⟩
  | frz ob u => obtain ⟨e, _⟩ := x; exact ⟨_, e⟩
  | tbl ps => exact ⟨_, (show h.get? a = some _ from x)⟩
  | met f y => exact ⟨_, (show h.get? a = some _ from x)⟩
  | ext φ => obtain ⟨_, ⟨_, e⟩, _⟩ := x; exact ⟨_, e⟩
def Imp (X : Cx) (pins : List (Addr × Obj)) (H : Hp) (b : Addr) : Prop := H b ≠ none ∨ (b ∉ X.ex ∧ ∃ o, X.s₀.heap.get? b = some o) ∨ ∃ p ∈ X.pn ++ pins, p.1 = b
def ctxV : Option Addr → Value
  | none => .none
  | some a => .ref a
def TrX (h B : Heap) (e : Addr) (cls : Value) (cx : Option Addr) (fl : Value) : Prop :=
  ∃ oe vs T oT ts, (h.get? e = some oe ∧ oe.cls = cls ∧ oe.data = .fields vs) ∧ (vs[1]? = some (.ref T) ∧ vs[2]? = some (ctxV cx)) ∧ (B.get? T = none ∧ T ≠ e) ∧ h.get? T = some oT ∧ oT.data = .fields ts ∧ ts[3]? = some fl
theorem ref_not_none (T : Addr) : (Value.ref T != Value.none) = true := by simp
inductive Ph where | new | fly | any
def XTr (B h : Heap) (a : Addr) (cls : Value) (cx : Option Addr) : Ph → Prop
  | .new => ∃ oe vs, h.get? a = some oe ∧ oe.cls = cls ∧ oe.data = .fields vs ∧ vs[1]? = some .none ∧ vs[2]? = some (ctxV cx)
  | .fly => TrX h B a cls cx .none
  | .any => ∃ fl, TrX h B a cls cx fl
theorem XTr.there {B h : Heap} {a : Addr} {cls : Value} {cx : Option Addr} {ph : Ph} (x : XTr B h a cls cx ph) : ∃ oe vs, h.get? a = some oe ∧ oe.cls = cls ∧ oe.data = .fields vs ∧ vs[2]? = some (ctxV cx) := by
  cases ph with
  | new => obtain ⟨oe, vs, h1, h2, h3, _, h4⟩ := x; exact ⟨oe, vs, h1, h2, h3, h4⟩
  | fly => obtain ⟨oe, vs, _, _, _, ⟨h1, h2, h3⟩, ⟨_, h4⟩, _⟩ := x; exact ⟨oe, vs, h1, h2, h3, h4⟩
  | any => obtain ⟨_, oe, vs, _, _, _, ⟨h1, h2, h3⟩, ⟨_, h4⟩, _⟩ := x; exact ⟨oe, vs, h1, h2, h3, h4⟩
section
variable {M : Model} {A : Around} {E : Value → Shared → Prop} {s : Shared}
def NoteX (B : Heap) (l : List Env) (e : Addr) (cls : Value) (cx : Option Addr) (fl : Value) (h h' : Heap) : Prop := B.StaysIn h' ∧ h'.FunFrames B l ∧ TrX h' B e cls cx fl ∧ h.UpToSlots h'
theorem entry_x {B : Heap} {env : Env} {outer : List Env} {L e : Addr} {oe : Obj} {vs : Array Value} {head : Value} {cx : Option Addr} {nx : Bool} {Q : Unit → Shared → Prop} (fr : A.frames = some (env :: outer)) (ff : s.heap.FunFrames B (env :: outer)) (hf : env.frame = some L)
    (ge : s.heap.get? e = some oe) (st : B.StaysIn s.heap) (be : B.get? e = none) (de : oe.data = .fields vs) (z1 : 1 < vs.size) (z2 : vs[2]? = some (ctxV cx)) (q : ∀ h', NoteX B (env :: outer) e oe.cls cx (rawInt L) s.heap h' → Q () { s with heap := h' }) :
    wpAny M A (do let a ← frameOf env; let pl ← entryPlaceOf L nx; let b ← EntryCells.newEntry head a .none (rawInt L) .none pl; setField (.ref e) 1 b) Q E s := by
  have nf : ∀ b o, s.heap.get? b = some o → (∀ ws, o.data ≠ .fields ws) → b ≠ e := fun b o gb nb zb => by subst zb; rw [ge] at gb; cases gb; exact nb vs de
  have out : e ∉ (env :: outer).filterMap (·.frame) := fun m => by obtain ⟨_, o, go, no⟩ := ff.mem m; exact nf e o go no rfl
  refine wpAny_bind (wpAny_frameOf_fun fr ff hf fun h1 only => wpAny_bind (wpAny_entryPlaceOf fun pl place => ?_))
  unfold EntryCells.newEntry newFields
  refine wpAny_bind (wpAny_newObj_type ?_ (place.sizeOk5 _ _ _ _ _))
  have ge1 : h1.get? e = some oe := (only.2.1 e out).trans ge
  have st1 : B.StaysIn h1 := fun b o gb => (only.2.1 b fun m => by have := (ff.mem m).1; rw [this] at gb; cases gb).trans (st b o gb)
  have ne1 : h1.objs.size ≠ e := fun z => absurd (Heap.lt_size ge1) (by rw [z]; exact Nat.lt_irrefl _)
  refine wpAny_setField (Heap.get?_push_of_some _ ge1) de z1 (q _ ?_)
  have far : ∀ {ob : Obj} {g : Obj → Obj} {b : Addr} {o : Obj}, b ≠ e → h1.get? b = some o → ((h1.push ob).update e g).get? b = some o := fun ne gb => (Heap.get?_update_other _ _ (Ne.symm ne)).trans (Heap.get?_push_of_some _ gb)
  refine ⟨fun b o gb => far (fun z => by rw [z, be] at gb; cases gb) (st1 b o gb), ff.of_keeps fun b o gb nb => ?_, ?_, fun b o gb nb => ?_⟩
  · obtain ⟨sl, g⟩ := only.2.2 b o gb; exact ⟨_, far (nf b o gb nb) g, rfl⟩
  · have dd := Obj.data_mapFields de (·.setIfInBounds 1 (Value.ref h1.objs.size))
    refine ⟨_, _, h1.objs.size, _, _, ⟨Heap.get?_update_self _ (Heap.get?_push_of_some _ ge1) (Obj.isFreed_of_fields dd), Obj.cls_mapFields _ _, dd⟩, ⟨by simp [z1], by rw [Array.getElem?_setIfInBounds_ne (by decide)]; exact z2⟩, ⟨st1.fresh, ne1⟩, (Heap.get?_update_other _ _ (Ne.symm ne1)).trans (Heap.get?_push_size h1 rfl), rfl, ?_⟩
    first | (simp; done) | (rcases place with rfl | ⟨_, _, _, _, _, _, _, rfl⟩ <;> simp)
  · obtain ⟨sl, g⟩ := only.2.2 b o gb; exact ⟨sl, far (nf b o gb nb) g⟩
theorem note_first {B : Heap} {env : Env} {outer : List Env} {L e : Addr} {oe : Obj} {vs : Array Value} {cx : Option Addr} {Q : Unit → Shared → Prop} (fr : A.frames = some (env :: outer)) (ff : s.heap.FunFrames B (env :: outer)) (hf : env.frame = some L)
    (ge : s.heap.get? e = some oe) (st : B.StaysIn s.heap) (be : B.get? e = none) (de : oe.data = .fields vs) (z1 : vs[1]? = some .none) (z2 : vs[2]? = some (ctxV cx)) (q : ∀ h', NoteX B (env :: outer) e oe.cls cx (rawInt L) s.heap h' → Q () { s with heap := h' }) : wpAny M A (noteFrame (.ref e) env) Q E s := by
  unfold noteFrame
  simp only [hf]
  refine wpAny_bind (wpAny_field ge de z1 ?_)
  rw [if_neg (by decide)]
  exact entry_x fr ff hf ge st be de (Array.getElem?_eq_some_iff.mp z1).1 z2 q
theorem note_on {B : Heap} {env : Env} {outer : List Env} {L e : Addr} {cls : Value} {cx : Option Addr} {Q : Unit → Shared → Prop} (fr : A.frames = some (env :: outer)) (ff : s.heap.FunFrames B (env :: outer)) (hf : env.frame = some L)
    {fl : Value} (t : TrX s.heap B e cls cx fl) (nl : ¬ (fl == rawInt L) = true) (st : B.StaysIn s.heap) (be : B.get? e = none) (q : ∀ h', NoteX B (env :: outer) e cls cx (rawInt L) s.heap h' → Q () { s with heap := h' }) : wpAny M A (noteFrame (.ref e) env) Q E s := by
  obtain ⟨oe, vs, T, oT, ts, ⟨ge, rfl, de⟩, ⟨z1, z2⟩, ⟨bT, nT⟩, gT, dT, z3⟩ := t
  unfold noteFrame
  simp only [hf]
  refine wpAny_bind (wpAny_field ge de z1 ?_)
  rw [if_pos (ref_not_none T)]
  refine wpAny_bind (wpAny_field gT dT z3 ?_)
  rw [if_neg nl]
  refine wpAny_bind (wpAny_setField gT dT (Array.getElem?_eq_some_iff.mp z3).1 ?_)
  have far : ∀ {g : Obj → Obj} b, b ≠ T → (s.heap.update T g).get? b = s.heap.get? b := fun b ne => Heap.get?_update_other _ _ (Ne.symm ne)
  have nf : ∀ b o, s.heap.get? b = some o → (∀ ws, o.data ≠ .fields ws) → b ≠ T := fun b o gb nb zb => by subst zb; rw [gT] at gb; cases gb; exact nb ts dT
  refine entry_x fr (ff.of_keeps fun b o gb nb => ⟨o, (far b (nf b o gb nb)).trans gb, rfl⟩) hf ((far e (Ne.symm nT)).trans ge) (fun b o gb => (far b fun z => by rw [z, bT] at gb; cases gb).trans (st b o gb)) be de (Array.getElem?_eq_some_iff.mp z1).1 z2 fun h' x => q h' ⟨x.1, x.2.1, x.2.2.1, fun b o gb nb => ?_⟩
  exact x.2.2.2 b o ((far b (nf b o gb nb)).trans gb) nb
theorem note_again {B : Heap} {env : Env} {L e : Addr} {cls : Value} {cx : Option Addr} {fl : Value} {Q : Unit → Shared → Prop} (hf : env.frame = some L) (t : TrX s.heap B e cls cx fl) (el : (fl == rawInt L) = true) (q : Q () s) : wpAny M A (noteFrame (.ref e) env) Q E s := by
  obtain ⟨oe, vs, T, oT, ts, ⟨ge, rfl, de⟩, ⟨z1, z2⟩, ⟨bT, nT⟩, gT, dT, z3⟩ := t
  unfold noteFrame
  simp only [hf]
  refine wpAny_bind (wpAny_field ge de z1 ?_)
  rw [if_pos (ref_not_none T)]
  refine wpAny_bind (wpAny_field gT dT z3 ?_)
  rw [if_pos el]
  exact wpAny_pure q
theorem flight_x {B : Heap} {l : List Env} {e : Addr} {cls fl : Value} {cx fr : Option Addr} {Q : Unit → Shared → Prop} (st : B.StaysIn s.heap) (ff : s.heap.FunFrames B l) (t : TrX s.heap B e cls cx fl)
    (q : ∀ h', NoteX B l e cls cx (fr.elim Value.none fun f => rawInt f) s.heap h' → Q () { s with heap := h' }) : wpAny M A (setFlight (.ref e) fr) Q E s := by
  obtain ⟨oe, vs, T, oT, ts, ⟨ge, rfl, de⟩, ⟨z1, z2⟩, ⟨bT, nT⟩, gT, dT, z3⟩ := t
  have z4 : 3 < ts.size := (Array.getElem?_eq_some_iff.mp z3).1
  have far : ∀ {g : Obj → Obj} b, b ≠ T → (s.heap.update T g).get? b = s.heap.get? b := fun b ne => Heap.get?_update_other _ _ (Ne.symm ne)
  have nf : ∀ b o, s.heap.get? b = some o → (∀ ws, o.data ≠ .fields ws) → b ≠ T := fun b o gb nb zb => by subst zb; rw [gT] at gb; cases gb; exact nb ts dT
  unfold setFlight
  refine wpAny_bind (wpAny_field ge de z1 ?_)
  rw [if_pos (ref_not_none T)]
  refine wpAny_setField gT dT z4 (q _ ⟨fun b o gb => (far b fun z => by rw [z, bT] at gb; cases gb).trans (st b o gb), ff.of_keeps fun b o gb nb => ⟨o, (far b (nf b o gb nb)).trans gb, rfl⟩, ?_, fun b o gb nb => ⟨o.slots, (far b (nf b o gb nb)).trans gb⟩⟩)
  have dd := Obj.data_mapFields dT (·.setIfInBounds 3 (fr.elim Value.none fun f => rawInt f))
  exact ⟨oe, vs, T, _, _, ⟨(far e (Ne.symm nT)).trans ge, rfl, de⟩, ⟨z1, z2⟩, ⟨bT, nT⟩, Heap.get?_update_self _ gT (Obj.isFreed_of_fields dd), dd, by simp [z4]⟩
end
structure XAt (X : Cx) (pins : List (Addr × Obj)) (H : Hp) (s : Shared) (a : Addr) (cls : Value) (cx : Option Addr) (B : Heap) (ph : Ph) : Prop where
  free : H a = none
  stays : B.StaysIn s.heap
  fresh : B.get? a = none
  frames : s.heap.FunFrames B X.stack
  cov : ∀ b o, s.heap.get? b = some o → Imp X pins H b → b ∉ frs X.stack → B.get? b = some o
  tr : XTr B s.heap a cls cx ph
section
variable {X : Cx} {pins : List (Addr × Obj)} {σ : St} {H : Hp} {s : Shared} {a : Addr} {cls : Value} {cx : Option Addr} {B h' : Heap} {ph : Ph}
theorem Imp.there (I : Inv X pins σ H s) {b : Addr} (i : Imp X pins H b) : ∃ o, s.heap.get? b = some o := by
  rcases i with i | ⟨hx, o, i⟩ | ⟨p, hp, e⟩
  · cases q : H b with
    | none => exact absurd q i
    | some u => exact (I.hok b u q).there
  · exact I.base.there b o i hx
  · exact ⟨p.2, by rw [← e]; exact (I.pin p hp).1⟩
theorem Inv.exc (I : Inv X pins σ H s) (cov : ∀ b o, s.heap.get? b = some o → Imp X pins H b → b ∉ frs X.stack → B.get? b = some o) (st : B.StaysIn h') (ups : s.heap.UpToSlots h') :
    Inv X pins σ H { s with heap := h' } := by
  have fr : ∀ b, b ∈ frs X.stack → ∀ o, s.heap.get? b = some o → ∃ sl, h'.get? b = some { o with slots := sl } := fun b hb o e => by
    obtain ⟨_, o', e', d⟩ := I.stack.mem hb
    rw [e] at e'; cases e'
    exact ups b o e d
  have nfr : ∀ b, b ∉ X.fs → b ≠ X.env.locals → b ∉ frs X.stack := fun b h1 h2 z => (List.mem_cons.mp (I.stkSub b z)).elim h2 h1
  have neL : ∀ b o, X.s₀.heap.get? b = some o → b ≠ X.env.locals := fun b o e => Nat.ne_of_lt (Nat.lt_of_lt_of_le (Heap.lt_size e) I.ok.above)
  have cellK : ∀ c v, s.heap.IsCell c v → h'.IsCell c v := fun c v ⟨o, ho, hd⟩ => by
    obtain ⟨sl, q⟩ := ups c o ho (fun vs z => by rw [hd] at z; cases z)
    exact ⟨_, q, hd⟩
  refine ⟨I.ok, I.os, I.bare, ⟨fun b o e n hb hx => ?_, fun b o e n hb hx => ?_, I.base.free, fun b o e hx => ?_, I.base.tups, I.base.frzs, I.base.tbls⟩, ?_, fun x c e => ?_, I.free, I.freeC, fun p hp => ?_, ?_, I.len⟩
  · exact st _ _ (cov b o (I.base.keep b o e n hb hx) (.inr (.inl ⟨hx, o, e⟩)) (nfr b hb (neL b o e)))
  · obtain ⟨sl, e1⟩ := I.base.slot b o e n hb hx
    have hb' : b ∈ frs X.stack := by
      rcases I.ok.stk with q | ⟨q, hf⟩
      · rw [q]; exact hb
      · rw [q]; unfold frs; rw [List.filterMap_cons, hf]; exact List.mem_cons_of_mem _ hb
    obtain ⟨sl', e2⟩ := fr b hb' _ e1
    exact ⟨sl', e2⟩
  · obtain ⟨o', e1⟩ := I.base.there b o e hx
    by_cases hb : b ∈ frs X.stack
    · obtain ⟨sl, q⟩ := fr b hb _ e1
      exact ⟨_, q⟩
    · exact ⟨o', st _ _ (cov b o' e1 (.inr (.inl ⟨hx, o, e⟩)) hb)⟩
  · obtain ⟨m, hn, hl⟩ := I.loc
    refine ⟨m, ups.ns hn, fun i x v e1 e2 e3 => ?_⟩
    obtain ⟨u, r, l⟩ := hl i x v e1 e2 e3
    refine ⟨u, r, ?_⟩
    rcases l with l | ⟨k, c, e, z⟩
    · exact .inl l
    · exact .inr ⟨k, c, e, cellK c _ z⟩
  · obtain ⟨v, z⟩ := I.cell x c e
    exact ⟨v, cellK c v z⟩
  · obtain ⟨e, n, ne, nf, d⟩ := I.pin p hp
    exact ⟨st _ _ (cov p.1 p.2 e (.inr (.inr ⟨p, hp, rfl⟩)) (nfr p.1 nf ne)), n, ne, nf, d⟩
  · intro b u e
    refine (I.hok b u e).stay (fun c v hc q => ?_) (fun _ q => q) fun _ _ q => q
    have hc' : H c ≠ none := by
      rcases hc with z | z
      · rw [z, e]; exact fun q => nomatch q
      · rw [z]; exact fun q => nomatch q
    exact st _ _ (cov c v q (.inl hc') fun z => hc' (I.stkFree c z))
theorem XAt.cov' (x : XAt X pins H s a cls cx B ph) (I : Inv X pins σ H s) (st : B.StaysIn h') : ∀ b o, h'.get? b = some o → Imp X pins H b → b ∉ frs X.stack → B.get? b = some o := fun b o e i n => by
  obtain ⟨o1, e1⟩ := i.there I
  have q := x.cov b o1 e1 i n
  have q2 := st _ _ q
  rw [e] at q2; cases q2
  exact q
variable {M : Model} {A : Around} {E : Value → Shared → Prop} {Q : Unit → Shared → Prop}
theorem note_env {e : Value} {env env0 : Env} (h : env0.frame = env.frame) : noteFrame e env = noteFrame e env0 := by
  unfold noteFrame PySem.frameOf
  rw [h]
theorem note_ok {env0 : Env} {out0 : List Env} {F : Addr} (hA : A.frames = some X.stack) (hs : X.stack = env0 :: out0) (h0 : env0.frame = X.env.frame) (hf : X.env.frame = some F) (I : Inv X pins σ H s) (x : XAt X pins H s a cls cx B ph)
    (hQ : ∀ h', Inv X pins σ H { s with heap := h' } → XAt X pins H { s with heap := h' } a cls cx B .any → Q () { s with heap := h' }) : wpAny M A (noteFrame (.ref a) X.env) Q E s := by
  have hfr : A.frames = some (env0 :: out0) := by rw [hA, hs]
  have hl : s.heap.FunFrames B (env0 :: out0) := by rw [← hs]; exact x.frames
  rw [note_env h0]
  have hf : env0.frame = some F := h0.trans hf
  have fin : ∀ {fl : Value} h', NoteX B (env0 :: out0) a cls cx fl s.heap h' → Q () { s with heap := h' } := fun h' ⟨k1, k2, k3, k4⟩ =>
    hQ h' (I.exc x.cov k1 k4) ⟨x.free, k1, x.fresh, by rw [hs]; exact k2, x.cov' I k1, _, k3⟩
  have on : ∀ fl, TrX s.heap B a cls cx fl → wpAny M A (noteFrame (.ref a) env0) Q E s := fun fl t => by
    by_cases z : (fl == rawInt F) = true
    · exact note_again hf t z (hQ s.heap I ⟨x.free, x.stays, x.fresh, x.frames, x.cov, fl, t⟩)
    · exact note_on hfr hl hf t z x.stays x.fresh fin
  cases ph with
  | new =>
    obtain ⟨oe, vs, he, hc, hd, h1, h2⟩ := x.tr
    refine note_first hfr hl hf he x.stays x.fresh hd h1 h2 fun h' hN => ?_
    rw [hc] at hN
    exact fin h' hN
  | fly => exact on _ x.tr
  | any => obtain ⟨fl, t⟩ := x.tr; exact on fl t
theorem land_ok (I : Inv X pins σ H s) (x : XAt X pins H s a cls cx B ph) (hn : ph ≠ .new)
    (hQ : ∀ h', Inv X pins σ H { s with heap := h' } → XAt X pins H { s with heap := h' } a cls cx B .fly → Q () { s with heap := h' }) : wpAny M A (setFlight (.ref a) none) Q E s := by
  have go : ∀ fl, TrX s.heap B a cls cx fl → wpAny M A (setFlight (.ref a) none) Q E s := fun fl ht =>
    flight_x x.stays x.frames ht fun h' ⟨k1, k2, k3, k4⟩ => hQ h' (I.exc x.cov k1 k4) ⟨x.free, k1, x.fresh, k2, x.cov' I k1, k3⟩
  cases ph with
  | new => exact absurd rfl hn
  | fly => exact go _ x.tr
  | any => obtain ⟨fl, t⟩ := x.tr; exact go fl t
end
def CXe (P : Program) (w : World) : CXT := fun outer H s E e s' =>
  ∃ (a : Addr) (cls : Value) (cx : Option Addr) (H' : Hp) (B : Heap), e = .ref a ∧ s'.os = s.os ∧ AllBare s'.gens ∧ Un (frs outer) [] H H' s.heap s'.heap ∧ HOk P w H' s'.heap ∧ B.StaysIn s'.heap ∧ B.get? a = none ∧ s'.heap.FunFrames B outer ∧
    TrX s'.heap B a cls cx .none ∧ H' a = none ∧ (∀ b o, s'.heap.get? b = some o → (H' b ≠ none ∨ ∃ o', s.heap.get? b = some o') → b ∉ frs outer → B.get? b = some o) ∧ E cls cx H'
def XAcc (X : Cx) (E : XK) : Prop := ∀ (pins : List (Addr × Obj)) (σ : St) (H : Hp) (s : Shared) (a : Addr) (cls : Value) (cx : Option Addr) (B : Heap) (ph : Ph), Inv X pins σ H s → XAt X pins H s a cls cx B ph → E cls cx H → X.xe (.ref a) s
theorem acc_def {P : Program} {w : World} {K : PySem.W.Frag} {mg : Str → Option Value} {base : Heap} {N : List Str} {qual : Str} {scope : Scope} {f : Addr} {cd : Value} {A : Around} {outer : List Env} {s : Shared} {H : Hp} {E : XK} :
    XAcc (cxOf (CXe P w) P w K mg base N qual scope f cd A outer s H E) E := by
  intro pins σ H1 s1 a cls cx B ph I x e
  show wpAny (model P w) (A.deeper (envOfC qual scope s.heap.objs.size f cd)) (leaving (envOfC qual scope s.heap.objs.size f cd) (.ref a)) _ _ s1
  unfold leaving
  refine wpAny_bind (note_ok (X := cxOf (CXe P w) P w K mg base N qual scope f cd A outer s H E) I.ok.frames rfl rfl rfl I x fun h1 I1 x1 => ?_)
  refine land_ok I1 x1 (fun z => nomatch z) fun h2 I2 x2 => ?_
  refine ⟨a, cls, cx, H1, B, rfl, I2.os, I2.bare, I2.base, I2.hok, x2.stays, x2.fresh, x2.frames.2.2, x2.tr, x2.free, fun b o e1 i n => ?_, e⟩
  have nl : b ≠ (envOfC qual scope s.heap.objs.size f cd).locals := fun z => by
    rcases i with i | ⟨o', i⟩
    · exact i (by rw [z]; exact I2.free)
    · have := Heap.lt_size i
      rw [z] at this
      exact absurd this (Nat.lt_irrefl _)
  refine x2.cov b o e1 (i.elim .inl fun z => .inr (.inl ⟨List.not_mem_nil, z⟩)) fun z => ?_
  rcases List.mem_cons.mp (I2.stkSub b z) with q | q
  · exact nl q
  · exact n q
theorem XAcc.passes {X : Cx} {E : XK} (acc : XAcc X E) : Passes (CXe X.prog X.w) X E := by
  intro pins σ H s e s' I h
  obtain ⟨a, cls, cx, H', B, rfl, os, bare, un, hok, st, fr, ff, tr, free, cov, hE⟩ := h
  have I' : Inv X pins σ H' s' := I.call' (ch := []) os un hok bare (fun b z => absurd z (by simp))
  refine acc pins σ H' s' a cls cx B .fly I' ⟨free, st, fr, ff, fun b o e i n => cov b o e ?_ n, tr⟩ hE
  rcases i with i | ⟨hx, o', i⟩ | ⟨p, hp, q⟩
  · exact .inl i
  · exact .inr (I.base.there b o' i hx)
  · exact .inr ⟨p.2, by rw [← q]; exact (I.pin p hp).1⟩
end L2
set_option Elab.async false
set_option linter.all false
set_option maxRecDepth 100000
set_option maxHeartbeats 4000000
namespace PySem.W
open PySem PySem.Spec PySem.Calls PyProof.Rows
structure ExcT (K : Frag) (C : Addr) : Prop where
  ga : findIn K (.ref C) "__getattribute__" = some (some (.builtin "BaseException.__getattribute__"))
  gt : findIn K (.ref C) "__getattr__" = some none
  cl : findIn K (.ref C) "__class__" = some (some (.builtin "object.__class__"))
  mo : mroIn K C (.type "object") = some true
  sb : subIn K (.ref C) (.type "BaseException") = some true
section
variable {prog : Program} {w : World} {A : Around} {E : Value → Shared → Prop} {h : Heap} {g : Array GenState} {d : Drawn} {t : Nat} {os : OsState} {K : Frag} {x C : Addr} {o : Obj} {R : Result → Shared → Prop}
theorem exc_class_get {tp : Value} (X : K.In h) (hx : h.get? x = some o) (hc : o.cls = .ref C) (hm : mroIn K C (.type "object") = some true)
    (q : R (.ok (.ret (.ref C))) ⟨h, g, d, t, os⟩) : codeAny (model prog w) A (.call (.builtin "getset_descriptor.__get__") ⟨[.builtin "object.__class__", .ref x, tp], []⟩) R ⟨h, g, d, t, os⟩ := by
  have L0 : Looks (model prog w) h (typeOf (.ref x)) (.ref C) := hc ▸ (Looks.ld hx).andThen .now
  have L1 := looks_mroIn (M := model prog w) X hm
  refine codeAny_call_builtin KF.slot_gs.plain KF.entry_gs (KF.slot_gs.check _ _ _ _ _ _ _ _ KF.type_class (KF.args_gs _ _ _) ?_)
  unfold Builtin.«getset_descriptor.__get__» Builtin.Getset_descriptor.descrGet
  rw [dga_obj]
  refine wpAny_bind (wpAny_pure ?_)
  unfold Builtin.Getset_descriptor.descrGetter Builtin.Getset_descriptor.descrCheckInstance Builtin.Getset_descriptor.descrNameAndClass isInstance
  simp only [KF.owner_class]
  repeat lk
  refine ⟨Code.quiet_builtin _ (by decide +kernel), codeAny_builtin KF.entry_class ?_⟩
  unfold Builtin.«object.__class__» shownTypeOf
  repeat lk
  exact q
theorem exc_class_entry {tk : Tok} {Q : Fin → Shared → Prop} (X : K.In h) (T : ExcT K C) (hx : h.get? x = some o) (hc : o.cls = .ref C) (q : Q (.done (.ret (.ref C))) ⟨h, g, d, t, os⟩) :
    wpAny (model prog w) A (Builtin.«object.__getattribute__» ⟨[.ref x, .str "__class__" tk], []⟩) Q E ⟨h, g, d, t, os⟩ := by
  have L0 : Looks (model prog w) h (typeOf (.ref x)) (.ref C) := hc ▸ (Looks.ld hx).andThen .now
  have L1 := looks_findIn (M := model prog w) X T.cl
  have hT5 : (⟨h, g, d, t, os⟩ : Shared).TypeIs (.builtin "object.__class__") "getset_descriptor" := F.typeOf_object_class
  have f5 := F.typeOf_object_class
  have f6 := F.slot_gs_get.lookup
  have f7 := F.slot_gs_set.lookup
  repeat (any_goals (first | assumption | (with_reducible refine L0.at ?_) | (with_reducible refine wpAny_bind (L0.at ?_)) | (with_reducible refine L1.at ?_) | (with_reducible refine wpAny_bind (L1.at ?_)) | wp_step))
  refine exc_class_get X hx hc T.mo ?_
  repeat (any_goals (first | assumption | wp_step))
theorem exc_check_ga {M : Model} {nameV : Value} {Q : Unit → Shared → Prop} (X : K.In h) (T : ExcT K C) (hx : h.get? x = some o) (hc : o.cls = .ref C) (hq : Q () ⟨h, g, d, t, os⟩) : wpAny M A (checkBuiltinCall "BaseException.__getattribute__" ⟨[.ref x, nameV], []⟩) Q E ⟨h, g, d, t, os⟩ := by
  have hk : builtinKind "BaseException.__getattribute__" = some .slot := by decide +kernel
  have hsplit : splitId "BaseException.__getattribute__" = some ("BaseException", "__getattribute__") := by decide +kernel
  have L0 : Looks M h (typeOf (.ref x)) (.ref C) := hc ▸ (Looks.ld hx).andThen .now
  have L1 := looks_subIn (M := M) X T.sb
  have L2 : Looks M h (isInstance (.ref x) (.type "BaseException")) true := L0.andThen L1
  have ha := F.args_bexc_ga (.ref x) nameV
  simp only [checkBuiltinCall, hk, hsplit]
  refine wpAny_bind (L2.at ?_)
  repeat (first | assumption | wp_step)
theorem exc_class_by {tk : Tok} {Q : Value → Shared → Prop} (X : K.In h) (T : ExcT K C) (hx : h.get? x = some o) (hc : o.cls = .ref C) (hq : Q (.ref C) ⟨h, g, d, t, os⟩) : wpAny (model prog w) A (getAttrBy (.ref x) (.str "__class__" tk) false) Q E ⟨h, g, d, t, os⟩ := by
  have L0 : Looks (model prog w) h (typeOf (.ref x)) (.ref C) := hc ▸ (Looks.ld hx).andThen .now
  have L1 := looks_findIn (M := model prog w) X T.ga
  have L2 := looks_findIn (M := model prog w) X T.gt
  have f3 := F.attr_ValueError.ga.bind (.ref x)
  have hx2 : (Value.builtin "BaseException.__getattribute__" == Value.builtin "object.__getattribute__") = false := by decide +kernel
  have hx1 : (onTheHeap (Value.ref C) && Value.builtin "BaseException.__getattribute__" == Value.builtin "object.__getattribute__") = false := by rw [hx2]; rfl
  repeat (any_goals (first | assumption | (with_reducible refine L0.at ?_) | (with_reducible refine wpAny_bind (L0.at ?_)) | (with_reducible refine L1.at ?_) | (with_reducible refine wpAny_bind (L1.at ?_)) | (with_reducible refine L2.at ?_) | (with_reducible refine wpAny_bind (L2.at ?_)) | wp_step))
  refine codeAny_call_builtin F.attr_ValueError.ga.plain F.entry_bexc_ga (exc_check_ga X T hx hc (exc_class_entry X T hx hc ?_))
  repeat (any_goals (first | assumption | wp_step))
theorem exc_class_attr {Q : Option Value → Shared → Prop} (X : K.In h) (T : ExcT K C) (hx : h.get? x = some o) (hc : o.cls = .ref C) (hq : Q (some (.ref C)) ⟨h, g, d, t + 1, os⟩) : wpAny (model prog w) A (getAttr? (.ref x) "__class__") Q E ⟨h, g, d, t, os⟩ := by
  unfold getAttr? getAttrBy?
  repeat (any_goals (first | assumption | with_reducible apply exc_class_by X T hx hc | wp_step))
end
def ExcAtC (x C : Addr) (h : Heap) : Prop := ∃ o vs, h.get? x = some o ∧ o.cls = .ref C ∧ o.data = .fields vs
theorem kitx_exc {K : Frag} {x C : Addr} (T : ExcT K C) : KitX K (.ref x) (.ref C) (ExcAtC x C) where
  ty := fun _ _ _ ⟨_, _, hx, hc, _⟩ => hc ▸ (Looks.ld hx).andThen .now
  it := fun M h X _ => by
    have hm := T.mo
    unfold mroIn at hm
    obtain ⟨cd, hcd⟩ : ∃ cd, clsIn K C = some cd := by
      cases q : clsIn K C with
      | none => rw [q] at hm; cases hm
      | some cd => exact ⟨cd, rfl⟩
    unfold clsIn at hcd
    split at hcd
    · rename_i c' d' cd' sl' ho
      intro A' Q' E' s' k q
      unfold isType loadHead
      exact wpAny_bind (wpAny_loadPart (k _ _ (X _ _ ho)) (wpAny_pure q))
    · cases hcd
  ne := fun h tp dd its n sl X htp => by
    have hm := T.mo
    unfold mroIn at hm
    obtain ⟨cd, hcd⟩ : ∃ cd, clsIn K C = some cd := by
      cases q : clsIn K C with
      | none => rw [q] at hm; cases hm
      | some cd => exact ⟨cd, rfl⟩
    refine Bool.eq_false_iff.mpr fun q => ?_
    have e : C = tp := Value.ref.inj (beq_iff_eq.mp q)
    subst e
    unfold clsIn at hcd
    split at hcd
    · rename_i c' d' cd' sl' ho
      have z := (X _ _ ho).symm.trans htp
      cases z
    · cases hcd
  ca := fun {_ _ _ _ _ s} X ⟨_, _, hx, hc, _⟩ k => by
    obtain ⟨h, g, d, t, os⟩ := s
    exact exc_class_attr X T hx hc k
end PySem.W
set_option Elab.async false
set_option linter.all false
set_option maxRecDepth 100000
set_option maxHeartbeats 4000000
namespace L2
open PySem PySem.Spec PyProof.Rows
abbrev TJ := St → Hp → Str → (Str → Hp → Prop) → Prop
def PJ (X : Cx) (es : List Expr) (t : TJ) : Prop :=
  ∀ (pins : List (Addr × Obj)) (s : Shared) (σ : St) (H : Hp) (acc : Str) (Q : VK), Inv X pins σ H s → t σ H acc (fun y H1 => Q (.str y) H1) → wpAny (model X.prog X.w) X.A (joinParts acc (evalEach es X.env)) (EP X pins σ Q) X.xe s
def tJNil : TJ := fun _ H acc Q => acc.length ≤ sizeLine ∧ Q acc H
def tJCons (te : TE) (tr : TJ) : TJ := fun σ H acc Q => te σ H fun x H1 => ∃ y, x = .str y ∧ (acc ++ y).length ≤ sizeLine ∧ tr σ H1 (acc ++ y) Q
section
variable {X : Cx} {e : Expr} {es : List Expr} {te : TE} {t : TJ} {pos : Pos}
theorem pj_nil : PJ X [] tJNil := fun pins s σ H acc Q I h => joinParts_nil ⟨.str acc, H, I.tok _, ⟨_, rfl⟩, h.2⟩ h.1
theorem pj_cons (he : PE X e te) (hr : PJ X es t) : PJ X (e :: es) (tJCons te t) := by
  intro pins s σ H acc Q I h
  refine joinParts_cons (thn (he pins s σ H _ I h) fun v s1 ⟨x, H1, I1, r1, q1⟩ => ?_)
  obtain ⟨y, rfl, z, q⟩ := q1
  obtain ⟨tk, rfl⟩ := r1
  exact ⟨z, hr pins s1 σ H1 _ Q I1 q⟩
def tJoin (t : TJ) : TE := fun σ H Q => t σ H Str.empty fun y H1 => Q (.str y) H1
theorem pe_joined {e2 : Expr} (h : PJ X (e :: e2 :: es) t) : PE X (.JoinedStr (e :: e2 :: es) pos) (tJoin t) := fun pins s σ H Q I hq => JoinedStr_many (h pins s σ H Str.empty Q I hq)
def tFmt (te : TE) : TE := fun σ H Q => te σ H fun x H1 => (∃ i : Int, x = .int i ∧ i.natAbs.log2 < 1920 ∧ Q (.str (toString i)) H1) ∨ ∃ y, x = .str y ∧ y.length ≤ sizeLine ∧ Q (.str y) H1
theorem pe_fmt (he : PE X e te) : PE X (.FormattedValue e (-1) none pos) (tFmt te) := by
  intro pins s σ H Q I h
  refine FormattedValue_plain (thn (he pins s σ H _ I h) fun v s1 ⟨x, H1, I1, r1, q1⟩ => ?_)
  rcases q1 with ⟨i, rfl, z, q⟩ | ⟨y, rfl, z, q⟩
  · obtain ⟨tk, rfl⟩ := r1
    exact formatField_int_small z ⟨.str (toString i), H1, I1.tok _, ⟨_, rfl⟩, q⟩
  · obtain ⟨tk, rfl⟩ := r1
    exact formatField_str (fun t' tk => ⟨.str y, H1, I1.tok _, ⟨_, rfl⟩, q⟩) z
end
def vErr : List Value := [.type "ValueError", .type "Exception", .type "BaseException", .type "object"]
theorem exc_obj {K : PySem.W.Frag} {h₀ : Heap} {C : Addr} (KX : K.In h₀) (q : PySem.W.excIn K C vErr "ValueError.__new__" = true) :
    ∃ bm N nm q bs hdct sn sub ab col dd k0 k1 k2 k3 k5 mN, h₀.get? C = some (excClassObj nm q C N bs bm hdct sn sub ab col dd k0 k1 k2 k3 k5 "ValueError.__new__") ∧ h₀.Ns N mN ∧ mN "__init__" = none ∧ OwnTail h₀ vErr bm := by
  unfold PySem.W.excIn at q
  split at q
  · rename_i dd cd sl ho
    split at q
    · rename_i C' bm k0 k1 k2 k3 n k5 hm hs
      simp only [Bool.and_eq_true, beq_iff_eq, Bool.not_eq_true'] at q
      obtain ⟨⟨⟨⟨⟨rfl, rfl⟩, hdel⟩, ht⟩, hok⟩, hni⟩ := q
      obtain ⟨nm, bs, mro, ns, qn, hd, sn, sub, ab, col, del⟩ := cd
      dsimp only at hm hdel hok hni
      subst hm hdel
      have hsl : sl = #[k0, k1, k2, k3, some (.builtin "ValueError.__new__"), k5] := by
        obtain ⟨l⟩ := sl
        simp only at hs
        rw [hs]
      subst hsl
      exact ⟨bm, ns, nm, qn, bs, hd, sn, sub, ab, col, dd, k0, k1, k2, k3, k5, _, KX _ _ ho, .of_isNs (PySem.W.isNs_of_in KX hok), PySem.W.nsMap_none_of_in KX hok hni, PySem.W.tail_of_in KX ht⟩
    · cases q
  · cases q
section
variable {X : Cx} {E : XK}
theorem XAt.first {pins : List (Addr × Obj)} {σ : St} {H : Hp} {s : Shared} {h' : Heap} {a : Addr} {cls : Value} {cx : Option Addr} {oe : Obj} {vs : Array Value} (I : Inv X pins σ H s) (k : ∀ b o, s.heap.get? b = some o → h'.get? b = some o)
    (n : s.heap.get? a = none) (g : h'.get? a = some oe) (hc : oe.cls = cls) (hd : oe.data = .fields vs) (z1 : vs[1]? = some .none) (z2 : vs[2]? = some (ctxV cx)) :
    Inv X pins σ H { s with heap := h' } ∧ XAt X pins H { s with heap := h' } a cls cx (PySem.W.hideAll s.heap (frs X.stack)) .new := by
  have I' : Inv X pins σ H { s with heap := h' } := I.kept (t' := s.toks) k
  have fr : H a = none := by
    cases q : H a with
    | none => rfl
    | some u => obtain ⟨o, e⟩ := (I.hok a u q).there; rw [n] at e; cases e
  refine ⟨I', fr, fun b o e => k b o (PySem.W.of_hideAll _ e), ?_, (PySem.W.funFrames_hide I.stack fun env he b hb => List.mem_filterMap.mpr ⟨env, he, hb⟩).of_keeps fun b o e _ => ⟨o, k b o e, rfl⟩, fun b o e i n => ?_, ⟨oe, vs, g, hc, hd, z1, z2⟩⟩
  · cases q : (PySem.W.hideAll s.heap (frs X.stack)).get? a with
    | none => rfl
    | some o => have := PySem.W.of_hideAll _ q; rw [n] at this; cases this
  · obtain ⟨o1, e1⟩ := i.there I
    have e2 := k _ _ e1
    rw [e] at e2; cases e2
    exact PySem.W.hideAll_get _ e1 n
theorem XAt.made {pins : List (Addr × Obj)} {σ : St} {H : Hp} {s : Shared} {h' : Heap} {a : Addr} {cls : Value} {vs : List Value} (I : Inv X pins σ H s) (m : Heap.MadeExcOf s.heap h' a cls vs) :
    Inv X pins σ H { s with heap := h' } ∧ XAt X pins H { s with heap := h' } a cls none (PySem.W.hideAll s.heap (frs X.stack)) .new := by
  obtain ⟨t, he, _, _⟩ := m.there
  exact XAt.first I m.keeps m.new he rfl rfl rfl rfl
def tRaise (C : Addr) (E : XK) (ta : TA) : TS := fun _ σ H => ta σ H fun vs H1 => vs.length ≤ sizeLine ∧ E (.ref C) none H1
theorem ps_raise {x : Str} {C : Addr} {e₀ : Expr} {rest : List Expr} {np cpos pos : Pos} {ta : TA} (acc : XAcc X E) (q : PySem.W.excIn X.K C vErr "ValueError.__new__" = true) (hg : Gl X x) (hm : X.mg x = some (.ref C)) (ha : PA X (e₀ :: rest) ta)
    (hc : X.calm = true := by rfl) (hex : X.ex = [] := by rfl)
    (he : starEach (e₀ :: rest) X.env = (false, eval e₀ X.env) :: starEach rest X.env := by rfl) (hplain : (backTo cpos (starEach rest X.env)).any (·.1) = false := by rfl) (hd : (x == ("__debug__" : Str)) = false := by decide) :
    PS X (.Raise (some (.Call (.Name x np) (e₀ :: rest) [] cpos)) none pos) (tRaise C E ta) := by
  intro pins s σ H D I h
  obtain ⟨tl, N, nm, qn, bs, hdct, sn, sub, ab, col, dd, k0, k1, k2, k3, k5, mN, hC, hN, hni, T⟩ := exc_obj I.mod.kin q
  have hp := ha cpos pins s σ H _ I h
  rw [he] at hp
  refine wpAny_Raise_call_subT (C := C) (nm := nm) (q := qn) (N := N) (bs := bs) (bm := tl) (hdct := hdct) (sn := sn) (sub := sub) (ab := ab) (col := col) (dd := dd) (k0 := k0) (k1 := k1) (k2 := k2) (k3 := k3) (k5 := k5)
    PySem.F.excBase_ValueError (mN := mN) (T.hasType PySem.F.excBase_ValueError.hasBase) (I.ok.hd hc) (by rw [he]; show (false || (backTo cpos (starEach rest X.env)).any (·.1)) = false; rw [hplain]; rfl) hni (ld_glob I hg hm ⟨rfl, ?_⟩ hd)
  rw [he]
  refine Calls.evalArgs_plain (thn hp fun us s2 ⟨vs, H2, I2, rv, z, hE⟩ => ⟨rfl, by rw [← rv.length]; exact z, I2.bk _ _ hC, hN.keeps I2.bk, T.keeps I2.bk, fun h' e m => ?_⟩)
  obtain ⟨I3, x3⟩ := XAt.made I2 m
  exact acc pins σ H2 _ e _ none _ .new I3 x3 hE
end
def ExcO (a : Addr) (cls : Value) (cx : Option Addr) : HO := .ext fun h => ∃ o vs, h.get? a = some o ∧ o.cls = cls ∧ o.data = .fields vs ∧ vs[2]? = some (ctxV cx)
section
variable {X : Cx} {pins : List (Addr × Obj)} {σ : St} {H : Hp} {s : Shared} {a : Addr} {cls : Value} {cx : Option Addr} {B : Heap} {ph : Ph}
theorem XAt.nofr (x : XAt X pins H s a cls cx B ph) : a ∉ frs X.stack := fun z => by
  obtain ⟨oe, vs, e, _, d, _⟩ := x.tr.there
  obtain ⟨_, o, e', d'⟩ := x.frames.mem z
  rw [e] at e'; cases e'
  exact d' vs d
theorem XAt.noimp (x : XAt X pins H s a cls cx B ph) : ¬ Imp X pins H a := fun i => by
  obtain ⟨oe, vs, e, _, d, _⟩ := x.tr.there
  have := x.cov a oe e i x.nofr
  rw [x.fresh] at this; cases this
theorem Inv.track (I : Inv X pins σ H s) (x : XAt X pins H s a cls cx B ph) : Inv X pins σ (upd H a (ExcO a cls cx)) s := by
  obtain ⟨oe, vs, e, hc, d, d2⟩ := x.tr.there
  have ni := x.noimp
  refine ⟨I.ok, I.os, I.bare, ⟨I.base.keep, I.base.slot, fun b o e1 n hx => ?_, I.base.there, fun b xs q => ?_, fun b o u q => ?_, fun b ps q => ?_⟩, I.loc, I.cell, ?_, fun y c q => ?_, fun p hp => ?_, fun b u q => ?_, I.len⟩
  · rw [upd_ne (fun z => ni (.inr (.inl ⟨by rw [← z]; exact hx, o, by rw [← z]; exact e1⟩)))]
    exact I.base.free b o e1 n hx
  · have q1 := I.base.tups b xs q
    rw [upd_ne (ne_of_none q1 x.free)]; exact q1
  · have q1 := I.base.frzs b o u q
    rw [upd_ne (ne_of_none q1 x.free)]; exact q1
  · obtain ⟨more, q1⟩ := I.base.tbls b ps q
    exact ⟨more, by rw [upd_ne (ne_of_none q1 x.free)]; exact q1⟩
  · rw [upd_ne fun z => ?_]
    · exact I.free
    · obtain ⟨m, ⟨o, es, ep, ho, hd, _⟩, _⟩ := I.loc
      rw [z, e] at ho; cases ho
      rw [d] at hd; cases hd
  · rw [upd_ne fun z => ?_]
    · exact I.freeC y c q
    · obtain ⟨v, o, ho, hd⟩ := I.cell y c q
      rw [z, e] at ho; cases ho
      rw [d] at hd; cases hd
  · obtain ⟨h1, h2, h3, h4, h5⟩ := I.pin p hp
    exact ⟨h1, by rw [upd_ne (fun z => ni (.inr (.inr ⟨p, hp, z⟩)))]; exact h2, h3, h4, h5⟩
  · by_cases hb : b = a
    · subst hb
      rw [upd_same] at q; cases q
      exact ⟨⟨oe, vs, e, hc, d, d2⟩, ⟨oe, e⟩, fun h1 h2 ⟨o, ws, z1, z2, z3⟩ k => ⟨o, ws, k o z1, z2, z3⟩⟩
    · rw [upd_ne hb] at q
      refine (I.hok b u q).stay (fun _ _ _ z => z) (fun c z => ?_) fun c xs z => ?_
      · rw [upd_ne (ne_of_none z x.free)]; exact z
      · rw [upd_ne (ne_of_none z x.free)]; exact z
end
abbrev Cx.tryCx (X : Cx) (E2 : Value → Shared → Prop) (pins : List (Addr × Obj)) : Cx := { X with xe := E2, pn := X.pn ++ pins }
abbrev Cx.inExc (X : Cx) (a : Addr) : Cx := { X with A := X.A.mark (some (.ref a)), calm := false }
def blank (n : Nat) : St := List.replicate n none
section
variable {X : Cx} {pins : List (Addr × Obj)} {σ : St} {H : Hp} {s : Shared} {a : Addr} {E2 : Value → Shared → Prop}
theorem Cx.Ok.tryCx (ok : X.Ok) : (X.tryCx E2 pins).Ok := ⟨ok.mod, ok.kind, ok.glob, ok.blt, ok.above, ok.inj, ok.has, ok.cab, ok.hd, ok.frames, ok.stk, ok.exf, ok.bs, ok.bsz, ok.noex, ok.exfs, ok.funs, ok.frf⟩
theorem Cx.Ok.inExc (ok : X.Ok) : (X.inExc a).Ok := ⟨ok.mod, ok.kind, ok.glob, ok.blt, ok.above, ok.inj, ok.has, ok.cab, (fun z => nomatch z), ok.frames, ok.stk, ok.exf, ok.bs, ok.bsz, ok.noex, ok.exfs, ok.funs, ok.frf⟩
theorem Inv.toTry (I : Inv X pins σ H s) : Inv (X.tryCx E2 pins) [] σ H s :=
  ⟨I.ok.tryCx, I.os, I.bare, I.base, I.loc, I.cell, I.free, I.freeC, fun p hp => I.pin p (by rw [List.append_nil] at hp; exact hp), I.hok, I.len⟩
theorem Inv.ofTry {pins' : List (Addr × Obj)} (ok : X.Ok) (I : Inv (X.tryCx E2 pins) pins' σ H s) : Inv X pins σ H s :=
  ⟨ok, I.os, I.bare, I.base, I.loc, I.cell, I.free, I.freeC, fun p hp => I.pin p (List.mem_append_left _ hp), I.hok, I.len⟩
theorem Inv.toExc (I : Inv X pins σ H s) : Inv (X.inExc a) pins σ H s :=
  ⟨I.ok.inExc, I.os, I.bare, I.base, I.loc, I.cell, I.free, I.freeC, I.pin, I.hok, I.len⟩
theorem Inv.ofExc (ok : X.Ok) (I : Inv (X.inExc a) pins σ H s) : Inv X pins σ H s :=
  ⟨ok, I.os, I.bare, I.base, I.loc, I.cell, I.free, I.freeC, I.pin, I.hok, I.len⟩
theorem Inv.forget (I : Inv X pins σ H s) : Inv X pins (blank X.N.length) H s := I.weak (by unfold blank; rw [List.length_replicate, I.len]) fun i v q => by
  unfold blank at q
  rw [List.getElem?_replicate] at q
  split at q <;> cases q
theorem SP.ofTry {pins' : List (Addr × Obj)} {D : Ends} {f : Flow} {s' : Shared} (ok : X.Ok) (h : SP (X.tryCx E2 pins) pins' D f s') : SP X pins D f s' := by
  cases f with
  | next => obtain ⟨σ', H', I, q⟩ := h; exact ⟨σ', H', I.ofTry ok, q⟩
  | brk => obtain ⟨σ', H', I, q⟩ := h; exact ⟨σ', H', I.ofTry ok, q⟩
  | cont => obtain ⟨σ', H', I, q⟩ := h; exact ⟨σ', H', I.ofTry ok, q⟩
  | ret u => obtain ⟨v, σ', H', I, r, q⟩ := h; exact ⟨v, σ', H', I.ofTry ok, r, q⟩
theorem SP.ofExc {D : Ends} {f : Flow} {s' : Shared} (ok : X.Ok) (h : SP (X.inExc a) pins D f s') : SP X pins D f s' := by
  cases f with
  | next => obtain ⟨σ', H', I, q⟩ := h; exact ⟨σ', H', I.ofExc ok, q⟩
  | brk => obtain ⟨σ', H', I, q⟩ := h; exact ⟨σ', H', I.ofExc ok, q⟩
  | cont => obtain ⟨σ', H', I, q⟩ := h; exact ⟨σ', H', I.ofExc ok, q⟩
  | ret u => obtain ⟨v, σ', H', I, r, q⟩ := h; exact ⟨v, σ', H', I.ofExc ok, r, q⟩
theorem XAcc.inExc {E : XK} {a : Addr} (acc : XAcc X E) (ok : X.Ok) : XAcc (X.inExc a) E := fun pins σ H s b cls cx B ph I x e => acc pins σ H s b cls cx B ph (I.ofExc ok) ⟨x.free, x.stays, x.fresh, x.frames, x.cov, x.tr⟩ e
end
section
variable {M : Model} {A : Around} {E : Value → Shared → Prop} {env : Env}
variable {nm q : Str} {C N : Addr} {bs bm : List Value} {hdct : Bool} {sn : List Str} {sub : List Value} {ab : Bool} {col : Option Bool} {dd : Option Addr} {k0 k1 k2 k3 k5 : Option Value} {newId : String}
theorem raise_from {s : Shared} {x c : Sem Value} {a : Addr} {Q : Flow → Shared → Prop} (hbase : bm.contains (.type "BaseException") = true) (hh : A.handled = some (.ref a)) (hc : ∀ (R : Value → Shared → Prop) (s : Shared), R .none s → wpAny M A c R E s)
    (hu : ∀ (s : Shared) (e : Addr) (oa : Obj) (va : Array Value) (R : Value → Shared → Prop), s.heap.get? a = some oa → oa.data = .fields va → va[2]? = some .none → R .none s → wpAny M A (runValue (.builtin "proto.unchain" ⟨[.ref e, .ref a, .ref a, .bool false], []⟩)) R E s)
    (h : wpAny M A x (fun v s1 => ∃ e t oa va, v = .ref e ∧ e ≠ a ∧ s1.heap.get? C = some (excClassObj nm q C N bs bm hdct sn sub ab col dd k0 k1 k2 k3 k5 newId) ∧ s1.heap.get? e = some { cls := .ref C, data := .fields #[.ref t, .none, .none, .none, .bool false, .none] } ∧
      s1.heap.get? a = some oa ∧ oa.data = .fields va ∧ va[2]? = some .none ∧ ∀ h', (∀ b, b ≠ e → h'.get? b = s1.heap.get? b) → h'.get? e = some { cls := .ref C, data := .fields #[.ref t, .none, .ref a, .none, .bool true, .none] } → E (.ref e) { s1 with heap := h' }) E s) :
    wpAny M A (raiseStmt env (some x) (some c)) Q E s := by
  have hcB : (Value.ref C :: bm).contains (.type "BaseException") = true := by rw [List.contains_cons, hbase, Bool.or_true]
  unfold raiseStmt
  refine wpAny_bind (wpAny_mono h (fun v s1 h1 => ?_) fun _ _ x => x)
  obtain ⟨e, t, oa, va, rfl, ne, gC, ge, ga, da, za, hE⟩ := h1
  refine wpAny_bind (wpAny_holding (hc _ _ (wpAny_bind (wpAny_pure ?_))))
  obtain ⟨hp, g, d, tk, os⟩ := s1
  repeat (first | with_reducible refine wpAny_loadPart_at ge ?_ | with_reducible refine wpAny_loadPart_at gC ?_ | (with_reducible refine wpAny_isSubtype_exc gC ?_; rw [hcB]) | wp_step)
  have nC : C ≠ e := fun z => by rw [z, ge] at gC; injection gC with gC; injection gC with gC; cases gC
  have d3 := Obj.data_mapFields (o := { cls := .ref C, data := .fields #[.ref t, .none, .none, .none, .bool false, .none] }) rfl (·.setIfInBounds 3 Value.none)
  have g3 := Heap.get?_update_self (h := hp) (Obj.mapFields (·.setIfInBounds 3 Value.none)) ge (Obj.isFreed_of_fields d3)
  have d4 := Obj.data_mapFields d3 (·.setIfInBounds 4 (Value.bool true))
  have g4 := Heap.get?_update_self (Obj.mapFields (·.setIfInBounds 4 (Value.bool true))) g3 (Obj.isFreed_of_fields d4)
  have far : ∀ {f f' : Obj → Obj} b, b ≠ e → ((hp.update e f).update e f').get? b = hp.get? b := fun b n => (Heap.get?_update_other _ _ (Ne.symm n)).trans (Heap.get?_update_other _ _ (Ne.symm n))
  refine wpAny_loadPart_at ((far C nC).trans gC) (wpAny_pure ?_)
  rw [if_pos (show ((excClassObj nm q C N bs bm hdct sn sub ab col dd k0 k1 k2 k3 k5 newId).cls == Value.type "type") = true from by show (Value.type "type" == Value.type "type") = true; decide +kernel)]
  refine wpAny_pure ?_
  refine wpAny_bind ?_
  unfold setFlight
  refine wpAny_bind (wpAny_field g4 d4 (x := .none) rfl ?_)
  rw [if_neg (by decide)]
  refine wpAny_pure ?_
  unfold raiseNew
  refine wpAny_bind (wpAny_handled ?_)
  rw [hh]
  have nb : (Value.ref a != Value.ref e) = true := by
    have : Value.ref a ≠ Value.ref e := fun z => ne (by cases z; rfl)
    simp [this]
  dsimp only
  rw [if_pos nb]
  refine wpAny_bind (wpAny_holding (hu _ e oa va _ ((far a (Ne.symm ne)).trans ga) da za ?_))
  have d5 := Obj.data_mapFields d4 (·.setIfInBounds 2 (Value.ref a))
  have g5 := Heap.get?_update_self (Obj.mapFields (·.setIfInBounds 2 (Value.ref a))) g4 (Obj.isFreed_of_fields d5)
  refine wpAny_bind (wpAny_setField (a := e) g4 d4 (by simp) (wpAny_throw (hE _ (fun b n => (Heap.get?_update_other _ _ (Ne.symm n)).trans (far b n)) g5)))
theorem entry_unchain : entryFor table "proto.unchain" = some Builtin.«proto.unchain» := entryFor_of_fast (by kernel_rfl)
theorem unchain_none {prog : Program} {w : World} {s : Shared} {e a : Addr} {oa : Obj} {va : Array Value} {R : Value → Shared → Prop} (ga : s.heap.get? a = some oa) (da : oa.data = .fields va) (za : va[2]? = some .none) (r : R .none s) :
    wpAny (model prog w) A (runValue (.builtin "proto.unchain" ⟨[.ref e, .ref a, .ref a, .bool false], []⟩)) R E s := by
  refine wpAny_runValue (codeAny_builtin entry_unchain ?_)
  unfold Builtin.«proto.unchain»
  refine wpAny_bind (wpAny_field ga da za ?_)
  rw [if_pos (by decide)]
  repeat wp_step
  exact r
end
section
variable {X : Cx} {E : XK} {a : Addr}
def tRaiseN (a C : Addr) (E : XK) (ta : TA) : TS := fun _ σ H => ta σ H fun vs H1 => vs.length ≤ sizeLine ∧ (∃ cls, H1 a = some (ExcO a cls none)) ∧ E (.ref C) (some a) H1
theorem ps_raiseN {x : Str} {C : Addr} {e₀ : Expr} {rest : List Expr} {np cpos pos jp : Pos} {jk : Nat} {ta : TA} (acc : XAcc (X.inExc a) E) (q : PySem.W.excIn X.K C vErr "ValueError.__new__" = true) (hg : Gl (X.inExc a) x) (hm : X.mg x = some (.ref C)) (ha : PA (X.inExc a) (e₀ :: rest) ta)
    (he : starEach (e₀ :: rest) X.env = (false, eval e₀ X.env) :: starEach rest X.env := by rfl) (hplain : (backTo cpos (starEach rest X.env)).any (·.1) = false := by rfl) (hd : (x == ("__debug__" : Str)) = false := by decide) :
    PS (X.inExc a) (.Raise (some (.Call (.Name x np) (e₀ :: rest) [] cpos)) (some (.Constant .none jk jp)) pos) (tRaiseN a C E ta) := by
  intro pins s σ H D I h
  obtain ⟨tl, N, nm, qn, bs, hdct, sn, sub, ab, col, dd, k0, k1, k2, k3, k5, mN, hC, hN, hni, T⟩ := exc_obj I.mod.kin q
  have hp := ha cpos pins s σ H _ I h
  rw [he] at hp
  have pl : (backTo cpos (starEach (e₀ :: rest) X.env)).any (·.1) = false := by rw [he]; show (false || (backTo cpos (starEach rest X.env)).any (·.1)) = false; rw [hplain]; rfl
  rw [arm_exec_Raise]
  simp only [evalOpt, Option.map]
  refine wpAny_bind (wpAny_standAt (raise_from (a := a) (C := C) (nm := nm) (q := qn) (N := N) (bs := bs) (bm := tl) (hdct := hdct) (sn := sn) (sub := sub) (ab := ab) (col := col) (dd := dd) (k0 := k0) (k1 := k1) (k2 := k2) (k3 := k3) (k5 := k5) (newId := "ValueError.__new__") (T.hasType PySem.F.excBase_ValueError.hasBase) rfl
    (fun R s r => wpAny_bind (Constant_none (wpAny_bind (wpAny_standAt (wpAny_pure r))))) (fun s e oa va R ga da za r => unchain_none ga da za r) ?_))
  refine wpAny_bind (wpAny_mono (wpAny_Call_ofName (wpAny_mono (ld_glob I hg hm (Q := fun f s1 => f = .ref C ∧ s1 = s) ⟨rfl, rfl⟩ hd) (fun f s1 h1 => ?_) fun _ _ x => x)) (fun v s3 h3 => wpAny_bind (wpAny_standAt (wpAny_pure h3))) fun _ _ x => x)
  obtain ⟨rfl, rfl⟩ := h1
  unfold callWith
  refine wpAny_bind (wpAny_holding (wpAny_mono (Q := fun us s2 => ∃ vs H2, us.kw = [] ∧ Inv (X.inExc a) pins σ H2 s2 ∧ Vals vs us.pos ∧ vs.length ≤ sizeLine ∧ (∃ cls, H2 a = some (ExcO a cls none)) ∧ E (.ref C) (some a) H2) ?_ (fun us s2 h2 => wpAny_bind (wpAny_standAt ?_)) fun _ _ x => x))
  · rw [he]
    exact Calls.evalArgs_plain (thn hp fun us s2 ⟨vs, H2, I2, rv, z, hx, hE⟩ => ⟨vs, H2, rfl, I2, rv, z, hx, hE⟩)
  obtain ⟨upos, ukw⟩ := us
  obtain ⟨vs, H2, ekw, I2, rv, z, ⟨cls, hx⟩, hE⟩ := h2
  obtain rfl : ukw = [] := ekw
  obtain ⟨⟨oa, va, ga, _, da, za⟩, _⟩ := (show ObjOk X.prog X.w H2 s2.heap a (ExcO a cls none) from I2.hok a _ hx)
  have C2 := I2.bk _ _ hC
  have N2 := hN.keeps I2.bk
  have T2 := T.keeps I2.bk
  have hlen : upos.length ≤ sizeLine := by rw [← rv.length]; exact z
  obtain ⟨hp2, g2, d2, tk2, os2⟩ := s2
  simp only [pl]
  refine wpAny_bind (wpAny_keeperOf_exc C2 ?_)
  refine wpAny_bind (wpAny_call_exc_subT (hrest := hlen) PySem.F.excBase_ValueError T2 C2 N2 hni fun h' e m => wpAny_bind (wpAny_holding (wpAny_point (wpAny_pure ?_))))
  obtain ⟨t, ht, _, _⟩ := m.there
  have ne : e ≠ a := fun z => by have := m.new; rw [z, ga] at this; cases this
  refine ⟨e, t, oa, va, rfl, ne, m.keeps _ _ C2, ht, m.keeps _ _ ga, da, za, fun h'' far ge => ?_⟩
  have k : ∀ b o, hp2.get? b = some o → h''.get? b = some o := fun b o gb => (far b fun z => by have := m.new; rw [← z, gb] at this; cases this).trans (m.keeps b o gb)
  obtain ⟨I3, x3⟩ := XAt.first (cx := some a) I2 k m.new ge rfl rfl rfl rfl
  exact acc pins σ H2 _ e _ (some a) _ .new I3 x3 hE
end
section
variable {X : Cx} {pins : List (Addr × Obj)} {σ : St} {H : Hp} {s : Shared} {a : Addr} {E2 : Value → Shared → Prop}
def tTry (K : PySem.W.Frag) (C : Addr) (n : Nat) (tb : XK → TS) (ts : Addr → TS) : TS := fun D σ H => ∃ Eh : XK, tb Eh D σ H ∧ ∀ cls cx H', Eh cls cx H' → PySem.W.exmOne K cls (.ref C) = some true ∧ ∀ a, H' a = none → ts a D (blank n) (upd H' a (ExcO a cls cx))
theorem ps_try {x : Str} {C : Addr} {body suite : List Stmt} {b₀ : Stmt} {np hpos pos : Pos} {tb : XK → TS} {ts : Addr → TS} (hg : Gl X x) (hm : X.mg x = some (.ref C))
    (hpo : ∀ hd, PassesOwnAt (model X.prog X.w) (X.A.mark hd) X.A X.env X.xe)
    (hb : ∀ (Eh : XK) (E2 : Value → Shared → Prop) (pins : List (Addr × Obj)), XAcc (X.tryCx E2 pins) Eh → PassesOwn (model X.prog X.w) X.A X.env E2 → PSs (X.tryCx E2 pins) body (tb Eh))
    (hh : ∀ a, X.Ok → PSs (X.inExc a) (b₀ :: suite) (ts a))
    (hs : X.stack = X.env :: X.outer := by rfl) (hf : X.env.frame = some X.env.locals := by rfl) (hex : X.ex = [] := by rfl) (hd : (x == ("__debug__" : Str)) = false := by decide) :
    PS X (.Try body [.ExceptHandler (some (.Name x np)) none (b₀ :: suite) hpos] [] [] pos) (tTry X.K C X.N.length tb ts) := by
  intro pins s σ H D I h
  obtain ⟨Eh, h1, h2⟩ := h
  refine wpAny_Try_except ?_
  have ok := I.ok
  have acc : XAcc (X.tryCx (fun e s₁ => wpAny (model X.prog X.w) X.A (noteFrame e X.env) (fun _ s₂ => wpAny (model X.prog X.w) X.A (setFlight e none) (fun _ s₃ =>
      wpAny (model X.prog X.w) X.A (handleBy e X.env [.ExceptHandler (some (.Name x np)) none (b₀ :: suite) hpos]) (SP X pins D) X.xe s₃) X.xe s₂) X.xe s₁) pins) Eh := by
    intro pins' σ' H' s1 a cls cx B ph I1 x1 hE
    have I2 : Inv X pins (blank X.N.length) H' s1 := (I1.ofTry ok).forget
    have x2 : XAt X pins H' s1 a cls cx B ph := ⟨x1.free, x1.stays, x1.fresh, x1.frames, fun b o e i n => x1.cov b o e (i.elim .inl fun z => .inr (z.elim .inl fun ⟨p, hp, q⟩ => .inr ⟨p, List.mem_append_left _ hp, q⟩)) n, x1.tr⟩
    obtain ⟨hx, hsu⟩ := h2 cls cx H' hE
    refine note_ok ok.frames hs rfl hf I2 x2 fun h3 I3 x3 => ?_
    refine land_ok I3 x3 (fun z => nomatch z) fun h4 I4 x4 => ?_
    refine wpAny_handleBy_cons (codeAny_handlers_test (ld_glob (I4.toExc (a := a)) hg hm ?_ hd)) (by intro q; cases q)
    obtain ⟨oe, vs, e, hc, d, _⟩ := x4.tr.there
    have LT : PySem.W.Looks (model X.prog X.w) h4 (typeOf (.ref a)) cls := hc ▸ (PySem.W.Looks.ld e).andThen .now
    refine (PySem.W.exm_one I4.kIn LT hx).here ?_
    refine codeAny_handlers_suite ?_
    refine land_ok I4 x4 (fun z => nomatch z) fun h5 I5 x5 => ?_
    refine wpAny_passesOwnAt (hpo (some (.ref a))) ?_
    refine thn (hh a ok pins _ _ _ D (I5.track x5).toExc (hsu a x5.free)) fun f s6 q => q.ofExc ok
  refine wpAny_mono (hb Eh _ pins acc PassesOwn.looking [] s σ H D I.toTry h1) (fun f s1 q => ?_) fun e s1 q => q
  have q' := q.ofTry ok
  cases f with
  | next => exact wpAny_execs_nil q'
  | brk => exact q'
  | cont => exact q'
  | ret u => exact q'
def tTryAs (K : PySem.W.Frag) (C : Addr) (n i : Nat) (tb : XK → TS) (ts : Addr → TS) : TS := fun D σ H => ∃ Eh : XK, tb Eh D σ H ∧ ∀ cls cx H', Eh cls cx H' → PySem.W.exmOne K cls (.ref C) = some true ∧ ∀ a, H' a = none →
  ts a { nx := fun σ' H2 => D.nx (σ'.set i none) H2, rt := D.rt, bk := fun σ' H2 => D.bk (σ'.set i none) H2, ct := fun σ' H2 => D.ct (σ'.set i none) H2 } ((blank n).set i (some (.ref a))) (upd H' a (ExcO a cls cx))
theorem Inv.nameGoes {M : Model} {A : Around} {E : Value → Shared → Prop} {n : Str} {i : Nat} {pos : Pos} {Q : Unit → Shared → Prop} (I : Inv X pins σ H s) (hN : X.N.Nodup) (hi : X.N[i]? = some n) (hl : X.env.scope.names.lookup n = some .local)
    (h : ∀ h', Inv X pins (σ.set i none) H { s with heap := h', toks := s.toks + 1 } → Q () { s with heap := h', toks := s.toks + 1 }) : wpAny M A (do bindName X.env n .none; unbindBehindTheSuite X.env n pos) Q E s := by
  obtain ⟨m, hn, hlo⟩ := id I.loc
  have hcls : (X.env.scope.kind == .class || (X.env.scope.kind == .module && X.env.locals != X.env.globals)) = false := by rw [I.ok.kind]; rfl
  refine wpAny_nameGoes_keeps hl hn hcls fun h' v hn' hs => h h' ?_
  obtain ⟨oL, _, _, hoL, _⟩ := id hn
  have cne := I.cne
  have neL : ∀ b o, X.s₀.heap.get? b = some o → b ≠ X.env.locals := fun b o e => Nat.ne_of_lt (Nat.lt_of_lt_of_le (Heap.lt_size e) I.ok.above)
  refine ⟨I.ok, I.os, I.bare, ⟨fun b o e k hb hx => (hs.2 b (neL b o e)).trans (I.base.keep b o e k hb hx), fun b o e k hb hx => ?_, I.base.free, fun b o e hx => ?_, I.base.tups, I.base.frzs, I.base.tbls⟩, ⟨_, hn', fun j y v' e1 e2 e3 => ?_⟩, fun y c e => ?_, I.free, I.freeC, fun p hp => ?_, ?_, by simpa using I.len⟩
  · obtain ⟨sl, e1⟩ := I.base.slot b o e k hb hx
    exact ⟨sl, (hs.2 b (neL b o e)).trans e1⟩
  · obtain ⟨o', e1⟩ := I.base.there b o e hx
    exact ⟨o', (hs.2 b (neL b o e)).trans e1⟩
  · by_cases hj : j = i
    · subst hj
      by_cases hlt : j < σ.length
      · rw [List.getElem?_set_self hlt] at e2; cases e2
      · rw [List.getElem?_eq_none (by rw [List.length_set]; omega)] at e2; cases e2
    · rw [List.getElem?_set_ne (Ne.symm hj)] at e2
      obtain ⟨u', r', q⟩ := hlo j y v' e1 e2 e3
      refine ⟨u', r', ?_⟩
      rcases q with ⟨k, e⟩ | ⟨k, c, e, z⟩
      · refine .inl ⟨k, ?_⟩
        have : y ≠ n := fun e => hj (nodup_ix hN e1 (e ▸ hi))
        simp [this, e]
      · exact .inr ⟨k, c, e, z.sameBut hs (cne y c e)⟩
  · obtain ⟨w', z⟩ := I.cell y c e
    exact ⟨w', z.sameBut hs (cne y c e)⟩
  · obtain ⟨e, n', ne, nf, d⟩ := I.pin p hp
    exact ⟨(hs.2 p.1 ne).trans e, n', ne, nf, d⟩
  · intro b ob e
    refine (I.hok b ob e).stay (fun c w' hc q => (hs.2 c ?_).trans q) (fun _ q => q) fun _ _ q => q
    rintro rfl
    rcases hc with rfl | hc
    · rw [I.free] at e; cases e
    · rw [I.free] at hc; cases hc
theorem ps_tryAs {x n : Str} {i : Nat} {C : Addr} {body suite : List Stmt} {b₀ : Stmt} {np hpos pos : Pos} {tb : XK → TS} {ts : Addr → TS} (hg : Gl X x) (hm : X.mg x = some (.ref C)) (hN : X.N.Nodup) (hi : X.N[i]? = some n)
    (hb : ∀ (Eh : XK) (E2 : Value → Shared → Prop) (pins : List (Addr × Obj)), XAcc (X.tryCx E2 pins) Eh → PassesOwn (model X.prog X.w) X.A X.env E2 → PSs (X.tryCx E2 pins) body (tb Eh))
    (hh : ∀ a, PSs (X.inExc a).nox (b₀ :: suite) (ts a))
    (hl : X.env.scope.names.lookup n = some .local := by rfl)
    (hs : X.stack = X.env :: X.outer := by rfl) (hf : X.env.frame = some X.env.locals := by rfl) (hex : X.ex = [] := by rfl) (hd : (x == ("__debug__" : Str)) = false := by decide) :
    PS X (.Try body [.ExceptHandler (some (.Name x np)) (some n) (b₀ :: suite) hpos] [] [] pos) (tTryAs X.K C X.N.length i tb ts) := by
  intro pins s σ H D I h
  obtain ⟨Eh, h1, h2⟩ := h
  refine wpAny_Try_except ?_
  have ok := I.ok
  have acc : XAcc (X.tryCx (fun e s₁ => wpAny (model X.prog X.w) X.A (noteFrame e X.env) (fun _ s₂ => wpAny (model X.prog X.w) X.A (setFlight e none) (fun _ s₃ =>
      wpAny (model X.prog X.w) X.A (handleBy e X.env [.ExceptHandler (some (.Name x np)) (some n) (b₀ :: suite) hpos]) (SP X pins D) X.xe s₃) X.xe s₂) X.xe s₁) pins) Eh := by
    intro pins' σ' H' s1 a cls cx B ph I1 x1 hE
    have I2 : Inv X pins (blank X.N.length) H' s1 := (I1.ofTry ok).forget
    have x2 : XAt X pins H' s1 a cls cx B ph := ⟨x1.free, x1.stays, x1.fresh, x1.frames, fun b o e i n => x1.cov b o e (i.elim .inl fun z => .inr (z.elim .inl fun ⟨p, hp, q⟩ => .inr ⟨p, List.mem_append_left _ hp, q⟩)) n, x1.tr⟩
    obtain ⟨hx, hsu⟩ := h2 cls cx H' hE
    refine note_ok ok.frames hs rfl hf I2 x2 fun h3 I3 x3 => ?_
    refine land_ok I3 x3 (fun z => nomatch z) fun h4 I4 x4 => ?_
    refine wpAny_handleBy_cons (codeAny_handlers_test (ld_glob (I4.toExc (a := a)) hg hm ?_ hd)) (by intro q; cases q)
    obtain ⟨oe, vs, e, hc, d, _⟩ := x4.tr.there
    have LT : PySem.W.Looks (model X.prog X.w) h4 (typeOf (.ref a)) cls := hc ▸ (PySem.W.Looks.ld e).andThen .now
    refine (PySem.W.exm_one I4.kIn LT hx).here ?_
    refine codeAny_handlers_suite_as ?_
    refine land_ok I4 x4 (fun z => nomatch z) fun h5 I5 x5 => ?_
    have I6 := (I5.track x5).toExc (a := a)
    refine store_ok (X := X.inExc a) (v := .ref a) I6 hN hi (.inl hl) rfl (fun s6 I7 => ?_) (.inr hl)
    refine wpAny_mono (hh a pins s6 _ _ _ (I7.wish _) (hsu a x5.free)) (fun f s7 q => ?_) fun _ _ z => z.elim
    have q := (q.unwish).ofExc ok
    cases f with
    | next =>
      obtain ⟨σ7, H7, I8, q⟩ := q
      exact I8.nameGoes hN hi hl fun h8 I9 => ⟨_, H7, I9, q⟩
    | brk =>
      obtain ⟨σ7, H7, I8, q⟩ := q
      exact I8.nameGoes hN hi hl fun h8 I9 => ⟨_, H7, I9, q⟩
    | cont =>
      obtain ⟨σ7, H7, I8, q⟩ := q
      exact I8.nameGoes hN hi hl fun h8 I9 => ⟨_, H7, I9, q⟩
    | ret u =>
      obtain ⟨v7, σ7, H7, I8, r, q⟩ := q
      exact I8.nameGoes hN hi hl fun h8 I9 => ⟨v7, _, H7, I9, r, q⟩
  refine wpAny_mono (hb Eh _ pins acc PassesOwn.looking [] s σ H D I.toTry h1) (fun f s1 q => ?_) fun e s1 q => q
  have q' := q.ofTry ok
  cases f with
  | next => exact wpAny_execs_nil q'
  | brk => exact q'
  | cont => exact q'
  | ret u => exact q'
end
end L2
set_option Elab.async false
set_option linter.all false
set_option maxRecDepth 100000
set_option maxHeartbeats 4000000
namespace L2
open PySem PySem.Spec PyProof.Rows
theorem pass0e {X : Cx} {P : Program} {w : World} : Passes (CXe P w) X E0 := fun _ _ _ _ _ _ _ h => by
  obtain ⟨_, _, _, _, _, _, _, _, _, _, _, _, _, _, _, _, hE⟩ := h
  exact hE.elim
section
variable {P : Program} {w : World} {K : PySem.W.Frag} {mg : Str → Option Value} {base : Heap}
theorem Fun.okE {x qual : Str} {st : Stmt} {f : Addr} {fd : FuncData} {N ps : List Str} {k : Nat} {sp : Sp} (F : Fun K x qual st f fd) (S : FnScope N ps (defScope st)) (len : ∀ vs H Q E, sp vs H Q E → vs.length = ps.length)
    (hbody : ∀ (cdv : Value) (A : Around) (outer : List Env) (s : Shared) (H : Hp) (vs : List V) (Q : VK) (E : XK), Room k (A.deeper (envOfC qual (defScope st) s.heap.objs.size f cdv)) → sp vs H Q E →
      ∃ t, PSs (cxOf (CXe P w) P w K mg base N qual (defScope st) f cdv A outer s H E) (defBody st) t ∧ t { nx := fun _ H' => Q .non H', rt := Q } (start N vs) H) : FnOk P w K mg base (CXe P w) (k + 1) f fd ps sp := by
  obtain ⟨oc, od, kV, doc, pm, an, cdv, ct, osl, rfl, lk, hcd⟩ := F.ex
  exact fn_of lk hcd S len fun A outer s H vs Q E hr hsp => hbody cdv A outer s H vs Q E hr hsp
structure FunD (K : PySem.W.Frag) (x qual : Str) (st : Stmt) (dT : Addr) (f : Addr) (fd : FuncData) : Prop where
  ex : ∃ (oc : Value) (od : Option Addr) (kV doc pm : Value) (an : Option Addr) (cdv ct : Value) (osl : Array (Option Value)),
    fd = PySem.W.fnOf x qual (defArgs st) (defBody st) (defScope st) (.ref dT) kV doc pm an cdv ct ∧ K.lookup f = some ⟨oc, od, .func fd, osl⟩ ∧ PySem.W.codeIn K cdv qual = true
  kp : PySem.W.keepIn K (.ref f) = true
theorem fund_mk {x qual : Str} {st : Stmt} {dT f : Addr} {oc : Value} {od an : Option Addr} {osl : Array (Option Value)} {kV doc pm cdv ct : Value} (l : K.lookup f = some ⟨oc, od, .func (PySem.W.fnOf x qual (defArgs st) (defBody st) (defScope st) (.ref dT) kV doc pm an cdv ct), osl⟩)
    (c : PySem.W.codeIn K cdv qual = true) (k : PySem.W.keepIn K (.ref f) = true) : FunD K x qual st dT f (PySem.W.fnOf x qual (defArgs st) (defBody st) (defScope st) (.ref dT) kV doc pm an cdv ct) := ⟨⟨oc, od, kV, doc, pm, an, cdv, ct, osl, rfl, l, c⟩, k⟩
theorem FunD.okE {x qual : Str} {st : Stmt} {dT f : Addr} {fd : FuncData} {N ps : List Str} {k : Nat} {sp : Sp} (F : FunD K x qual st dT f fd) (S : FnScope N ps (defScope st)) (len : ∀ vs H Q E, sp vs H Q E → vs.length = ps.length)
    (hbody : ∀ (cdv : Value) (A : Around) (outer : List Env) (s : Shared) (H : Hp) (vs : List V) (Q : VK) (E : XK), Room k (A.deeper (envOfC qual (defScope st) s.heap.objs.size f cdv)) → sp vs H Q E →
      ∃ t, PSs (cxOf (CXe P w) P w K mg base N qual (defScope st) f cdv A outer s H E) (defBody st) t ∧ t { nx := fun _ H' => Q .non H', rt := Q } (start N vs) H) : FnOk P w K mg base (CXe P w) (k + 1) f fd ps sp := by
  obtain ⟨oc, od, kV, doc, pm, an, cdv, ct, osl, rfl, lk, hcd⟩ := F.ex
  exact fn_of lk hcd S len fun A outer s H vs Q E hr hsp => hbody cdv A outer s H vs Q E hr hsp
theorem FunD.binds {x qual : Str} {st : Stmt} {dT f : Addr} {fd : FuncData} {ps : List Str} {ds : List Value} {items : List Value} {o : Obj} {nn : Nat} (F : FunD K x qual st dT f fd) (ho : K.lookup dT = some o) (hs : o.data = .seq items.toArray nn)
    (h : ∀ (kV doc pm : Value) (an : Option Addr) (cdv ct : Value) (us : List Value), (us ++ ds).length = ps.length → ∃ k : Option (Array Value) → Sem (List (Str × Value)),
      bindArgs (PySem.W.fnOf x qual (defArgs st) (defBody st) (defScope st) (.ref dT) kV doc pm an cdv ct) ⟨us, []⟩ = seqItems? (.ref dT) >>= k ∧ k (some items.toArray) = pure (ps.zip (us ++ ds))) : Binds K fd ps ds := by
  obtain ⟨oc, od, kV, doc, pm, an, cdv, ct, osl, rfl, lk, hcd⟩ := F.ex
  intro s us KX hl
  obtain ⟨k, h1, h2⟩ := h kV doc pm an cdv ct us hl
  exact PySem.W.binds_K KX rfl ho hs h1 h2
end
structure RoomW (k : Nat) (A : Around) : Prop where
  dp : A.depth + 3 * k + 5 < recursionLimit
  un : A.units + 16 * k + 200 < cLine
theorem Room.w {k : Nat} {A : Around} (r : Room k A) (h : Option Value) : RoomW k (A.mark h) := ⟨r.dp, r.un⟩
theorem RoomW.deeper {k : Nat} {A : Around} (r : RoomW (k + 1) A) (env : Env) : RoomW k (A.deeper env) :=
  ⟨by have := r.dp; show A.depth + 1 + 3 * k + 5 < _; omega, by have := r.un; show A.units + 3 + 16 * k + 200 < _; omega⟩
structure FnOkW (P : Program) (w : World) (K : PySem.W.Frag) (mg : Str → Option Value) (base : Heap) (k : Nat) (f : Addr) (fd : FuncData) (ps : List Str) (sp : Sp) : Prop where
  len : ∀ vs H Q E, sp vs H Q E → vs.length = ps.length
  run : ∀ (A : Around) (outer : List Env) (s : Shared) (H : Hp) (args : Args) (us : List Value) (vs : List V) (Q : VK), RoomW k A → Env0 P w K mg base A outer s H → BindsTo s fd args (ps.zip us) → Vals vs us → sp vs H Q E0 →
    codeAny (model P w) A (.call (.ref f) args) (CR CX0 outer P w H s Q E0) s
abbrev cxOfW (P : Program) (w : World) (K : PySem.W.Frag) (mg : Str → Option Value) (base : Heap) (N : List Str) (qual : Str) (scope : Scope) (f : Addr) (cd : Value) (A : Around) (outer : List Env) (s : Shared) (H : Hp) : Cx :=
  { cxOf CX0 P w K mg base N qual scope f cd A outer s H E0 with calm := false, xe := fun _ _ => False }
theorem inv_startW {P : Program} {w : World} {K : PySem.W.Frag} {mg : Str → Option Value} {base : Heap} {N ps : List Str} {qual : Str} {scope : Scope} {f : Addr} {cd : Value} {A : Around} {outer : List Env} {s s1 : Shared} {H : Hp} {us : List Value} {vs : List V}
    (S : FnScope N ps scope) (e0 : Env0 P w K mg base A outer s H) (hl : vs.length = ps.length) (r : Vals vs us)
    (x : InCallC s s.heap.objs.size (bindL (envOfC qual scope s.heap.objs.size f cd).kindOf (ps.zip us) fun _ => none) (cellsFrom (s.heap.objs.size + 1) scope.names []) (bindC (envOfC qual scope s.heap.objs.size f cd).kindOf (ps.zip us) fun _ => none) s1) :
    Inv (cxOfW P w K mg base N qual scope f cd A outer s H) [] (start N vs) H s1 := by
  have hpl : ps.length ≤ N.length := by have := congrArg List.length S.pre; rw [List.length_take] at this; omega
  obtain ⟨h1, tk, rfl, hk⟩ := x.done
  have noA : ∀ b : Addr, b ∉ (cxOfW P w K mg base N qual scope f cd A outer s H).ex := fun b z => absurd (show b ∈ ([] : List Addr) from z) (by simp)
  refine ⟨⟨e0.mod, S.kind, rfl, rfl, Nat.le_refl _, fun y z c h1 h2 => ?_, fun y hy => ?_, fun y c _ h => ?_, (fun z => nomatch z), Around.frames_deeper e0.frames, .inr ⟨rfl, rfl⟩, fun b z => absurd z (noA b), e0.bs, e0.bsz, fun b _ _ => noA b, fun b z => absurd z (noA b), e0.funs, e0.frf⟩,
    rfl, e0.bare, Un.kept hk, ⟨_, x.toInCall.ns, fun i y v h1 h2 h3 => ?_⟩, fun y c h => ⟨_, x.cell y c h⟩, e0.hok.fresh (Nat.le_refl _), fun y c h => ?_, fun p hp => absurd (show p ∈ ([] : List (Addr × Obj)) from hp) (by simp), e0.hok.kept hk, ?_⟩
  · exact name_of_addr x.apart (PySem.mem_of_lookup h1) (PySem.mem_of_lookup h2)
  · have hy : scope.names.lookup y = some .cell ∨ scope.names.lookup y = some .free := hy
    rcases hy with hy | hy
    · exact cell_has hy
    · exact absurd rfl (S.nofree _ (PySem.mem_of_lookup hy))
  · exact Nat.le_of_lt (x.above y c (PySem.mem_of_lookup h))
  · have hi : i < vs.length := by
      unfold start at h2
      by_cases hi : i < vs.length
      · exact hi
      · rw [List.getElem?_append_right (by simpa using hi)] at h2
        rw [List.getElem?_replicate] at h2
        split at h2 <;> cases h2
    have ha : vs[i]? = some v := by
      unfold start at h2
      rw [List.getElem?_append_left (by simpa using hi), List.getElem?_map] at h2
      cases e : vs[i]? with
      | none => rw [e] at h2; cases h2
      | some a => rw [e] at h2; cases h2; rfl
    obtain ⟨u, hu, rv⟩ := r.get ha
    have hp : ps[i]? = some y := by
      rw [← S.pre, List.getElem?_take_of_lt (by omega)]; exact h1
    have ndP : ps.Nodup := by rw [← S.pre]; exact S.nd.sublist (List.take_sublist _ _)
    refine ⟨u, rv, ?_⟩
    rcases S.par y (List.mem_of_getElem? hp) with k | k
    · exact .inl ⟨k, bindL_get ndP hp hu k⟩
    · obtain ⟨c, e⟩ := cell_has (n := s.heap.objs.size + 1) k
      refine .inr ⟨.inl k, c, e, ?_⟩
      have q := x.cell y c e
      rw [bindC_get ndP hp hu (by show scope.names.lookup y ≠ _; rw [k]; decide)] at q
      exact q
  · exact e0.hok.fresh (Nat.le_of_lt (x.above y c (PySem.mem_of_lookup h)))
  · unfold start
    show _ = N.length
    rw [List.length_append, List.length_map, List.length_replicate]
    omega
section
variable {P : Program} {w : World} {K : PySem.W.Frag} {mg : Str → Option Value} {base : Heap}
theorem Fun.okW {x qual : Str} {st : Stmt} {f : Addr} {fd : FuncData} {N ps : List Str} {k : Nat} {sp : Sp} (F : Fun K x qual st f fd) (S : FnScope N ps (defScope st)) (len : ∀ vs H Q E, sp vs H Q E → vs.length = ps.length)
    (hbody : ∀ (cdv : Value) (A : Around) (outer : List Env) (s : Shared) (H : Hp) (vs : List V) (Q : VK), RoomW k (A.deeper (envOfC qual (defScope st) s.heap.objs.size f cdv)) → sp vs H Q E0 →
      ∃ t, PSs (cxOfW P w K mg base N qual (defScope st) f cdv A outer s H) (defBody st) t ∧ t { nx := fun _ H' => Q .non H', rt := Q } (start N vs) H) : FnOkW P w K mg base (k + 1) f fd ps sp := by
  obtain ⟨oc, od, kV, doc, pm, an, cdv, ct, osl, rfl, lk, hcd⟩ := F.ex
  refine ⟨len, fun A outer s H args us vs Q hr e0 hb r hsp => ?_⟩
  have hl := len _ _ _ _ hsp
  have KX : K.In s.heap := e0.mod.kin.keeps fun b o e => (e0.bs b o e).1
  have lim : s.heap.NoLimit := e0.mod.nolimit.keeps fun b o e => (e0.bs b o e).1
  have hkind : ∀ y ∈ ps.zip us, (defScope st).names.lookup y.1 = some .local ∨ ((defScope st).names.lookup y.1 = some .cell ∧ ((cellsFrom (s.heap.objs.size + 1) (defScope st).names []).lookup y.1).isSome = true) := fun ⟨n, v⟩ hy => by
    rcases S.par n (List.of_mem_zip hy).1 with q | q
    · exact .inl q
    · exact .inr ⟨q, PySem.W.cellsFrom_some _ _ _ (.inl q)⟩
  refine codeAny_call_function (by have := hr.dp; omega) (KX _ _ lk) rfl S.co S.gen rfl (PySem.W.codeRec_of KX hcd) (hb _ _ _ _ ?_)
  refine wpAny_newFunctionEnv_cells S.kind hkind fun env he s1 x => ?_
  subst he
  refine ⟨lim.keeps x.toInCall.keep, codeAny_func ?_⟩
  obtain ⟨t, ht, hq⟩ := hbody cdv A outer s H vs Q (hr.deeper _) hsp
  have I := inv_startW S e0 hl r x
  refine wpAny_mono (ht [] s1 (start N vs) H _ I hq) (fun fl s' hs => ?_) fun e s' hs => hs.elim
  have fin : ∀ {σ' : St} {H' : Hp} {v : V} {u : Value}, Inv (cxOfW P w K mg base N qual (defScope st) f cdv A outer s H) [] σ' H' s' → RelV v u → Q v H' → CE outer P w H s Q u s' :=
    fun {σ' H' v u} J rv q => ⟨v, H', J.os, J.bare, J.base, J.hok, rv, q⟩
  cases fl with
  | ret u =>
    obtain ⟨v, σ', H', J, rv, q⟩ := hs
    exact fin J rv q
  | next =>
    obtain ⟨σ', H', J, q⟩ := hs
    exact fin (v := V.non) (u := Value.none) J rfl q
  | brk =>
    obtain ⟨_, _, _, q⟩ := hs
    exact False.elim q
  | cont =>
    obtain ⟨_, _, _, q⟩ := hs
    exact False.elim q
end
section
variable {X : Cx} {k : Nat} {f : Addr} {fd : FuncData} {ps : List Str} {sp : Sp} {x : Str} {p pos : Pos} {e : Expr} {es : List Expr} {t : TA}
def tCallW (sp : Sp) (t : TA) : TE := fun σ H Q => t σ H fun vs H1 => sp vs H1 Q E0
theorem pe_callW (F : FnOkW X.prog X.w X.K X.mg X.base k f fd ps sp) (hr : RoomW k X.A) (hg : Gl X x) (hm : X.mg x = some (.ref f)) (hk : PySem.W.keepIn X.K (.ref f) = true) (hb : Binds X.K fd ps [])
    (ha : PA X (e :: es) t) (hdb : (x == ("__debug__" : Str)) = false := by decide) (he : starEach (e :: es) X.env = (false, eval e X.env) :: starEach es X.env := by rfl) (hp : (backTo pos (starEach es X.env)).any (·.1) = false := by rfl) :
    PE X (.Call (.Name x p) (e :: es) [] pos) (tCallW sp t) := by
  intro pins s σ H Q I hq
  refine wpAny_Call_Name_kw (ld_glob I hg hm ?_ hdb)
  refine PySem.W.callWith_K (h₀ := X.base) I.ok.mod.kin hk (thn (ha pos pins s σ H _ I hq) fun us s1 ⟨vs, H1, I1, r, q⟩ => ⟨I1.kIn, ?_⟩) he hp
  have hl : us.length = ps.length := by rw [← r.length]; exact F.len _ _ _ _ q
  have hl' : (us ++ ([] : List Value)).length = ps.length := by rw [List.append_nil]; exact hl
  refine wpAny_call (codeAny_mono (F.run X.A X.stack s1 H1 ⟨us, []⟩ us vs Q hr I1.env0 (by have := hb s1 us I1.kIn hl'; rw [List.append_nil] at this; exact this) r q) fun r s' hq => ?_)
  cases r with
  | error e => exact False.elim hq
  | ok fl =>
    cases fl with
    | ret u => exact I1.after hq
    | next => exact False.elim hq
    | brk => exact False.elim hq
    | cont => exact False.elim hq
end
end L2
set_option Elab.async false
set_option linter.all false
set_option maxRecDepth 100000
set_option maxHeartbeats 4000000
namespace L2
open PySem PySem.Spec PyProof.Rows
def clsV : V → Option Value
  | .ty n => some (.type n)
  | .ref a => some (.ref a)
  | _ => none
theorem clsV_of {y : V} {c u : Value} (e : clsV y = some c) (r : RelV y u) : u = c := by
  cases y with
  | ty n => cases e; exact r
  | ref a => cases e; exact r
  | _ => cases e
theorem clsVs_of : ∀ {ys : List V} {cs us : List Value}, ys.mapM clsV = some cs → Vals ys us → us = cs
  | [], cs, _, e, .nil => by cases e; rfl
  | y :: ys, cs, u :: us, e, .cons r t => by
    rw [List.mapM_cons] at e
    cases h1 : clsV y with
    | none => rw [h1] at e; cases e
    | some c =>
      cases h2 : ys.mapM clsV with
      | none => rw [h1, h2] at e; cases e
      | some cr =>
        rw [h1, h2] at e
        have e' : c :: cr = cs := Option.some.inj e
        subst e'
        rw [clsV_of h1 r, clsVs_of h2 t]
inductive TyX (K : PySem.W.Frag) (H : Hp) : V → Value → Prop where
  | of {x : V} {t : Value} (h : TyOf K H x t) : TyX K H x t
  | exc {a C : Addr} {cx : Option Addr} (h : H a = some (ExcO a (.ref C) cx)) (T : PySem.W.ExcT K C) : TyX K H (.ref a) (.ref C)
section
variable {X : Cx} {pins : List (Addr × Obj)} {σ : St} {H : Hp} {s : Shared} {A : Around} {E : Value → Shared → Prop} {Q : Value → Shared → Prop}
theorem TyX.kit {x : V} {u t : Value} (I : Inv X pins σ H s) (rx : RelV x u) (ty : TyX X.K H x t) : ∃ Φ : Heap → Prop, PySem.W.KitX X.K u t Φ ∧ Φ s.heap ∧ u ≠ .builtin "__main__.__loader__#opaque" := by
  cases ty with
  | @exc a C cx h T =>
    cases (show u = Value.ref a from rx)
    obtain ⟨⟨o, vs, h1, h2, h3, _⟩, _⟩ := (show ObjOk X.prog X.w H s.heap a (ExcO a (.ref C) cx) from I.hok a _ h)
    exact ⟨_, PySem.W.kitx_exc T, ⟨o, vs, h1, h2, h3⟩, fun z => nomatch z⟩
  | of h =>
  cases h with
  | non => cases (show u = Value.none from rx); exact ⟨_, PySem.W.kitx_none, True.intro, fun z => nomatch z⟩
  | bl y => cases (show u = Value.bool y from rx); exact ⟨_, PySem.W.kitx_bool, True.intro, fun z => nomatch z⟩
  | int i => obtain ⟨t, q⟩ := (show ∃ t, u = Value.int i t from rx); cases q; exact ⟨_, PySem.W.kitx_int, True.intro, fun z => nomatch z⟩
  | str y => obtain ⟨t, q⟩ := (show ∃ t, u = Value.str y t from rx); cases q; exact ⟨_, PySem.W.kitx_str, True.intro, fun z => nomatch z⟩
  | flt y => obtain ⟨t, q⟩ := (show ∃ t, u = Value.float y t from rx); cases q; exact ⟨_, PySem.W.kitx_float, True.intro, fun z => nomatch z⟩
  | @lst a xs ea =>
    cases (show u = Value.ref a from rx)
    obtain ⟨_, _, n, _, h1⟩ := (show ObjOk X.prog X.w H s.heap a (.lst xs) from I.hok a _ ea)
    exact ⟨_, PySem.W.kitx_list, ⟨_, h1, rfl⟩, fun z => nomatch z⟩
  | @frz a ob xs ea =>
    cases (show u = Value.ref a from rx)
    obtain ⟨_, _, _, n, _, h1⟩ := (show ObjOk X.prog X.w H s.heap a (.frz ob (.lst xs)) from I.hok a _ ea)
    exact ⟨_, PySem.W.kitx_list, ⟨_, h1, rfl⟩, fun z => nomatch z⟩
  | @tup a xs ea =>
    cases (show u = Value.ref a from rx)
    obtain ⟨_, _, _, p⟩ := (show ObjOk X.prog X.w H s.heap a (.tup xs) from I.hok a _ ea)
    obtain ⟨o, h1, h2, _⟩ := p
    exact ⟨_, PySem.W.kitx_tuple, ⟨o, h1, h2⟩, fun z => nomatch z⟩
  | @dK a kvs ea =>
    cases (show u = Value.ref a from rx)
    obtain ⟨_, _, vs, _, p⟩ := (show ObjOk X.prog X.w H s.heap a (.dK kvs) from I.hok a _ ea)
    obtain ⟨o, es, ep, h1, h2, _⟩ := p
    exact ⟨_, PySem.W.kitx_dict, ⟨o, h1, h2.1⟩, fun z => nomatch z⟩
  | @dT a kvs ea =>
    cases (show u = Value.ref a from rx)
    obtain ⟨_, _, xs, _, o, es, ep, h1, h2, _⟩ := (show ObjOk X.prog X.w H s.heap a (.dT kvs) from I.hok a _ ea)
    exact ⟨_, PySem.W.kitx_dict, ⟨o, h1, h2.1⟩, fun z => nomatch z⟩
  | @ins a C dx fs ea cl ha hn htk hm =>
    cases (show u = Value.ref a from rx)
    obtain ⟨mA, O, _⟩ := ins_get I.hok ea
    obtain ⟨od, J, _⟩ := O.look
    exact ⟨_, PySem.W.kitx_own (cl.get _) cl.hd ha hn htk hm, J, fun z => nomatch z⟩
def rIsi (K : PySem.W.Frag) : List V → Hp → VK → Prop := fun xs H Q => ∃ x y t c b, xs = [x, y] ∧ clsV y = some c ∧ TyX K H x t ∧ PySem.W.kitOne K t c = some b ∧ Q (.bl b) H
theorem call_isi : CallR X (.builtin "isinstance") (rIsi X.K) := by
  intro pins s σ H xs us Q I r h
  obtain ⟨x, y, t, c, b, rfl, e1, e2, e3, q⟩ := h
  obtain ⟨u, v, rfl, r1, r2⟩ := vals2 r
  obtain rfl := clsV_of e1 r2
  obtain ⟨Φ, Z, p, n⟩ := e2.kit I r1
  exact PySem.W.kia_one Z I.kIn p e3 n fun tk => ⟨.bl b, H, I.tok _, rfl, q⟩
def rIsiT (K : PySem.W.Frag) : List V → Hp → VK → Prop := fun xs H Q => ∃ x p ys t cs b, xs = [x, .ref p] ∧ H p = some (.tup ys) ∧ ys.mapM clsV = some cs ∧ TyX K H x t ∧ PySem.W.kitAny K t cs = some b ∧ Q (.bl b) H
theorem call_isiT : CallR X (.builtin "isinstance") (rIsiT X.K) := by
  intro pins s σ H xs us Q I r h
  obtain ⟨x, p, ys, t, cs, b, rfl, e0, e1, e2, e3, q⟩ := h
  obtain ⟨u, v, rfl, r1, r2⟩ := vals2 r
  cases (show v = Value.ref p from r2)
  obtain ⟨_, its, rv, o, ho, hc, n, hd⟩ := (show ObjOk X.prog X.w H s.heap p (.tup ys) from I.hok p _ e0)
  obtain rfl := clsVs_of e1 rv
  obtain ⟨Φ, Z, pp, nn⟩ := e2.kit I r1
  obtain ⟨oc, od, oda, osl⟩ := o
  dsimp only at hc hd
  subst hc hd
  exact PySem.W.kia_tup Z I.kIn pp ho e3 nn fun tk => ⟨.bl b, H, I.tok _, rfl, q⟩
end
def eqVs : List V → List V → Bool
  | [], [] => true
  | x :: xs, y :: ys => eqV x y && eqVs xs ys
  | _, _ => false
theorem eqVs_len : ∀ {xs ys : List V}, xs.length ≠ ys.length → eqVs xs ys = false
  | [], [], h => absurd rfl h
  | _ :: _, [], _ => rfl
  | [], _ :: _, _ => rfl
  | x :: xs, y :: ys, h => by
    unfold eqVs
    rw [eqVs_len (fun q => h (by simp [q])), Bool.and_false]
def eAt (xs ys : List V) (j : Nat) : Bool := match xs[j]?, ys[j]? with
  | some x, some y => eqV x y
  | _, _ => true
theorem eqVs_range : ∀ {xs ys : List V}, xs.length = ys.length → (List.range xs.length).all (eAt xs ys) = eqVs xs ys
  | [], [], _ => rfl
  | x :: xs, y :: ys, h => by
    have h' : xs.length = ys.length := by simpa using h
    show (List.range (xs.length + 1)).all _ = (eqV x y && eqVs xs ys)
    rw [List.range_succ_eq_map, List.all_cons, List.all_map, ← eqVs_range h']
    rfl
section
variable {X : Cx} {pins : List (Addr × Obj)} {σ : St} {H : Hp} {s : Shared}
theorem eAt_ok {A : Around} {s : Shared} : ∀ {xs ys : List V} {us ws : List Value}, Vals xs us → Vals ys ws → xs.all flatV = true → ys.all flatV = true → ∀ j (h1 : j < us.toArray.size) (h2 : j < ws.toArray.size), SeqAt.EqAt A s us.toArray[j] ws.toArray[j] (eAt xs ys j)
  | x :: xs, y :: ys, u :: us, w :: ws, .cons r1 t1, .cons r2 t2, f1, f2, 0, _, _ => by
    rw [List.all_cons, Bool.and_eq_true] at f1 f2
    exact eqAt_V r1 r2 f1.1 f2.1
  | x :: xs, y :: ys, u :: us, w :: ws, .cons r1 t1, .cons r2 t2, f1, f2, j + 1, h1, h2 => by
    rw [List.all_cons, Bool.and_eq_true] at f1 f2
    have := eAt_ok (A := A) (s := s) t1 t2 f1.2 f2.2 j (by simpa using h1) (by simpa using h2)
    simpa [eAt] using this
  | [], _, _, _, .nil, _, _, _, j, h1, _ => absurd h1 (by simp)
  | _ :: _, [], _, _, _, .nil, _, _, j, _, h2 => absurd h2 (by simp)
def rEqL (K : PySem.W.Frag) (neg : Bool) : R2 := fun x y H Q => ∃ a b xs ys, x = .ref a ∧ y = .ref b ∧ ((SqL K H a xs ∧ SqL K H b ys) ∨ (SqT K H a xs ∧ SqT K H b ys)) ∧ xs.all flatV = true ∧ ys.all flatV = true ∧ Q (.bl (if neg then !eqVs xs ys else eqVs xs ys)) H
theorem op_eqL (hu : X.A.units + 1 < cLine) : OpR X (compareOp .Eq) (rEqL X.K false) := by
  intro pins s σ H x y v u Q I rx ry h
  obtain ⟨a, b, xs, ys, rfl, rfl, hq, f1, f2, q⟩ := h
  cases rx; cases ry
  have hu' : X.A.units < cLine := by omega
  rcases hq with ⟨h1, h2⟩ | ⟨h1, h2⟩
  · obtain ⟨us, r1, p1, z1⟩ := I.list h1
    obtain ⟨ws, r2, p2, z2⟩ := I.list h2
    by_cases hl : xs.length = ys.length
    · refine SeqAt.eq_listAt p1.isList p2.isList (by simp [← r1.length, ← r2.length, hl]) hu' (eAt_ok r1 r2 f1 f2) ⟨.bl _, H, I, rfl, ?_⟩
      rw [show us.toArray.size = xs.length by simp [r1.length], eqVs_range hl]
      exact q
    · refine SeqAt.eq_list_lengthsAt p1.isList p2.isList (by simp [← r1.length, ← r2.length, hl]) hu' ⟨.bl false, H, I, rfl, ?_⟩
      rw [eqVs_len hl] at q
      exact q
  · obtain ⟨us, r1, p1, z1⟩ := I.tuple h1
    obtain ⟨ws, r2, p2, z2⟩ := I.tuple h2
    refine SeqAt.eq_tupleAt p1 p2 hu' (eAt_ok r1 r2 f1 f2) ⟨.bl _, H, I, rfl, ?_⟩
    by_cases hl : xs.length = ys.length
    · rw [show us.toArray.size = xs.length by simp [r1.length], show ws.toArray.size = ys.length by simp [r2.length], ← hl, Nat.min_self, eqVs_range hl, beq_self_eq_true, Bool.and_true]
      exact q
    · rw [show us.toArray.size = xs.length by simp [r1.length], show ws.toArray.size = ys.length by simp [r2.length], beq_eq_false_iff_ne.mpr hl, Bool.and_false]
      rw [eqVs_len hl] at q
      exact q
theorem op_mulB : OpR X (binaryOp .Mult) (rI IntMulOk fun i j => .int (i * j)) := opI fun _ _ _ _ _ _ _ hc q => mul_int q hc
theorem op_fdivB : OpR X (binaryOp .FloorDiv) (rI (fun _ j => 0 < j ∧ j.natAbs.log2 < 9000) fun i j => .int (i / j)) := opI fun i j _ _ _ _ _ hc q => by
  have h0 : j ≠ 0 := by have := hc.1; omega
  refine floordiv_int h0 ?_ (.inl (PyProof.noPylong_of_log2 hc.2))
  rw [Int.fdiv_eq_ediv_of_nonneg _ (Int.le_of_lt hc.1)]
  exact q
end
end L2
namespace L2
open PySem PySem.W PySem.Calls PyProof.Rows
theorem script_bits {ns : List Int} (h : WData.layableAll [WData.list (ns.map WData.int)] = true) : ∀ n ∈ ns, Builtin.Int.intBits n ≤ 2 ^ 20 := fun n hn => by
  have h1 : (WData.list (ns.map WData.int)).layable = true := layableW_arg h _ (List.mem_singleton.mpr rfl)
  have h2 := layableW_item h1 (WData.int n) (List.mem_map.mpr ⟨n, hn, rfl⟩)
  have h3 := (layableW_iff.mp h2).2.2
  simpa only [WData.weight, Builtin.Int.intBits] using h3
theorem walk_ofB {l : OpenLaw} {n k : Nat} {q : Program} {loose : List Str} {XP : (Str → Option Value) → Heap → Prop} {YP : World → Heap → Prop} {d : DefRec} {K : Params → Frag} {CX : World → CXT} {sp : World → Sp} {x : Str}
    (hn : l.most = some n) (hn2 : n ≤ sizeLine) (hdf : d.params.defaults = []) (hr : Room k callerA)
    (hY : ∀ (w : World) (h : Heap), YP w h → (K w.params).In h)
    (F : ∀ (w : World) (mg : Str → Option Value) (fa : Addr) (h : Heap), (K w.params).In h → h.Ns mainGlobals mg → mg d.name = some (.ref fa) →
      ∃ fd : FuncData, (∀ (s : Shared) (u : Value), BindsTo s fd ⟨[u], []⟩ [(x, u)]) ∧
        ∀ base : Heap, (K w.params).In base → base.Ns mainGlobals mg → FnOk l.prog w (K w.params) mg base (CX w) k fa fd [x] (sp w))
    (hsp : ∀ (w : World) (H : Hp) (a : Addr) (ns : List Int), ns.length ≤ n → (∀ m ∈ ns, Builtin.Int.intBits m ≤ 2 ^ 20) → Only H → SqL (K w.params) H a (ns.map V.int) → sp w [.ref a] H (fun v _ => v = .bl true) fun _ _ _ => False)
    (hCX : ∀ (w : World) (H : Hp) (s : Shared) (e : Value) (s' : Shared), CX w [] H s (fun _ _ _ => False) e s' → False) :
    WalkO q loose XP YP l.row.toRowW d [] (fun f vs => PySem.call f vs) := by
  intro w s₀ s₁ mg mb G Y fa o pm cd doc dV kV ho hd hcd hD hmg hg args vals as hpre hlay hrd hwl hlo
  obtain rfl : dV = .none := Dflts.none hD hdf
  obtain rfl : kV = .none := Dflts.noKw hD
  obtain ⟨a, vs, ns, rfl, rfl, hobj, hints, hlen⟩ := Att.script_of hn hpre hwl
  have KX := hY w _ Y
  obtain ⟨fd, hb, hF⟩ := F w mg fa _ KX G.T.g hmg
  refine enter_call (codeAny_mono (law_call KX G.T.g G.T.b G.T.builtins G.T.nolimit hg hobj hints (Nat.le_trans hlen hn2) hr hF hb (fun H hO hS => hsp w H a ns hlen (script_bits hlay) hO hS) fun H e s' => hCX w H s₁ e s') fun r s' hq => ?_)
  obtain ⟨rfl, h2, h3, h4⟩ := hq
  exact ⟨.inl ⟨.bool true, .bool true, [], rfl, fun _ => rfl, .bool true, Att.post_true l _, fun _ => ⟨List.Pairwise.nil, fun _ hm => (nomatch hm)⟩⟩, h2, h3, h4⟩
theorem noCXe {P : Program} {w : World} {outer : List Env} (H : Hp) (s : Shared) (e : Value) (s' : Shared) (h : CXe P w outer H s (fun _ _ _ => False) e s') : False := by
  obtain ⟨_, _, _, _, _, _, _, _, _, _, _, _, _, _, _, _, hE⟩ := h
  exact hE
end L2
set_option Elab.async false
set_option linter.all false
set_option maxRecDepth 100000
set_option maxHeartbeats 4000000
namespace L2
open PySem PySem.Spec PyProof.Rows
structure Own (P : Program) (w : World) (K : PySem.W.Frag) (mg : Str → Option Value) (base : Heap) (k : Nat) (x : Str) (ps : List Str) (sp : Sp) : Prop where
  ex : ∃ f fd, FnOk P w K mg base (CXe P w) k f fd ps sp ∧ Binds K fd ps [] ∧ PySem.W.keepIn K (.ref f) = true ∧ mg x = some (.ref f)
structure OwnD (P : Program) (w : World) (K : PySem.W.Frag) (mg : Str → Option Value) (base : Heap) (k : Nat) (x : Str) (ps : List Str) (sp : Sp) (d : V) : Prop where
  ex : ∃ f fd du, FnOk P w K mg base (CXe P w) k f fd ps sp ∧ Binds K fd ps [] ∧ Binds K fd ps [du] ∧ RelV d du ∧ PySem.W.keepIn K (.ref f) = true ∧ mg x = some (.ref f)
structure OwnW (P : Program) (w : World) (K : PySem.W.Frag) (mg : Str → Option Value) (base : Heap) (k : Nat) (x : Str) (ps : List Str) (sp : Sp) : Prop where
  ex : ∃ f fd, FnOkW P w K mg base k f fd ps sp ∧ Binds K fd ps [] ∧ PySem.W.keepIn K (.ref f) = true ∧ mg x = some (.ref f)
section
variable {X : Cx} {k k' : Nat} {ps : List Str} {sp : Sp} {x : Str} {p pos : Pos} {e : Expr} {es : List Expr} {t : TA} {E : XK} {d : V}
theorem pe_own (G : Own X.prog X.w X.K X.mg X.base k x ps sp) (hr : Room k' X.A) (hk : k ≤ k') (hx : Passes (CXe X.prog X.w) X E) (ha : PA X (e :: es) t) (hg : Gl X x := by rfl)
    (hdb : (x == ("__debug__" : Str)) = false := by decide) (he : starEach (e :: es) X.env = (false, eval e X.env) :: starEach es X.env := by rfl) (hpl : (backTo pos (starEach es X.env)).any (·.1) = false := by rfl) :
    PE X (.Call (.Name x p) (e :: es) [] pos) (tCall sp [] E t) := by
  obtain ⟨f, fd, F, b, kp, m⟩ := G.ex
  exact pe_call F (hr.mono hk) hg m kp b .nil hx ha hdb he hpl
theorem pe_ownDF (G : OwnD X.prog X.w X.K X.mg X.base k x ps sp d) (hr : Room k' X.A) (hk : k ≤ k') (hx : Passes (CXe X.prog X.w) X E) (ha : PA X (e :: es) t) (hg : Gl X x := by rfl)
    (hdb : (x == ("__debug__" : Str)) = false := by decide) (he : starEach (e :: es) X.env = (false, eval e X.env) :: starEach es X.env := by rfl) (hpl : (backTo pos (starEach es X.env)).any (·.1) = false := by rfl) :
    PE X (.Call (.Name x p) (e :: es) [] pos) (tCall sp [] E t) := by
  obtain ⟨f, fd, du, F, b, bd, rd, kp, m⟩ := G.ex
  exact pe_call F (hr.mono hk) hg m kp b .nil hx ha hdb he hpl
theorem pe_ownW (G : OwnW X.prog X.w X.K X.mg X.base k x ps sp) (hr : RoomW k' X.A) (ha : PA X (e :: es) t) (hk : k ≤ k' := by decide) (hg : Gl X x := by rfl)
    (hdb : (x == ("__debug__" : Str)) = false := by decide) (he : starEach (e :: es) X.env = (false, eval e X.env) :: starEach es X.env := by rfl) (hpl : (backTo pos (starEach es X.env)).any (·.1) = false := by rfl) :
    PE X (.Call (.Name x p) (e :: es) [] pos) (tCallW sp t) := by
  obtain ⟨f, fd, F, b, kp, m⟩ := G.ex
  exact pe_callW F ⟨by have := hr.dp; omega, by have := hr.un; omega⟩ hg m kp b ha hdb he hpl
end
theorem bt_int : bootBuiltins "int" = some (.type "int") := by decide +kernel
theorem bt_bool : bootBuiltins "bool" = some (.type "bool") := by decide +kernel
theorem bt_str : bootBuiltins "str" = some (.type "str") := by decide +kernel
theorem bt_tuple : bootBuiltins "tuple" = some (.type "tuple") := by decide +kernel
theorem bt_ValueError : bootBuiltins "ValueError" = some (.type "ValueError") := by decide +kernel
theorem bt_isinstance : bootBuiltins "isinstance" = some (.builtin "isinstance") := by decide +kernel
theorem bt_len : bootBuiltins "len" = some (.builtin "len") := by decide +kernel
theorem kit_int_int {K : PySem.W.Frag} : PySem.W.kitOne K (.type "int") (.type "int") = some true := rfl
theorem kit_bool_bool {K : PySem.W.Frag} : PySem.W.kitOne K (.type "bool") (.type "bool") = some true := rfl
theorem kit_int_bool {K : PySem.W.Frag} : PySem.W.kitOne K (.type "int") (.type "bool") = some false := by with_unfolding_all rfl
theorem kit_tuple_tuple {K : PySem.W.Frag} : PySem.W.kitOne K (.type "tuple") (.type "tuple") = some true := rfl
theorem same_new {H : Hp} {p : Addr} (h : H p = none) (o : HO) : Same H (upd H p o) := fun b u q => by rw [upd_ne (ne_of_none q h)]; exact q
def Scr (K : PySem.W.Frag) (H : Hp) (a : Addr) (xs : List V) : Prop := (∃ o, H a = some (.frz o (.lst xs))) ∨
    ∃ (o : Obj) (its : Array Value) (n : Nat), K.lookup a = some o ∧ o.cls = .type "list" ∧ o.dict = none ∧ o.data = .seq its n ∧ its.size ≤ sizeLine ∧ Vals xs its.toList
theorem Scr.seq {K : PySem.W.Frag} {H : Hp} {a : Addr} {xs : List V} (h : Scr K H a xs) : SqL K H a xs := h.elim (fun z => .inl (.inr z)) .inr
theorem Scr.of {K : PySem.W.Frag} {H : Hp} {a : Addr} {xs : List V} (h : SqL K H a xs) (o : Only H) : Scr K H a xs := by
  rcases h with (h | h) | h
  · rcases o a with z | ⟨o, ys, z⟩
    · rw [h] at z; cases z
    · rw [h] at z; cases z
  · exact .inl h
  · exact .inr h
theorem Scr.same {K : PySem.W.Frag} {H H' : Hp} {a : Addr} {xs : List V} (g : Same H H') (h : Scr K H a xs) : Scr K H' a xs := h.elim (fun ⟨o, z⟩ => .inl ⟨o, g _ _ z⟩) .inr
theorem Scr.upd {K : PySem.W.Frag} {H : Hp} {a l : Addr} {xs ys : List V} {o : HO} (hl : H l = some (.lst ys)) (h : Scr K H a xs) : Scr K (L2.upd H l o) a xs := h.elim (fun ⟨ob, z⟩ => .inl ⟨ob, by rw [upd_ne (ne_of z hl (by intro q; cases q))]; exact z⟩) .inr
end L2
set_option Elab.async false
set_option linter.all false
set_option maxRecDepth 100000
set_option maxHeartbeats 4000000
namespace L2
open PySem PySem.Spec PyProof.Rows
section
variable {prog : Program} {w : World} {A : Around} {R : Result → Shared → Prop} {s : Shared}
theorem compLoop_go {elt target iter : Expr} {ifs : List Expr} {scope : Scope} {pos : Pos} {it acc : Value} {env : Env} {N : Value → Shared → Prop} (hN : N = notedBy (model prog w) A env fun e s' => R (.error e) s') (I : Nat → Shared → Prop)
    (turn : ∀ n s, I n s → wpAny (model prog w) A (pyNext it) (fun r s₁ => match r with
      | none => R (.ok .next) s₁
      | some v => wpAny (model prog w) A (letOwnedTupleGo target it v) (fun _ s₁' => wpAny (model prog w) A (assign target env v) (fun _ s₂ =>
          wpAny (model prog w) A (forIn ifs true fun c r => if r = true then do let ok ← isTrue c env (eval c env); pure (ForInStep.yield ok) else pure (ForInStep.yield r)) (fun ok s₃ =>
            if ok = true then wpAny (model prog w) A (eval elt env) (fun x s₄ =>
              wpAny (model prog w) A (call (.builtin "list.append") [acc, x]) (fun _ s₅ => ∃ m, m < n ∧ I m s₅) N s₄) N s₃
            else ∃ m, m < n ∧ I m s₃) N s₂) N s₁') N s₁) N s)
    (n : Nat) (h : I n s) :
    codeAny (model prog w) A (.compLoop (.ListComp elt [⟨target, iter, ifs, 0⟩] scope pos) 0 it acc env) R s := by
  subst hN
  refine codeAny_loop rfl I (fun k z q => ?_) n h
  show wpAny _ A ((compTurn (.ListComp elt [⟨target, iter, ifs, 0⟩] scope pos) 0 it acc env).onRaise (fun ex => do noteFrame ex env; theTreesLotGoes ex)) _ _ z
  refine wpAny_noted ?_
  rw [compTurn_list]
  refine wpAny_bind (wpAny_standAt (wpAny_bind (thn (turn k z q) fun r z1 q1 => ?_)))
  cases r with
  | none => exact wpAny_pure q1
  | some v =>
    refine wpAny_bind (thn q1 fun _ z2 q2 => ?_)
    refine wpAny_bind (thn q2 fun _ z3 q3 => ?_)
    refine wpAny_bind (thn q3 fun ok z4 q4 => ?_)
    cases ok with
    | false => exact wpAny_pure ⟨rfl, q4⟩
    | true => exact wpAny_bind (wpAny_bind (thn q4 fun x z5 q5 => wpAny_bind (thn q5 fun _ z6 q6 => wpAny_pure (wpAny_pure ⟨rfl, q6⟩))))
end
def capOf (cells : List (Str × Addr)) : List (Str × NameKind) → List (Str × Addr) → List (Str × Addr)
  | [], acc => acc
  | (n, k) :: r, acc => if k == .free then (match cells.lookup n with
      | some c => capOf cells r ((n, c) :: acc)
      | none => capOf cells r acc) else capOf cells r acc
theorem capOf_acc {cells : List (Str × Addr)} {x : Str} {c : Addr} : ∀ {names : List (Str × NameKind)} {acc : List (Str × Addr)}, (∀ d, acc.lookup x = some d → cells.lookup x = some d) → (capOf cells names acc).lookup x = some c → cells.lookup x = some c
  | [], acc, h, e => h c e
  | (n, k) :: r, acc, h, e => by
    unfold capOf at e
    split at e
    · split at e
      · rename_i c' hc'
        refine capOf_acc (fun d q => ?_) e
        rw [List.lookup_cons] at q
        split at q
        · rename_i hx
          have hx' : x = n := by simpa using hx
          cases q
          rw [hx']; exact hc'
        · exact h d q
      · exact capOf_acc h e
    · exact capOf_acc h e
theorem capOf_keeps {cells : List (Str × Addr)} {x : Str} : ∀ {names : List (Str × NameKind)} {acc : List (Str × Addr)}, (∃ d, acc.lookup x = some d) → ∃ d, (capOf cells names acc).lookup x = some d
  | [], acc, h => h
  | (n, k) :: r, acc, h => by
    unfold capOf
    split
    · split
      · refine capOf_keeps ?_
        rw [List.lookup_cons]
        split
        · exact ⟨_, rfl⟩
        · exact h
      · exact capOf_keeps h
    · exact capOf_keeps h
theorem capOf_has {cells : List (Str × Addr)} {x : Str} : ∀ {names : List (Str × NameKind)} {acc : List (Str × Addr)}, (x, NameKind.free) ∈ names → (∃ c, cells.lookup x = some c) → ∃ d, (capOf cells names acc).lookup x = some d
  | [], acc, h, _ => by simp at h
  | (n, k) :: r, acc, h, hc => by
    unfold capOf
    rcases List.mem_cons.mp h with e | h
    · cases e
      obtain ⟨c, hc⟩ := hc
      rw [if_pos (by rfl), hc]
      exact capOf_keeps ⟨c, by simp [List.lookup_cons]⟩
    · split
      · split
        · exact capOf_has h hc
        · exact capOf_has h hc
      · exact capOf_has h hc
theorem closure_go {env : Env} : ∀ (names : List (Str × NameKind)) (acc : List (Str × Addr)), (∀ y ∈ names, y.2 = .free → ∃ c, env.cells.lookup y.1 = some c) →
    (forIn names acc fun (x : Str × NameKind) (cs : List (Str × Addr)) => if (x.2 == NameKind.free) = true then do let a ← cellOf env x.1; pure (ForInStep.yield ((x.1, a) :: cs)) else pure (ForInStep.yield cs) : Sem (List (Str × Addr))) = pure (capOf env.cells names acc)
  | [], acc, _ => rfl
  | (n, k) :: r, acc, h => by
    rw [List.forIn_cons]
    unfold capOf
    by_cases hk : (k == NameKind.free) = true
    · obtain ⟨c, hc⟩ := h (n, k) List.mem_cons_self (by simpa using hk)
      have e : cellOf env n = pure c := by unfold cellOf; rw [hc]
      rw [if_pos hk, if_pos hk, hc, e]
      exact closure_go r _ fun y hy => h y (List.mem_cons_of_mem _ hy)
    · rw [if_neg hk, if_neg hk]
      exact closure_go r acc fun y hy => h y (List.mem_cons_of_mem _ hy)
theorem closure_cap {scope : Scope} {env : Env} (h : ∀ y ∈ scope.names, y.2 = .free → ∃ c, env.cells.lookup y.1 = some c) : closureFor scope env = pure (capOf env.cells scope.names []) := by
  have := closure_go (env := env) scope.names [] h
  unfold closureFor
  exact (congrArg (· >>= pure) this).trans (by first | rfl | simp)
theorem lookup_relabel {env : Env} : ∀ {names : List (Str × NameKind)} {x : Str} {k' : NameKind},
    (names.map fun (n, k) => if (k == NameKind.free && env.scope.kind == .function && env.kindOf n == some .cell) then (n, NameKind.cell) else (n, k)).lookup x = some k' →
    ∃ k, names.lookup x = some k ∧ (k' = k ∨ (k = .free ∧ k' = .cell))
  | [], _, _, h => by simp at h
  | (n, k) :: r, x, k', h => by
    rw [List.map_cons] at h
    dsimp only at h
    by_cases hc : (k == NameKind.free && env.scope.kind == .function && env.kindOf n == some .cell) = true
    · rw [if_pos hc, List.lookup_cons] at h
      rw [List.lookup_cons]
      split at h
      · rename_i hx
        cases h
        have hk : k = .free := by
          have := (Bool.and_eq_true _ _ ▸ (Bool.and_eq_true _ _ ▸ hc).1).1
          simpa using this
        exact ⟨k, rfl, .inr ⟨hk, rfl⟩⟩
      · rename_i hx
        obtain ⟨k2, q1, q2⟩ := lookup_relabel h
        exact ⟨k2, q1, q2⟩
    · rw [if_neg hc, List.lookup_cons] at h
      rw [List.lookup_cons]
      split at h
      · rename_i hx
        cases h
        exact ⟨k, rfl, .inl rfl⟩
      · rename_i hx
        obtain ⟨k2, q1, q2⟩ := lookup_relabel h
        exact ⟨k2, q1, q2⟩
theorem lookup_relabel_free {env : Env} : ∀ {names : List (Str × NameKind)} {x : Str}, names.lookup x = some .free →
    (names.map fun (n, k) => if (k == NameKind.free && env.scope.kind == .function && env.kindOf n == some .cell) then (n, NameKind.cell) else (n, k)).lookup x = some .cell ∨
    (names.map fun (n, k) => if (k == NameKind.free && env.scope.kind == .function && env.kindOf n == some .cell) then (n, NameKind.cell) else (n, k)).lookup x = some .free
  | [], _, h => by simp at h
  | (n, k) :: r, x, h => by
    rw [List.map_cons]
    dsimp only
    rw [List.lookup_cons] at h
    by_cases hc : (k == NameKind.free && env.scope.kind == .function && env.kindOf n == some .cell) = true
    · rw [if_pos hc, List.lookup_cons]
      split at h
      · rename_i hx
        left; rfl
      · rename_i hx
        exact lookup_relabel_free (env := env) h
    · rw [if_neg hc, List.lookup_cons]
      split at h
      · rename_i hx
        right; exact h
      · rename_i hx
        exact lookup_relabel_free (env := env) h
structure CompSc (Sc scope : Scope) (N Nc : List Str) (k : Nat) (js : List Nat) : Prop where
  cell : ∀ y ∈ scope.names, y.2 ≠ .cell
  kind : scope.kind = .function
  names : ∀ y ∈ scope.names, y.2 = .local → scope.names.lookup y.1 = some .local
  free : ∀ y ∈ scope.names, y.2 = .free → Sc.names.lookup y.1 = some .cell ∨ Sc.names.lookup y.1 = some .free
  nd : Nc.Nodup
  len : Nc.length = k + js.length
  cap : (Nc.drop k).map some = js.map fun j => N[j]?
  caps : ∀ x ∈ Nc.drop k, scope.names.lookup x = some .free
def compSt (k : Nat) (js : List Nat) (σ : St) : St := List.replicate k none ++ js.map fun j => (σ[j]?).getD none
theorem mem_free {names : List (Str × NameKind)} {x : Str} {k : NameKind} (h : names.lookup x = some k) : (x, k) ∈ names := PySem.mem_of_lookup h
abbrev compCx (X : Cx) (scope : Scope) (Nc : List Str) (C : Addr) (s3 : Shared) (H3 : Hp) (fp : List Addr) (xe : Value → Shared → Prop) : Cx :=
  { X with N := Nc, s₀ := s3, H₀ := H3, env := compEnvC scope (capOf X.env.cells scope.names []) C X.env, outer := X.stack, ex := fp, fn := fun _ => false, pn := [], xe := xe }
section
variable {X : Cx} {pins : List (Addr × Obj)} {σ : St} {H3 : Hp} {s3 : Shared} {scope : Scope} {Nc : List Str} {k : Nat} {js : List Nat} {fp : List Addr} {xe : Value → Shared → Prop} {h₁ : Heap} {m₀ : Str → Option Value} {tk : Nat}
theorem comp_cells (I : Inv X pins σ H3 s3) (S : CompSc X.env.scope scope X.N Nc k js) : ∀ y ∈ scope.names, y.2 = .free → ∃ c, X.env.cells.lookup y.1 = some c := fun y hy hk => I.ok.has y.1 (S.free y hy hk)
theorem comp_sub {x : Str} {c : Addr} (e : (capOf X.env.cells scope.names []).lookup x = some c) : X.env.cells.lookup x = some c := capOf_acc (fun d q => by simp at q) e
theorem comp_inv (I : Inv X pins σ H3 s3) (S : CompSc X.env.scope scope X.N Nc k js) (hf : ∀ b ∈ fp, FpOk X pins H3 b) (hfo : ∀ b ∈ fp, b < s3.heap.objs.size) (hns : h₁.Ns s3.heap.objs.size m₀) (old : ∀ b o, s3.heap.get? b = some o → h₁.get? b = some o) :
    Inv (compCx X scope Nc s3.heap.objs.size s3 H3 fp xe) [] (compSt k js σ) H3 { s3 with heap := h₁, toks := tk } := by
  have ok := I.ok
  have hb0 : ∀ b o, X.base.get? b = some o → b < X.s₀.heap.objs.size := fun b o e => Nat.lt_of_lt_of_le (Heap.lt_size e) ok.bsz
  refine ⟨⟨ok.mod, S.kind, ok.glob, ok.blt, Nat.le_refl _, fun x y c h1 h2 => ok.inj x y c (comp_sub h1) (comp_sub h2), fun x hx => ?_, (fun x c z => nomatch z), ok.hd, ok.frames, .inl rfl, fun b hb => ⟨Nat.ne_of_lt (hfo b hb), fun x c e => (hf b hb).2.2.2.2.1 x c (comp_sub e)⟩, I.bs, Nat.le_trans ok.bsz I.sz, fun b o e hb => ?_, fun b hb z => ?_, I.stack, I.stkFree⟩,
    rfl, I.bare, Un.kept old, ⟨m₀, hns, fun i x v e1 e2 e3 => ?_⟩, fun x c e => ?_, I.hok.fresh (Nat.le_refl _), fun x c e => I.freeC x c (comp_sub e), fun p hp => absurd (show p ∈ ([] : List (Addr × Obj)) from hp) (by simp), I.hok.kept old, ?_⟩
  · have hx : (relabel scope X.env).names.lookup x = some .cell ∨ (relabel scope X.env).names.lookup x = some .free := hx
    have hfree : scope.names.lookup x = some .free := by
      rcases hx with hx | hx
      · obtain ⟨k2, q1, q2⟩ := lookup_relabel (env := X.env) hx
        rcases q2 with q2 | ⟨q2, _⟩
        · subst q2; exact absurd rfl (S.cell _ (mem_free q1))
        · rw [q2] at q1; exact q1
      · obtain ⟨k2, q1, q2⟩ := lookup_relabel (env := X.env) hx
        rcases q2 with q2 | ⟨q2, q3⟩
        · subst q2; exact q1
        · cases q3
    exact capOf_has (mem_free hfree) (ok.has x (S.free _ (mem_free hfree) rfl))
  · rcases (hf b hb).2.2.2.1 with z | z
    · exact ok.noex b o e z
    · exact absurd (Nat.lt_of_lt_of_le (hb0 b o e) z) (Nat.lt_irrefl _)
  · rcases List.mem_cons.mp (I.stkSub b z) with q | q
    · exact (hf b hb).2.1 q
    · exact (hf b hb).2.2.1 q
  · have hlen : (List.replicate k (none : Option V)).length = k := List.length_replicate
    by_cases hi : i < k
    · unfold compSt at e2
      rw [List.getElem?_append_left (by omega), List.getElem?_replicate] at e2
      split at e2 <;> cases e2
    · unfold compSt at e2
      rw [List.getElem?_append_right (by omega), hlen, List.getElem?_map] at e2
      cases hj : js[i - k]? with
      | none => rw [hj] at e2; cases e2
      | some j =>
        rw [hj] at e2
        have e2' : (σ[j]?).getD none = some v := Option.some.inj e2
        have hσ : σ[j]? = some (some v) := by
          cases q : σ[j]? with
          | none => rw [q] at e2'; cases e2'
          | some y => rw [q] at e2'; simp at e2'; rw [e2']
        have hx : (Nc.drop k)[i - k]? = some x := by rw [List.getElem?_drop]; rw [show k + (i - k) = i by omega]; exact e1
        have hNj : X.N[j]? = some x := by
          have := congrArg (fun l => l[i - k]?) S.cap
          simp only [List.getElem?_map, hx, hj, Option.map_some] at this
          exact (Option.some.inj this).symm
        have hfr : scope.names.lookup x = some .free := S.caps x (List.mem_of_getElem? hx)
        have hk := S.free _ (mem_free hfr) rfl
        obtain ⟨m, hn, hl⟩ := I.loc
        obtain ⟨u, r, l⟩ := hl j x v hNj hσ (.inr hk)
        refine ⟨u, r, .inr ⟨lookup_relabel_free hfr, ?_⟩⟩
        rcases l with ⟨l1, _⟩ | ⟨_, c, hc, hcell⟩
        · have l1 : X.env.scope.names.lookup x = some .local := l1
          rcases hk with hk | hk
          · rw [l1] at hk; cases hk
          · rw [l1] at hk; cases hk
        · obtain ⟨d, hd⟩ := capOf_has (cells := X.env.cells) (acc := []) (mem_free hfr) ⟨c, hc⟩
          have := comp_sub hd
          rw [hc] at this; cases this
          obtain ⟨o, ho, hdd⟩ := hcell
          exact ⟨c, hd, ⟨o, old _ _ ho, hdd⟩⟩
  · obtain ⟨v, o, ho, hd⟩ := I.cell x c (comp_sub e)
    exact ⟨v, o, old _ _ ho, hd⟩
  · unfold compSt
    rw [List.length_append, List.length_replicate, List.length_map]
    exact S.len.symm
end
def PF (X : Cx) (ifs : List Expr) (t : TT) : Prop :=
  ∀ (pins : List (Addr × Obj)) (s : Shared) (σ : St) (H : Hp) (Q : Bool → Hp → Prop), Inv X pins σ H s → t σ H Q →
    wpAny (model X.prog X.w) X.A (forIn ifs true fun c r => if r = true then do let ok ← isTrue c X.env (eval c X.env); pure (ForInStep.yield ok) else pure (ForInStep.yield r)) (TP X pins σ Q) X.xe s
def tTrue : TT := fun _ H Q => Q true H
theorem pf_nil {X : Cx} : PF X [] tTrue := fun pins s σ H Q I h => wpAny_tests_nil ⟨H, I, h⟩
def tCompR (J : It) (g : TG) (tf : TT) (te : TE) (k : Nat) (σ0 : St) (D : Addr) (Fin : Hp → Prop) (H1 : Hp) : Prop :=
  ∃ W : Nat → Nat → List V → Hp → Prop, (∃ m, W 0 m [] (upd H1 D (.lst []))) ∧ ∀ i m ys H, W i m ys H →
    (J.stop i H ∧ Fin H) ∨ (J.go i H ∧ ∃ N : List V → Hp → Prop, (∀ ys' H', N ys' H' → ∃ m', m' < m ∧ W (i + 1) m' ys' H') ∧ ∀ x H', J.yld i H x H' → g x σ0 H' fun σ2 H2 => (σ2.drop k = σ0.drop k ∧ σ2.length = σ0.length) ∧ tf σ2 H2 fun b H3 =>
      if b = true then te σ2 H3 fun y H4 => H4 D = some (.lst ys) ∧ ys.length < sizeLine ∧ N (ys ++ [y]) (upd H4 D (.lst (ys ++ [y]))) else N ys H3)
section
variable {X : Cx} {pins : List (Addr × Obj)} {σ : St} {H : Hp} {s : Shared} {elt tg iter : Expr} {ifs : List Expr} {scope : Scope} {pos : Pos} {Nc : List Str} {k : Nat} {js : List Nat} {g : TG} {tf : TT} {te : TE}
theorem comp_block {J : It} {fp : List Addr} {it : Addr} {tn : Nat → Heap → Prop} {E : Value → Shared → Prop} {RR : Value → Addr → Result → Shared → Prop} {Fin : Addr → Hp → Prop} (hc : X.calm = true) (S : CompSc X.env.scope scope X.N Nc k js)
    (hg : ∀ C s3 H3 fp xe, PG (compCx X scope Nc C s3 H3 fp xe) tg g) (hf : ∀ C s3 H3 fp xe, PF (compCx X scope Nc C s3 H3 fp xe) ifs tf) 
    (he : ∀ C D H3, ∃ xe : Value → Shared → Prop, (∀ e s', xe e s' → notedBy (model X.prog X.w) X.A (compEnvC scope (capOf X.env.cells scope.names []) C X.env) (fun e s' => RR (.ref D) C (.error e) s') e s') ∧
      ∀ s3, Inv X pins σ H3 s3 → C = s3.heap.objs.size → (∀ b ∈ fp, FpOk X pins H3 b) → PE (compCx X scope Nc C s3 H3 fp xe) elt te)
    (I2 : Inv X pins σ H s) (T : Turn X.prog X.w X.K tg J fp it tn) (st2 : tn 0 s.heap) (f2 : ∀ b ∈ fp, FpOk X pins H b) (hR : ∀ D, H D = none → tCompR J g tf te k (compSt k js σ) D (Fin D) H)
    (hRR : ∀ D C H' s' m', Inv X pins σ H' s' → s'.heap.Ns C m' → H' C = none → C ≠ X.env.locals → X.s₀.heap.objs.size ≤ C → (∀ x c, X.env.cells.lookup x = some c → c ≠ C) → (∀ p ∈ X.pn ++ pins, p.1 ≠ C) → Fin D H' → RR (.ref D) C (.ok .next) s') :
    wpAny (model X.prog X.w) X.A (newList []) (fun acc s₃ => wpAny (model X.prog X.w) X.A (newFunctionEnv scope X.env.globals (capOf X.env.cells scope.names []) [] X.env.qual none .none (some X.env)) (fun cenv s₄ =>
      codeAny (model X.prog X.w) X.A (.compStart (.ListComp elt [⟨tg, iter, ifs, 0⟩] scope pos) 0 (.ref it) acc { cenv with scope := relabel scope X.env }) (RR acc cenv.locals) s₄) E s₃) E s := by
  refine wpAny_newObj_type (wpAny_newFunctionEnv S.cell (by intro y hy; simp at hy) (fun h₁ hns₁ hsb₁ => ?_) S.kind)
  dsimp only at hns₁ hsb₁ ⊢
  have I3 : Inv X pins σ (upd H s.heap.objs.size (.lst [])) { s with heap := s.heap.push { cls := .type "list", data := .seq ([] : List Value).toArray }, toks := s.toks } := I2.lnew (its := []) .nil (Nat.zero_le _)
  have hDn : H s.heap.objs.size = none := I2.fresh
  obtain ⟨W, ⟨m0, w0⟩, turn⟩ := hR _ hDn
  generalize hs3 : ({ s with heap := s.heap.push { cls := .type "list", data := .seq ([] : List Value).toArray }, toks := s.toks } : Shared) = s3 at I3
  have e3 : s3.heap = s.heap.push { cls := .type "list", dict := none, data := .seq ([] : List Value).toArray } := by rw [← hs3]
  rw [← e3] at hns₁ hsb₁ ⊢
  have fpo : ∀ b ∈ fp, b < s.heap.objs.size := fun b hb => by obtain ⟨o, e, _⟩ := T.obj _ _ st2 b hb; exact Heap.lt_size e
  have sz3 : s3.heap.objs.size = s.heap.objs.size + 1 := by rw [e3, Heap.size_push]
  have fpo3 : ∀ b ∈ fp, b < s3.heap.objs.size := fun b hb => by rw [sz3]; exact Nat.lt_succ_of_lt (fpo b hb)
  have f3 : ∀ b ∈ fp, FpOk X pins (upd H s.heap.objs.size (.lst [])) b := fun b hb => ⟨by rw [upd_ne (Nat.ne_of_lt (fpo b hb))]; exact (f2 b hb).1, (f2 b hb).2⟩
  have old : ∀ b o, s3.heap.get? b = some o → h₁.get? b = some o := fun b o e => hsb₁.extBut b o (Nat.ne_of_lt (Heap.lt_size e)) (Heap.get?_push_of_some _ e)
  have oldS : ∀ b o, s.heap.get? b = some o → h₁.get? b = some o := fun b o e => old b o (by rw [e3]; exact Heap.get?_push_of_some _ e)
  obtain ⟨xe, hxe, hel⟩ := he s3.heap.objs.size s.heap.objs.size (upd H s.heap.objs.size (.lst []))
  have hel := hel s3 I3 rfl f3
  have I4 : Inv (compCx X scope Nc s3.heap.objs.size s3 (upd H s.heap.objs.size (.lst [])) fp xe) [] (compSt k js σ) (upd H s.heap.objs.size (.lst [])) { s3 with heap := h₁, toks := s.toks + ([] : List (Str × Value)).length } :=
    comp_inv I3 S f3 fpo3 hns₁ old
  have st4 : tn 0 h₁ := T.keep _ _ _ st2 fun b hb o e => oldS b o e
  have es3 : ({ s3 with heap := h₁, toks := s.toks + ([] : List (Str × Value)).length } : Shared) = { s with heap := h₁, toks := s.toks + ([] : List (Str × Value)).length } := by rw [← hs3]
  rw [es3] at I4
  have ok := I2.ok
  have lk := I3.lt
  have hCL : s3.heap.objs.size ≠ X.env.locals := Nat.ne_of_gt lk
  have stat : ∀ {H' : Hp}, (∀ b ∈ fp, H' b = none) → ∀ b ∈ fp, FpOk (compCx X scope Nc s3.heap.objs.size s3 (upd H s.heap.objs.size (.lst [])) fp xe) [] H' b := fun hn b hb =>
    ⟨hn b hb, Nat.ne_of_lt (fpo3 b hb), fun z => (List.mem_cons.mp (I3.stkSub b z)).elim (fun q => (f3 b hb).2.1 q) fun q => (f3 b hb).2.2.1 q, .inl hb, fun x c e => (f3 b hb).2.2.2.2.1 x c (comp_sub e), fun p hp => absurd (show p ∈ ([] : List (Addr × Obj)) from hp) (by simp)⟩
  have loop : codeAny (model X.prog X.w) X.A (.compLoop (.ListComp elt [⟨tg, iter, ifs, 0⟩] scope pos) 0 (.ref it) (.ref s.heap.objs.size) (compEnvC scope (capOf X.env.cells scope.names []) s3.heap.objs.size X.env))
        (RR (.ref s.heap.objs.size) s3.heap.objs.size) { s with heap := h₁, toks := s.toks + ([] : List (Str × Value)).length } := by
    refine compLoop_go rfl (fun n s' => ∃ i ys H', Inv (compCx X scope Nc s3.heap.objs.size s3 (upd H s.heap.objs.size (.lst [])) fp xe) [] (compSt k js σ) H' s' ∧ tn i s'.heap ∧ (∀ b ∈ fp, H' b = none) ∧ W i n ys H') ?_ m0 ⟨0, [], _, I4, st4, fun b hb => (f3 b hb).1, w0⟩
    rintro n s5 ⟨i, ys, H5, I5, st5, fr5, w5⟩
    rcases turn i n ys H5 w5 with ⟨stop, fin⟩ | ⟨go, Nx, hNx, step⟩
    · refine thn (T.done (compCx X scope Nc s3.heap.objs.size s3 (upd H s.heap.objs.size (.lst [])) fp xe) rfl rfl rfl hc i [] s5 (compSt k js σ) H5 _ I5 (stat fr5) st5 stop) fun r s6 ⟨hr, I6⟩ => ?_
      subst hr
      obtain ⟨m6, hn6, _⟩ := I6.loc
      have J : Inv X pins σ H5 s6 := I3.call' (ch := fp) (I6.os.trans rfl) I6.base I6.hok I6.bare fun b hb => ⟨(f3 b hb).2.2.2.1, (f3 b hb).2.1, (f3 b hb).2.2.2.2.1, (f3 b hb).2.2.2.2.2⟩
      refine hRR _ _ H5 s6 m6 J hn6 I6.free hCL (I3.sz) (fun x c e z => ?_) (fun p hp z => ?_) fin
      · obtain ⟨v, q⟩ := I3.cell x c e
        exact absurd q.lt (by rw [z]; exact Nat.lt_irrefl _)
      · exact absurd (Heap.lt_size (I3.pin p hp).1) (by rw [z]; exact Nat.lt_irrefl _)
    · refine thn (T.item (compCx X scope Nc s3.heap.objs.size s3 (upd H s.heap.objs.size (.lst [])) fp xe) rfl rfl rfl hc i [] s5 (compSt k js σ) H5 _ I5 (stat fr5) st5 go) fun r s6 ⟨u, hr, h6⟩ => ?_
      subst hr
      refine thn h6 fun _ s7 ⟨x, H7, I7, r7, y7, st7, fr7⟩ => ?_
      have I7' := I7.pinned (stat fr7) (T.obj _ _ st7)
      refine wpAny_mono (hg _ _ _ _ _ _ s7 _ H7 x u _ I7' r7 (step x H7 y7)) (fun _ s8 ⟨σ8, H8, I8, ⟨d8, l8⟩, q8⟩ => ?_) fun e s' z => hxe e s' z
      refine wpAny_mono (hf _ _ _ _ _ _ s8 σ8 H8 _ I8 q8) (fun b s9 ⟨H9, I9, q9⟩ => ?_) fun e s' z => hxe e s' z
      have again : ∀ {H' : Hp} {s' : Shared} {ys' : List V}, Inv (compCx X scope Nc s3.heap.objs.size s3 (upd H s.heap.objs.size (.lst [])) fp xe) ([] ++ pinsAt fp s7.heap) σ8 H' s' → Nx ys' H' →
          ∃ m, m < n ∧ ∃ i ys H', Inv (compCx X scope Nc s3.heap.objs.size s3 (upd H s.heap.objs.size (.lst [])) fp xe) [] (compSt k js σ) H' s' ∧ tn i s'.heap ∧ (∀ b ∈ fp, H' b = none) ∧ W i m ys H' := fun {H' s' ys'} I' hw => by
        obtain ⟨m', hm, w'⟩ := hNx _ _ hw
        refine ⟨m', hm, i + 1, ys', H', (I'.unpinned).weak l8.symm fun j v e => ?_, T.keep _ _ _ st7 fun b hb o e => (I'.pin (b, o) (List.mem_append_right _ (List.mem_append_right _ (mem_pinsAt hb e)))).1, fun b hb => ?_, w'⟩
        · by_cases hj : j < k
          · unfold compSt at e
            rw [List.getElem?_append_left (by rw [List.length_replicate]; exact hj), List.getElem?_replicate] at e
            split at e <;> cases e
          · have e' : ((compSt k js σ).drop k)[j - k]? = some (some v) := by rw [List.getElem?_drop, show k + (j - k) = j by omega]; exact e
            rw [← d8, List.getElem?_drop, show k + (j - k) = j by omega] at e'
            exact e'
        · obtain ⟨o, e, d⟩ := T.obj _ _ st7 b hb
          exact (I'.pin (b, o) (List.mem_append_right _ (List.mem_append_right _ (mem_pinsAt hb e)))).2.1
      cases b with
      | false =>
        rw [if_neg Bool.false_ne_true] at q9 ⊢
        exact again I9 q9
      | true =>
        rw [if_pos rfl] at q9 ⊢
        refine wpAny_mono (hel _ s9 σ8 H9 _ I9 q9) (fun v s10 ⟨y, H10, I10, r10, hD, hz, w'⟩ => ?_) fun e s' z => hxe e s' z
        refine wpAny_mono (mt_append (X := compCx X scope Nc s3.heap.objs.size s3 (upd H s.heap.objs.size (.lst [])) fp xe) _ s10 σ8 H10 (.ref s.heap.objs.size) [y] (.ref s.heap.objs.size) [v] (fun _ H' => H' = upd H10 s.heap.objs.size (.lst (ys ++ [y]))) I10 rfl (.cons r10 .nil)
          ⟨_, ys, y, rfl, rfl, hD, hz, rfl⟩) (fun _ s11 ⟨_, H11, I11, _, q11⟩ => ?_) fun e s' z => hxe e s' z
        subst q11
        exact again I11 w'
  exact codeAny_compStart_list loop (T.self _ 0 _ _ _ st4 loop)
end
end L2
set_option Elab.async false
set_option linter.all false
set_option maxRecDepth 100000
set_option maxHeartbeats 4000000
namespace L2
open PySem PySem.Spec PyProof.Rows
def tComp (wi : TI) (g : TG) (tf : TT) (te : TE) (k : Nat) (js : List Nat) : TE := fun σ H Q => wi σ H fun J H1 => ∀ D, H1 D = none → tCompR J g tf te k (compSt k js σ) D (fun H' => Q (.ref D) H') H1
section
variable {X : Cx} {elt tg iter : Expr} {ifs : List Expr} {scope : Scope} {pos : Pos} {Nc : List Str} {k : Nat} {js : List Nat} {wi : TI} {g : TG} {tf : TT} {te : TE}
theorem pe_comp (hc : X.calm = true) (S : CompSc X.env.scope scope X.N Nc k js) (hi : PI X tg iter wi) (hg : ∀ C s3 H3 fp xe, PG (compCx X scope Nc C s3 H3 fp xe) tg g) (hf : ∀ C s3 H3 fp xe, PF (compCx X scope Nc C s3 H3 fp xe) ifs tf)
    (he : ∀ C s3 H3 fp xe, PE (compCx X scope Nc C s3 H3 fp xe) elt te) (hs : ∀ x, foldedSetIterable iter X.env x = pure x := by intro _; rfl) : PE X (.ListComp elt [⟨tg, iter, ifs, 0⟩] scope pos) (tComp wi g tf te k js) := by
  intro pins s σ H Q I h
  rw [eval_ListComp]
  refine wpAny_comprehension_free (use := none) rfl hs (closure_cap (comp_cells I S)) S.kind S.names (thn (hi pins s σ H _ I h) fun v s1 h1 => thn h1 fun itv s2 h2 => ?_)
  obtain ⟨it, fp, tn, J, H2, rfl, I2, T, st2, f2, hR⟩ := h2
  refine comp_block (RR := fun acc C => compPost (model X.prog X.w) X.A X.xe none (EP X pins σ Q) acc C) (Fin := fun D H' => Q (.ref D) H') hc S hg hf (fun C D H3 => ⟨fun _ _ => False, fun _ _ z => z.elim, fun s3 _ _ _ => he _ _ _ _ _⟩) I2 T st2 f2 hR ?_
  intro D C H' s' m' I' hn hC hCL hsz hcl hpn q
  exact ⟨m', hn, fun h' hs' => ⟨.ref D, H', I'.turned (t' := s'.toks) (fun b o hb e => (hs'.2 b hb).trans e) hC hCL (.inr hsz) hcl hpn, rfl, q⟩⟩
end
section
variable {X : Cx} {pins : List (Addr × Obj)} {σ : St} {H : Hp} {s : Shared}
end
section
variable {X : Cx}
end
section
variable {X : Cx}
def repS (x : Str) (n : Int) : Str := if n < 1 then Str.empty else if (n == 1 || x.length == 0) = true then x else ⟨(List.replicate n.toNat x.cps).foldl (· ++ ·) #[]⟩
theorem repS_fit {x : Str} {n : Int} (h : x.length * n.toNat ≤ 16777216) (h2 : -1000000000 ≤ n) (h3 : n ≤ 1000000000) (h4 : x.length ≤ 1000000000) : (decide (n < -(2 ^ 63 : Int)) || decide (n ≥ 2 ^ 63)) = false ∧ (¬ n < 1 → (n == 1 || x.length == 0) = false → ¬ ((x.length : Int) > (2 ^ 63 - 1) / n)) ∧ (Builtin.Str.tooLong (x.length * n.toNat) = false) := by
  refine ⟨by simp; omega, fun h1 _ => ?_, ?_⟩
  · have : (x.length : Int) * n ≤ 2 ^ 63 - 1 := by
      have e : ((x.length * n.toNat : Nat) : Int) = (x.length : Int) * n := by rw [Int.natCast_mul, Int.toNat_of_nonneg (by omega)]
      have : ((x.length * n.toNat : Nat) : Int) ≤ 16777216 := Int.ofNat_le.mpr h
      omega
    have := Int.le_ediv_of_mul_le (by omega : 0 < n) this
    omega
  · have e : (2 : Nat) ^ 24 = 16777216 := by decide
    unfold Builtin.Str.tooLong sizeLine
    rw [decide_eq_false (by omega)]
theorem repS_len {x : Str} {n : Int} (h : x.length * n.toNat ≤ 16777216) (h1 : ¬ n < 1) : (List.replicate n.toNat x.cps).foldl (· ++ ·) #[] = ((List.replicate n.toNat x.cps.toList).flatten).toArray := by
  have go : ∀ (k : Nat) (acc : List Nat), List.foldl (fun x1 x2 => x1 ++ x2) acc.toArray (List.replicate k x.cps) = (acc ++ (List.replicate k x.cps.toList).flatten).toArray := by
    intro k
    induction k with
    | zero => intro acc; simp
    | succ k ih =>
      intro acc
      rw [List.replicate_succ, List.foldl_cons, List.replicate_succ, List.flatten_cons]
      have e : acc.toArray ++ x.cps = (acc ++ x.cps.toList).toArray := by simp
      rw [e, ih, List.append_assoc]
  exact go n.toNat []
def rRepS : R2 := fun x y H Q => ∃ z n, x = .str z ∧ y = .int n ∧ z.length ≤ 1000 ∧ -1000000000 ≤ n ∧ n ≤ 10000 ∧ Q (.str (repS z n)) H
theorem op_mul_str : OpR X (binaryOp .Mult) rRepS := by
  intro pins s σ H x y v u Q I rx ry h
  obtain ⟨z, n, rfl, rfl, h1, h2, h3, q⟩ := h
  obtain ⟨t, rfl⟩ := rx
  obtain ⟨t2, rfl⟩ := ry
  have hm : z.length * n.toNat ≤ 10000000 := by
    have : z.length * n.toNat ≤ 1000 * 10000 := Nat.mul_le_mul h1 (by omega)
    omega
  obtain ⟨f1, f2, f3⟩ := repS_fit (x := z) (n := n) (by omega) (by omega) (by omega) (by omega)
  refine P.mul_str f1 f2 (fun _ _ => f3) ?_
  have fin : ∀ (t' : Tok) (k : Nat), EP X pins σ Q (.str (repS z n) t') { s with toks := k } := fun t' k => ⟨.str (repS z n), H, I.tok _, ⟨_, rfl⟩, q⟩
  unfold repS at fin
  by_cases c1 : n < 1
  · rw [if_pos c1]
    simp only [if_pos c1] at fin
    exact ⟨by decide, fin _ _⟩
  · rw [if_neg c1]
    simp only [if_neg c1] at fin
    by_cases c2 : (n == 1 || z.length == 0) = true
    · rw [if_pos c2]
      simp only [if_pos c2] at fin
      exact fin _ s.toks
    · rw [if_neg c2]
      simp only [if_neg c2] at fin
      refine ⟨?_, fin _ _⟩
      show ((List.replicate n.toNat z.cps).foldl (· ++ ·) #[]).size ≤ sizeLine
      rw [repS_len (by omega) c1]
      have e : (2 : Nat) ^ 24 = 16777216 := by decide
      have : (List.replicate n.toNat z.cps.toList).flatten.length = n.toNat * z.cps.toList.length := by simp
      simp only [List.size_toArray, this]
      have e2 : z.cps.toList.length = z.length := by simp [Str.length]
      rw [e2, Nat.mul_comm]
      unfold sizeLine
      omega
end
end L2
set_option Elab.async false
set_option linter.all false
set_option maxRecDepth 100000
set_option maxHeartbeats 4000000
namespace L2
open PySem PySem.Spec PyProof.Rows
section
variable {prog : Program} {w : World} {A : Around} {R : Result → Shared → Prop}
end
section
variable {X : Cx}
end
section
variable {X : Cx}
end
end L2
set_option Elab.async false
set_option linter.all false
set_option maxRecDepth 100000
set_option maxHeartbeats 4000000
namespace L2
open PySem PySem.Spec PyProof.Rows
theorem Same.upd' {H H' : Hp} {D : Addr} (g : Same H H') (h : H D = none) (o : HO) : Same H (upd H' D o) := fun c u q => by rw [upd_ne (ne_of_none q h)]; exact g c u q
section
variable {X : Cx} {K : PySem.W.Frag}
theorem ixK_list (hK : X.K = K := by rfl) : IxR X (rIxL K) := hK ▸ ix_list
theorem ixK_tup (hK : X.K = K := by rfl) : IxR X (rIxT K) := hK ▸ ix_tup
theorem opK_eqL (hu : X.A.units + 1 < cLine) (hK : X.K = K := by rfl) : OpR X (compareOp .Eq) (rEqL K false) := hK ▸ op_eqL hu
def rLenSeq (K : PySem.W.Frag) : List V → Hp → VK → Prop := fun xs H Q => ∃ p ys, xs = [.ref p] ∧ (SqL K H p ys ∨ SqT K H p ys) ∧ Q (.int ys.length) H
theorem callK_len_seq (hK : X.K = K := by rfl) : CallR X (.builtin "len") (rLenSeq K) := hK ▸ call_len_seq
theorem callK_isi (hK : X.K = K := by rfl) : CallR X (.builtin "isinstance") (rIsi K) := hK ▸ call_isi
theorem callK_isiT (hK : X.K = K := by rfl) : CallR X (.builtin "isinstance") (rIsiT K) := hK ▸ call_isiT
theorem pgK_tup {es : List Expr} {k : Nat} {t : TGs} {n : Nat} {pos : Pos} (hc : X.calm = true) (h : PGs X es t) (hK : X.K = K := by rfl) (hn : (assignEach es X.env).length = n := by rfl) (hst : (assignEach es X.env).findIdx? (·.1) = none := by rfl) :
    PG X (.Tuple es k pos) (gTup K n t) := hK ▸ pg_tup hc h hn hst
variable {o e : Expr} {es : List Expr} {to : TE} {t : TA} {name : Str} {apos cpos : Pos} {T id : String} {r : V → List V → Hp → VK → Prop}
theorem pe_bmK (pa : PlainAttrs T) (slot : Slot T name id) (hty : typeOf (.builtin id) = pure (.type "method_descriptor")) (hm : MtR X id r) (ho : PE X o to) (ha : PA X (e :: es) t) (hK : X.K = K := by rfl)
    (hbase : attributeBase o name X.env (eval o X.env) = eval o X.env := by rfl)
    (hfew : ((backTo cpos (starEach (e :: es) X.env)).all (fun x => !x.1) && (backToKw cpos (keywordEach [] X.env)).all (fun x => x.1.isSome)
      && decide ((e :: es).length + ([] : List Keyword).length + (if ([] : List Keyword).isEmpty then 0 else 1) < 30)) = true := by rfl)
    (hline : (apos.endLine == cpos.line) = true := by rfl) (hs : starEach (e :: es) X.env = (false, eval e X.env) :: starEach es X.env := by rfl) (hplain : (backTo cpos (starEach es X.env)).any (·.1) = false := by rfl) :
    PE X (.Call (.Attribute o name apos) (e :: es) [] cpos) (tBM K T r to t) := hK ▸ pe_bm pa slot hty hm ho ha hbase hfew hline hs hplain
end
end L2
set_option Elab.async false
set_option linter.all false
set_option maxRecDepth 100000
set_option maxHeartbeats 4000000
namespace L2
open PySem PySem.Spec PyProof.Rows
section
variable {X : Cx}
theorem mt_endswith : MtR X "str.endswith" (fun x vs H Q => ∃ z y, x = .str z ∧ vs = [.str y] ∧ Q (.bl (Txt.endswith z y)) H) := by
  intro pins s σ H x vs v us Q I rx rv h
  obtain ⟨z, y, rfl, rfl, q⟩ := h
  obtain ⟨t, rfl⟩ := rx
  obtain ⟨u, rfl, ru⟩ := rv.one
  obtain ⟨t2, rfl⟩ := ru
  exact call_gives F.slot_str_endswith (typeIs_str _ _ _) F.entry_str_endswith (F.args_str_endswith_2 _ _) (gives_str_endswith z y t t2) (show EP X pins σ Q (.bool (Txt.endswith z y)) s from ⟨.bl _, H, I, rfl, q⟩)
theorem mt_find : MtR X "str.find" (fun x vs H Q => ∃ z y, x = .str z ∧ vs = [.str y] ∧ Q (.int (Txt.find z y)) H) := by
  intro pins s σ H x vs v us Q I rx rv h
  obtain ⟨z, y, rfl, rfl, q⟩ := h
  obtain ⟨t, rfl⟩ := rx
  obtain ⟨u, rfl, ru⟩ := rv.one
  obtain ⟨t2, rfl⟩ := ru
  exact call_gives F.slot_str_find (typeIs_str _ _ _) F.entry_str_find (F.args_str_find_2 _ _) (gives_str_find z y t t2) (show EP X pins σ Q (.int (Txt.find z y) s.toks) { s with toks := s.toks + 1 } from ⟨.int _, H, I.tok _, ⟨_, rfl⟩, q⟩)
def partV (p : Str × Str × Str) : List V := [.str p.1, .str p.2.1, .str p.2.2]
theorem mt_partition : MtR X "str.partition" (fun x vs H Q => ∃ z y, x = .str z ∧ vs = [.str y] ∧ (y.length == 0) = false ∧ z.length ≤ sizeLine ∧ ∀ p, H p = none → Q (.ref p) (upd H p (.tup (partV (Txt.partition z y))))) := by
  intro pins s σ H x vs v us Q I rx rv h
  obtain ⟨z, y, rfl, rfl, hy, hz, q⟩ := h
  obtain ⟨t, rfl⟩ := rx
  obtain ⟨u, rfl, ru⟩ := rv.one
  obtain ⟨t2, rfl⟩ := ru
  refine call_meets F.slot_str_partition (typeIs_str _ _ _) F.entry_str_partition (F.args_str_partition_2 _ _) (meets_str_partition z y t t2 hy hz) ?_
  have fin : ∀ (a b c : Str) (ta tb tc : Tok) (k : Nat), (a, b, c) = Txt.partition z y → EP X pins σ Q (.ref s.heap.objs.size) { s with toks := k, heap := s.heap.push { cls := .type "tuple", data := .seq [Value.str a ta, .str b tb, .str c tc].toArray } } := fun a b c ta tb tc k e => by
    refine ⟨.ref s.heap.objs.size, _, I.laid (o := .tup (partV (Txt.partition z y))) (fun b u e => Heap.get?_push_of_some _ e) (Nat.le_refl _) ?_, rfl, q _ I.fresh⟩
    rw [← e]
    exact ⟨by show 3 ≤ sizeLine; decide, _, .cons ⟨_, rfl⟩ (.cons ⟨_, rfl⟩ (.cons ⟨_, rfl⟩ .nil)), ⟨_, Heap.get?_push_size _ rfl, rfl, _, rfl⟩⟩
  show EP X pins σ Q (.ref s.heap.objs.size) _
  cases ho : Builtin.Str.occurrences z y 0 z.length 1 with
  | nil => exact fin z Str.empty Str.empty _ _ _ _ (by unfold Txt.partition; rw [ho])
  | cons i r => exact fin _ y _ _ _ _ _ (by unfold Txt.partition; rw [ho])
def rSlS : V → Option Int → Option Int → Hp → VK → Prop := fun x lo hi H Q => ∃ z, x = .str z ∧ z.length ≤ sizeLine ∧ Q (.str (Txt.slice z lo hi)) H
theorem sl_str : SlR X rSlS := by
  intro pins s σ H x v vl vu lo hi sl Q I rx hs pl pu h
  obtain ⟨z, rfl, hz, q⟩ := h
  obtain ⟨t, rfl⟩ := rx
  refine ⟨"str", _, F.slot_str_getitem.lookup, typeIs_str _ _ _, ?_⟩
  cases pl with
  | none =>
    cases pu with
    | none => exact wpAny_getItem_str_slice (l := none) (u := none) (st := none) hs rfl (post_val_or_str ⟨Nat.le_trans (Txt.slice_le z _ _) hz, fun t' k => ⟨.str _, H, I.tok _, ⟨_, rfl⟩, q⟩⟩)
    | int j uj => exact wpAny_getItem_str_slice (l := none) (u := some (j, uj)) (st := none) hs rfl (post_val_or_str ⟨Nat.le_trans (Txt.slice_le z _ _) hz, fun t' k => ⟨.str _, H, I.tok _, ⟨_, rfl⟩, q⟩⟩)
  | int i ui =>
    cases pu with
    | none => exact wpAny_getItem_str_slice (l := some (i, ui)) (u := none) (st := none) hs rfl (post_val_or_str ⟨Nat.le_trans (Txt.slice_le z _ _) hz, fun t' k => ⟨.str _, H, I.tok _, ⟨_, rfl⟩, q⟩⟩)
    | int j uj => exact wpAny_getItem_str_slice (l := some (i, ui)) (u := some (j, uj)) (st := none) hs rfl (post_val_or_str ⟨Nat.le_trans (Txt.slice_le z _ _) hz, fun t' k => ⟨.str _, H, I.tok _, ⟨_, rfl⟩, q⟩⟩)
theorem call_int_str : CallR X (.type "int") (fun xs H Q => ∃ z n, xs = [.str z] ∧ PySem.intText? z = some n ∧ z.length ≤ 640 ∧ Q (.int n) H) := by
  intro pins s σ H xs us Q I r h
  obtain ⟨z, n, rfl, hn, hl, q⟩ := h
  obtain ⟨u, rfl, ru⟩ := r.one
  obtain ⟨t, rfl⟩ := ru
  exact PySem.W.KIN.call_text hn hl ⟨.int n, H, I.tok _, ⟨_, rfl⟩, q⟩
def rAny (K : PySem.W.Frag) : List V → Hp → VK → Prop := fun xs H Q => ∃ (a : Addr) (bs : List Bool), xs = [.ref a] ∧ SqL K H a (bs.map V.bl) ∧ Q (.bl (bs.any id)) H
theorem any_range : ∀ (bs : List Bool), (List.range bs.length).any (fun i => bs.getD i false) = bs.any id
  | [] => rfl
  | b :: r => by
    rw [List.length_cons, List.range_succ_eq_map, List.any_cons, List.any_map, List.any_cons, ← any_range r]; rfl
theorem bools_at {bs : List Bool} {us : List Value} (r : Vals (bs.map V.bl) us) {i : Nat} {v : Value} (h : us.toArray[i]? = some v) : v = .bool (bs.getD i false) := by
  have h : us[i]? = some v := by simpa using h
  have hi : i < bs.length := by
    have := (List.getElem?_eq_some_iff.mp h).1
    rw [← r.length, List.length_map] at this; exact this
  obtain ⟨u, hu, ru⟩ := r.get (i := i) (x := .bl (bs.getD i false)) (by rw [List.getElem?_map, List.getElem?_eq_getElem hi]; simp [hi])
  rw [h] at hu; cases hu
  exact ru
theorem truth_bools {prog : Program} {w : World} {A : Around} {bs : List Bool} {us : List Value} (r : Vals (bs.map V.bl) us) : TruthOf prog w A (fun i v => us.toArray[i]? = some v) (fun i => bs.getD i false) := fun i v s Q E hP hQ => by
  rw [bools_at r hP]
  exact wpAny_truthy_bool hQ
theorem callK_any {K : PySem.W.Frag} (hc : X.calm = true := by rfl) (hK : X.K = K := by rfl) : CallR X (.builtin "any") (rAny K) := by
  subst hK
  intro pins s σ H xs us Q I r h
  obtain ⟨a, bs, rfl, hq, q⟩ := h
  obtain ⟨u, rfl, ru⟩ := r.one
  cases (show u = Value.ref a from ru)
  obtain ⟨its, rv, pl, hz⟩ := I.list hq
  have hlt : a < s.heap.objs.size := by obtain ⟨_, e, _⟩ := pl.isList; exact Heap.lt_size e
  refine call_any_walk (wpAny_pyIter_list pl.isList ⟨_, _, _, _, _, _, _, rfl, Walks.list (A := X.A.in1) (I.ok.hd hc) s.heap.objs.size a (Nat.ne_of_lt hlt) its.toArray, ⟨⟨_, Heap.get?_push_size _ rfl, rfl, rfl⟩, pl.isList.push _⟩, truth_bools rv, fun h' tk hk => ?_⟩)
  have I' : Inv X pins σ H { s with heap := h', toks := tk } := I.kept fun b o e => hk b o (by simpa using Nat.ne_of_lt (Heap.lt_size e)) (Heap.get?_push_of_some _ e)
  refine ⟨.bl _, H, I', rfl, ?_⟩
  rw [show its.toArray.size = bs.length by rw [List.size_toArray, ← rv.length, List.length_map], any_range]
  exact q
theorem bt_any : bootBuiltins "any" = some (.builtin "any") := by decide +kernel
end
def Its (z : Str) : It := ⟨fun i _ => i < z.length, fun i H v H' => H' = H ∧ ∃ c, z.cps[i]? = some c ∧ v = .str ⟨#[c]⟩, fun i _ => z.length ≤ i⟩
theorem str_walks {P : Program} {w : World} {A : Around} (hh : A.handled = none) (it : Addr) (z : Str) (t : Tok) : Walks P w A it [it] [it] z.cps.size (SignAt z) (fun i h => h.IsStrIter it (strIterType z) z t i) := by
  unfold strIterType
  cases ha : z.cps.all (· < 128) with
  | true => exact Walks.strAscii hh it z t
  | false => exact Walks.strWide hh it z t
theorem turn_str {P : Program} {w : World} {K : PySem.W.Frag} {tg : Expr} (z : Str) (t : Tok) (it : Addr) (hn : ["enumerate", "zip", "dict_itemiterator", "dict_reverseitemiterator", "odict_iterator", "itertools.zip_longest", "itertools.pairwise"].contains (strIterType z) = false) :
    Turn P w K tg (Its z) [it] it (fun i h => h.IsStrIter it (strIterType z) z t i) where
  mem := by simp
  obj := fun i h st b hb => by
    have e : b = it := by simpa using hb
    subst e
    obtain ⟨o, e, c, d⟩ := st
    exact ⟨o, e, fun v z => by rw [d] at z; cases z⟩
  keep := fun i h h' st k => let ⟨o, e, r⟩ := st; ⟨o, k it (by simp) o e, r⟩
  item := by
    intro X hP hw hK hc i pins s σ H E I hf st hg
    subst hP hw hK
    obtain ⟨f0, f1, f2, f3, f4, f5⟩ := hf it (by simp)
    refine (str_walks (P := X.prog) (w := X.w) (I.ok.hd hc) it z t).item i s _ _ hg st fun v h' tk hv st' kk => ?_
    obtain ⟨c, u, hc', rfl⟩ := hv
    have I1 : Inv X pins σ H { s with heap := h', toks := tk } := I.turned (fun b o hb e => kk b o (by simpa using hb) e) f0 f1 f3 f4 f5
    obtain ⟨o, e, ec, ed⟩ := id st'
    exact ⟨_, rfl, go_of (s := { s with heap := h', toks := tk }) e ec ed hn ⟨.str ⟨#[c]⟩, H, I1, ⟨u, rfl⟩, ⟨rfl, c, hc', rfl⟩, st', fun b hb => (hf b hb).1⟩⟩
  done := by
    intro X hP hw hK hc i pins s σ H E I hf st hg
    subst hP hw hK
    obtain ⟨f0, f1, f2, f3, f4, f5⟩ := hf it (by simp)
    have hx : z.cps[i]? = none := Array.getElem?_eq_none hg
    have fin : ∀ h' : Heap, Heap.ExtBut it s.heap h' → none = (none : Option Value) ∧ Inv X pins σ H { s with heap := h' } := fun h' eb => ⟨rfl, I.turned (t' := s.toks) (fun b o hb e => eb b o hb e) f0 f1 f3 f4 f5⟩
    unfold strIterType at st
    split at st
    · exact wpAny_pyNext_ascii_end (I.ok.hd hc) st hx fin
    · exact wpAny_pyNext_wide_end (I.ok.hd hc) st hx fin
  self := fun _ _ _ _ _ st h => by
    unfold strIterType at st
    split at st
    · exact wpAny_pyIter_striter_ascii st h
    · exact wpAny_pyIter_striter_wide st h
def iStr (te : TE) : TI := fun σ H R => te σ H fun x H1 => ∃ z, x = .str z ∧ R (Its z) H1
section
variable {X : Cx} {tg : Expr}
theorem pi_str {l : Expr} {tl : TE} (hl : PE X l tl) : PI X tg l (iStr tl) := by
  intro pins s σ H R I h
  refine thn (hl pins s σ H _ I h) fun v s1 ⟨x, H1, I1, r1, q1⟩ => ?_
  obtain ⟨z, rfl, q⟩ := q1
  obtain ⟨t, rfl⟩ := r1
  refine wpAny_pyIter_strU ?_
  refine ⟨s1.heap.objs.size, [s1.heap.objs.size], _, _, H1, rfl, I1.kept (t' := s1.toks) fun b o e => Heap.get?_push_of_some _ e, turn_str z t _ (by unfold strIterType; split <;> decide), ⟨_, Heap.get?_push_size _ rfl, rfl, rfl⟩, fun b hb => ?_, q⟩
  have e : b = s1.heap.objs.size := by simpa using hb
  subst e
  exact I1.fpOk (Nat.le_refl _) (I1.hok.fresh (Nat.le_refl _))
end
def signS (c : Nat) : Str := ⟨#[c]⟩
theorem for_str {z : Str} {g : TG} {tb : TS} {D : Ends} {σ : St} {H : Hp} (Pv : Nat → St → Hp → Prop) (h0 : Pv 0 σ H)
    (hs : ∀ i c σ H, z.cps.toList[i]? = some c → Pv i σ H → g (.str (signS c)) σ H fun σ2 H2 => tb { D with nx := Pv (i + 1), ct := Pv (i + 1), bk := D.nx } σ2 H2) (hd : ∀ σ H, Pv z.length σ H → D.nx σ H) :
    ∃ W : Nat → Nat → St → Hp → Prop, (∃ m, W 0 m σ H) ∧ ∀ i m σ H, W i m σ H →
      ((Its z).stop i H ∧ D.nx σ H) ∨ ((Its z).go i H ∧ ∃ N : St → Hp → Prop, (∀ σ' H', N σ' H' → ∃ m', m' < m ∧ W (i + 1) m' σ' H') ∧ ∀ x H', (Its z).yld i H x H' → g x σ H' fun σ2 H2 => tb { D with nx := N, ct := N, bk := D.nx } σ2 H2) := by
  refine ⟨fun i m σ H => m = z.length - i ∧ i ≤ z.length ∧ Pv i σ H, ⟨z.length, by simp, Nat.zero_le _, h0⟩, ?_⟩
  rintro i m σ H ⟨rfl, hi, p⟩
  by_cases hlt : i < z.length
  · refine .inr ⟨hlt, Pv (i + 1), fun σ' H' p' => ⟨z.length - (i + 1), by omega, rfl, hlt, p'⟩, fun x H' y => ?_⟩
    obtain ⟨rfl, c, hc, rfl⟩ := y
    exact hs i c σ _ (by simpa using hc) p
  · have e : i = z.length := by omega
    subst e
    exact .inl ⟨Nat.le_refl _, hd σ H p⟩
theorem comp_str {z : Str} {g : TG} {tf : TT} {te : TE} {k : Nat} {σ0 : St} {D : Addr} {Fin : Hp → Prop} {H1 : Hp} (Pv : Nat → List V → Hp → Prop) (h0 : Pv 0 [] (upd H1 D (.lst [])))
    (hs : ∀ i c ys H, z.cps.toList[i]? = some c → Pv i ys H → g (.str (signS c)) σ0 H fun σ2 H2 => (σ2.drop k = σ0.drop k ∧ σ2.length = σ0.length) ∧ tf σ2 H2 fun b H3 =>
      if b = true then te σ2 H3 fun y H4 => H4 D = some (.lst ys) ∧ ys.length < sizeLine ∧ Pv (i + 1) (ys ++ [y]) (upd H4 D (.lst (ys ++ [y]))) else Pv (i + 1) ys H3)
    (hd : ∀ ys H, Pv z.length ys H → Fin H) : tCompR (Its z) g tf te k σ0 D Fin H1 := by
  refine ⟨fun i m ys H => m = z.length - i ∧ i ≤ z.length ∧ Pv i ys H, ⟨z.length, by simp, Nat.zero_le _, h0⟩, ?_⟩
  rintro i m ys H ⟨rfl, hi, p⟩
  by_cases hlt : i < z.length
  · refine .inr ⟨hlt, Pv (i + 1), fun ys' H' q => ⟨z.length - (i + 1), by omega, rfl, hlt, q⟩, fun x H' y => ?_⟩
    obtain ⟨rfl, c, hc, rfl⟩ := y
    exact hs i c ys _ (by simpa using hc) p
  · have e : i = z.length := by omega
    subst e
    exact .inl ⟨Nat.le_refl _, hd ys H p⟩
theorem pe_gconst {X : Cx} {x : Str} {v : V} {pos : Pos} (hg : Gl X x) (hm : ∃ u, X.mg x = some u ∧ RelV v u) (hd : (x == ("__debug__" : Str)) = false := by decide) : PE X (.Name x pos) (tC v) := by
  obtain ⟨u, h1, h2⟩ := hm
  exact pe_glob hg h1 h2 hd
end L2
set_option Elab.async false
set_option linter.all false
set_option maxRecDepth 100000
set_option maxHeartbeats 4000000
namespace L2
open PySem PySem.Spec PyProof.Rows
section
variable {X : Cx} {E : XK} {pins pins' : List (Addr × Obj)} {σ σ' : St} {H3 H' : Hp} {s3 s' : Shared} {scope : Scope} {Nc : List Str} {C a : Addr} {fp : List Addr} {xe : Value → Shared → Prop} {cls : Value} {cx : Option Addr} {B : Heap}
end
section
variable {X : Cx} {E : XK} {elt tg iter : Expr} {ifs : List Expr} {scope : Scope} {pos : Pos} {Nc : List Str} {k : Nat} {js : List Nat} {wi : TI} {g : TG} {tf : TT} {te : TE}
end
theorem pa_str {X : Cx} {x : Str} {j : Nat} {pos : Pos} {es : List Expr} {t : TA} (hr : PA X es t) : PA X (.Constant (.str x) j pos :: es) (tCons (tC (.str x)) t) := pa_cons pe_str hr
end L2
set_option Elab.async false
set_option linter.all false
namespace Law
open PySem L2 PyProof.Rows
set_option maxRecDepth 100000
set_option maxHeartbeats 4000000
theorem str_ext {x y : Str} (h : x.cps.toList = y.cps.toList) : x = y := by
  obtain ⟨⟨a⟩⟩ := x; obtain ⟨⟨b⟩⟩ := y
  have h : a = b := h
  rw [h]
theorem app_list (x y : Str) : (x ++ y).cps.toList = x.cps.toList ++ y.cps.toList := by
  obtain ⟨⟨a⟩⟩ := x; obtain ⟨⟨b⟩⟩ := y
  show (Array.toList (Array.mk a ++ Array.mk b)) = _
  simp
theorem len_list (x : Str) : x.cps.toList.length = x.length := by simp [Str.length]
def nl (i : Int) : List Nat := (Str.ofString (toString i)).cps.toList
theorem nl_nat {i : Int} (h : 0 ≤ i) : nl i = (Nat.toDigits 10 i.toNat).map Char.toNat := by
  obtain ⟨m, rfl⟩ := Int.eq_ofNat_of_zero_le h
  exact PySem.W.KIN.signs_num m
theorem dig_split {m : Nat} (h : ¬ m < 10) : Nat.toDigits 10 m = Nat.toDigits 10 (m / 10) ++ [Nat.digitChar (m % 10)] := by
  have hm : m % 10 < 10 := Nat.mod_lt m (by decide)
  have t : Nat.toDigits 10 (m / 10) ++ Nat.toDigits 10 (m % 10) = Nat.toDigits 10 (10 * (m / 10) + m % 10) := Nat.toDigits_append_toDigits (by decide) (by omega) hm
  rw [Nat.div_add_mod, Nat.toDigits_of_lt_base hm] at t
  exact t.symm
theorem dig_len (m : Nat) : ∀ k, 0 < k → m < 10 ^ k → (Nat.toDigits 10 m).length ≤ k := by
  induction m using Nat.strongRecOn with
  | _ m ih =>
    intro k hk h
    by_cases hm : m < 10
    · rw [Nat.toDigits_of_lt_base hm]; exact hk
    · rw [dig_split hm, List.length_append]
      match k, hk, h with
      | 1, _, h => exact absurd h (by omega)
      | k + 2, _, h =>
        have e : (10 : Nat) ^ (k + 2) = 10 ^ (k + 1) * 10 := Nat.pow_succ ..
        have := ih (m / 10) (by omega) (k + 1) (by omega) (by omega)
        simp only [List.length_singleton]; omega
theorem nl_len {i : Int} (h0 : 0 ≤ i) (h1 : i ≤ 10 ^ 42) : (nl i).length ≤ 43 := by
  rw [nl_nat h0, List.length_map]
  refine dig_len _ 43 (by decide) ?_
  have : i.toNat ≤ 10 ^ 42 := by
    have e : ((10 : Int) ^ 42).toNat = 10 ^ 42 := by decide +kernel
    rw [← e]; exact Int.toNat_le_toNat h1
  exact Nat.lt_of_le_of_lt this (by decide +kernel)
theorem sub_list (x : Str) (i j : Nat) : (Builtin.Str.strSub x i j).cps.toList = (x.cps.toList.drop i).take (j - i) := by
  unfold Builtin.Str.strSub; simp [List.take_drop, List.extract_eq_drop_take]
theorem part_one {x : Str} {c : Nat} {a b : List Nat} (h : x.cps.toList = a ++ c :: b) (ha : c ∉ a) : Txt.partition x ⟨#[c]⟩ = (⟨a.toArray⟩, ⟨#[c]⟩, ⟨b.toArray⟩) := by
  have at' : x.cps.toList[a.length]? = some c := by rw [h]; simp
  rcases partition_whole x ⟨#[c]⟩ with ⟨_, hn⟩ | ⟨i, hp, hi, hn⟩
  · exact absurd ((StrLaws.subAt_one x c _).mpr at') (hn a.length)
  · have hi := (StrLaws.subAt_one x c i).mp hi
    have e : i = a.length := by
      rcases Nat.lt_trichotomy i a.length with z | z | z
      · rw [h, List.getElem?_append_left z] at hi
        exact absurd (List.mem_of_getElem? hi) ha
      · exact z
      · exact absurd ((StrLaws.subAt_one x c _).mpr at') (hn _ z)
    subst e
    have hl : x.length = a.length + (b.length + 1) := by rw [← len_list, h]; simp
    have e1 : Builtin.Str.strSub x 0 a.length = ⟨a.toArray⟩ := str_ext (by rw [sub_list, h]; simp)
    have e2 : Builtin.Str.strSub x (a.length + (⟨#[c]⟩ : Str).length) x.length = ⟨b.toArray⟩ := str_ext (by
      rw [sub_list, h, show (⟨#[c]⟩ : Str).length = 1 from rfl, hl, show a ++ c :: b = (a ++ [c]) ++ b by simp, List.drop_append, List.drop_eq_nil_of_le (by simp), List.nil_append, show a.length + 1 - (a ++ [c]).length = 0 by simp, List.drop_zero, List.take_of_length_le (by omega)])
    rw [hp, e1, e2]
theorem ends_one (x : Str) (c : Nat) (r : List Nat) (d : Nat) (h : x.cps.toList = r ++ [d]) : Txt.endswith x ⟨#[c]⟩ = decide (d = c) := by
  have hl : x.length = r.length + 1 := by rw [← len_list, h]; simp
  have e := StrLaws.subAt_one x c (x.length - 1)
  have e2 : x.cps.toList[x.length - 1]? = some d := by rw [h, hl]; simp
  rw [e2] at e
  unfold Txt.endswith
  have l1 : (⟨#[c]⟩ : Str).length = 1 := rfl
  rw [l1] at e ⊢
  have h1 : decide (0 + 1 ≤ x.length) = true := decide_eq_true (by omega)
  rw [h1, Bool.true_and]
  by_cases z : d = c
  · rw [decide_eq_true z]; exact (e.mpr (by rw [z])).2
  · rw [decide_eq_false z]
    exact Bool.eq_false_iff.mpr fun y => z (Option.some.inj (e.mp ⟨by omega, y⟩))
theorem cut_last (x : Str) (r : List Nat) (d : Nat) (h : x.cps.toList = r ++ [d]) : (Txt.slice x none (some (-1))).cps.toList = r := by
  have hl : x.length = r.length + 1 := by rw [← len_list, h]; simp
  have e := slice_closes_to_neg (x := x) (j := -1) (k := -1 + x.length) (by decide) (by omega) rfl
  have e := eq_of_beq e
  rw [e, h, hl]
  show List.take (-1 + ((r.length + 1 : Nat) : Int) - 0).toNat (r ++ [d]) = r
  rw [show (-1 + ((r.length + 1 : Nat) : Int) - 0).toNat = r.length by omega]
  simp
abbrev Wr := Int × Int × Bool
def wrV (p : Wr) : List V := [.int p.1, .int p.2.1, .bl p.2.2]
def WrOk (p : Wr) : Prop := 1 ≤ p.1 ∧ p.1 ≤ 10 ^ 40 ∧ 1 ≤ p.2.1 ∧ p.2.1 ≤ 10 ^ 40
def strOf (l : List Nat) : Str := ⟨l.toArray⟩
theorem strOf_list (l : List Nat) : (strOf l).cps.toList = l := rfl
def BxOk (i j : Int) : Prop := 0 ≤ i ∧ i ≤ 10 ^ 42 ∧ 0 ≤ j ∧ j ≤ 10 ^ 42
theorem WrOk.bx {p : Wr} (h : WrOk p) : BxOk p.1 p.2.1 := by
  have e : (10 : Int) ^ 40 ≤ 10 ^ 42 := by decide +kernel
  obtain ⟨h1, h2, h3, h4⟩ := h
  exact ⟨by omega, Int.le_trans h2 e, by omega, Int.le_trans h4 e⟩
end Law
set_option Elab.async false
set_option linter.all false
namespace Law
open PySem L2 PyProof.Rows PySem.NumText
set_option maxRecDepth 100000
set_option maxHeartbeats 4000000
def Dig (c : Nat) : Prop := 48 ≤ c ∧ c ≤ 57
instance (c : Nat) : Decidable (Dig c) := by unfold Dig; exact inferInstance
def numOf (l : List Nat) : Option Int := if l.length = 0 ∨ 43 < l.length then none else if ∃ c ∈ l, ¬ Dig c then none else if l.head? = some 48 ∧ l ≠ [48] then none else some (digitsVal l : Nat)
def numDue (lo hi : Int) (l : List Nat) : Option Int := if l = [] ∨ 50 < l.length ∨ (l.head? = some 48 ∧ l ≠ [48]) then none else if ∃ c ∈ l, ¬ Dig c then none else if lo ≤ (digitsVal l : Nat) ∧ ((digitsVal l : Nat) : Int) ≤ hi then some (digitsVal l : Nat) else none
def okSide (i : Int) : Prop := 1 ≤ i ∧ i ≤ 10 ^ 40
instance (i : Int) : Decidable (okSide i) := by unfold okSide; exact inferInstance
theorem dv_acc : ∀ (l : List Nat) (a : Nat), a * 10 ^ l.length ≤ l.foldl (fun acc c => acc * 10 + (c - 48)) a
  | [], a => by simp
  | c :: r, a => by
    rw [List.foldl_cons, List.length_cons, Nat.pow_succ]
    refine Nat.le_trans ?_ (dv_acc r _)
    rw [Nat.mul_comm (10 ^ r.length) 10, ← Nat.mul_assoc]
    exact Nat.mul_le_mul_right _ (by omega)
theorem dv_big {c : Nat} {r : List Nat} (h : 49 ≤ c) : 10 ^ r.length ≤ digitsVal (c :: r) := by
  unfold digitsVal
  rw [List.foldl_cons]
  refine Nat.le_trans ?_ (dv_acc r _)
  have : 1 * 10 ^ r.length ≤ (0 * 10 + (c - 48)) * 10 ^ r.length := Nat.mul_le_mul_right _ (by omega)
  omega
theorem num_due (l : List Nat) : numDue 1 (10 ^ 40) l = (numOf l).bind fun i => if okSide i then some i else none := by
  by_cases h0 : l.length = 0
  · have e1 : numOf l = none := by unfold numOf; rw [if_pos (.inl h0)]
    have e2 : numDue 1 (10 ^ 40) l = none := by unfold numDue; rw [if_pos (.inl (List.length_eq_zero_iff.mp h0))]
    rw [e1, e2]; rfl
  have hn : l ≠ [] := fun z => h0 (by rw [z]; rfl)
  by_cases h1 : 50 < l.length
  · have e1 : numOf l = none := by unfold numOf; rw [if_pos (.inr (by omega))]
    have e2 : numDue 1 (10 ^ 40) l = none := by unfold numDue; rw [if_pos (.inr (.inl h1))]
    rw [e1, e2]; rfl
  by_cases h2 : l.head? = some 48 ∧ l ≠ [48]
  · have e1 : numOf l = none := by
      unfold numOf
      split
      · rfl
      · split
        · rfl
        · rfl
    have e2 : numDue 1 (10 ^ 40) l = none := by unfold numDue; rw [if_pos (.inr (.inr h2))]
    rw [e1, e2]; rfl
  have A : ¬ (l = [] ∨ 50 < l.length ∨ (l.head? = some 48 ∧ l ≠ [48])) := fun z => by
    rcases z with z | z | z
    · exact hn z
    · exact h1 z
    · exact h2 z
  by_cases h3 : ∃ c ∈ l, ¬ Dig c
  · have e1 : numOf l = none := by
      unfold numOf
      split
      · rfl
      · rfl
    have e2 : numDue 1 (10 ^ 40) l = none := by unfold numDue; rw [if_neg A, if_pos h3]
    rw [e1, e2]; rfl
  by_cases h4 : 43 < l.length
  · have e1 : numOf l = none := by unfold numOf; rw [if_pos (.inr h4)]
    rw [e1]
    show numDue 1 (10 ^ 40) l = none
    unfold numDue
    rw [if_neg A, if_neg h3]
    refine if_neg fun z => ?_
    match l, hn, h2, h3, h4, z with
    | c :: r, _, h2, h3, h4, z =>
      have hd : Dig c := Classical.byContradiction fun w => h3 ⟨c, by simp, w⟩
      have hc : c ≠ 48 := fun w => h2 ⟨by rw [w]; rfl, fun q => by rw [q] at h4; simp at h4⟩
      have b := dv_big (c := c) (r := r) (by have := hd.1; omega)
      have e : 10 ^ 43 ≤ 10 ^ r.length := Nat.pow_le_pow_right (by decide) (by rw [List.length_cons] at h4; omega)
      have z2 := z.2
      have e2 : (10 : Int) ^ 40 = ((10 ^ 40 : Nat) : Int) := by decide +kernel
      rw [e2] at z2
      have z3 : digitsVal (c :: r) ≤ 10 ^ 40 := Int.ofNat_le.mp z2
      have z4 : (10 : Nat) ^ 43 ≤ 10 ^ 40 := Nat.le_trans e (Nat.le_trans b z3)
      exact absurd z4 (by decide +kernel)
  · have e1 : numOf l = some ((digitsVal l : Nat) : Int) := by unfold numOf; rw [if_neg (by omega), if_neg h3, if_neg h2]
    rw [e1]
    unfold numDue
    rw [if_neg A, if_neg h3]
    rfl
def cutAt : List Nat → List Nat × List Nat
  | [] => ([], [])
  | c :: r => if c = 120 then ([], r) else (c :: (cutAt r).1, (cutAt r).2)
theorem cutAt_has : ∀ {l : List Nat}, 120 ∈ l → l = (cutAt l).1 ++ 120 :: (cutAt l).2 ∧ 120 ∉ (cutAt l).1
  | c :: r, h => by
    unfold cutAt
    by_cases z : c = 120
    · rw [if_pos z, z]; exact ⟨rfl, by simp⟩
    · rw [if_neg z]
      have hr : 120 ∈ r := by rcases List.mem_cons.mp h with q | q; exact absurd q.symm z; exact q
      obtain ⟨e1, e2⟩ := cutAt_has hr
      refine ⟨?_, fun q => ?_⟩
      · show c :: r = c :: ((cutAt r).1 ++ 120 :: (cutAt r).2)
        rw [← e1]
      · rcases List.mem_cons.mp q with q | q
        · exact z q.symm
        · exact e2 q
theorem cutAt_not : ∀ {l : List Nat}, 120 ∉ l → cutAt l = (l, [])
  | [], _ => rfl
  | c :: r, h => by
    unfold cutAt
    rw [if_neg (fun z => h (by simp [z])), cutAt_not (fun z => h (List.mem_cons_of_mem _ z))]
theorem cutAt_len : ∀ (l : List Nat), (cutAt l).1.length ≤ l.length ∧ (cutAt l).2.length ≤ l.length
  | [] => ⟨Nat.le_refl _, Nat.le_refl _⟩
  | c :: r => by
    unfold cutAt
    have := cutAt_len r
    split
    · simp
    · simp; omega
theorem part_any (x : Str) : Txt.partition x ⟨#[120]⟩ = (strOf (cutAt x.cps.toList).1, (Txt.partition x ⟨#[120]⟩).2.1, strOf (cutAt x.cps.toList).2) := by
  by_cases h : 120 ∈ x.cps.toList
  · obtain ⟨e1, e2⟩ := cutAt_has h
    rw [part_one e1 e2]; rfl
  · rw [cutAt_not h]
    rcases partition_whole x ⟨#[120]⟩ with ⟨hp, _⟩ | ⟨i, _, hi, _⟩
    · rw [hp]
      have e0 : (Str.empty : Str) = strOf [] := by decide +kernel
      have e1 : x = strOf x.cps.toList := str_ext rfl
      rw [← e1, e0]
    · exact absurd (List.mem_of_getElem? ((StrLaws.subAt_one x 120 i).mp hi)) h
theorem find_any (x : Str) : Txt.find x ⟨#[120]⟩ = if 120 ∈ x.cps.toList then ((cutAt x.cps.toList).1.length : Int) else -1 := by
  rcases find_whole x ⟨#[120]⟩ with ⟨hf, hn⟩ | ⟨i, hf, hi, hn⟩
  · rw [hf, if_neg fun h => ?_]
    obtain ⟨i, hi⟩ := List.mem_iff_getElem?.mp h
    exact hn i ((StrLaws.subAt_one x 120 i).mpr hi)
  · have hi := (StrLaws.subAt_one x 120 i).mp hi
    have h := List.mem_of_getElem? hi
    rw [hf, if_pos h]
    obtain ⟨e1, e2⟩ := cutAt_has h
    have at' : x.cps.toList[(cutAt x.cps.toList).1.length]? = some 120 := by
      conv => lhs; rw [e1]
      have : ∀ (a b : List Nat), (a ++ 120 :: b)[a.length]? = some 120 := fun a b => by simp
      rw [← e1]
      have q := this (cutAt x.cps.toList).1 (cutAt x.cps.toList).2
      rw [← e1] at q
      exact q
    have e : i = (cutAt x.cps.toList).1.length := by
      rcases Nat.lt_trichotomy i (cutAt x.cps.toList).1.length with z | z | z
      · have q : ((cutAt x.cps.toList).1 ++ 120 :: (cutAt x.cps.toList).2)[i]? = some 120 := by rw [← e1]; exact hi
        rw [List.getElem?_append_left z] at q
        exact absurd (List.mem_of_getElem? q) e2
      · exact z
      · exact absurd ((StrLaws.subAt_one x 120 _).mpr at') (hn _ z)
    rw [e]
theorem sl_to (x : Str) (n : Nat) (h : n ≤ x.length) : Txt.slice x none (some (n : Int)) = strOf (x.cps.toList.take n) := by
  have e := eq_of_beq (slice_closes_toL (x := x) (j := (n : Int)) (by omega) (by omega))
  rw [e]
  refine str_ext ?_
  show List.take ((n : Int) - 0).toNat x.cps.toList = _
  rw [show ((n : Int) - 0).toNat = n by omega]; rfl
theorem sl_from (x : Str) (n : Nat) (h : n ≤ x.length) : Txt.slice x (some (n : Int)) none = strOf (x.cps.toList.drop n) := by
  have e := eq_of_beq (slice_closes_fromL (x := x) (i := (n : Int)) (b := x.length) (by omega) (by omega) rfl)
  rw [e]
  refine str_ext ?_
  show List.take ((x.length : Int) - (n : Int)).toNat (List.drop (n : Int).toNat x.cps.toList) = _
  rw [List.take_of_length_le (by rw [List.length_drop, len_list]; omega)]; rfl
theorem nil_or (l : List Nat) : l = [] ∨ ∃ r d, l = r ++ [d] := by
  rcases List.eq_nil_or_concat l with h | ⟨r, d, h⟩
  · exact .inl h
  · exact .inr ⟨r, d, by rw [h, List.concat_eq_append]⟩
def lastPlus (l : List Nat) : Bool := decide (l.getLast? = some 43)
def bodyOf (l : List Nat) : List Nat := if lastPlus l = true then l.dropLast else l
theorem ends_any (x : Str) : Txt.endswith x ⟨#[43]⟩ = lastPlus x.cps.toList := by
  unfold lastPlus
  rcases nil_or x.cps.toList with h | ⟨r, d, h⟩
  · rw [h]
    unfold Txt.endswith
    have hl : x.length = 0 := by rw [← len_list, h]; rfl
    rw [hl]; rfl
  · rw [ends_one x 43 r d h, h]; simp
theorem tail_any (x : Str) : decide (Txt.slice x (some (-1)) none = (⟨#[43]⟩ : Str)) = lastPlus x.cps.toList := by
  unfold lastPlus
  rcases nil_or x.cps.toList with h | ⟨r, d, h⟩
  · have hl : x.length = 0 := by rw [← len_list, h]; rfl
    rw [h]
    have := Txt.slice_le x (some (-1)) none
    have z : ¬ Txt.slice x (some (-1)) none = (⟨#[43]⟩ : Str) := fun q => by
      rw [q, hl] at this
      exact absurd this (by decide)
    rw [decide_eq_false z]; rfl
  · have hl : x.length = r.length + 1 := by rw [← len_list, h]; simp
    have e := eq_of_beq (slice_closes_from_neg (x := x) (i := -1) (a := -1 + x.length) (b := x.length) (by decide) (by omega) rfl rfl)
    have e2 : (Txt.slice x (some (-1)) none).cps.toList = [d] := by
      rw [e, h, hl]
      show List.take _ (List.drop (-1 + ((r.length + 1 : Nat) : Int)).toNat (r ++ [d])) = [d]
      rw [show (-1 + ((r.length + 1 : Nat) : Int)).toNat = r.length by omega, show (((r.length + 1 : Nat) : Int) - (-1 + ((r.length + 1 : Nat) : Int))).toNat = 1 by omega]
      simp
    rw [h]
    have : (Txt.slice x (some (-1)) none = (⟨#[43]⟩ : Str)) ↔ d = 43 := by
      constructor
      · intro q
        rw [q] at e2
        exact ((List.cons.inj e2).1).symm
      · intro q
        subst q
        exact str_ext e2
    simp [this]
theorem cut_any (x : Str) (h : lastPlus x.cps.toList = true) : Txt.slice x none (some (-1)) = strOf (bodyOf x.cps.toList) := by
  unfold bodyOf
  rw [if_pos h]
  unfold lastPlus at h
  rcases nil_or x.cps.toList with q | ⟨r, d, q⟩
  · rw [q] at h; simp at h
  · refine str_ext ?_
    rw [cut_last x r d q, strOf_list, q]; simp
def sidesOf (l : List Nat) : Option (Int × Int) := (numOf (cutAt l).1).bind fun i => (numOf (cutAt l).2).bind fun j => some (i, j)
def sidesDue (lo hi : Int) (l : List Nat) : Option (Int × Int) := if 120 ∈ l then (numDue lo hi (cutAt l).1).bind fun i => (numDue lo hi (cutAt l).2).bind fun j => some (i, j) else none
def wareOf (l : List Nat) : Option Wr := (sidesOf (bodyOf l)).bind fun p => if okSide p.1 ∧ okSide p.2 then some (p.1, p.2, lastPlus l) else none
def dueOf (l : List Nat) : Option Wr := (sidesDue 1 (10 ^ 40) (bodyOf l)).bind fun p => some (p.1, p.2, lastPlus l)
theorem num_nil : numOf [] = none := rfl
theorem due_ware (l : List Nat) : dueOf l = wareOf l := by
  unfold dueOf wareOf sidesDue sidesOf
  generalize bodyOf l = b
  by_cases h : 120 ∈ b
  · rw [if_pos h, num_due, num_due]
    cases numOf (cutAt b).1 with
    | none => rfl
    | some i =>
      cases numOf (cutAt b).2 with
      | none =>
        show (((if okSide i then some i else none).bind fun i => none).bind _) = none
        cases (if okSide i then some i else none) <;> rfl
      | some j =>
        show (((if okSide i then some i else none).bind fun i => (if okSide j then some j else none).bind fun j => some (i, j)).bind _) = if okSide i ∧ okSide j then some (i, j, lastPlus l) else none
        by_cases hi : okSide i
        · by_cases hj : okSide j
          · rw [if_pos hi, if_pos hj, if_pos ⟨hi, hj⟩]; rfl
          · have hij : ¬ (okSide i ∧ okSide j) := fun z => hj z.2
            rw [if_pos hi, if_neg hj, if_neg hij]; rfl
        · have hij : ¬ (okSide i ∧ okSide j) := fun z => hi z.1
          rw [if_neg hi, if_neg hij]; rfl
  · rw [if_neg h, cutAt_not h]
    show none = ((numOf b).bind fun i => (numOf []).bind fun j => some (i, j)).bind _
    rw [num_nil]
    cases numOf b <;> rfl
theorem body_len (l : List Nat) : (bodyOf l).length ≤ l.length := by
  unfold bodyOf; split
  · rw [List.length_dropLast]; omega
  · exact Nat.le_refl _
end Law
namespace Law
open PySem L2 PyProof.Rows
set_option maxRecDepth 100000
set_option maxHeartbeats 4000000
def top (i : Nat) : Stmt := PySem.Challenge.pw_cratefit_k05_wares_refused.main.body.getD i (.Pass ⟨0, 0, 0, 0⟩)
abbrev s_l_cell_at : Stmt := top 30
abbrev s_l_whole : Stmt := top 31
abbrev s_is_whole : Stmt := top 20
abbrev s_check_side : Stmt := top 21
abbrev s_made_ware : Stmt := top 22
abbrev s_read_number : Stmt := top 26
abbrev s_read_sides : Stmt := top 27
abbrev s_read_ware : Stmt := top 28
abbrev s_l_side : Stmt := top 32
abbrev s_l_ware : Stmt := top 33
abbrev s_l_sign : Stmt := top 34
abbrev s_l_spoilt : Stmt := top 35
abbrev s_l_number : Stmt := top 36
abbrev s_l_sides_due : Stmt := top 37
abbrev s_l_ware_due : Stmt := top 38
abbrev s_l_alike : Stmt := top 39
abbrev s_l_kinds : Stmt := top 40
abbrev s_l_figures : Stmt := top 41
abbrev s_l_text : Stmt := top 42
abbrev s_l_read : Stmt := top 43
abbrev s_l_good : Stmt := top 44
abbrev s_law : Stmt := top 45
variable {P : Program} {w : World} {K : PySem.W.Frag} {mg : Str → Option Value} {base : Heap} {c : Str → Addr}
structure Txt (K : PySem.W.Frag) (mg : Str → Option Value) (c : Str → Addr) : Prop where
  z_ValueError : mg "ValueError" = none
  z_any : mg "any" = none
  z_bool : mg "bool" = none
  z_int : mg "int" = none
  z_isinstance : mg "isinstance" = none
  z_len : mg "len" = none
  z_str : mg "str" = none
  z_tuple : mg "tuple" = none
  m_BadPacking : mg "BadPacking" = some (.ref (c "BadPacking"))
  m_BadPlan : mg "BadPlan" = some (.ref (c "BadPlan"))
  m_BadSide : mg "BadSide" = some (.ref (c "BadSide"))
  m_BadTurn : mg "BadTurn" = some (.ref (c "BadTurn"))
  m_CrateError : mg "CrateError" = some (.ref (c "CrateError"))
  m_Full : mg "Full" = some (.ref (c "Full"))
  m_Hangs : mg "Hangs" = some (.ref (c "Hangs"))
  m_NoDeed : mg "NoDeed" = some (.ref (c "NoDeed"))
  m_NoDrawing : mg "NoDrawing" = some (.ref (c "NoDrawing"))
  m_NoPicker : mg "NoPicker" = some (.ref (c "NoPicker"))
  m_NoSheet : mg "NoSheet" = some (.ref (c "NoSheet"))
  m_NoText : mg "NoText" = some (.ref (c "NoText"))
  m_NoWare : mg "NoWare" = some (.ref (c "NoWare"))
  m_NoWeighing : mg "NoWeighing" = some (.ref (c "NoWeighing"))
  m_NothingDone : mg "NothingDone" = some (.ref (c "NothingDone"))
  m_Ring : mg "Ring" = some (.ref (c "Ring"))
  m_TooMany : mg "TooMany" = some (.ref (c "TooMany"))
  m_TooWide : mg "TooWide" = some (.ref (c "TooWide"))
  x_BadSide : PySem.W.excIn K (c "BadSide") vErr "ValueError.__new__" = true
  x_BadTurn : PySem.W.excIn K (c "BadTurn") vErr "ValueError.__new__" = true
  x_CrateError : PySem.W.excIn K (c "CrateError") vErr "ValueError.__new__" = true
  x_Full : PySem.W.excIn K (c "Full") vErr "ValueError.__new__" = true
  x_NoDeed : PySem.W.excIn K (c "NoDeed") vErr "ValueError.__new__" = true
  x_NoDrawing : PySem.W.excIn K (c "NoDrawing") vErr "ValueError.__new__" = true
  x_NoPicker : PySem.W.excIn K (c "NoPicker") vErr "ValueError.__new__" = true
  x_NoSheet : PySem.W.excIn K (c "NoSheet") vErr "ValueError.__new__" = true
  x_NoText : PySem.W.excIn K (c "NoText") vErr "ValueError.__new__" = true
  x_NoWare : PySem.W.excIn K (c "NoWare") vErr "ValueError.__new__" = true
  x_NoWeighing : PySem.W.excIn K (c "NoWeighing") vErr "ValueError.__new__" = true
  x_NothingDone : PySem.W.excIn K (c "NothingDone") vErr "ValueError.__new__" = true
  x_Ring : PySem.W.excIn K (c "Ring") vErr "ValueError.__new__" = true
  x_TooMany : PySem.W.excIn K (c "TooMany") vErr "ValueError.__new__" = true
  v_FIGURES : ∃ u, mg "FIGURES" = some u ∧ RelV (.str "0123456789") u
  v_MOST_FIGURES : ∃ u, mg "MOST_FIGURES" = some u ∧ RelV (.int 43) u
  t_exc : PySem.W.ExcT K (c "NoText")
  t_one : PySem.W.kitAny K (.ref (c "NoText")) [.ref (c "BadSide"), .ref (c "BadTurn"), .ref (c "TooMany"), .ref (c "Ring"), .ref (c "NoWeighing"), .ref (c "NoPicker"), .ref (c "NoSheet"), .ref (c "NoDrawing")] = some false
  t_two : PySem.W.kitAny K (.ref (c "NoText")) [.ref (c "NoDeed"), .ref (c "NoWare"), .ref (c "Full"), .ref (c "NothingDone"), .ref (c "TooWide"), .ref (c "Hangs"), .ref (c "BadPlan"), .ref (c "BadPacking")] = some false
  t_ce : PySem.W.kitOne K (.ref (c "NoText")) (.ref (c "CrateError")) = some true
  t_ve : PySem.W.kitOne K (.ref (c "NoText")) (.type "ValueError") = some true
  t_ex : PySem.W.exmOne K (.ref (c "NoText")) (.ref (c "NoText")) = some true
  t_ex2 : PySem.W.exmOne K (.ref (c "BadSide")) (.ref (c "BadSide")) = some true
def cellAt (ns : List Int) (k : Int) : Int := ns.getD k.toNat 0
def Fits (i : Int) : Prop := Builtin.Int.intBits i ≤ 2 ^ 20
theorem bits_le {a b : Int} (h : a.natAbs ≤ b.natAbs) : Builtin.Int.intBits a ≤ Builtin.Int.intBits b := by
  unfold Builtin.Int.intBits
  split
  · exact Nat.zero_le _
  · rename_i ha
    have ha' : a.natAbs ≠ 0 := by
      intro z; apply ha; first | exact Int.natAbs_eq_zero.mp z | (simpa using z)
    have hb' : b.natAbs ≠ 0 := by omega
    split
    · rename_i hb
      exact absurd (by first | exact Int.natAbs_eq_zero.mpr hb | (simpa using hb)) hb'
    · have h1 : b.natAbs < 2 ^ (b.natAbs.log2 + 1) := Nat.lt_log2_self
      have h2 : a.natAbs.log2 < b.natAbs.log2 + 1 := (Nat.log2_lt ha').mpr (by omega)
      omega
theorem fits_cell {ns : List Int} (h : ∀ m ∈ ns, Builtin.Int.intBits m ≤ 2 ^ 20) (k : Int) : Fits (cellAt ns k) := by
  unfold cellAt Fits
  rw [List.getD_eq_getElem?_getD]
  cases q : ns[k.toNat]? with
  | none => show Builtin.Int.intBits 0 ≤ _; decide
  | some v => exact h v (List.mem_of_getElem? q)
theorem eqVs_refl : ∀ (xs : List V), xs.all flatV = true → eqVs xs xs = true
  | [], _ => rfl
  | x :: xs, h => by
    rw [List.all_cons, Bool.and_eq_true] at h
    unfold eqVs
    rw [eqVs_refl xs h.2, Bool.and_true]
    cases x <;> first | rfl | (simp [eqV]; done) | exact absurd (show false = true from h.1) Bool.false_ne_true
abbrev Sm (i : Int) : Prop := i.natAbs.log2 < 1920
theorem sm_of {i : Int} (h : i.natAbs ≤ 10 ^ 43) : Sm i := by
  show i.natAbs.log2 < 1920
  by_cases z : i.natAbs = 0
  · rw [z]; decide
  · exact (Nat.log2_lt z).mpr (Nat.lt_of_le_of_lt h (by decide +kernel))
theorem fits_nat {i : Int} (h0 : 0 ≤ i) (h1 : i < 2147483647) : Fits i := by
  refine Nat.le_trans (bits_le (b := 2147483647) (by omega)) (by decide +kernel)
theorem fits_of {i : Int} (h0 : 0 ≤ i) (h1 : i < 10 ^ 60) : Fits i := by
  refine Nat.le_trans (bits_le (b := 10 ^ 60) (by omega)) (by decide +kernel)
theorem small_line {n : Nat} (h : n ≤ 100000) : n < sizeLine := Nat.lt_of_le_of_lt h (by decide)
theorem ln {n : Nat} (h : n ≤ 100000) : n ≤ sizeLine := Nat.le_of_lt (small_line h)
theorem Fits.div5 {i : Int} (h : Fits i) : Fits (i / 5) := Nat.le_trans (bits_le (by omega)) h
theorem fits_big {i : Int} (h0 : 0 ≤ i) (h1 : i < 10 ^ 70) : Fits i := by
  refine Nat.le_trans (bits_le (b := 10 ^ 70) (by omega)) (by decide +kernel)
theorem app_len (x y : Str) : (x ++ y).length = x.length + y.length := by
  rw [← len_list, app_list, List.length_append, len_list, len_list]
theorem num_len {i : Int} (h0 : 0 ≤ i) (h1 : i ≤ 10 ^ 42) : (toString i : Str).length ≤ 43 := by
  rw [← len_list]; exact nl_len h0 h1
theorem sm_bx {i : Int} (h0 : 0 ≤ i) (h1 : i ≤ 10 ^ 42) : Sm i := sm_of (by
  have e : (10 : Int) ^ 42 = ((10 ^ 42 : Nat) : Int) := by decide +kernel
  rw [e] at h1
  have : (10 : Nat) ^ 42 ≤ 10 ^ 43 := by decide +kernel
  omega)
theorem n_list : ("" : Str).cps.toList = [] := by decide +kernel
theorem x_len : ("x" : Str).length = 1 := by decide +kernel
theorem s_len : (" " : Str).length = 1 := by decide +kernel
theorem p_len : ("+" : Str).length = 1 := by decide +kernel
theorem n_len : ("" : Str).length = 0 := by decide +kernel
theorem x_is : ("x" : Str) = ⟨#[120]⟩ := by decide +kernel
theorem p_is : ("+" : Str) = ⟨#[43]⟩ := by decide +kernel
theorem zero_is : ("0" : Str) = ⟨#[48]⟩ := by decide +kernel
theorem fig_list : ("0123456789" : Str).cps.toList = [48, 49, 50, 51, 52, 53, 54, 55, 56, 57] := by decide +kernel
theorem strOf_len (l : List Nat) : (strOf l).length = l.length := by rw [← len_list]; rfl
theorem v_ne {x : Str} {A : Prop} (z : (!decide (V.str x = V.str x)) = true) : A := by rw [decide_eq_true rfl] at z; cases z
theorem mod40 (n : Int) : 1 ≤ 1 + n % 10 ^ 40 ∧ 1 + n % 10 ^ 40 ≤ 10 ^ 40 := by
  have a1 := Int.emod_nonneg n (show (10 ^ 40 : Int) ≠ 0 by decide +kernel)
  have a2 := Int.emod_lt_of_pos n (show (0 : Int) < 10 ^ 40 by decide +kernel)
  omega
open PySem.NumText
theorem fig_mem {c : Nat} : c ∈ ("0123456789" : Str).cps.toList ↔ Dig c := by
  rw [fig_list]
  unfold Dig
  simp only [List.mem_cons, List.not_mem_nil, or_false]
  omega
def notFig (c : Nat) : Bool := !decide (c ∈ ("0123456789" : Str).cps.toList)
theorem notFig_is {c : Nat} : notFig c = true ↔ ¬ Dig c := by
  unfold notFig
  rw [Bool.not_eq_true', decide_eq_false_iff_not, fig_mem]
theorem num_in {l : List Nat} (h0 : l.length ≠ 0) (h1 : ¬ 43 < l.length) (h2 : ¬ ∃ c ∈ l, ¬ Dig c) (h3 : ¬ (l.head? = some 48 ∧ l ≠ [48])) : numOf l = some ((digitsVal l : Nat) : Int) := by
  unfold numOf; rw [if_neg (by omega), if_neg h2, if_neg h3]
theorem num_out {l : List Nat} (h : (l.length = 0 ∨ 43 < l.length) ∨ (∃ c ∈ l, ¬ Dig c) ∨ (l.head? = some 48 ∧ l ≠ [48])) : numOf l = none := by
  unfold numOf
  split
  · rfl
  · split
    · rfl
    · split
      · rfl
      · rename_i a1 a2 a3
        rcases h with h | h | h
        · exact absurd h a1
        · exact absurd h a2
        · exact absurd h a3
theorem reads {x : Str} (h0 : x.cps.toList ≠ []) (h2 : ¬ ∃ c ∈ x.cps.toList, ¬ Dig c) (hl : x.length ≤ 50) : PySem.intText? x = some ((digitsVal x.cps.toList : Nat) : Int) :=
  intText_digits (fun c hc => Classical.byContradiction fun z => h2 ⟨c, hc, z⟩) h0 (by omega)
def optV : Option Int → V
  | some i => .int i
  | none => .non
def readO : Option Wr → HO
  | some p => .tup (wrV p)
  | none => .lst [.bl true, .bl false]
def sp_l_cell_at (K : PySem.W.Frag) (c : Str → Addr) : Sp := fun vs H Q _ => ∃ a k, ∃ ns : List Int, vs = [.ref a, .int k] ∧ SqL K H a (ns.map V.int) ∧ 0 ≤ k ∧ Q (.int (cellAt ns k)) H
theorem sc_l_cell_at : FnScope ["_law_script", "_law_k"] ["_law_script", "_law_k"] (defScope s_l_cell_at) := ⟨rfl, rfl, rfl, by decide +kernel, rfl, by decide +kernel, by decide +kernel⟩
theorem ok_l_cell_at {f : Addr} {fd : FuncData} (F : Fun K "_law_cell_at" "_law_cell_at" s_l_cell_at f fd) (T : Txt K mg c)   : FnOk P w K mg base (CXe P w) 3 f fd ["_law_script", "_law_k"] (sp_l_cell_at K c) := by
  refine F.okE (k := 2) sc_l_cell_at (fun vs H Q E h => ?_) (fun cdv A outer s H vs Q E hr h => ?_)
  · obtain ⟨_, _, _, rfl, _⟩ := h; rfl
  obtain ⟨a, k, ns, rfl, hS, h0, q⟩ := h
  refine ⟨_, (pss_cons (ps_if (pt_cmpR op_lt (pv 1) (pe_callB (callK_len_seq (K := K)) rfl T.z_len bt_len (pa_cons (pv 0) pa_nil)) (nomark _)) (pss_one (ps_ret (pe_ix (ixK_list (K := K)) (pv 0) (pv 1) (fun _ _ => rfl)))) pss_nil) (pss_one (ps_ret pe_int))), ?_⟩
  refine ⟨_, rfl, _, rfl, a, _, rfl, .inl hS, _, _, rfl, rfl, _, rfl, ?_⟩
  have hl : ((ns.map V.int).length : Int) = ns.length := by rw [List.length_map]
  refine ite2 (fun z => ?_) (fun z => ?_)
  · have z' : k < ((ns.map V.int).length : Int) := of_decide_eq_true z
    have hk : k.toNat < ns.length := by omega
    refine ⟨_, rfl, _, rfl, a, _, _, _, rfl, rfl, hS, ?_, q⟩
    have e : atI (ns.map V.int) ((k.toNat : Nat) : Int) = some (.int (cellAt ns k)) := atI_nat (by rw [List.getElem?_map, List.getElem?_eq_getElem hk]; unfold cellAt; simp [hk])
    rw [show ((k.toNat : Nat) : Int) = k by omega] at e
    exact e
  · have z' : ¬ k < ((ns.map V.int).length : Int) := of_decide_eq_false (Bool.eq_false_iff.mpr z)
    have e : cellAt ns k = 0 := by unfold cellAt; rw [List.getD_eq_getElem?_getD, List.getElem?_eq_none (by omega)]; rfl
    rw [e] at q
    exact q
def sp_l_whole (K : PySem.W.Frag) (c : Str → Addr) : Sp := fun vs H Q _ => ∃ i : Int, vs = [.int i] ∧ Q (.bl true) H
theorem sc_l_whole : FnScope ["_law_found"] ["_law_found"] (defScope s_l_whole) := ⟨rfl, rfl, rfl, by decide +kernel, rfl, by decide +kernel, by decide +kernel⟩
theorem ok_l_whole {f : Addr} {fd : FuncData} (F : Fun K "_law_whole" "_law_whole" s_l_whole f fd) (T : Txt K mg c)   : FnOk P w K mg base (CXe P w) 3 f fd ["_law_found"] (sp_l_whole K c) := by
  refine F.okE (k := 2) sc_l_whole (fun vs H Q E h => ?_) (fun cdv A outer s H vs Q E hr h => ?_)
  · obtain ⟨_, rfl, _⟩ := h; rfl
  obtain ⟨i, rfl, q⟩ := h
  refine ⟨_, (pss_one (ps_ret (pe_and (pe_callB (callK_isi (K := K)) rfl T.z_isinstance bt_isinstance (pa_cons (pv 0) (pa_cons (pe_bltn (v := .ty "int") rfl T.z_int bt_int rfl) pa_nil))) (pe_one (pe_not (pe_callB (callK_isi (K := K)) rfl T.z_isinstance bt_isinstance (pa_cons (pv 0) (pa_cons (pe_bltn (v := .ty "bool") rfl T.z_bool bt_bool rfl) pa_nil)))))))), ?_⟩
  refine ⟨_, rfl, _, _, _, _, _, rfl, rfl, .of (.int i), kit_int_int, _, rfl, ?_⟩
  refine iteT ⟨_, rfl, _, _, _, _, _, rfl, rfl, .of (.int i), kit_int_bool, _, rfl, q⟩
def sp_is_whole (K : PySem.W.Frag) (c : Str → Addr) : Sp := fun vs H Q _ => ∃ i : Int, vs = [.int i] ∧ Q (.bl true) H
theorem sc_is_whole : FnScope ["value"] ["value"] (defScope s_is_whole) := ⟨rfl, rfl, rfl, by decide +kernel, rfl, by decide +kernel, by decide +kernel⟩
theorem ok_is_whole {f : Addr} {fd : FuncData} (F : Fun K "is_whole" "is_whole" s_is_whole f fd) (T : Txt K mg c)   : FnOk P w K mg base (CXe P w) 3 f fd ["value"] (sp_is_whole K c) := by
  refine F.okE (k := 2) sc_is_whole (fun vs H Q E h => ?_) (fun cdv A outer s H vs Q E hr h => ?_)
  · obtain ⟨_, rfl, _⟩ := h; rfl
  obtain ⟨i, rfl, q⟩ := h
  refine ⟨_, (pss_one (ps_ret (pe_and (pe_callB (callK_isi (K := K)) rfl T.z_isinstance bt_isinstance (pa_cons (pv 0) (pa_cons (pe_bltn (v := .ty "int") rfl T.z_int bt_int rfl) pa_nil))) (pe_one (pe_not (pe_callB (callK_isi (K := K)) rfl T.z_isinstance bt_isinstance (pa_cons (pv 0) (pa_cons (pe_bltn (v := .ty "bool") rfl T.z_bool bt_bool rfl) pa_nil)))))))), ?_⟩
  refine ⟨_, rfl, _, _, _, _, _, rfl, rfl, .of (.int i), kit_int_int, _, rfl, ?_⟩
  refine iteT ⟨_, rfl, _, _, _, _, _, rfl, rfl, .of (.int i), kit_int_bool, _, rfl, q⟩
def sp_check_side (K : PySem.W.Frag) (c : Str → Addr) : Sp := fun vs H Q E => ∃ i : Int, vs = [.int i, .int 1, .int (10 ^ 40)] ∧ (okSide i → Q .non H) ∧ (¬ okSide i → E (.ref (c "BadSide")) none H)
theorem sc_check_side : FnScope ["side", "least", "most"] ["side", "least", "most"] (defScope s_check_side) := ⟨rfl, rfl, rfl, by decide +kernel, rfl, by decide +kernel, by decide +kernel⟩
theorem ok_check_side {f : Addr} {fd : FuncData} (F : Fun K "check_side" "check_side" s_check_side f fd) (T : Txt K mg c) (G_is_whole : Own P w K mg base 3 "is_whole" ["value"] (sp_is_whole K c))  : FnOk P w K mg base (CXe P w) 5 f fd ["side", "least", "most"] (sp_check_side K c) := by
  refine F.okE (k := 4) sc_check_side (fun vs H Q E h => ?_) (fun cdv A outer s H vs Q E hr h => ?_)
  · obtain ⟨_, rfl, _⟩ := h; rfl
  obtain ⟨i, rfl, q, bad⟩ := h
  refine ⟨_, (pss_one (ps_if (PW.pt (pw_or (pt_not (pt_val (pe_own G_is_whole hr (by decide) pass0e (pa_cons (pv 0) pa_nil)))) (pw_or (pt_cmpR op_lt (pv 0) (pv 1) (nomark _)) (pw_or1 (pt_cmpR op_gt (pv 0) (pv 2) (nomark _)))))) (pss_one (ps_raise acc_def T.x_BadSide rfl T.m_BadSide (pa_cons (pe_joined (pj_cons pe_str (pj_cons (pe_fmt (pv 1)) (pj_cons pe_str (pj_cons (pe_fmt (pv 2)) pj_nil))))) pa_nil))) pss_nil)), ?_⟩
  refine ⟨_, rfl, i, rfl, _, rfl, iteF ?_⟩
  refine ⟨_, rfl, _, rfl, _, _, rfl, rfl, _, rfl, ite2 (fun z => ?_) (fun z => ?_)⟩
  · have z' : i < 1 := of_decide_eq_true z
    refine iteT ?_
    exact ⟨_, rfl, by decide +kernel, _, rfl, .inl ⟨_, rfl, by decide +kernel, _, rfl, by decide +kernel, _, rfl, by decide +kernel, _, rfl, .inl ⟨_, rfl, by decide +kernel, _, rfl, by decide +kernel, by decide +kernel, by show 1 ≤ sizeLine; decide, bad (fun w => by have := w.1; omega)⟩⟩⟩
  have z' : ¬ i < 1 := of_decide_eq_false (Bool.eq_false_iff.mpr z)
  refine ⟨_, rfl, _, rfl, _, _, rfl, rfl, _, rfl, ite2 (fun y => ?_) (fun y => ?_)⟩
  · have y' : (10 : Int) ^ 40 < i := of_decide_eq_true y
    exact ⟨_, rfl, by decide +kernel, _, rfl, .inl ⟨_, rfl, by decide +kernel, _, rfl, by decide +kernel, _, rfl, by decide +kernel, _, rfl, .inl ⟨_, rfl, by decide +kernel, _, rfl, by decide +kernel, by decide +kernel, by show 1 ≤ sizeLine; decide, bad (fun w => by have := w.2; omega)⟩⟩⟩
  · have y' : ¬ (10 : Int) ^ 40 < i := of_decide_eq_false (Bool.eq_false_iff.mpr y)
    exact q ⟨by omega, by omega⟩
def sp_made_ware (K : PySem.W.Frag) (c : Str → Addr) : Sp := fun vs H Q E => ∃ (i j : Int) (t : Bool), vs = [.int i, .int j, .bl t] ∧ (okSide i ∧ okSide j → ∀ a H', Same H H' → H' a = some (.tup [.int i, .int j, .bl t]) → Q (.ref a) H') ∧ (¬ (okSide i ∧ okSide j) → E (.ref (c "BadSide")) none H)
theorem sc_made_ware : FnScope ["w", "h", "turns"] ["w", "h", "turns"] (defScope s_made_ware) := ⟨rfl, rfl, rfl, by decide +kernel, rfl, by decide +kernel, by decide +kernel⟩
theorem ok_made_ware {f : Addr} {fd : FuncData} {dT : Addr} (F : FunD K "made_ware" "made_ware" s_made_ware dT f fd) (T : Txt K mg c) (G_check_side : Own P w K mg base 5 "check_side" ["side", "least", "most"] (sp_check_side K c))  : FnOk P w K mg base (CXe P w) 7 f fd ["w", "h", "turns"] (sp_made_ware K c) := by
  refine F.okE (k := 6) sc_made_ware (fun vs H Q E h => ?_) (fun cdv A outer s H vs Q E hr h => ?_)
  · obtain ⟨_, _, _, rfl, _⟩ := h; rfl
  obtain ⟨i, j, t, rfl, q, bad⟩ := h
  refine ⟨_, (pss_cons (ps_expr (pe_own G_check_side hr (by decide) (XAcc.passes acc_def) (pa_cons (pv 0) (pa_cons pe_int (pa_cons (pe_op op_pow pe_int pe_int) pa_nil))))) (pss_cons (ps_expr (pe_own G_check_side hr (by decide) (XAcc.passes acc_def) (pa_cons (pv 1) (pa_cons pe_int (pa_cons (pe_op op_pow pe_int pe_int) pa_nil))))) (pss_one (ps_ret (pe_tup (pa_cons (pv 0) (pa_cons (pv 1) (pa_cons (pv 2) pa_nil)))))))), ?_⟩
  refine ⟨_, rfl, _, _, rfl, rfl, ⟨by decide, by decide, by decide⟩, i, rfl, fun hi => ?_, fun hi => bad fun z => hi z.1⟩
  refine ⟨_, rfl, _, _, rfl, rfl, ⟨by decide, by decide, by decide⟩, j, rfl, fun hj => ?_, fun hj => bad fun z => hj z.2⟩
  exact ⟨_, rfl, _, rfl, _, rfl, by show 3 ≤ sizeLine; decide, fun a ha => q ⟨hi, hj⟩ a _ (same_new ha _) upd_same⟩
def sp_read_number (K : PySem.W.Frag) (c : Str → Addr) : Sp := fun vs H Q E => ∃ x : Str, vs = [.str x] ∧ x.length ≤ 3000 ∧ (∀ i, numOf x.cps.toList = some i → ∀ H', Same H H' → Q (.int i) H') ∧ (numOf x.cps.toList = none → ∀ H', Same H H' → E (.ref (c "NoText")) none H')
theorem sc_read_number : FnScope ["text"] ["text"] (defScope s_read_number) := ⟨rfl, rfl, rfl, by decide +kernel, rfl, by decide +kernel, by decide +kernel⟩
theorem ok_read_number {f : Addr} {fd : FuncData} (F : Fun K "read_number" "read_number" s_read_number f fd) (T : Txt K mg c)   : FnOk P w K mg base (CXe P w) 3 f fd ["text"] (sp_read_number K c) := by
  refine F.okE (k := 2) sc_read_number (fun vs H Q E h => ?_) (fun cdv A outer s H vs Q E hr h => ?_)
  · obtain ⟨_, rfl, _⟩ := h; rfl
  obtain ⟨x, rfl, hl, q, bad⟩ := h
  have ln1 : x.length ≤ sizeLine := ln (by omega)
  have ll := len_list x
  refine ⟨_, (pss_cons (ps_if (PW.pt (pw_or (pt_cmpR op_eq (pe_callB call_len_str rfl T.z_len bt_len (pa_cons (pv 0) pa_nil)) pe_int (nomark _)) (pw_or1 (pt_cmpR op_gt (pe_callB call_len_str rfl T.z_len bt_len (pa_cons (pv 0) pa_nil)) (pe_gconst rfl T.v_MOST_FIGURES) (nomark _))))) (pss_one (ps_raise acc_def T.x_NoText rfl T.m_NoText (pa_cons pe_str pa_nil))) pss_nil) (pss_cons (ps_if (pt_val (pe_callB (callK_any (K := K)) rfl T.z_any bt_any (pa_cons (pe_comp (Nc := ["sign"]) (k := 1) (js := []) rfl ⟨by decide +kernel, rfl, by decide +kernel, (by change ∀ y ∈ Scope.names _, y.2 = NameKind.free → (defScope s_read_number).names.lookup y.1 = some .cell ∨ (defScope s_read_number).names.lookup y.1 = some .free; decide +kernel), by decide +kernel, rfl, rfl, by decide +kernel⟩ (pi_str (pv 0)) (fun _ _ _ _ _ => (pg_name (i := 0) (by show List.Nodup [("sign" : Str)]; decide +kernel) rfl (Or.inl rfl))) (fun _ _ _ _ _ => pf_nil) (fun _ _ _ _ _ => (pe_cmpR op_notin_str (pv 0) (pe_gconst rfl T.v_FIGURES) (by with_unfolding_all rfl)))) pa_nil))) (pss_one (ps_raise acc_def T.x_NoText rfl T.m_NoText (pa_cons pe_str pa_nil))) pss_nil) (pss_cons (ps_if (PW.pt (pw_and (pt_cmpR op_eq (pe_ix ix_str (pv 0) pe_int (fun _ _ => rfl)) pe_str (nomark _)) (pw_and1 (pt_cmpR op_ne (pv 0) pe_str (nomark _))))) (pss_one (ps_raise acc_def T.x_NoText rfl T.m_NoText (pa_cons pe_str pa_nil))) pss_nil) (pss_one (ps_ret (pe_callTy call_int_str rfl T.z_int bt_int (pa_cons (pv 0) pa_nil))))))), ?_⟩
  refine ⟨_, rfl, _, rfl, ln1, rfl, _, rfl, ite2 (fun z => ?_) (fun z => ?_)⟩
  · have z' : (x.length : Int) = 0 := V.int.inj (of_decide_eq_true z)
    exact iteT ⟨by show 1 ≤ sizeLine; decide, bad (num_out (.inl (.inl (by omega)))) _ (Same.refl _)⟩
  have z0 : x.length ≠ 0 := fun w => z (decide_eq_true (congrArg V.int (by omega)))
  refine ⟨_, rfl, _, rfl, ln1, _, _, rfl, rfl, _, rfl, ite2 (fun z => ?_) (fun z => ?_)⟩
  · have z' : (43 : Int) < (x.length : Int) := of_decide_eq_true z
    exact ⟨by show 1 ≤ sizeLine; decide, bad (num_out (.inl (.inr (by omega)))) _ (Same.refl _)⟩
  have z1 : ¬ (43 : Int) < (x.length : Int) := of_decide_eq_false (Bool.eq_false_iff.mpr z)
  refine ⟨_, rfl, _, rfl, fun D hD => ?_⟩
  refine comp_str (z := x) (fun k ys H' => Same H H' ∧ H' D = some (.lst ys) ∧ ys = ((x.cps.toList.take k).map notFig).map V.bl) ⟨same_new hD _, upd_same, rfl⟩ (fun k s ys H' hs z => ?_) (fun ys H' z => ?_)
  · obtain ⟨g, hd, rfl⟩ := z
    refine ⟨⟨rfl, rfl⟩, _, rfl, _, _, rfl, rfl, hd, ?_, g.upd' hD _, upd_same, ?_⟩
    · refine small_line ?_
      rw [List.length_map, List.length_map, List.length_take]; omega
    · have e := StrLaws.found_one ("0123456789" : Str) s
      rw [List.take_add_one, hs, List.map_append, List.map_append]
      refine congrArg (((x.cps.toList.take k).map notFig).map V.bl ++ ·) ?_
      show [V.bl (!(!(Builtin.Str.occurrences ("0123456789" : Str) ⟨#[s]⟩ 0 ("0123456789" : Str).length 1).isEmpty))] = [V.bl (notFig s)]
      rw [e]; rfl
  obtain ⟨g, hd, rfl⟩ := z
  rw [List.take_of_length_le (by rw [ll]; exact Nat.le_refl _)] at hd
  refine ⟨D, _, rfl, .of hd, _, rfl, ite2 (fun z => ?_) (fun z => ?_)⟩
  · rw [List.any_map, List.any_eq_true] at z
    obtain ⟨s, hs, z⟩ := z
    exact ⟨by show 1 ≤ sizeLine; decide, bad (num_out (.inr (.inl ⟨s, hs, notFig_is.mp z⟩))) _ g⟩
  have z2 : ¬ ∃ s ∈ x.cps.toList, ¬ Dig s := fun ⟨s, hs, w⟩ => z (by
    rw [List.any_map, List.any_eq_true]
    exact ⟨s, hs, notFig_is.mpr w⟩)
  obtain ⟨c0, r0, ec⟩ : ∃ c0 r0, x.cps.toList = c0 :: r0 := by
    cases w : x.cps.toList with
    | nil => rw [w] at ll; exact absurd ll.symm z0
    | cons a b => exact ⟨a, b, rfl⟩
  have ea : atI x.cps.toList 0 = some c0 := atI_nat (j := 0) (by rw [ec]; rfl)
  have fin : ¬ (x.cps.toList.head? = some 48 ∧ x.cps.toList ≠ [48]) → Q (.int (digitsVal x.cps.toList : Nat)) H' := fun w => q _ (num_in (by omega) (by omega) z2 w) _ g
  have rd := reads (x := x) (by rw [ec]; exact List.cons_ne_nil _ _) z2 (by omega)
  refine ⟨_, rfl, _, _, _, rfl, rfl, ln1, ea, rfl, _, rfl, ite2 (fun z => ?_) (fun z => ?_)⟩
  · have z3 : V.str ⟨#[c0]⟩ = V.str "0" := of_decide_eq_true z
    have z4 := V.str.inj z3
    rw [zero_is] at z4
    have z5 : c0 = 48 := (List.cons.inj (congrArg (fun s : Str => s.cps.toList) z4)).1
    refine ⟨_, rfl, rfl, _, rfl, ite2 (fun z => ?_) (fun z => ?_)⟩
    · refine ⟨by show 1 ≤ sizeLine; decide, bad (num_out (.inr (.inr ⟨by rw [ec, z5]; rfl, fun w => ?_⟩))) _ g⟩
      have : x = "0" := str_ext (by rw [w, zero_is])
      subst this
      exact v_ne z
    · have y : x = "0" := V.str.inj (Classical.byContradiction fun w => z (by rw [decide_eq_false w]; rfl))
      exact ⟨_, rfl, _, _, rfl, rd, by omega, fin fun w => w.2 (by rw [y, zero_is])⟩
  · refine ⟨_, rfl, _, _, rfl, rd, by omega, fin fun w => z (decide_eq_true ?_)⟩
    have : c0 = 48 := by have := w.1; rw [ec] at this; exact Option.some.inj this
    rw [this, zero_is]
def sp_read_sides (K : PySem.W.Frag) (c : Str → Addr) : Sp := fun vs H Q E => ∃ x : Str, vs = [.str x] ∧ x.length ≤ 3000 ∧ (∀ i j, sidesOf x.cps.toList = some (i, j) → ∀ a H', Same H H' → H' a = some (.tup [.int i, .int j]) → Q (.ref a) H') ∧ (sidesOf x.cps.toList = none → ∀ H', Same H H' → E (.ref (c "NoText")) none H')
theorem sc_read_sides : FnScope ["text", "across", "cross", "up"] ["text"] (defScope s_read_sides) := ⟨rfl, rfl, rfl, by decide +kernel, rfl, by decide +kernel, by decide +kernel⟩
theorem ok_read_sides {f : Addr} {fd : FuncData} (F : Fun K "read_sides" "read_sides" s_read_sides f fd) (T : Txt K mg c) (G_read_number : Own P w K mg base 3 "read_number" ["text"] (sp_read_number K c))  : FnOk P w K mg base (CXe P w) 5 f fd ["text"] (sp_read_sides K c) := by
  refine F.okE (k := 4) sc_read_sides (fun vs H Q E h => ?_) (fun cdv A outer s H vs Q E hr h => ?_)
  · obtain ⟨_, rfl, _⟩ := h; rfl
  obtain ⟨x, rfl, hl, q, bad⟩ := h
  have ll := len_list x
  have cl := cutAt_len x.cps.toList
  have pe : Txt.partition x "x" = (strOf (cutAt x.cps.toList).1, (Txt.partition x ⟨#[120]⟩).2.1, strOf (cutAt x.cps.toList).2) := by rw [x_is]; exact part_any x
  refine ⟨_, (pss_cons (ps_asg (pe_bmK (K := K) PySem.F.plainAttrs_str PySem.F.slot_str_partition PySem.F.type_str_partition mt_partition (pv 0) (pa_cons pe_str pa_nil)) (pgK_tup (K := K) (n := 3) rfl (pgs_cons (pg_name (i := 1) sc_read_sides.nd rfl (Or.inl rfl)) (pgs_cons (pg_name (i := 2) sc_read_sides.nd rfl (Or.inl rfl)) (pgs_cons (pg_name (i := 3) sc_read_sides.nd rfl (Or.inl rfl)) pgs_nil))))) (pss_one (ps_ret (pe_tup (pa_cons (pe_own G_read_number hr (by decide) (XAcc.passes acc_def) (pa_cons (pv 1) pa_nil)) (pa_cons (pe_own G_read_number hr (by decide) (XAcc.passes acc_def) (pa_cons (pv 3) pa_nil)) pa_nil)))))), ?_⟩
  refine ⟨_, rfl, rfl, _, _, rfl, rfl, by decide +kernel, ln (by omega), fun p hp => ?_⟩
  rw [pe]
  refine ⟨p, _, rfl, .of upd_same, rfl, _, _, rfl, _, _, rfl, _, _, rfl, rfl, ?_⟩
  refine ⟨_, rfl, strOf (cutAt x.cps.toList).1, rfl, by rw [strOf_len]; omega, fun i hi H1 g1 => ?_, fun hi H1 g1 => bad (by unfold sidesOf; rw [show numOf (cutAt x.cps.toList).1 = none from hi]; rfl) _ ((same_new hp _).trans g1)⟩
  refine ⟨_, rfl, strOf (cutAt x.cps.toList).2, rfl, by rw [strOf_len]; omega, fun j hj H2 g2 => ?_, fun hj H2 g2 => bad (by unfold sidesOf; rw [show numOf (cutAt x.cps.toList).1 = some i from hi, show numOf (cutAt x.cps.toList).2 = none from hj]; rfl) _ ((same_new hp _).trans (g1.trans g2))⟩
  exact ⟨by show 2 ≤ sizeLine; decide, fun a ha => q i j (by unfold sidesOf; rw [show numOf (cutAt x.cps.toList).1 = some i from hi, show numOf (cutAt x.cps.toList).2 = some j from hj]; rfl) a _ ((same_new hp _).trans (g1.trans (g2.trans (same_new ha _)))) upd_same⟩
def sp_read_ware (K : PySem.W.Frag) (c : Str → Addr) : Sp := fun vs H Q E => ∃ x : Str, vs = [.str x] ∧ x.length ≤ 3000 ∧ (∀ p, wareOf x.cps.toList = some p → ∀ a H', Same H H' → H' a = some (.tup (wrV p)) → Q (.ref a) H') ∧ (wareOf x.cps.toList = none → ∀ cx H', Same H H' → E (.ref (c "NoText")) cx H')
theorem sc_read_ware : FnScope ["text", "turns", "w", "h"] ["text"] (defScope s_read_ware) := ⟨rfl, rfl, rfl, by decide +kernel, rfl, by decide +kernel, by decide +kernel⟩
theorem ok_read_ware {f : Addr} {fd : FuncData} (F : Fun K "read_ware" "read_ware" s_read_ware f fd) (T : Txt K mg c) (G_read_sides : Own P w K mg base 5 "read_sides" ["text"] (sp_read_sides K c)) (G_made_ware : OwnD P w K mg base 7 "made_ware" ["w", "h", "turns"] (sp_made_ware K c) (.bl false))  : FnOk P w K mg base (CXe P w) 9 f fd ["text"] (sp_read_ware K c) := by
  refine F.okE (k := 8) sc_read_ware (fun vs H Q E h => ?_) (fun cdv A outer s H vs Q E hr h => ?_)
  · obtain ⟨_, rfl, _⟩ := h; rfl
  obtain ⟨x, rfl, hl, q, bad⟩ := h
  have ll := len_list x
  have bl := body_len x.cps.toList
  have ee : Txt.endswith x "+" = lastPlus x.cps.toList := by rw [p_is]; exact ends_any x
  refine ⟨_, (pss_cons (ps_set (i := 1) sc_read_ware.nd rfl (Or.inl rfl) (pe_bmK (K := K) PySem.F.plainAttrs_str PySem.F.slot_str_endswith PySem.F.type_str_endswith mt_endswith (pv 0) (pa_cons pe_str pa_nil))) (pss_cons (ps_asg (pe_own G_read_sides hr (by decide) (XAcc.passes acc_def) (pa_cons (pe_ifExp (pt_val (pv 1)) (pe_slice sl_str (pv 0) po_none (po_some (pe_un un_neg pe_int))) (pv 0)) pa_nil)) (pgK_tup (K := K) (n := 2) rfl (pgs_cons (pg_name (i := 2) sc_read_ware.nd rfl (Or.inl rfl)) (pgs_cons (pg_name (i := 3) sc_read_ware.nd rfl (Or.inl rfl)) pgs_nil)))) (pss_one (ps_try rfl T.m_BadSide (fun _ => PassesOwnAt.leaving) (fun Eh E2 pins acc po => (pss_one (ps_ret (pe_ownDF G_made_ware hr (by decide) (XAcc.passes acc) (pa_cons (pv 2) (pa_cons (pv 3) (pa_cons (pv 1) pa_nil))))))) (fun a ok => (pss_one (ps_raiseN (XAcc.inExc acc_def ok) T.x_NoText rfl T.m_NoText (pa_cons pe_str pa_nil)))))))), ?_⟩
  refine ⟨_, rfl, rfl, _, _, rfl, rfl, ?_⟩
  rw [ee]
  refine ⟨_, rfl, _, rfl, ite2 (fun z => ?_) (fun z => ?_)⟩
  all_goals
    first
    | (refine ⟨_, rfl, _, rfl, _, rfl, _, rfl, ln (by omega), strOf (bodyOf x.cps.toList), congrArg (fun s : Str => [V.str s]) (cut_any x z), by rw [strOf_len]; omega, fun i j hs a H1 g1 e1 => ?_, fun hs H1 g1 => bad (by unfold wareOf; rw [show sidesOf (bodyOf x.cps.toList) = none from hs]; rfl) none H1 g1⟩)
    | (refine ⟨_, rfl, strOf (bodyOf x.cps.toList), congrArg (fun s : Str => [V.str s]) (show x = strOf (bodyOf x.cps.toList) from str_ext (by unfold bodyOf; rw [if_neg z]; rfl)), by rw [strOf_len]; omega, fun i j hs a H1 g1 e1 => ?_, fun hs H1 g1 => bad (by unfold wareOf; rw [show sidesOf (bodyOf x.cps.toList) = none from hs]; rfl) none H1 g1⟩)
    have hs : sidesOf (bodyOf x.cps.toList) = some (i, j) := hs
    refine ⟨a, _, rfl, .of e1, rfl, _, _, rfl, _, _, rfl, rfl, ?_⟩
    refine ⟨fun cls cx H' => cls = .ref (c "BadSide") ∧ cx = none ∧ H' = H1 ∧ ¬ (okSide i ∧ okSide j), ?_, ?_⟩
    · exact ⟨_, rfl, _, rfl, _, rfl, i, j, lastPlus x.cps.toList, rfl, fun hij b H2 g2 e2 => q (i, j, lastPlus x.cps.toList) (by unfold wareOf; rw [hs]; exact if_pos hij) b H2 (g1.trans g2) e2, fun hij => ⟨rfl, rfl, rfl, hij⟩⟩
    · rintro cls cx H2 ⟨rfl, rfl, rfl, hij⟩
      refine ⟨T.t_ex2, fun y hy => ?_⟩
      exact ⟨by show 1 ≤ sizeLine; decide, ⟨_, upd_same⟩, bad (by unfold wareOf; rw [hs]; exact if_neg hij) (some y) _ (g1.trans (same_new hy _))⟩
def sp_l_side (K : PySem.W.Frag) (c : Str → Addr) : Sp := fun vs H Q _ => ∃ i : Int, vs = [.int i] ∧ Fits i ∧ ∀ v : Int, 1 ≤ v → v ≤ 10 ^ 40 → Q (.int v) H
theorem sc_l_side : FnScope ["_law_cell", "_law_rest"] ["_law_cell"] (defScope s_l_side) := ⟨rfl, rfl, rfl, by decide +kernel, rfl, by decide +kernel, by decide +kernel⟩
theorem ok_l_side {f : Addr} {fd : FuncData} (F : Fun K "_law_side" "_law_side" s_l_side f fd) (T : Txt K mg c)   : FnOk P w K mg base (CXe P w) 3 f fd ["_law_cell"] (sp_l_side K c) := by
  refine F.okE (k := 2) sc_l_side (fun vs H Q E h => ?_) (fun cdv A outer s H vs Q E hr h => ?_)
  · obtain ⟨_, rfl, _⟩ := h; rfl
  obtain ⟨i, rfl, hf, q⟩ := h
  have e40 : (1009 : Int) ≤ 10 ^ 40 := by decide +kernel
  refine ⟨_, (pss_cons (ps_set (i := 1) sc_l_side.nd rfl (Or.inl rfl) (pe_op op_fdivB (pv 0) pe_int)) (pss_cons (ps_if (pt_cmpR op_eq (pe_op op_mod (pv 0) pe_int) pe_int (nomark _)) (pss_one (ps_ret (pe_op op_add pe_int (pe_op op_mod (pe_op op_mulB (pv 1) (pe_op op_pow pe_int pe_int)) (pe_op op_pow pe_int pe_int))))) pss_nil) (pss_cons (ps_if (pt_cmpR op_eq (pe_op op_mod (pv 0) pe_int) pe_int (nomark _)) (pss_one (ps_ret (pe_op op_sub (pe_op op_pow pe_int pe_int) (pe_op op_mod (pv 1) pe_int)))) pss_nil) (pss_cons (ps_if (pt_cmpR op_eq (pe_op op_mod (pv 0) pe_int) pe_int (nomark _)) (pss_one (ps_ret (pe_op op_add pe_int (pe_op op_mod (pv 1) pe_int)))) pss_nil) (pss_one (ps_ret (pe_op op_add pe_int (pe_op op_mod (pv 1) pe_int)))))))), ?_⟩
  refine ⟨_, rfl, _, _, rfl, rfl, ⟨by decide, by decide +kernel⟩, ?_⟩
  refine ⟨_, rfl, _, _, rfl, rfl, by show (0 : Int) < _; decide, rfl, _, rfl, ?_⟩
  have hm : IntMulOk (i / 5) (7919 ^ 11) := IntMulOk.of_bits hf.div5 (by decide +kernel)
  refine ite2 (fun z => ?_) (fun z => ?_)
  · exact ⟨_, rfl, _, _, rfl, rfl, ⟨by decide, by decide, by decide⟩, _, _, rfl, rfl, hm, _, _, rfl, rfl, ⟨by decide, by decide, by decide⟩, _, _, rfl, rfl, by show (0 : Int) < _; decide +kernel, _, _, rfl, rfl, q _ (mod40 _).1 (mod40 _).2⟩
  refine ⟨_, rfl, _, _, rfl, rfl, by show (0 : Int) < _; decide, rfl, _, rfl, ?_⟩
  refine ite2 (fun z => ?_) (fun z => ?_)
  · refine ⟨_, _, rfl, rfl, ⟨by decide, by decide, by decide⟩, _, rfl, _, _, rfl, rfl, by show (0 : Int) < _; decide, _, _, rfl, rfl, q _ ?_ ?_⟩
    · show (1 : Int) ≤ 10 ^ 40 - i / 5 % 3
      omega
    · show (10 : Int) ^ 40 - i / 5 % 3 ≤ 10 ^ 40
      omega
  refine ⟨_, rfl, _, _, rfl, rfl, by show (0 : Int) < _; decide, rfl, _, rfl, ?_⟩
  refine ite2 (fun z => ?_) (fun z => ?_)
  · refine ⟨_, rfl, _, _, rfl, rfl, by show (0 : Int) < _; decide, _, _, rfl, rfl, q _ ?_ ?_⟩
    · show (1 : Int) ≤ 1 + i / 5 % 1009
      omega
    · show 1 + i / 5 % 1009 ≤ (10 : Int) ^ 40
      omega
  refine ⟨_, rfl, _, _, rfl, rfl, by show (0 : Int) < _; decide, _, _, rfl, rfl, q _ ?_ ?_⟩
  · show (1 : Int) ≤ 1 + i / 5 % 7
    omega
  · show 1 + i / 5 % 7 ≤ (10 : Int) ^ 40
    omega
def sp_l_ware (K : PySem.W.Frag) (c : Str → Addr) : Sp := fun vs H Q _ => ∃ i : Int, vs = [.int i] ∧ Fits i ∧ ∀ (q : Addr) (p : Wr) (H' : Hp), Same H H' → WrOk p → H' q = some (.tup (wrV p)) → Q (.ref q) H'
theorem sc_l_ware : FnScope ["_law_cell", "_law_number_here", "_law_mix", "_law_w", "_law_h"] ["_law_cell"] (defScope s_l_ware) := ⟨rfl, rfl, rfl, by decide +kernel, rfl, by decide +kernel, by decide +kernel⟩
theorem ok_l_ware {f : Addr} {fd : FuncData} (F : Fun K "_law_ware" "_law_ware" s_l_ware f fd) (T : Txt K mg c) (G_l_side : Own P w K mg base 3 "_law_side" ["_law_cell"] (sp_l_side K c))  : FnOk P w K mg base (CXe P w) 5 f fd ["_law_cell"] (sp_l_ware K c) := by
  refine F.okE (k := 4) sc_l_ware (fun vs H Q E h => ?_) (fun cdv A outer s H vs Q E hr h => ?_)
  · obtain ⟨_, rfl, _⟩ := h; rfl
  obtain ⟨i, rfl, hf, q⟩ := h
  refine ⟨_, (pss_cons (ps_set (i := 1) sc_l_ware.nd rfl (Or.inl rfl) (pe_op op_mod (pv 0) (pe_op op_pow pe_int pe_int))) (pss_cons (ps_set (i := 2) sc_l_ware.nd rfl (Or.inl rfl) (pe_op op_mod (pe_op op_add (pe_op op_mulB (pv 1) pe_int) pe_int) pe_int)) (pss_cons (ps_set (i := 3) sc_l_ware.nd rfl (Or.inl rfl) (pe_own G_l_side hr (by decide) pass0e (pa_cons (pv 1) pa_nil))) (pss_cons (ps_set (i := 4) sc_l_ware.nd rfl (Or.inl rfl) (pe_own G_l_side hr (by decide) pass0e (pa_cons (pe_op op_fdivB (pv 2) pe_int) pa_nil))) (pss_cons (ps_if (pt_cmpR op_eq (pe_op op_mod (pv 2) pe_int) pe_int (nomark _)) (pss_one (ps_set (i := 4) sc_l_ware.nd rfl (Or.inl rfl) (pv 3))) pss_nil) (pss_cons (ps_if (pt_cmpR op_eq (pe_op op_mod (pv 2) pe_int) pe_int (nomark _)) (pss_one (ps_set (i := 4) sc_l_ware.nd rfl (Or.inl rfl) (pe_own G_l_side hr (by decide) pass0e (pa_cons (pe_op op_add (pe_op op_mulB (pv 1) pe_int) pe_int) pa_nil)))) pss_nil) (pss_one (ps_ret (pe_tup (pa_cons (pv 3) (pa_cons (pv 4) (pa_cons (pe_cmpR op_gt (pe_op op_mod (pe_op op_fdivB (pv 2) pe_int) pe_int) pe_int (nomark _)) pa_nil)))))))))))), ?_⟩
  refine ⟨_, rfl, _, _, rfl, rfl, ⟨by decide, by decide, by decide⟩, _, _, rfl, rfl, by show (0 : Int) < 10 ^ 60; decide +kernel, ?_⟩
  have n0 := Int.emod_nonneg i (show (10 ^ 60 : Int) ≠ 0 by decide +kernel)
  have n1 := Int.emod_lt_of_pos i (show (0 : Int) < 10 ^ 60 by decide +kernel)
  refine ⟨_, rfl, _, _, rfl, rfl, IntMulOk.of_bits (fits_of n0 n1) (by decide +kernel), _, _, rfl, rfl, _, _, rfl, rfl, by show (0 : Int) < _; decide, ?_⟩
  have m0 := Int.emod_nonneg (i % 10 ^ 60 * 48271 + 29) (show (2147483647 : Int) ≠ 0 by decide)
  have m1 := Int.emod_lt_of_pos (i % 10 ^ 60 * 48271 + 29) (show (0 : Int) < 2147483647 by decide)
  refine ⟨_, rfl, _, rfl, fits_of n0 n1, fun w hw1 hw2 => ?_⟩
  refine ⟨_, rfl, _, _, rfl, rfl, ⟨by decide, by decide +kernel⟩, _, rfl, fits_nat (i := (i % 10 ^ 60 * 48271 + 29) % 2147483647 / 12) (by omega) (by omega), fun h hh1 hh2 => ?_⟩
  have fb : Fits (i % 10 ^ 60 * 69621 + 3) := fits_big (by omega) (by
    have e : (10 : Int) ^ 60 * 69621 + 3 < 10 ^ 70 := by decide +kernel
    generalize (10 : Int) ^ 70 = z at e ⊢
    generalize i % 10 ^ 60 = n at n0 n1 ⊢
    generalize (10 : Int) ^ 60 = y at n1 e
    omega)
  refine ⟨_, rfl, _, _, rfl, rfl, by show (0 : Int) < _; decide, rfl, _, rfl, ite2 (fun _ => ⟨_, rfl, ?_⟩) (fun _ => ?_)⟩
  all_goals
    refine ⟨_, rfl, _, _, rfl, rfl, by show (0 : Int) < _; decide, rfl, _, rfl, ite2 (fun _ => ⟨_, rfl, _, _, rfl, rfl, IntMulOk.of_bits (fits_of n0 n1) (by decide +kernel), _, _, rfl, rfl, _, rfl, fb, fun k hk1 hk2 => ?_⟩) (fun _ => ?_)⟩
  all_goals
    refine ⟨_, rfl, _, rfl, _, rfl, _, _, rfl, rfl, ⟨by decide, by decide +kernel⟩, _, _, rfl, rfl, by show (0 : Int) < _; decide, _, _, rfl, rfl, by show 3 ≤ sizeLine; decide, fun p hp => ?_⟩
    first
    | exact q p (w, k, _) _ (same_new hp _) ⟨hw1, hw2, hk1, hk2⟩ upd_same
    | exact q p (w, w, _) _ (same_new hp _) ⟨hw1, hw2, hw1, hw2⟩ upd_same
    | exact q p (w, h, _) _ (same_new hp _) ⟨hw1, hw2, hh1, hh2⟩ upd_same
def sp_l_sign (K : PySem.W.Frag) (c : Str → Addr) : Sp := fun vs H Q _ => ∃ i : Int, vs = [.int i] ∧ ∀ x : Str, x.length ≤ 1 → Q (.str x) H
theorem at_mod (l : List Nat) (n m : Int) (h0 : 0 < m) (h : (l.length : Int) = m) : ∃ v, atI l (n % m) = some v := by
  have a1 := Int.emod_nonneg n (show m ≠ 0 by omega)
  have a2 := Int.emod_lt_of_pos n h0
  have e := atI_nat (xs := l) (j := (n % m).toNat) (v := l[(n % m).toNat]'(by omega)) (by simp)
  rw [show (((n % m).toNat : Nat) : Int) = n % m by omega] at e
  exact ⟨_, e⟩
theorem sc_l_sign : FnScope ["_law_number_here", "_law_near", "_law_some"] ["_law_number_here"] (defScope s_l_sign) := ⟨rfl, rfl, rfl, by decide +kernel, rfl, by decide +kernel, by decide +kernel⟩
theorem ok_l_sign {f : Addr} {fd : FuncData} (F : Fun K "_law_sign" "_law_sign" s_l_sign f fd) (T : Txt K mg c)   : FnOk P w K mg base (CXe P w) 3 f fd ["_law_number_here"] (sp_l_sign K c) := by
  refine F.okE (k := 2) sc_l_sign (fun vs H Q E h => ?_) (fun cdv A outer s H vs Q E hr h => ?_)
  · obtain ⟨_, rfl, _⟩ := h; rfl
  obtain ⟨i, rfl, q⟩ := h
  refine ⟨_, (pss_cons (ps_set (i := 1) sc_l_sign.nd rfl (Or.inl rfl) pe_str) (pss_cons (ps_set (i := 2) sc_l_sign.nd rfl (Or.inl rfl) pe_str) (pss_cons (ps_set (i := 2) sc_l_sign.nd rfl (Or.inl rfl) (pe_op op_add_str (pv 2) pe_str)) (pss_cons (ps_if (pt_cmpR op_eq (pe_op op_mod (pv 0) pe_int) pe_int (nomark _)) (pss_one (ps_ret (pe_ix ix_str (pv 1) (pe_op op_mod (pe_op op_fdivB (pv 0) pe_int) pe_int) (fun _ _ => rfl)))) pss_nil) (pss_one (ps_ret (pe_ix ix_str (pv 2) (pe_op op_mod (pe_op op_fdivB (pv 0) pe_int) pe_int) (fun _ _ => rfl)))))))), ?_⟩
  refine ⟨_, rfl, _, _, rfl, rfl, by decide +kernel, ?_⟩
  refine ⟨_, rfl, _, _, rfl, rfl, by show (0 : Int) < _; decide, rfl, _, rfl, ite2 (fun z => ?_) (fun z => ?_)⟩
  · obtain ⟨v, hv⟩ := at_mod ("0123456789x+: -X" : Str).cps.toList (i / 2) 16 (by decide) (by decide +kernel)
    exact ⟨_, rfl, _, rfl, _, _, rfl, rfl, ⟨by decide, by decide +kernel⟩, _, _, rfl, rfl, by show (0 : Int) < _; decide, _, _, v, rfl, rfl, by decide +kernel, hv, q _ (by show 1 ≤ 1; decide)⟩
  · obtain ⟨v, hv⟩ := at_mod ((" !\"#$&'()*+,-./0123456789:;<=>?@ABCDEFGHIJKLMNOPQRSTUVWXYZ[\\]^_`" : Str) ++ ("abcdefghijklmnopqrstuvwxyz{|}~" : Str)).cps.toList (i / 2) 94 (by decide) (by decide +kernel)
    exact ⟨_, rfl, _, rfl, _, _, rfl, rfl, ⟨by decide, by decide +kernel⟩, _, _, rfl, rfl, by show (0 : Int) < _; decide, _, _, v, rfl, rfl, by decide +kernel, hv, q _ (by show 1 ≤ 1; decide)⟩
def sp_l_spoilt (K : PySem.W.Frag) (c : Str → Addr) : Sp := fun vs H Q _ => ∃ (x : Str) (i : Int), vs = [.str x, .int i] ∧ x.length ≤ 1400 ∧ ∀ y : Str, y.length ≤ 2 * x.length + 1 → Q (.str y) H
theorem sc_l_spoilt : FnScope ["_law_text_here", "_law_cell", "_law_number_here", "_law_at", "_law_sign_here"] ["_law_text_here", "_law_cell"] (defScope s_l_spoilt) := ⟨rfl, rfl, rfl, by decide +kernel, rfl, by decide +kernel, by decide +kernel⟩
theorem ok_l_spoilt {f : Addr} {fd : FuncData} (F : Fun K "_law_spoilt" "_law_spoilt" s_l_spoilt f fd) (T : Txt K mg c) (G_l_sign : Own P w K mg base 3 "_law_sign" ["_law_number_here"] (sp_l_sign K c))  : FnOk P w K mg base (CXe P w) 5 f fd ["_law_text_here", "_law_cell"] (sp_l_spoilt K c) := by
  refine F.okE (k := 4) sc_l_spoilt (fun vs H Q E h => ?_) (fun cdv A outer s H vs Q E hr h => ?_)
  · obtain ⟨_, _, rfl, _⟩ := h; rfl
  obtain ⟨x, i, rfl, hl, q⟩ := h
  have ln1 : x.length ≤ sizeLine := ln (by omega)
  have s1 : ∀ l u, (Txt.slice x l u).length ≤ x.length := fun l u => Txt.slice_le x l u
  refine ⟨_, (pss_cons (ps_set (i := 2) sc_l_spoilt.nd rfl (Or.inl rfl) (pe_op op_mod (pv 1) pe_int)) (pss_cons (ps_set (i := 3) sc_l_spoilt.nd rfl (Or.inl rfl) (pe_op op_mod (pe_op op_fdivB (pv 2) pe_int) (pe_op op_add (pe_callB call_len_str rfl T.z_len bt_len (pa_cons (pv 0) pa_nil)) pe_int))) (pss_cons (ps_set (i := 4) sc_l_spoilt.nd rfl (Or.inl rfl) (pe_own G_l_sign hr (by decide) pass0e (pa_cons (pe_op op_mod (pe_op op_mulB (pv 2) pe_int) pe_int) pa_nil))) (pss_cons (ps_if (pt_cmpR op_eq (pe_op op_mod (pv 2) pe_int) pe_int (nomark _)) (pss_one (ps_ret (pe_op op_add_str (pe_op op_add_str (pe_slice sl_str (pv 0) po_none (po_some (pv 3))) (pv 4)) (pe_slice sl_str (pv 0) (po_some (pv 3)) po_none)))) pss_nil) (pss_cons (ps_if (pt_cmpR op_eq (pe_op op_mod (pv 2) pe_int) pe_int (nomark _)) (pss_one (ps_ret (pe_op op_add_str (pe_slice sl_str (pv 0) po_none (po_some (pv 3))) (pe_slice sl_str (pv 0) (po_some (pe_op op_add (pv 3) pe_int)) po_none)))) pss_nil) (pss_cons (ps_if (pt_cmpR op_eq (pe_op op_mod (pv 2) pe_int) pe_int (nomark _)) (pss_one (ps_ret (pe_op op_add_str (pe_op op_add_str (pe_slice sl_str (pv 0) po_none (po_some (pv 3))) (pv 4)) (pe_slice sl_str (pv 0) (po_some (pe_op op_add (pv 3) pe_int)) po_none)))) pss_nil) (pss_one (ps_ret (pv 0))))))))), ?_⟩
  refine ⟨_, rfl, _, _, rfl, rfl, by show (0 : Int) < _; decide, ?_⟩
  have n0 := Int.emod_nonneg i (show (2147483647 : Int) ≠ 0 by decide)
  have n1 := Int.emod_lt_of_pos i (show (0 : Int) < 2147483647 by decide)
  refine ⟨_, rfl, _, _, rfl, rfl, ⟨by decide, by decide +kernel⟩, _, rfl, _, rfl, ln1, _, _, rfl, rfl, _, _, rfl, rfl, by show (0 : Int) < (x.length : Int) + 1; omega, ?_⟩
  refine ⟨_, rfl, _, _, rfl, rfl, IntMulOk.of_bits (fits_nat n0 n1) (by decide +kernel), _, _, rfl, rfl, by show (0 : Int) < _; decide, _, rfl, fun y hy => ?_⟩
  refine ⟨_, rfl, _, _, rfl, rfl, by show (0 : Int) < _; decide, rfl, _, rfl, ite2 (fun z => ?_) (fun z => ?_)⟩
  · have a1 := s1 none (some (i % 2147483647 / 4 % (x.length + 1)))
    have a2 := s1 (some (i % 2147483647 / 4 % (x.length + 1))) none
    exact ⟨_, rfl, _, rfl, _, rfl, _, rfl, ln1, _, rfl, _, _, rfl, rfl, ln (by omega), _, rfl, _, rfl, _, rfl, _, rfl, ln1, _, _, rfl, rfl, ln (by simp only [app_len]; omega), q _ (by simp only [app_len]; omega)⟩
  refine ⟨_, rfl, _, _, rfl, rfl, by show (0 : Int) < _; decide, rfl, _, rfl, ite2 (fun z => ?_) (fun z => ?_)⟩
  · have a1 := s1 none (some (i % 2147483647 / 4 % (x.length + 1)))
    have a2 := s1 (some (i % 2147483647 / 4 % (x.length + 1) + 1)) none
    exact ⟨_, rfl, _, rfl, _, rfl, _, rfl, ln1, _, rfl, _, rfl, _, _, rfl, rfl, _, rfl, _, rfl, ln1, _, _, rfl, rfl, ln (by omega), q _ (by simp only [app_len]; omega)⟩
  refine ⟨_, rfl, _, _, rfl, rfl, by show (0 : Int) < _; decide, rfl, _, rfl, ite2 (fun z => ?_) (fun z => ?_)⟩
  · have a1 := s1 none (some (i % 2147483647 / 4 % (x.length + 1)))
    have a2 := s1 (some (i % 2147483647 / 4 % (x.length + 1) + 1)) none
    exact ⟨_, rfl, _, rfl, _, rfl, _, rfl, ln1, _, rfl, _, _, rfl, rfl, ln (by omega), _, rfl, _, rfl, _, _, rfl, rfl, _, rfl, _, rfl, ln1, _, _, rfl, rfl, ln (by simp only [app_len]; omega), q _ (by simp only [app_len]; omega)⟩
  exact ⟨_, rfl, q _ (by omega)⟩
def sp_l_number (K : PySem.W.Frag) (c : Str → Addr) : Sp := fun vs H Q _ => ∃ (x : Str) (lo hi : Int), vs = [.str x, .int lo, .int hi] ∧ x.length ≤ 3000 ∧ Q (optV (numDue lo hi x.cps.toList)) H
theorem sc_l_number : FnScope ["_law_text_here", "_law_low", "_law_high", "_law_sign_here"] ["_law_text_here", "_law_low", "_law_high"] (defScope s_l_number) := ⟨rfl, rfl, rfl, by decide +kernel, rfl, by decide +kernel, by decide +kernel⟩
theorem ok_l_number {f : Addr} {fd : FuncData} (F : Fun K "_law_number" "_law_number" s_l_number f fd) (T : Txt K mg c)   : FnOk P w K mg base (CXe P w) 3 f fd ["_law_text_here", "_law_low", "_law_high"] (sp_l_number K c) := by
  refine F.okE (k := 2) sc_l_number (fun vs H Q E h => ?_) (fun cdv A outer s H vs Q E hr h => ?_)
  · obtain ⟨_, _, _, rfl, _⟩ := h; rfl
  obtain ⟨x, lo, hi, rfl, hl, q⟩ := h
  have ln1 : x.length ≤ sizeLine := ln (by omega)
  have ll := len_list x
  have no : numDue lo hi x.cps.toList = none → Q .non H := fun w => by rw [w] at q; exact q
  refine ⟨_, (pss_cons (ps_if (PW.pt (pw_or (pt_cmpR op_eq (pv 0) pe_str (nomark _)) (pw_or (pt_cmpR op_gt (pe_callB call_len_str rfl T.z_len bt_len (pa_cons (pv 0) pa_nil)) pe_int (nomark _)) (pw_or1 (PW.pt (pw_and (pt_cmpR op_eq (pe_ix ix_str (pv 0) pe_int (fun _ _ => rfl)) pe_str (nomark _)) (pw_and1 (pt_cmpR op_ne (pv 0) pe_str (nomark _))))))))) (pss_one (ps_ret pe_non)) pss_nil) (pss_cons (ps_for PassesOwn.leaving rfl (pi_str (pv 0)) (pg_name (i := 3) sc_l_number.nd rfl (Or.inl rfl)) (pss_one (ps_if (pt_cmpR op_notin_str (pv 3) pe_str (by with_unfolding_all rfl)) (pss_one (ps_ret pe_non)) pss_nil))) (pss_cons (ps_if (pt_chain op_le op_le (pv 1) (pe_callTy call_int_str rfl T.z_int bt_int (pa_cons (pv 0) pa_nil)) (pv 2)) (pss_one (ps_ret (pe_callTy call_int_str rfl T.z_int bt_int (pa_cons (pv 0) pa_nil)))) pss_nil) (pss_one (ps_ret pe_non))))), ?_⟩
  refine ⟨_, rfl, rfl, _, rfl, ite2 (fun z => ?_) (fun z => ?_)⟩
  · have z' : x = "" := V.str.inj (of_decide_eq_true z)
    refine iteT (no ?_)
    unfold numDue
    rw [if_pos (.inl (by rw [z', n_list]))]
  have z0 : x.cps.toList ≠ [] := fun w => z (decide_eq_true (congrArg V.str (str_ext (by rw [w, n_list]))))
  refine ⟨_, rfl, _, rfl, ln1, _, _, rfl, rfl, _, rfl, ite2 (fun z => ?_) (fun z => ?_)⟩
  · have z' : (50 : Int) < (x.length : Int) := of_decide_eq_true z
    refine iteT (no ?_)
    unfold numDue
    rw [if_pos (.inr (.inl (by omega)))]
  have z1 : ¬ (50 : Int) < (x.length : Int) := of_decide_eq_false (Bool.eq_false_iff.mpr z)
  obtain ⟨c0, r0, ec⟩ : ∃ c0 r0, x.cps.toList = c0 :: r0 := by
    cases w : x.cps.toList with
    | nil => exact absurd w z0
    | cons a b => exact ⟨a, b, rfl⟩
  have ea : atI x.cps.toList 0 = some c0 := atI_nat (j := 0) (by rw [ec]; rfl)
  refine ⟨_, rfl, _, _, _, rfl, rfl, ln1, ea, rfl, _, rfl, ite2 (fun z => ?_) (fun z => ?_)⟩
  · have z4 := V.str.inj (of_decide_eq_true z : V.str ⟨#[c0]⟩ = V.str "0")
    rw [zero_is] at z4
    have z5 : c0 = 48 := (List.cons.inj (congrArg (fun s : Str => s.cps.toList) z4)).1
    refine ⟨_, rfl, rfl, _, rfl, ite2 (fun z => ?_) (fun z => ?_)⟩
    · have hn : x.cps.toList ≠ [48] := fun w => by
        have : x = "0" := str_ext (by rw [w, zero_is])
        subst this
        exact v_ne z
      refine no ?_
      unfold numDue
      rw [if_pos (.inr (.inr ⟨by rw [ec, z5]; rfl, hn⟩))]
    have y : x = "0" := V.str.inj (Classical.byContradiction fun w => z (by rw [decide_eq_false w]; rfl))
    have hh : ¬ (x.cps.toList.head? = some 48 ∧ x.cps.toList ≠ [48]) := fun w => w.2 (by rw [y, zero_is])
    have A : ¬ (x.cps.toList = [] ∨ 50 < x.cps.toList.length ∨ (x.cps.toList.head? = some 48 ∧ x.cps.toList ≠ [48])) := fun w => by
      rcases w with w | w | w
      · exact z0 w
      · omega
      · exact hh w
    clear y z z4 z5
    refine ⟨_, rfl, _, rfl, for_str (z := x) (fun k σ' H' => (∃ o3, σ' = [some (.str x), some (.int lo), some (.int hi), o3]) ∧ H' = H ∧ ¬ ∃ s ∈ x.cps.toList.take k, ¬ Dig s) ⟨⟨none, rfl⟩, rfl, fun ⟨s, hs, _⟩ => by simp at hs⟩ (fun k s σ' H' hs z => ?_) (fun σ' H' z => ?_)⟩
    · obtain ⟨⟨o3, rfl⟩, rfl, hd⟩ := z
      have e := StrLaws.found_one ("0123456789" : Str) s
      refine ⟨_, rfl, _, _, rfl, rfl, _, rfl, ite2 (fun z => ?_) (fun z => ?_)⟩
      · have z : (!(!(Builtin.Str.occurrences ("0123456789" : Str) ⟨#[s]⟩ 0 ("0123456789" : Str).length 1).isEmpty)) = true := z
        rw [e] at z
        refine no ?_
        unfold numDue
        rw [if_neg A, if_pos ⟨s, List.mem_of_getElem? hs, notFig_is.mp z⟩]
      · have z : ¬ (!(!(Builtin.Str.occurrences ("0123456789" : Str) ⟨#[s]⟩ 0 ("0123456789" : Str).length 1).isEmpty)) = true := z
        rw [e] at z
        refine ⟨⟨_, rfl⟩, rfl, fun ⟨s2, hs2, w⟩ => ?_⟩
        rw [List.take_add_one, hs] at hs2
        rcases List.mem_append.mp hs2 with hs2 | hs2
        · exact hd ⟨s2, hs2, w⟩
        · have : s2 = s := by simpa using hs2
          subst this
          exact z (notFig_is.mpr w)
    · obtain ⟨⟨o3, rfl⟩, rfl, hd⟩ := z
      rw [List.take_of_length_le (by rw [ll]; exact Nat.le_refl _)] at hd
      have rd := reads (x := x) z0 hd (by omega)
      have B : numDue lo hi x.cps.toList = if lo ≤ (digitsVal x.cps.toList : Nat) ∧ ((digitsVal x.cps.toList : Nat) : Int) ≤ hi then some ((digitsVal x.cps.toList : Nat) : Int) else none := by
        unfold numDue
        rw [if_neg A, if_neg hd]
      refine ⟨_, rfl, _, rfl, _, _, rfl, rd, by omega, _, _, rfl, rfl, _, rfl, ite2 (fun z1 => ⟨_, rfl, _, _, rfl, rfl, _, rfl, ite2 (fun z2 => ?_) (fun z2 => ?_)⟩) (fun z1 => ⟨_, rfl, iteF (no ?_)⟩)⟩
      · have w1 := of_decide_eq_true z1
        have w2 := of_decide_eq_true z2
        rw [B, if_pos ⟨w1, w2⟩] at q
        exact ⟨_, rfl, _, _, rfl, rd, by omega, q⟩
      · have w2 := of_decide_eq_false (Bool.eq_false_iff.mpr z2)
        refine no ?_
        rw [B, if_neg fun w => w2 w.2]
      · have w1 := of_decide_eq_false (Bool.eq_false_iff.mpr z1)
        rw [B, if_neg fun w => w1 w.1]
  have hh : ¬ (x.cps.toList.head? = some 48 ∧ x.cps.toList ≠ [48]) := fun w => z (decide_eq_true (by
    have : c0 = 48 := by have := w.1; rw [ec] at this; exact Option.some.inj this
    rw [this, zero_is]))
  have A : ¬ (x.cps.toList = [] ∨ 50 < x.cps.toList.length ∨ (x.cps.toList.head? = some 48 ∧ x.cps.toList ≠ [48])) := fun w => by
    rcases w with w | w | w
    · exact z0 w
    · omega
    · exact hh w
  refine iteF ?_
  refine ⟨_, rfl, _, rfl, for_str (z := x) (fun k σ' H' => (∃ o3, σ' = [some (.str x), some (.int lo), some (.int hi), o3]) ∧ H' = H ∧ ¬ ∃ s ∈ x.cps.toList.take k, ¬ Dig s) ⟨⟨none, rfl⟩, rfl, fun ⟨s, hs, _⟩ => by simp at hs⟩ (fun k s σ' H' hs z => ?_) (fun σ' H' z => ?_)⟩
  · obtain ⟨⟨o3, rfl⟩, rfl, hd⟩ := z
    have e := StrLaws.found_one ("0123456789" : Str) s
    refine ⟨_, rfl, _, _, rfl, rfl, _, rfl, ite2 (fun z => ?_) (fun z => ?_)⟩
    · have z : (!(!(Builtin.Str.occurrences ("0123456789" : Str) ⟨#[s]⟩ 0 ("0123456789" : Str).length 1).isEmpty)) = true := z
      rw [e] at z
      refine no ?_
      unfold numDue
      rw [if_neg A, if_pos ⟨s, List.mem_of_getElem? hs, notFig_is.mp z⟩]
    · have z : ¬ (!(!(Builtin.Str.occurrences ("0123456789" : Str) ⟨#[s]⟩ 0 ("0123456789" : Str).length 1).isEmpty)) = true := z
      rw [e] at z
      refine ⟨⟨_, rfl⟩, rfl, fun ⟨s2, hs2, w⟩ => ?_⟩
      rw [List.take_add_one, hs] at hs2
      rcases List.mem_append.mp hs2 with hs2 | hs2
      · exact hd ⟨s2, hs2, w⟩
      · have : s2 = s := by simpa using hs2
        subst this
        exact z (notFig_is.mpr w)
  · obtain ⟨⟨o3, rfl⟩, rfl, hd⟩ := z
    rw [List.take_of_length_le (by rw [ll]; exact Nat.le_refl _)] at hd
    have rd := reads (x := x) z0 hd (by omega)
    have B : numDue lo hi x.cps.toList = if lo ≤ (digitsVal x.cps.toList : Nat) ∧ ((digitsVal x.cps.toList : Nat) : Int) ≤ hi then some ((digitsVal x.cps.toList : Nat) : Int) else none := by
      unfold numDue
      rw [if_neg A, if_neg hd]
    refine ⟨_, rfl, _, rfl, _, _, rfl, rd, by omega, _, _, rfl, rfl, _, rfl, ite2 (fun z1 => ⟨_, rfl, _, _, rfl, rfl, _, rfl, ite2 (fun z2 => ?_) (fun z2 => ?_)⟩) (fun z1 => ⟨_, rfl, iteF (no ?_)⟩)⟩
    · have w1 := of_decide_eq_true z1
      have w2 := of_decide_eq_true z2
      rw [B, if_pos ⟨w1, w2⟩] at q
      exact ⟨_, rfl, _, _, rfl, rd, by omega, q⟩
    · have w2 := of_decide_eq_false (Bool.eq_false_iff.mpr z2)
      refine no ?_
      rw [B, if_neg fun w => w2 w.2]
    · have w1 := of_decide_eq_false (Bool.eq_false_iff.mpr z1)
      rw [B, if_neg fun w => w1 w.1]
def sp_l_sides_due (K : PySem.W.Frag) (c : Str → Addr) : Sp := fun vs H Q _ => ∃ (x : Str) (lo hi : Int), vs = [.str x, .int lo, .int hi] ∧ x.length ≤ 3000 ∧ (∀ p, sidesDue lo hi x.cps.toList = some p → ∀ a H', Same H H' → H' a = some (.tup [.int p.1, .int p.2]) → Q (.ref a) H') ∧ (sidesDue lo hi x.cps.toList = none → Q .non H)
theorem sc_l_sides_due : FnScope ["_law_text_here", "_law_low", "_law_high", "_law_at", "_law_w", "_law_h"] ["_law_text_here", "_law_low", "_law_high"] (defScope s_l_sides_due) := ⟨rfl, rfl, rfl, by decide +kernel, rfl, by decide +kernel, by decide +kernel⟩
theorem ok_l_sides_due {f : Addr} {fd : FuncData} (F : Fun K "_law_sides_due" "_law_sides_due" s_l_sides_due f fd) (T : Txt K mg c) (G_l_number : Own P w K mg base 3 "_law_number" ["_law_text_here", "_law_low", "_law_high"] (sp_l_number K c))  : FnOk P w K mg base (CXe P w) 5 f fd ["_law_text_here", "_law_low", "_law_high"] (sp_l_sides_due K c) := by
  refine F.okE (k := 4) sc_l_sides_due (fun vs H Q E h => ?_) (fun cdv A outer s H vs Q E hr h => ?_)
  · obtain ⟨_, _, _, rfl, _⟩ := h; rfl
  obtain ⟨x, lo, hi, rfl, hl, q, no⟩ := h
  have ln1 : x.length ≤ sizeLine := ln (by omega)
  have ll := len_list x
  have cl := cutAt_len x.cps.toList
  have fe : Txt.find x "x" = if 120 ∈ x.cps.toList then ((cutAt x.cps.toList).1.length : Int) else -1 := by rw [x_is]; exact find_any x
  refine ⟨_, (pss_cons (ps_set (i := 3) sc_l_sides_due.nd rfl (Or.inl rfl) (pe_bmK (K := K) PySem.F.plainAttrs_str PySem.F.slot_str_find PySem.F.type_str_find mt_find (pv 0) (pa_cons pe_str pa_nil))) (pss_cons (ps_if (pt_cmpR op_lt (pv 3) pe_int (nomark _)) (pss_one (ps_ret pe_non)) pss_nil) (pss_cons (ps_set (i := 4) sc_l_sides_due.nd rfl (Or.inl rfl) (pe_own G_l_number hr (by decide) pass0e (pa_cons (pe_slice sl_str (pv 0) po_none (po_some (pv 3))) (pa_cons (pv 1) (pa_cons (pv 2) pa_nil))))) (pss_cons (ps_set (i := 5) sc_l_sides_due.nd rfl (Or.inl rfl) (pe_own G_l_number hr (by decide) pass0e (pa_cons (pe_slice sl_str (pv 0) (po_some (pe_op op_add (pv 3) pe_int)) po_none) (pa_cons (pv 1) (pa_cons (pv 2) pa_nil))))) (pss_cons (ps_if (PW.pt (pw_or (pt_cmpR op_isN (pv 4) pe_non (nomark _)) (pw_or1 (pt_cmpR op_isN (pv 5) pe_non (nomark _))))) (pss_one (ps_ret pe_non)) pss_nil) (pss_one (ps_ret (pe_tup (pa_cons (pv 4) (pa_cons (pv 5) pa_nil)))))))))), ?_⟩
  refine ⟨_, rfl, rfl, _, _, rfl, rfl, ?_⟩
  rw [fe]
  by_cases h : 120 ∈ x.cps.toList
  · rw [if_pos h]
    obtain ⟨e1, e2⟩ := cutAt_has h
    have el : x.length = (cutAt x.cps.toList).1.length + (1 + (cutAt x.cps.toList).2.length) := by
      rw [← ll]
      conv => lhs; rw [e1]
      simp; omega
    have s1 := sl_to x (cutAt x.cps.toList).1.length (by omega)
    have s2 := sl_from x ((cutAt x.cps.toList).1.length + 1) (by omega)
    have t1 : x.cps.toList.take (cutAt x.cps.toList).1.length = (cutAt x.cps.toList).1 := by
      conv => lhs; arg 2; rw [e1]
      simp
    have t2 : x.cps.toList.drop ((cutAt x.cps.toList).1.length + 1) = (cutAt x.cps.toList).2 := by
      conv => lhs; arg 2; rw [e1]
      simp
    rw [t1] at s1
    rw [t2] at s2
    have sd : sidesDue lo hi x.cps.toList = (numDue lo hi (cutAt x.cps.toList).1).bind fun i => (numDue lo hi (cutAt x.cps.toList).2).bind fun j => some (i, j) := by unfold sidesDue; rw [if_pos h]
    refine ⟨_, rfl, _, _, rfl, rfl, _, rfl, ite2 (fun z => absurd (of_decide_eq_true z) (by omega)) (fun _ => ?_)⟩
    refine ⟨_, rfl, _, rfl, _, rfl, _, rfl, ln1, _, rfl, _, rfl, strOf (cutAt x.cps.toList).1, lo, hi, congrArg (fun s : Str => [V.str s, .int lo, .int hi]) s1, by rw [strOf_len]; omega, ?_⟩
    rw [strOf_list]
    refine ⟨_, rfl, _, rfl, _, _, rfl, rfl, _, rfl, _, rfl, ln1, _, rfl, _, rfl, strOf (cutAt x.cps.toList).2, lo, hi, congrArg (fun s : Str => [V.str s, .int lo, .int hi]) s2, by rw [strOf_len]; omega, ?_⟩
    rw [strOf_list]
    cases d1 : numDue lo hi (cutAt x.cps.toList).1 with
    | none =>
      rw [d1] at sd
      exact ⟨_, rfl, rfl, _, rfl, iteT (iteT (no sd))⟩
    | some v =>
      rw [d1] at sd
      refine ⟨_, rfl, rfl, _, rfl, iteF ?_⟩
      cases d2 : numDue lo hi (cutAt x.cps.toList).2 with
      | none =>
        rw [d2] at sd
        exact ⟨_, rfl, rfl, _, rfl, iteT (no sd)⟩
      | some u =>
        rw [d2] at sd
        refine ⟨_, rfl, rfl, _, rfl, iteF ?_⟩
        exact ⟨_, rfl, _, rfl, by show 2 ≤ sizeLine; decide, fun t ht => q (v, u) sd t _ (same_new ht _) upd_same⟩
  · rw [if_neg h]
    exact ⟨_, rfl, _, _, rfl, rfl, _, rfl, iteT (no (by unfold sidesDue; rw [if_neg h]))⟩
def sp_l_ware_due (K : PySem.W.Frag) (c : Str → Addr) : Sp := fun vs H Q _ => ∃ x : Str, vs = [.str x] ∧ x.length ≤ 3000 ∧ (∀ p, wareOf x.cps.toList = some p → ∀ a H', Same H H' → H' a = some (.tup (wrV p)) → Q (.ref a) H') ∧ (wareOf x.cps.toList = none → Q .non H)
theorem sc_l_ware_due : FnScope ["_law_text_here", "_law_turns", "_law_found"] ["_law_text_here"] (defScope s_l_ware_due) := ⟨rfl, rfl, rfl, by decide +kernel, rfl, by decide +kernel, by decide +kernel⟩
theorem ok_l_ware_due {f : Addr} {fd : FuncData} (F : Fun K "_law_ware_due" "_law_ware_due" s_l_ware_due f fd) (T : Txt K mg c) (G_l_sides_due : Own P w K mg base 5 "_law_sides_due" ["_law_text_here", "_law_low", "_law_high"] (sp_l_sides_due K c))  : FnOk P w K mg base (CXe P w) 7 f fd ["_law_text_here"] (sp_l_ware_due K c) := by
  refine F.okE (k := 6) sc_l_ware_due (fun vs H Q E h => ?_) (fun cdv A outer s H vs Q E hr h => ?_)
  · obtain ⟨_, rfl, _⟩ := h; rfl
  obtain ⟨x, rfl, hl, q, no⟩ := h
  have ln1 : x.length ≤ sizeLine := ln (by omega)
  have ll := len_list x
  have bl := body_len x.cps.toList
  have te : decide (V.str (Txt.slice x (some (-1)) none) = V.str "+") = lastPlus x.cps.toList := by
    rw [← tail_any x, p_is]
    simp
  refine ⟨_, (pss_cons (ps_set (i := 1) sc_l_ware_due.nd rfl (Or.inl rfl) (pe_cmpR op_eq (pe_slice sl_str (pv 0) (po_some (pe_un un_neg pe_int)) po_none) pe_str (nomark _))) (pss_cons (ps_if (pt_val (pv 1)) (pss_one (ps_set (i := 0) sc_l_ware_due.nd rfl (Or.inl rfl) (pe_slice sl_str (pv 0) po_none (po_some (pe_un un_neg pe_int))))) pss_nil) (pss_cons (ps_set (i := 2) sc_l_ware_due.nd rfl (Or.inl rfl) (pe_own G_l_sides_due hr (by decide) pass0e (pa_cons (pv 0) (pa_cons pe_int (pa_cons (pe_op op_pow pe_int pe_int) pa_nil))))) (pss_cons (ps_if (pt_cmpR op_isN (pv 2) pe_non (nomark _)) (pss_one (ps_ret pe_non)) pss_nil) (pss_one (ps_ret (pe_tup (pa_cons (pe_ix (ixK_tup (K := K)) (pv 2) pe_int (fun _ _ => rfl)) (pa_cons (pe_ix (ixK_tup (K := K)) (pv 2) pe_int (fun _ _ => rfl)) (pa_cons (pv 1) pa_nil)))))))))), ?_⟩
  refine ⟨_, rfl, _, rfl, _, rfl, _, rfl, ln1, rfl, ?_⟩
  rw [te]
  have due : ∀ {o : Option Wr}, (sidesDue 1 (10 ^ 40) (bodyOf x.cps.toList)).bind (fun p => some (p.1, p.2, lastPlus x.cps.toList)) = o → wareOf x.cps.toList = o := fun w => by rw [← due_ware]; exact w
  refine ⟨_, rfl, _, rfl, ite2 (fun z => ?_) (fun z => ?_)⟩
  · refine ⟨_, rfl, _, rfl, _, rfl, _, rfl, ln1, ?_⟩
    refine ⟨_, rfl, _, _, rfl, rfl, ⟨by decide, by decide, by decide⟩, strOf (bodyOf x.cps.toList), 1, 10 ^ 40, ?_, by rw [strOf_len]; omega, fun p hp a H1 g1 e1 => ?_, fun hp => ?_⟩
    · exact congrArg (fun s : Str => [V.str s, .int 1, .int (10 ^ 40)]) (cut_any x z)
    · refine ⟨_, rfl, rfl, _, rfl, iteF ?_⟩
      exact ⟨_, rfl, a, _, _, .int p.1, rfl, rfl, .of e1, rfl, _, rfl, a, _, _, .int p.2, rfl, rfl, .of e1, rfl, _, rfl, by show 3 ≤ sizeLine; decide, fun t ht => q (p.1, p.2, lastPlus x.cps.toList) (due (by rw [show sidesDue 1 (10 ^ 40) (bodyOf x.cps.toList) = some p from hp]; rfl)) t _ (g1.trans (same_new ht _)) upd_same⟩
    · exact ⟨_, rfl, rfl, _, rfl, iteT (no (due (by rw [show sidesDue 1 (10 ^ 40) (bodyOf x.cps.toList) = none from hp]; rfl)))⟩
  · refine ⟨_, rfl, _, _, rfl, rfl, ⟨by decide, by decide, by decide⟩, strOf (bodyOf x.cps.toList), 1, 10 ^ 40, ?_, by rw [strOf_len]; omega, fun p hp a H1 g1 e1 => ?_, fun hp => ?_⟩
    · exact congrArg (fun s : Str => [V.str s, .int 1, .int (10 ^ 40)]) (show x = strOf (bodyOf x.cps.toList) from str_ext (by unfold bodyOf; rw [if_neg z]; rfl))
    · refine ⟨_, rfl, rfl, _, rfl, iteF ?_⟩
      exact ⟨_, rfl, a, _, _, .int p.1, rfl, rfl, .of e1, rfl, _, rfl, a, _, _, .int p.2, rfl, rfl, .of e1, rfl, _, rfl, by show 3 ≤ sizeLine; decide, fun t ht => q (p.1, p.2, lastPlus x.cps.toList) (due (by rw [show sidesDue 1 (10 ^ 40) (bodyOf x.cps.toList) = some p from hp]; rfl)) t _ (g1.trans (same_new ht _)) upd_same⟩
    · exact ⟨_, rfl, rfl, _, rfl, iteT (no (due (by rw [show sidesDue 1 (10 ^ 40) (bodyOf x.cps.toList) = none from hp]; rfl)))⟩
def sp_l_alike (K : PySem.W.Frag) (c : Str → Addr) : Sp := fun vs H Q _ => ∃ (a b : Addr) (p : Wr), vs = [.ref a, .ref b] ∧ H a = some (.tup (wrV p)) ∧ H b = some (.tup (wrV p)) ∧ Q (.bl true) H
theorem sc_l_alike : FnScope ["_law_found", "_law_due"] ["_law_found", "_law_due"] (defScope s_l_alike) := ⟨rfl, rfl, rfl, by decide +kernel, rfl, by decide +kernel, by decide +kernel⟩
theorem ok_l_alike {f : Addr} {fd : FuncData} (F : Fun K "_law_alike" "_law_alike" s_l_alike f fd) (T : Txt K mg c) (G_l_whole : Own P w K mg base 3 "_law_whole" ["_law_found"] (sp_l_whole K c))  : FnOk P w K mg base (CXe P w) 5 f fd ["_law_found", "_law_due"] (sp_l_alike K c) := by
  refine F.okE (k := 4) sc_l_alike (fun vs H Q E h => ?_) (fun cdv A outer s H vs Q E hr h => ?_)
  · obtain ⟨_, _, _, rfl, _⟩ := h; rfl
  obtain ⟨a, b, p, rfl, ha, hb, q⟩ := h
  refine ⟨_, (pss_cons (ps_if (PW.pt (pw_or (pt_not (pt_val (pe_callB (callK_isi (K := K)) rfl T.z_isinstance bt_isinstance (pa_cons (pv 0) (pa_cons (pe_bltn (v := .ty "tuple") rfl T.z_tuple bt_tuple rfl) pa_nil))))) (pw_or (pt_cmpR op_ne (pe_callB (callK_len_seq (K := K)) rfl T.z_len bt_len (pa_cons (pv 0) pa_nil)) pe_int (nomark _)) (pw_or1 (pt_not (pt_val (pe_callB (callK_isi (K := K)) rfl T.z_isinstance bt_isinstance (pa_cons (pe_ix (ixK_tup (K := K)) (pv 0) pe_int (fun _ _ => rfl)) (pa_cons (pe_bltn (v := .ty "bool") rfl T.z_bool bt_bool rfl) pa_nil))))))))) (pss_one (ps_ret pe_bl)) pss_nil) (pss_one (ps_ret (pe_and (pe_own G_l_whole hr (by decide) pass0e (pa_cons (pe_ix (ixK_tup (K := K)) (pv 0) pe_int (fun _ _ => rfl)) pa_nil)) (pe_and (pe_own G_l_whole hr (by decide) pass0e (pa_cons (pe_ix (ixK_tup (K := K)) (pv 0) pe_int (fun _ _ => rfl)) pa_nil)) (pe_one (pe_cmpR (opK_eqL (K := K) (hu_of hr)) (pv 0) (pv 1) (nomark _)))))))), ?_⟩
  refine ⟨_, rfl, _, _, _, _, _, rfl, rfl, .of (.tup ha), kit_tuple_tuple, _, rfl, iteF ?_⟩
  refine ⟨_, rfl, a, _, rfl, .inr (.of ha), rfl, _, rfl, iteF ?_⟩
  refine ⟨_, rfl, a, _, _, .bl p.2.2, rfl, rfl, .of ha, rfl, _, _, _, _, _, rfl, rfl, .of (.bl _), kit_bool_bool, _, rfl, iteF ?_⟩
  refine ⟨_, rfl, a, _, _, .int p.1, rfl, rfl, .of ha, rfl, p.1, rfl, _, rfl, iteT ?_⟩
  refine ⟨_, rfl, a, _, _, .int p.2.1, rfl, rfl, .of ha, rfl, p.2.1, rfl, _, rfl, iteT ?_⟩
  refine ⟨_, rfl, _, rfl, a, b, _, _, rfl, rfl, .inr ⟨.of ha, .of hb⟩, rfl, rfl, ?_⟩
  refine (show Q (.bl (eqVs (wrV p) (wrV p))) _ from ?_)
  rw [eqVs_refl _ rfl]
  exact q
def sp_l_kinds (K : PySem.W.Frag) (c : Str → Addr) : Sp := fun vs H Q _ => ∃ a, vs = [.ref a] ∧ (∃ cx, H a = some (ExcO a (.ref (c "NoText")) cx)) ∧ ∀ p H', Same H H' → H' p = some (.lst [.bl true, .bl false]) → Q (.ref p) H'
theorem sc_l_kinds : FnScope ["_law_e", "_law_one", "_law_two"] ["_law_e"] (defScope s_l_kinds) := ⟨rfl, rfl, rfl, by decide +kernel, rfl, by decide +kernel, by decide +kernel⟩
theorem ok_l_kinds {f : Addr} {fd : FuncData} (F : Fun K "_law_kinds" "_law_kinds" s_l_kinds f fd) (T : Txt K mg c)   : FnOkW P w K mg base 3 f fd ["_law_e"] (sp_l_kinds K c) := by
  refine F.okW (k := 2) sc_l_kinds (fun vs H Q E h => ?_) (fun cdv A outer s H vs Q hr h => ?_)
  · obtain ⟨_, rfl, _⟩ := h; rfl
  obtain ⟨a, rfl, ⟨cx, hX⟩, q⟩ := h
  refine ⟨_, (pss_cons (ps_set (i := 1) sc_l_kinds.nd rfl (Or.inl rfl) (pe_callB (callK_isiT (K := K)) rfl T.z_isinstance bt_isinstance (pa_cons (pv 0) (pa_cons (pe_tup (pa_cons (pe_glob (v := .ref (c "BadSide")) rfl T.m_BadSide rfl) (pa_cons (pe_glob (v := .ref (c "BadTurn")) rfl T.m_BadTurn rfl) (pa_cons (pe_glob (v := .ref (c "TooMany")) rfl T.m_TooMany rfl) (pa_cons (pe_glob (v := .ref (c "Ring")) rfl T.m_Ring rfl) (pa_cons (pe_glob (v := .ref (c "NoWeighing")) rfl T.m_NoWeighing rfl) (pa_cons (pe_glob (v := .ref (c "NoPicker")) rfl T.m_NoPicker rfl) (pa_cons (pe_glob (v := .ref (c "NoSheet")) rfl T.m_NoSheet rfl) (pa_cons (pe_glob (v := .ref (c "NoDrawing")) rfl T.m_NoDrawing rfl) pa_nil))))))))) pa_nil)))) (pss_cons (ps_set (i := 2) sc_l_kinds.nd rfl (Or.inl rfl) (pe_callB (callK_isiT (K := K)) rfl T.z_isinstance bt_isinstance (pa_cons (pv 0) (pa_cons (pe_tup (pa_cons (pe_glob (v := .ref (c "NoDeed")) rfl T.m_NoDeed rfl) (pa_cons (pe_glob (v := .ref (c "NoWare")) rfl T.m_NoWare rfl) (pa_cons (pe_glob (v := .ref (c "Full")) rfl T.m_Full rfl) (pa_cons (pe_glob (v := .ref (c "NothingDone")) rfl T.m_NothingDone rfl) (pa_cons (pe_glob (v := .ref (c "TooWide")) rfl T.m_TooWide rfl) (pa_cons (pe_glob (v := .ref (c "Hangs")) rfl T.m_Hangs rfl) (pa_cons (pe_glob (v := .ref (c "BadPlan")) rfl T.m_BadPlan rfl) (pa_cons (pe_glob (v := .ref (c "BadPacking")) rfl T.m_BadPacking rfl) pa_nil))))))))) pa_nil)))) (pss_one (ps_ret (pe_lst (pa_cons (pe_and (pe_callB (callK_isi (K := K)) rfl T.z_isinstance bt_isinstance (pa_cons (pv 0) (pa_cons (pe_glob (v := .ref (c "CrateError")) rfl T.m_CrateError rfl) pa_nil))) (pe_one (pe_callB (callK_isi (K := K)) rfl T.z_isinstance bt_isinstance (pa_cons (pv 0) (pa_cons (pe_bltn (v := .ty "ValueError") rfl T.z_ValueError bt_ValueError rfl) pa_nil))))) (pa_cons (pe_or (pv 1) (pe_one (pv 2))) pa_nil))))))), ?_⟩
  refine ⟨_, rfl, by show 8 ≤ sizeLine; decide, fun p1 hp1 => ?_⟩
  refine ⟨_, _, _, _, _, _, rfl, upd_same, rfl, .exc (same_new hp1 _ _ _ hX) T.t_exc, T.t_one, ?_⟩
  refine ⟨_, rfl, by show 8 ≤ sizeLine; decide, fun p2 hp2 => ?_⟩
  refine ⟨_, _, _, _, _, _, rfl, upd_same, rfl, .exc (((same_new hp1 _).trans (same_new hp2 _)) _ _ hX) T.t_exc, T.t_two, ?_⟩
  refine ⟨_, rfl, _, _, _, _, _, rfl, rfl, .exc (((same_new hp1 _).trans (same_new hp2 _)) _ _ hX) T.t_exc, T.t_ce, _, rfl, ?_⟩
  refine iteT ⟨_, rfl, _, _, _, _, _, rfl, rfl, .exc (((same_new hp1 _).trans (same_new hp2 _)) _ _ hX) T.t_exc, T.t_ve, ?_⟩
  refine ⟨_, rfl, _, rfl, iteF ⟨_, rfl, by show 2 ≤ sizeLine; decide, fun p hp => ?_⟩⟩
  exact q p _ ((same_new hp1 _).trans ((same_new hp2 _).trans (same_new hp _))) upd_same
def sp_l_figures (K : PySem.W.Frag) (c : Str → Addr) : Sp := fun vs H Q _ => ∃ i : Int, vs = [.int i] ∧ ∀ (x : Str) (H' : Hp), x.length ≤ 100 → Same H H' → Q (.str x) H'
theorem at_texts (l : List Str) (n : Int) (h0 : 0 ≤ n) (h1 : n < l.length) (m : Nat) (hm : ∀ x ∈ l, x.length ≤ m) : ∃ x, atI (l.map V.str) n = some (.str x) ∧ x.length ≤ m := by
  have hn : n.toNat < l.length := by omega
  have e := atI_nat (xs := l.map V.str) (j := n.toNat) (v := .str l[n.toNat]) (by rw [List.getElem?_map, List.getElem?_eq_getElem hn]; rfl)
  rw [show ((n.toNat : Nat) : Int) = n by omega] at e
  exact ⟨_, e, hm _ (List.getElem_mem hn)⟩
theorem sevens (n : Int) : (repS "7" (35 + n % 10)).length ≤ 100 := by
  obtain ⟨j, hj, h10⟩ : ∃ j : Nat, n % 10 = j ∧ j < 10 := ⟨(n % 10).toNat, by omega, by omega⟩
  rw [hj]
  match j, h10 with
  | 0, _ => decide +kernel
  | 1, _ => decide +kernel
  | 2, _ => decide +kernel
  | 3, _ => decide +kernel
  | 4, _ => decide +kernel
  | 5, _ => decide +kernel
  | 6, _ => decide +kernel
  | 7, _ => decide +kernel
  | 8, _ => decide +kernel
  | 9, _ => decide +kernel
theorem sc_l_figures : FnScope ["_law_cell", "_law_rest", "_law_great", "_law_some"] ["_law_cell"] (defScope s_l_figures) := ⟨rfl, rfl, rfl, by decide +kernel, rfl, by decide +kernel, by decide +kernel⟩
theorem ok_l_figures {f : Addr} {fd : FuncData} (F : Fun K "_law_figures" "_law_figures" s_l_figures f fd) (T : Txt K mg c)   : FnOk P w K mg base (CXe P w) 3 f fd ["_law_cell"] (sp_l_figures K c) := by
  refine F.okE (k := 2) sc_l_figures (fun vs H Q E h => ?_) (fun cdv A outer s H vs Q E hr h => ?_)
  · obtain ⟨_, rfl, _⟩ := h; rfl
  obtain ⟨i, rfl, q⟩ := h
  refine ⟨_, (pss_cons (ps_set (i := 1) sc_l_figures.nd rfl (Or.inl rfl) (pe_op op_fdivB (pv 0) pe_int)) (pss_cons (ps_set (i := 2) sc_l_figures.nd rfl (Or.inl rfl) (pe_callTy call_str_int rfl T.z_str bt_str (pa_cons (pe_op op_pow pe_int pe_int) pa_nil))) (pss_cons (ps_set (i := 3) sc_l_figures.nd rfl (Or.inl rfl) (pe_lst (pa_str (pa_str (pa_str (pa_cons (pv 2) (pa_cons (pe_callTy call_str_int rfl T.z_str bt_str (pa_cons (pe_op op_add (pe_op op_pow pe_int pe_int) pe_int) pa_nil)) (pa_cons (pe_callTy call_str_int rfl T.z_str bt_str (pa_cons (pe_op op_sub (pe_op op_pow pe_int pe_int) pe_int) pa_nil)) (pa_cons (pe_op op_mul_str pe_str pe_int) (pa_str (pa_str (pa_str (pa_str (pa_str pa_nil)))))))))))))) (pss_cons (ps_if (pt_cmpR op_lt (pe_op op_mod (pv 0) pe_int) pe_int (nomark _)) (pss_one (ps_ret (pe_ix (ixK_list (K := K)) (pv 3) (pe_op op_mod (pv 0) pe_int) (fun _ _ => rfl)))) pss_nil) (pss_one (ps_ret (pe_op op_mul_str pe_str (pe_op op_add pe_int (pe_op op_mod (pv 1) pe_int))))))))), ?_⟩
  refine ⟨_, rfl, _, _, rfl, rfl, ⟨by decide, by decide +kernel⟩, ?_⟩
  refine ⟨_, _, rfl, rfl, ⟨by decide, by decide, by decide⟩, _, rfl, by decide +kernel, ?_⟩
  refine ⟨_, rfl, _, _, rfl, rfl, ⟨by decide, by decide, by decide⟩, _, _, rfl, rfl, _, rfl, by decide +kernel, _, _, rfl, rfl, ⟨by decide, by decide, by decide⟩, _, _, rfl, rfl, _, rfl, by decide +kernel, _, _, rfl, rfl, by decide +kernel, by decide, by decide, by show 12 ≤ sizeLine; decide, fun p hp => ?_⟩
  refine ⟨_, rfl, _, _, rfl, rfl, by show (0 : Int) < _; decide, _, _, rfl, rfl, _, rfl, ite2 (fun z => ?_) (fun z => ?_)⟩
  · have z' : i % 14 < 12 := of_decide_eq_true z
    have z0 := Int.emod_nonneg i (show (14 : Int) ≠ 0 by decide)
    obtain ⟨x, ex, hx⟩ := at_texts ["0", "00", "01", (toString ((10 : Int) ^ 40) : Str), (toString ((10 : Int) ^ 40 + 1) : Str), (toString ((10 : Int) ^ 40 - 1) : Str), repS "9" 100, "1_0", "+1", "-1", " 1", ""] (i % 14) z0 (by show i % 14 < 12; exact z') 100 (by decide +kernel)
    exact ⟨_, rfl, _, rfl, _, _, rfl, rfl, by show (0 : Int) < _; decide, p, _, _, _, rfl, rfl, .of upd_same, ex, q x _ hx (same_new hp _)⟩
  · exact ⟨_, rfl, _, _, rfl, rfl, by show (0 : Int) < _; decide, _, _, rfl, rfl, _, _, rfl, rfl, by decide +kernel, by show -1000000000 ≤ 35 + i / 14 % 10; omega, by show 35 + i / 14 % 10 ≤ 10000; omega, q _ _ (sevens _) (same_new hp _)⟩
def sp_l_text (K : PySem.W.Frag) (c : Str → Addr) : Sp := fun vs H Q _ => ∃ (a : Addr) (ns : List Int), vs = [.ref a] ∧ SqL K H a (ns.map V.int) ∧ (∀ n ∈ ns, Fits n) ∧ ∀ (x : Str) (H' : Hp), x.length ≤ 300 → Same H H' → Q (.str x) H'
theorem sc_l_text : FnScope ["_law_script", "_law_kind", "_law_rest", "_law_ware_here", "_law_tail", "_law_some"] ["_law_script"] (defScope s_l_text) := ⟨rfl, rfl, rfl, by decide +kernel, rfl, by decide +kernel, by decide +kernel⟩
theorem ok_l_text {f : Addr} {fd : FuncData} (F : Fun K "_law_text" "_law_text" s_l_text f fd) (T : Txt K mg c) (G_l_cell_at : Own P w K mg base 3 "_law_cell_at" ["_law_script", "_law_k"] (sp_l_cell_at K c)) (G_l_ware : Own P w K mg base 5 "_law_ware" ["_law_cell"] (sp_l_ware K c)) (G_l_figures : Own P w K mg base 3 "_law_figures" ["_law_cell"] (sp_l_figures K c))  : FnOk P w K mg base (CXe P w) 7 f fd ["_law_script"] (sp_l_text K c) := by
  refine F.okE (k := 6) sc_l_text (fun vs H Q E h => ?_) (fun cdv A outer s H vs Q E hr h => ?_)
  · obtain ⟨_, _, rfl, _⟩ := h; rfl
  obtain ⟨a, ns, rfl, hS, hF, q⟩ := h
  have y1 := x_len
  have y2 := p_len
  have y3 := n_len
  refine ⟨_, (pss_cons (ps_set (i := 1) sc_l_text.nd rfl (Or.inl rfl) (pe_op op_mod (pe_own G_l_cell_at hr (by decide) pass0e (pa_cons (pv 0) (pa_cons pe_int pa_nil))) pe_int)) (pss_cons (ps_set (i := 2) sc_l_text.nd rfl (Or.inl rfl) (pe_op op_fdivB (pe_own G_l_cell_at hr (by decide) pass0e (pa_cons (pv 0) (pa_cons pe_int pa_nil))) pe_int)) (pss_cons (ps_set (i := 3) sc_l_text.nd rfl (Or.inl rfl) (pe_own G_l_ware hr (by decide) pass0e (pa_cons (pe_own G_l_cell_at hr (by decide) pass0e (pa_cons (pv 0) (pa_cons pe_int pa_nil))) pa_nil))) (pss_cons (ps_set (i := 4) sc_l_text.nd rfl (Or.inl rfl) (pe_ix (ixK_list (K := K)) (pe_lst (pa_cons pe_str (pa_cons pe_str pa_nil))) (pe_callTy call_int1 rfl T.z_int bt_int (pa_cons (pe_ix (ixK_tup (K := K)) (pv 3) pe_int (fun _ _ => rfl)) pa_nil)) (fun _ _ => rfl))) (pss_cons (ps_if (pt_cmpR op_eq (pv 1) pe_int (nomark _)) (pss_one (ps_ret (pe_op op_add_str (pe_op op_add_str (pe_op op_add_str (pe_own G_l_figures hr (by decide) pass0e (pa_cons (pv 2) pa_nil)) pe_str) (pe_callTy call_str_int rfl T.z_str bt_str (pa_cons (pe_ix (ixK_tup (K := K)) (pv 3) pe_int (fun _ _ => rfl)) pa_nil))) (pv 4)))) pss_nil) (pss_cons (ps_if (pt_cmpR op_eq (pv 1) pe_int (nomark _)) (pss_one (ps_ret (pe_op op_add_str (pe_op op_add_str (pe_op op_add_str (pe_callTy call_str_int rfl T.z_str bt_str (pa_cons (pe_ix (ixK_tup (K := K)) (pv 3) pe_int (fun _ _ => rfl)) pa_nil)) pe_str) (pe_own G_l_figures hr (by decide) pass0e (pa_cons (pv 2) pa_nil))) (pv 4)))) pss_nil) (pss_cons (ps_if (pt_cmpR op_eq (pv 1) pe_int (nomark _)) (pss_cons (ps_set (i := 5) sc_l_text.nd rfl (Or.inl rfl) (pe_lst (pa_str (pa_str (pa_str (pa_str (pa_str (pa_str (pa_str (pa_str (pa_str (pa_str pa_nil)))))))))))) (pss_one (ps_ret (pe_ix (ixK_list (K := K)) (pe_op op_cat (pv 5) (pe_lst (pa_str (pa_str (pa_str (pa_str (pa_str (pa_str pa_nil)))))))) (pe_op op_mod (pv 2) pe_int) (fun _ _ => rfl))))) pss_nil) (pss_one (ps_ret (pe_op op_add_str (pe_op op_add_str (pe_op op_add_str (pe_callTy call_str_int rfl T.z_str bt_str (pa_cons (pe_ix (ixK_tup (K := K)) (pv 3) pe_int (fun _ _ => rfl)) pa_nil)) pe_str) (pe_callTy call_str_int rfl T.z_str bt_str (pa_cons (pe_ix (ixK_tup (K := K)) (pv 3) pe_int (fun _ _ => rfl)) pa_nil))) (pv 4))))))))))), ?_⟩
  refine ⟨_, rfl, a, _, ns, rfl, hS, by decide, _, _, rfl, rfl, by show (0 : Int) < _; decide, ?_⟩
  refine ⟨_, rfl, a, _, ns, rfl, hS, by decide, _, _, rfl, rfl, ⟨by decide, by decide +kernel⟩, ?_⟩
  refine ⟨_, rfl, a, _, ns, rfl, hS, by decide, _, rfl, fits_cell hF _, fun wq p H1 g1 ok e1 => ?_⟩
  obtain ⟨w, hh, t⟩ := p
  have e1 : H1 wq = some (.tup [.int w, .int hh, .bl t]) := e1
  have sm1 : Sm w := sm_bx ok.bx.1 ok.bx.2.1
  have sm2 : Sm hh := sm_bx ok.bx.2.2.1 ok.bx.2.2.2
  have l1 : (toString w : Str).length ≤ 43 := num_len ok.bx.1 ok.bx.2.1
  have l2 : (toString hh : Str).length ≤ 43 := num_len ok.bx.2.2.1 ok.bx.2.2.2
  refine ⟨by show 2 ≤ sizeLine; decide, fun m hm => ?_⟩
  have gm : Same H1 (L2.upd H1 m (.lst [.str "", .str "+"])) := same_new hm _
  refine ⟨_, rfl, wq, _, _, .bl t, rfl, rfl, .of (gm _ _ e1), rfl, .inr ⟨_, rfl, ?_⟩⟩
  obtain ⟨tl, etl, ltl⟩ : ∃ tl : Str, atI [V.str "", .str "+"] (if t = true then 1 else 0) = some (.str tl) ∧ tl.length ≤ 1 := by
    cases t with
    | false => exact ⟨"", rfl, by decide +kernel⟩
    | true => exact ⟨"+", rfl, by decide +kernel⟩
  refine ⟨m, _, _, .str tl, rfl, rfl, .of upd_same, by cases t <;> exact etl, ?_⟩
  have e2 := gm _ _ e1
  have G2 := g1.trans gm
  generalize L2.upd H1 m (.lst [.str "", .str "+"]) = H2 at gm e2 G2 ⊢
  refine ⟨_, rfl, rfl, _, rfl, ite2 (fun z => ?_) (fun z => ?_)⟩
  · refine ⟨_, rfl, _, rfl, fun y H3 hy g3 => ?_⟩
    exact ⟨_, _, rfl, rfl, ln (by omega), _, rfl, wq, _, _, .int hh, rfl, rfl, .of (g3 _ _ e2), rfl, _, rfl, sm2, _, _, rfl, rfl, ln (by simp only [app_len]; omega), _, rfl, _, _, rfl, rfl, ln (by simp only [app_len]; omega), q _ _ (by simp only [app_len]; omega) (G2.trans g3)⟩
  refine ⟨_, rfl, rfl, _, rfl, ite2 (fun z => ?_) (fun z => ?_)⟩
  · refine ⟨_, rfl, wq, _, _, .int w, rfl, rfl, .of e2, rfl, _, rfl, sm1, _, _, rfl, rfl, ln (by omega), _, rfl, _, rfl, fun y H3 hy g3 => ?_⟩
    exact ⟨_, _, rfl, rfl, ln (by simp only [app_len]; omega), _, rfl, _, _, rfl, rfl, ln (by simp only [app_len]; omega), q _ _ (by simp only [app_len]; omega) (G2.trans g3)⟩
  refine ⟨_, rfl, rfl, _, rfl, ite2 (fun z => ?_) (fun z => ?_)⟩
  · refine ⟨by show 10 ≤ sizeLine; decide, fun s1 h1 => ?_⟩
    refine ⟨_, rfl, by show 6 ≤ sizeLine; decide, fun s2 h2 => ?_⟩
    refine ⟨s1, s2, _, _, rfl, rfl, same_new h2 _ _ _ upd_same, upd_same, by show 16 ≤ sizeLine; decide, fun s3 h3 => ?_⟩
    obtain ⟨x, ex, hx⟩ := at_texts ["", "+", "x", "x+", "7", "7x", "x7", "7x7x7", "7X7", "7*7", "7x7++", "+7x7", "7+x7", "7x+7", "7 x 7", "7:7"] (cellAt ns 0 / 4 % 16) (Int.emod_nonneg _ (by decide)) (Int.emod_lt_of_pos _ (by decide)) 100 (by decide +kernel)
    exact ⟨_, rfl, _, _, rfl, rfl, by show (0 : Int) < _; decide, s3, _, _, _, rfl, rfl, .of upd_same, ex, q x _ (by omega) (G2.trans ((same_new h1 _).trans ((same_new h2 _).trans (same_new h3 _))))⟩
  exact ⟨_, rfl, wq, _, _, .int w, rfl, rfl, .of e2, rfl, _, rfl, sm1, _, _, rfl, rfl, ln (by omega), _, rfl, wq, _, _, .int hh, rfl, rfl, .of e2, rfl, _, rfl, sm2, _, _, rfl, rfl, ln (by simp only [app_len]; omega), _, rfl, _, _, rfl, rfl, ln (by simp only [app_len]; omega), q _ _ (by simp only [app_len]; omega) G2⟩
def sp_l_read (K : PySem.W.Frag) (c : Str → Addr) : Sp := fun vs H Q _ => ∃ x : Str, vs = [.str x] ∧ x.length ≤ 3000 ∧ ∀ a H', Same H H' → H' a = some (readO (wareOf x.cps.toList)) → Q (.ref a) H'
theorem sc_l_read : FnScope ["_law_text_here", "_law_found", "_law_e"] ["_law_text_here"] (defScope s_l_read) := ⟨rfl, rfl, rfl, by decide +kernel, rfl, by decide +kernel, by decide +kernel⟩
theorem ok_l_read {f : Addr} {fd : FuncData} (F : Fun K "_law_read" "_law_read" s_l_read f fd) (T : Txt K mg c) (G_read_ware : Own P w K mg base 9 "read_ware" ["text"] (sp_read_ware K c)) (G_l_kinds : OwnW P w K mg base 3 "_law_kinds" ["_law_e"] (sp_l_kinds K c))  : FnOk P w K mg base (CXe P w) 11 f fd ["_law_text_here"] (sp_l_read K c) := by
  refine F.okE (k := 10) sc_l_read (fun vs H Q E h => ?_) (fun cdv A outer s H vs Q E hr h => ?_)
  · obtain ⟨_, rfl, _⟩ := h; rfl
  obtain ⟨x, rfl, hl, q⟩ := h
  refine ⟨_, (pss_cons (ps_tryAs rfl T.m_NoText sc_l_read.nd (i := 2) rfl (fun Eh E2 pins acc po => (pss_one (ps_set (i := 1) sc_l_read.nd rfl (Or.inl rfl) (pe_own G_read_ware hr (by decide) (XAcc.passes acc) (pa_cons (pv 0) pa_nil))))) (fun a => (pss_one (ps_set (i := 1) sc_l_read.nd rfl (Or.inl rfl) (pe_ownW G_l_kinds (hr.w _) (pa_cons (pv 2) pa_nil)))))) (pss_one (ps_ret (pv 1)))), ?_⟩
  refine ⟨fun cls cx H' => cls = .ref (c "NoText") ∧ Same H H' ∧ wareOf x.cps.toList = none, ?_, ?_⟩
  · refine ⟨_, rfl, x, rfl, hl, fun p hp a H1 g1 e1 => ?_, fun hn cx H1 g1 => ⟨rfl, g1, hn⟩⟩
    exact ⟨_, rfl, q a H1 g1 (by rw [hp]; exact e1)⟩
  · rintro cls cx H1 ⟨rfl, g1, hn⟩
    refine ⟨T.t_ex, fun y hy => ?_⟩
    refine ⟨_, rfl, y, rfl, ⟨cx, upd_same⟩, fun p H2 g hp => ?_⟩
    exact ⟨_, rfl, q p H2 (g1.trans ((same_new hy _).trans g)) (by rw [hn]; exact hp)⟩
def sp_l_good (K : PySem.W.Frag) (c : Str → Addr) : Sp := fun vs H Q _ => ∃ x : Str, vs = [.str x] ∧ x.length ≤ 3000 ∧ ∀ H', Same H H' → Q (.bl true) H'
theorem sc_l_good : FnScope ["_law_text_here", "_law_due"] ["_law_text_here"] (defScope s_l_good) := ⟨rfl, rfl, rfl, by decide +kernel, rfl, by decide +kernel, by decide +kernel⟩
theorem ok_l_good {f : Addr} {fd : FuncData} (F : Fun K "_law_good" "_law_good" s_l_good f fd) (T : Txt K mg c) (G_l_ware_due : Own P w K mg base 7 "_law_ware_due" ["_law_text_here"] (sp_l_ware_due K c)) (G_l_read : Own P w K mg base 11 "_law_read" ["_law_text_here"] (sp_l_read K c)) (G_l_alike : Own P w K mg base 5 "_law_alike" ["_law_found", "_law_due"] (sp_l_alike K c))  : FnOk P w K mg base (CXe P w) 13 f fd ["_law_text_here"] (sp_l_good K c) := by
  refine F.okE (k := 12) sc_l_good (fun vs H Q E h => ?_) (fun cdv A outer s H vs Q E hr h => ?_)
  · obtain ⟨_, rfl, _⟩ := h; rfl
  obtain ⟨x, rfl, hl, q⟩ := h
  refine ⟨_, (pss_cons (ps_set (i := 1) sc_l_good.nd rfl (Or.inl rfl) (pe_own G_l_ware_due hr (by decide) pass0e (pa_cons (pv 0) pa_nil))) (pss_cons (ps_if (pt_cmpR op_isN (pv 1) pe_non (nomark _)) (pss_one (ps_ret (pe_cmpR (opK_eqL (K := K) (hu_of hr)) (pe_own G_l_read hr (by decide) pass0e (pa_cons (pv 0) pa_nil)) (pe_lst (pa_cons pe_bl (pa_cons pe_bl pa_nil))) (nomark _)))) pss_nil) (pss_one (ps_ret (pe_own G_l_alike hr (by decide) pass0e (pa_cons (pe_own G_l_read hr (by decide) pass0e (pa_cons (pv 0) pa_nil)) (pa_cons (pv 1) pa_nil))))))), ?_⟩
  refine ⟨_, rfl, x, rfl, hl, fun p hp a H1 g1 e1 => ?_, fun hn => ?_⟩
  · refine ⟨_, rfl, rfl, _, rfl, iteF ?_⟩
    refine ⟨_, rfl, x, rfl, hl, fun b H2 g2 e2 => ?_⟩
    rw [hp] at e2
    exact ⟨_, rfl, b, a, p, rfl, e2, g2 _ _ e1, q _ (g1.trans g2)⟩
  · refine ⟨_, rfl, rfl, _, rfl, iteT ?_⟩
    refine ⟨_, rfl, x, rfl, hl, fun b H2 g2 e2 => ?_⟩
    rw [hn] at e2
    refine ⟨by show 2 ≤ sizeLine; decide, fun w hw => ?_⟩
    exact ⟨b, w, _, _, rfl, rfl, .inl ⟨.of (same_new hw _ _ _ e2), .of upd_same⟩, rfl, rfl, q _ (g2.trans (same_new hw _))⟩
def sp_law (K : PySem.W.Frag) (c : Str → Addr) : Sp := fun vs H Q _ => ∃ a, ∃ ns : List Int, vs = [.ref a] ∧ Scr K H a (ns.map V.int) ∧ (∀ m ∈ ns, Builtin.Int.intBits m ≤ 2 ^ 20) ∧ ∀ H', Q (.bl true) H'
theorem sc_law : FnScope ["_law_script", "_law_text_here", "_law_ware_here", "_law_right"] ["_law_script"] (defScope s_law) := ⟨rfl, rfl, rfl, by decide +kernel, rfl, by decide +kernel, by decide +kernel⟩
theorem ok_law {f : Addr} {fd : FuncData} (F : Fun K "law" "law" s_law f fd) (T : Txt K mg c) (G_l_text : Own P w K mg base 7 "_law_text" ["_law_script"] (sp_l_text K c)) (G_l_spoilt : Own P w K mg base 5 "_law_spoilt" ["_law_text_here", "_law_cell"] (sp_l_spoilt K c)) (G_l_cell_at : Own P w K mg base 3 "_law_cell_at" ["_law_script", "_law_k"] (sp_l_cell_at K c)) (G_l_good : Own P w K mg base 13 "_law_good" ["_law_text_here"] (sp_l_good K c)) (G_l_ware : Own P w K mg base 5 "_law_ware" ["_law_cell"] (sp_l_ware K c))  : FnOk P w K mg base (CXe P w) 15 f fd ["_law_script"] (sp_law K c) := by
  refine F.okE (k := 14) sc_law (fun vs H Q E h => ?_) (fun cdv A outer s H vs Q E hr h => ?_)
  · obtain ⟨_, _, rfl, _⟩ := h; rfl
  obtain ⟨a, ns, rfl, hS, hfb, q⟩ := h
  have y1 := x_len
  have y2 := p_len
  have y3 := s_len
  refine ⟨_, (pss_cons (ps_set (i := 1) sc_law.nd rfl (Or.inl rfl) (pe_own G_l_text hr (by decide) pass0e (pa_cons (pv 0) pa_nil))) (pss_cons (ps_set (i := 1) sc_law.nd rfl (Or.inl rfl) (pe_own G_l_spoilt hr (by decide) pass0e (pa_cons (pv 1) (pa_cons (pe_own G_l_cell_at hr (by decide) pass0e (pa_cons (pv 0) (pa_cons pe_int pa_nil))) pa_nil)))) (pss_cons (ps_set (i := 1) sc_law.nd rfl (Or.inl rfl) (pe_own G_l_spoilt hr (by decide) pass0e (pa_cons (pv 1) (pa_cons (pe_own G_l_cell_at hr (by decide) pass0e (pa_cons (pv 0) (pa_cons pe_int pa_nil))) pa_nil)))) (pss_cons (ps_if (pt_not (pt_val (pe_own G_l_good hr (by decide) pass0e (pa_cons (pv 1) pa_nil)))) (pss_one (ps_ret pe_bl)) pss_nil) (pss_cons (ps_set (i := 2) sc_law.nd rfl (Or.inl rfl) (pe_own G_l_ware hr (by decide) pass0e (pa_cons (pe_own G_l_cell_at hr (by decide) pass0e (pa_cons (pv 0) (pa_cons pe_int pa_nil))) pa_nil))) (pss_cons (ps_set (i := 3) sc_law.nd rfl (Or.inl rfl) (pe_op op_add_str (pe_op op_add_str (pe_op op_add_str (pe_callTy call_str_int rfl T.z_str bt_str (pa_cons (pe_ix (ixK_tup (K := K)) (pv 2) pe_int (fun _ _ => rfl)) pa_nil)) pe_str) (pe_callTy call_str_int rfl T.z_str bt_str (pa_cons (pe_ix (ixK_tup (K := K)) (pv 2) pe_int (fun _ _ => rfl)) pa_nil))) pe_str)) (pss_cons (ps_if (PW.pt (pw_or (pt_not (pt_val (pe_own G_l_good hr (by decide) pass0e (pa_cons (pv 3) pa_nil)))) (pw_or (pt_not (pt_val (pe_own G_l_good hr (by decide) pass0e (pa_cons (pe_op op_add_str (pv 3) pe_str) pa_nil)))) (pw_or1 (pt_not (pt_val (pe_own G_l_good hr (by decide) pass0e (pa_cons (pe_op op_add_str (pe_slice sl_str (pv 3) po_none (po_some (pe_un un_neg pe_int))) pe_str) pa_nil)))))))) (pss_one (ps_ret pe_bl)) pss_nil) (pss_one (ps_ret (pe_own G_l_good hr (by decide) pass0e (pa_cons (pv 1) pa_nil))))))))))), ?_⟩
  refine ⟨_, rfl, a, ns, rfl, hS.seq, hfb, fun x H1 hx g1 => ?_⟩
  refine ⟨_, rfl, _, rfl, a, _, ns, rfl, g1.seq hS.seq, by decide, x, _, rfl, by omega, fun x2 hx2 => ?_⟩
  refine ⟨_, rfl, _, rfl, a, _, ns, rfl, g1.seq hS.seq, by decide, x2, _, rfl, by omega, fun x3 hx3 => ?_⟩
  refine ⟨_, rfl, x3, rfl, by omega, fun H2 g2 => ⟨_, rfl, iteF ?_⟩⟩
  refine ⟨_, rfl, a, _, ns, rfl, (g1.trans g2).seq hS.seq, by decide, _, rfl, fits_cell hfb _, fun wq p H3 g3 ok e3 => ?_⟩
  obtain ⟨w, hh, t⟩ := p
  have e3 : H3 wq = some (.tup [.int w, .int hh, .bl t]) := e3
  have sm1 : Sm w := sm_bx ok.bx.1 ok.bx.2.1
  have sm2 : Sm hh := sm_bx ok.bx.2.2.1 ok.bx.2.2.2
  have l1 : (toString w : Str).length ≤ 43 := num_len ok.bx.1 ok.bx.2.1
  have l2 : (toString hh : Str).length ≤ 43 := num_len ok.bx.2.2.1 ok.bx.2.2.2
  refine ⟨_, rfl, wq, _, _, .int w, rfl, rfl, .of e3, rfl, _, rfl, sm1, _, _, rfl, rfl, ln (by omega), _, rfl, wq, _, _, .int hh, rfl, rfl, .of e3, rfl, _, rfl, sm2, _, _, rfl, rfl, ln (by simp only [app_len]; omega), _, _, rfl, rfl, ln (by simp only [app_len]; omega), ?_⟩
  have lr : ((toString w : Str) ++ "x" ++ (toString hh : Str) ++ "+").length ≤ 88 := by simp only [app_len]; omega
  generalize (toString w : Str) ++ "x" ++ (toString hh : Str) ++ "+" = r at lr ⊢
  refine ⟨_, rfl, r, rfl, by omega, fun H4 g4 => ⟨_, rfl, iteF ?_⟩⟩
  refine ⟨_, rfl, _, _, rfl, rfl, ln (by omega), r ++ "+", rfl, by simp only [app_len]; omega, fun H5 g5 => ⟨_, rfl, iteF ?_⟩⟩
  have sl := Txt.slice_le r none (some (-1))
  refine ⟨_, rfl, _, rfl, _, rfl, _, rfl, ln (by omega), _, _, rfl, rfl, ln (by omega), Txt.slice r none (some (-1)) ++ " ", rfl, by simp only [app_len]; omega, fun H6 g6 => ⟨_, rfl, iteF ?_⟩⟩
  exact ⟨_, rfl, x3, rfl, by omega, fun H7 g7 => q H7⟩
def cOf (l : List (Str × Addr)) (x : Str) : Addr := (l.lookup x).getD 0
theorem all_mk {w : World} {K : PySem.W.Frag} {h : Heap} {mg : Str → Option Value} {fa : Addr} (X : K.In h) (G : h.Ns mainGlobals mg) (hfa : mg "law" = some (.ref fa))
    {c_BadPacking c_BadPlan c_BadSide c_BadTurn c_CrateError c_Full c_Hangs c_NoDeed c_NoDrawing c_NoPicker c_NoSheet c_NoText c_NoWare c_NoWeighing c_NothingDone c_Ring c_TooMany c_TooWide : Addr} {f_l_cell_at : Addr} {oc_l_cell_at kV_l_cell_at dc_l_cell_at pm_l_cell_at cd_l_cell_at ct_l_cell_at : Value} {od_l_cell_at an_l_cell_at : Option Addr} {sl_l_cell_at : Array (Option Value)} {f_l_whole : Addr} {oc_l_whole kV_l_whole dc_l_whole pm_l_whole cd_l_whole ct_l_whole : Value} {od_l_whole an_l_whole : Option Addr} {sl_l_whole : Array (Option Value)} {f_is_whole : Addr} {oc_is_whole kV_is_whole dc_is_whole pm_is_whole cd_is_whole ct_is_whole : Value} {od_is_whole an_is_whole : Option Addr} {sl_is_whole : Array (Option Value)} {f_check_side : Addr} {oc_check_side kV_check_side dc_check_side pm_check_side cd_check_side ct_check_side : Value} {od_check_side an_check_side : Option Addr} {sl_check_side : Array (Option Value)} {f_made_ware : Addr} {oc_made_ware kV_made_ware dc_made_ware pm_made_ware cd_made_ware ct_made_ware : Value} {od_made_ware an_made_ware : Option Addr} {sl_made_ware : Array (Option Value)} {dT_made_ware : Addr} {doc_made_ware : Value} {dod_made_ware : Option Addr} {dn_made_ware : Nat} {dsl_made_ware : Array (Option Value)} {f_read_number : Addr} {oc_read_number kV_read_number dc_read_number pm_read_number cd_read_number ct_read_number : Value} {od_read_number an_read_number : Option Addr} {sl_read_number : Array (Option Value)} {f_read_sides : Addr} {oc_read_sides kV_read_sides dc_read_sides pm_read_sides cd_read_sides ct_read_sides : Value} {od_read_sides an_read_sides : Option Addr} {sl_read_sides : Array (Option Value)} {f_read_ware : Addr} {oc_read_ware kV_read_ware dc_read_ware pm_read_ware cd_read_ware ct_read_ware : Value} {od_read_ware an_read_ware : Option Addr} {sl_read_ware : Array (Option Value)} {f_l_side : Addr} {oc_l_side kV_l_side dc_l_side pm_l_side cd_l_side ct_l_side : Value} {od_l_side an_l_side : Option Addr} {sl_l_side : Array (Option Value)} {f_l_ware : Addr} {oc_l_ware kV_l_ware dc_l_ware pm_l_ware cd_l_ware ct_l_ware : Value} {od_l_ware an_l_ware : Option Addr} {sl_l_ware : Array (Option Value)} {f_l_sign : Addr} {oc_l_sign kV_l_sign dc_l_sign pm_l_sign cd_l_sign ct_l_sign : Value} {od_l_sign an_l_sign : Option Addr} {sl_l_sign : Array (Option Value)} {f_l_spoilt : Addr} {oc_l_spoilt kV_l_spoilt dc_l_spoilt pm_l_spoilt cd_l_spoilt ct_l_spoilt : Value} {od_l_spoilt an_l_spoilt : Option Addr} {sl_l_spoilt : Array (Option Value)} {f_l_number : Addr} {oc_l_number kV_l_number dc_l_number pm_l_number cd_l_number ct_l_number : Value} {od_l_number an_l_number : Option Addr} {sl_l_number : Array (Option Value)} {f_l_sides_due : Addr} {oc_l_sides_due kV_l_sides_due dc_l_sides_due pm_l_sides_due cd_l_sides_due ct_l_sides_due : Value} {od_l_sides_due an_l_sides_due : Option Addr} {sl_l_sides_due : Array (Option Value)} {f_l_ware_due : Addr} {oc_l_ware_due kV_l_ware_due dc_l_ware_due pm_l_ware_due cd_l_ware_due ct_l_ware_due : Value} {od_l_ware_due an_l_ware_due : Option Addr} {sl_l_ware_due : Array (Option Value)} {f_l_alike : Addr} {oc_l_alike kV_l_alike dc_l_alike pm_l_alike cd_l_alike ct_l_alike : Value} {od_l_alike an_l_alike : Option Addr} {sl_l_alike : Array (Option Value)} {f_l_kinds : Addr} {oc_l_kinds kV_l_kinds dc_l_kinds pm_l_kinds cd_l_kinds ct_l_kinds : Value} {od_l_kinds an_l_kinds : Option Addr} {sl_l_kinds : Array (Option Value)} {f_l_figures : Addr} {oc_l_figures kV_l_figures dc_l_figures pm_l_figures cd_l_figures ct_l_figures : Value} {od_l_figures an_l_figures : Option Addr} {sl_l_figures : Array (Option Value)} {f_l_text : Addr} {oc_l_text kV_l_text dc_l_text pm_l_text cd_l_text ct_l_text : Value} {od_l_text an_l_text : Option Addr} {sl_l_text : Array (Option Value)} {f_l_read : Addr} {oc_l_read kV_l_read dc_l_read pm_l_read cd_l_read ct_l_read : Value} {od_l_read an_l_read : Option Addr} {sl_l_read : Array (Option Value)} {f_l_good : Addr} {oc_l_good kV_l_good dc_l_good pm_l_good cd_l_good ct_l_good : Value} {od_l_good an_l_good : Option Addr} {sl_l_good : Array (Option Value)} {f_law : Addr} {oc_law kV_law dc_law pm_law cd_law ct_law : Value} {od_law an_law : Option Addr} {sl_law : Array (Option Value)} {kt_FIGURES : Tok} {kt_MOST_FIGURES : Tok}
    (a_l_cell_at : PySem.W.nsIn K mainGlobals "_law_cell_at" = some (some (.ref f_l_cell_at)))
    (l_l_cell_at : K.lookup f_l_cell_at = some ⟨oc_l_cell_at, od_l_cell_at, .func (PySem.W.fnOf "_law_cell_at" "_law_cell_at" (defArgs s_l_cell_at) (defBody s_l_cell_at) (defScope s_l_cell_at) .none kV_l_cell_at dc_l_cell_at pm_l_cell_at an_l_cell_at cd_l_cell_at ct_l_cell_at), sl_l_cell_at⟩)
    (c_l_cell_at : PySem.W.codeIn K cd_l_cell_at "_law_cell_at" = true)
    (k_l_cell_at : PySem.W.keepIn K (.ref f_l_cell_at) = true)
    (a_l_whole : PySem.W.nsIn K mainGlobals "_law_whole" = some (some (.ref f_l_whole)))
    (l_l_whole : K.lookup f_l_whole = some ⟨oc_l_whole, od_l_whole, .func (PySem.W.fnOf "_law_whole" "_law_whole" (defArgs s_l_whole) (defBody s_l_whole) (defScope s_l_whole) .none kV_l_whole dc_l_whole pm_l_whole an_l_whole cd_l_whole ct_l_whole), sl_l_whole⟩)
    (c_l_whole : PySem.W.codeIn K cd_l_whole "_law_whole" = true)
    (k_l_whole : PySem.W.keepIn K (.ref f_l_whole) = true)
    (a_is_whole : PySem.W.nsIn K mainGlobals "is_whole" = some (some (.ref f_is_whole)))
    (l_is_whole : K.lookup f_is_whole = some ⟨oc_is_whole, od_is_whole, .func (PySem.W.fnOf "is_whole" "is_whole" (defArgs s_is_whole) (defBody s_is_whole) (defScope s_is_whole) .none kV_is_whole dc_is_whole pm_is_whole an_is_whole cd_is_whole ct_is_whole), sl_is_whole⟩)
    (c_is_whole : PySem.W.codeIn K cd_is_whole "is_whole" = true)
    (k_is_whole : PySem.W.keepIn K (.ref f_is_whole) = true)
    (a_check_side : PySem.W.nsIn K mainGlobals "check_side" = some (some (.ref f_check_side)))
    (l_check_side : K.lookup f_check_side = some ⟨oc_check_side, od_check_side, .func (PySem.W.fnOf "check_side" "check_side" (defArgs s_check_side) (defBody s_check_side) (defScope s_check_side) .none kV_check_side dc_check_side pm_check_side an_check_side cd_check_side ct_check_side), sl_check_side⟩)
    (c_check_side : PySem.W.codeIn K cd_check_side "check_side" = true)
    (k_check_side : PySem.W.keepIn K (.ref f_check_side) = true)
    (a_made_ware : PySem.W.nsIn K mainGlobals "made_ware" = some (some (.ref f_made_ware)))
    (l_made_ware : K.lookup f_made_ware = some ⟨oc_made_ware, od_made_ware, .func (PySem.W.fnOf "made_ware" "made_ware" (defArgs s_made_ware) (defBody s_made_ware) (defScope s_made_ware) (.ref dT_made_ware) kV_made_ware dc_made_ware pm_made_ware an_made_ware cd_made_ware ct_made_ware), sl_made_ware⟩)
    (c_made_ware : PySem.W.codeIn K cd_made_ware "made_ware" = true)
    (k_made_ware : PySem.W.keepIn K (.ref f_made_ware) = true)
    (d_made_ware : K.lookup dT_made_ware = some ⟨doc_made_ware, dod_made_ware, .seq [.bool false].toArray dn_made_ware, dsl_made_ware⟩)
    (a_read_number : PySem.W.nsIn K mainGlobals "read_number" = some (some (.ref f_read_number)))
    (l_read_number : K.lookup f_read_number = some ⟨oc_read_number, od_read_number, .func (PySem.W.fnOf "read_number" "read_number" (defArgs s_read_number) (defBody s_read_number) (defScope s_read_number) .none kV_read_number dc_read_number pm_read_number an_read_number cd_read_number ct_read_number), sl_read_number⟩)
    (c_read_number : PySem.W.codeIn K cd_read_number "read_number" = true)
    (k_read_number : PySem.W.keepIn K (.ref f_read_number) = true)
    (a_read_sides : PySem.W.nsIn K mainGlobals "read_sides" = some (some (.ref f_read_sides)))
    (l_read_sides : K.lookup f_read_sides = some ⟨oc_read_sides, od_read_sides, .func (PySem.W.fnOf "read_sides" "read_sides" (defArgs s_read_sides) (defBody s_read_sides) (defScope s_read_sides) .none kV_read_sides dc_read_sides pm_read_sides an_read_sides cd_read_sides ct_read_sides), sl_read_sides⟩)
    (c_read_sides : PySem.W.codeIn K cd_read_sides "read_sides" = true)
    (k_read_sides : PySem.W.keepIn K (.ref f_read_sides) = true)
    (a_read_ware : PySem.W.nsIn K mainGlobals "read_ware" = some (some (.ref f_read_ware)))
    (l_read_ware : K.lookup f_read_ware = some ⟨oc_read_ware, od_read_ware, .func (PySem.W.fnOf "read_ware" "read_ware" (defArgs s_read_ware) (defBody s_read_ware) (defScope s_read_ware) .none kV_read_ware dc_read_ware pm_read_ware an_read_ware cd_read_ware ct_read_ware), sl_read_ware⟩)
    (c_read_ware : PySem.W.codeIn K cd_read_ware "read_ware" = true)
    (k_read_ware : PySem.W.keepIn K (.ref f_read_ware) = true)
    (a_l_side : PySem.W.nsIn K mainGlobals "_law_side" = some (some (.ref f_l_side)))
    (l_l_side : K.lookup f_l_side = some ⟨oc_l_side, od_l_side, .func (PySem.W.fnOf "_law_side" "_law_side" (defArgs s_l_side) (defBody s_l_side) (defScope s_l_side) .none kV_l_side dc_l_side pm_l_side an_l_side cd_l_side ct_l_side), sl_l_side⟩)
    (c_l_side : PySem.W.codeIn K cd_l_side "_law_side" = true)
    (k_l_side : PySem.W.keepIn K (.ref f_l_side) = true)
    (a_l_ware : PySem.W.nsIn K mainGlobals "_law_ware" = some (some (.ref f_l_ware)))
    (l_l_ware : K.lookup f_l_ware = some ⟨oc_l_ware, od_l_ware, .func (PySem.W.fnOf "_law_ware" "_law_ware" (defArgs s_l_ware) (defBody s_l_ware) (defScope s_l_ware) .none kV_l_ware dc_l_ware pm_l_ware an_l_ware cd_l_ware ct_l_ware), sl_l_ware⟩)
    (c_l_ware : PySem.W.codeIn K cd_l_ware "_law_ware" = true)
    (k_l_ware : PySem.W.keepIn K (.ref f_l_ware) = true)
    (a_l_sign : PySem.W.nsIn K mainGlobals "_law_sign" = some (some (.ref f_l_sign)))
    (l_l_sign : K.lookup f_l_sign = some ⟨oc_l_sign, od_l_sign, .func (PySem.W.fnOf "_law_sign" "_law_sign" (defArgs s_l_sign) (defBody s_l_sign) (defScope s_l_sign) .none kV_l_sign dc_l_sign pm_l_sign an_l_sign cd_l_sign ct_l_sign), sl_l_sign⟩)
    (c_l_sign : PySem.W.codeIn K cd_l_sign "_law_sign" = true)
    (k_l_sign : PySem.W.keepIn K (.ref f_l_sign) = true)
    (a_l_spoilt : PySem.W.nsIn K mainGlobals "_law_spoilt" = some (some (.ref f_l_spoilt)))
    (l_l_spoilt : K.lookup f_l_spoilt = some ⟨oc_l_spoilt, od_l_spoilt, .func (PySem.W.fnOf "_law_spoilt" "_law_spoilt" (defArgs s_l_spoilt) (defBody s_l_spoilt) (defScope s_l_spoilt) .none kV_l_spoilt dc_l_spoilt pm_l_spoilt an_l_spoilt cd_l_spoilt ct_l_spoilt), sl_l_spoilt⟩)
    (c_l_spoilt : PySem.W.codeIn K cd_l_spoilt "_law_spoilt" = true)
    (k_l_spoilt : PySem.W.keepIn K (.ref f_l_spoilt) = true)
    (a_l_number : PySem.W.nsIn K mainGlobals "_law_number" = some (some (.ref f_l_number)))
    (l_l_number : K.lookup f_l_number = some ⟨oc_l_number, od_l_number, .func (PySem.W.fnOf "_law_number" "_law_number" (defArgs s_l_number) (defBody s_l_number) (defScope s_l_number) .none kV_l_number dc_l_number pm_l_number an_l_number cd_l_number ct_l_number), sl_l_number⟩)
    (c_l_number : PySem.W.codeIn K cd_l_number "_law_number" = true)
    (k_l_number : PySem.W.keepIn K (.ref f_l_number) = true)
    (a_l_sides_due : PySem.W.nsIn K mainGlobals "_law_sides_due" = some (some (.ref f_l_sides_due)))
    (l_l_sides_due : K.lookup f_l_sides_due = some ⟨oc_l_sides_due, od_l_sides_due, .func (PySem.W.fnOf "_law_sides_due" "_law_sides_due" (defArgs s_l_sides_due) (defBody s_l_sides_due) (defScope s_l_sides_due) .none kV_l_sides_due dc_l_sides_due pm_l_sides_due an_l_sides_due cd_l_sides_due ct_l_sides_due), sl_l_sides_due⟩)
    (c_l_sides_due : PySem.W.codeIn K cd_l_sides_due "_law_sides_due" = true)
    (k_l_sides_due : PySem.W.keepIn K (.ref f_l_sides_due) = true)
    (a_l_ware_due : PySem.W.nsIn K mainGlobals "_law_ware_due" = some (some (.ref f_l_ware_due)))
    (l_l_ware_due : K.lookup f_l_ware_due = some ⟨oc_l_ware_due, od_l_ware_due, .func (PySem.W.fnOf "_law_ware_due" "_law_ware_due" (defArgs s_l_ware_due) (defBody s_l_ware_due) (defScope s_l_ware_due) .none kV_l_ware_due dc_l_ware_due pm_l_ware_due an_l_ware_due cd_l_ware_due ct_l_ware_due), sl_l_ware_due⟩)
    (c_l_ware_due : PySem.W.codeIn K cd_l_ware_due "_law_ware_due" = true)
    (k_l_ware_due : PySem.W.keepIn K (.ref f_l_ware_due) = true)
    (a_l_alike : PySem.W.nsIn K mainGlobals "_law_alike" = some (some (.ref f_l_alike)))
    (l_l_alike : K.lookup f_l_alike = some ⟨oc_l_alike, od_l_alike, .func (PySem.W.fnOf "_law_alike" "_law_alike" (defArgs s_l_alike) (defBody s_l_alike) (defScope s_l_alike) .none kV_l_alike dc_l_alike pm_l_alike an_l_alike cd_l_alike ct_l_alike), sl_l_alike⟩)
    (c_l_alike : PySem.W.codeIn K cd_l_alike "_law_alike" = true)
    (k_l_alike : PySem.W.keepIn K (.ref f_l_alike) = true)
    (a_l_kinds : PySem.W.nsIn K mainGlobals "_law_kinds" = some (some (.ref f_l_kinds)))
    (l_l_kinds : K.lookup f_l_kinds = some ⟨oc_l_kinds, od_l_kinds, .func (PySem.W.fnOf "_law_kinds" "_law_kinds" (defArgs s_l_kinds) (defBody s_l_kinds) (defScope s_l_kinds) .none kV_l_kinds dc_l_kinds pm_l_kinds an_l_kinds cd_l_kinds ct_l_kinds), sl_l_kinds⟩)
    (c_l_kinds : PySem.W.codeIn K cd_l_kinds "_law_kinds" = true)
    (k_l_kinds : PySem.W.keepIn K (.ref f_l_kinds) = true)
    (a_l_figures : PySem.W.nsIn K mainGlobals "_law_figures" = some (some (.ref f_l_figures)))
    (l_l_figures : K.lookup f_l_figures = some ⟨oc_l_figures, od_l_figures, .func (PySem.W.fnOf "_law_figures" "_law_figures" (defArgs s_l_figures) (defBody s_l_figures) (defScope s_l_figures) .none kV_l_figures dc_l_figures pm_l_figures an_l_figures cd_l_figures ct_l_figures), sl_l_figures⟩)
    (c_l_figures : PySem.W.codeIn K cd_l_figures "_law_figures" = true)
    (k_l_figures : PySem.W.keepIn K (.ref f_l_figures) = true)
    (a_l_text : PySem.W.nsIn K mainGlobals "_law_text" = some (some (.ref f_l_text)))
    (l_l_text : K.lookup f_l_text = some ⟨oc_l_text, od_l_text, .func (PySem.W.fnOf "_law_text" "_law_text" (defArgs s_l_text) (defBody s_l_text) (defScope s_l_text) .none kV_l_text dc_l_text pm_l_text an_l_text cd_l_text ct_l_text), sl_l_text⟩)
    (c_l_text : PySem.W.codeIn K cd_l_text "_law_text" = true)
    (k_l_text : PySem.W.keepIn K (.ref f_l_text) = true)
    (a_l_read : PySem.W.nsIn K mainGlobals "_law_read" = some (some (.ref f_l_read)))
    (l_l_read : K.lookup f_l_read = some ⟨oc_l_read, od_l_read, .func (PySem.W.fnOf "_law_read" "_law_read" (defArgs s_l_read) (defBody s_l_read) (defScope s_l_read) .none kV_l_read dc_l_read pm_l_read an_l_read cd_l_read ct_l_read), sl_l_read⟩)
    (c_l_read : PySem.W.codeIn K cd_l_read "_law_read" = true)
    (k_l_read : PySem.W.keepIn K (.ref f_l_read) = true)
    (a_l_good : PySem.W.nsIn K mainGlobals "_law_good" = some (some (.ref f_l_good)))
    (l_l_good : K.lookup f_l_good = some ⟨oc_l_good, od_l_good, .func (PySem.W.fnOf "_law_good" "_law_good" (defArgs s_l_good) (defBody s_l_good) (defScope s_l_good) .none kV_l_good dc_l_good pm_l_good an_l_good cd_l_good ct_l_good), sl_l_good⟩)
    (c_l_good : PySem.W.codeIn K cd_l_good "_law_good" = true)
    (k_l_good : PySem.W.keepIn K (.ref f_l_good) = true)
    (a_law : PySem.W.nsIn K mainGlobals "law" = some (some (.ref f_law)))
    (l_law : K.lookup f_law = some ⟨oc_law, od_law, .func (PySem.W.fnOf "law" "law" (defArgs s_law) (defBody s_law) (defScope s_law) .none kV_law dc_law pm_law an_law cd_law ct_law), sl_law⟩)
    (c_law : PySem.W.codeIn K cd_law "law" = true)
    (k_law : PySem.W.keepIn K (.ref f_law) = true)
    (z_ValueError : PySem.W.nsIn K mainGlobals "ValueError" = some none)
    (z_any : PySem.W.nsIn K mainGlobals "any" = some none)
    (z_bool : PySem.W.nsIn K mainGlobals "bool" = some none)
    (z_int : PySem.W.nsIn K mainGlobals "int" = some none)
    (z_isinstance : PySem.W.nsIn K mainGlobals "isinstance" = some none)
    (z_len : PySem.W.nsIn K mainGlobals "len" = some none)
    (z_str : PySem.W.nsIn K mainGlobals "str" = some none)
    (z_tuple : PySem.W.nsIn K mainGlobals "tuple" = some none)
    (m_BadPacking : PySem.W.nsIn K mainGlobals "BadPacking" = some (some (.ref c_BadPacking)))
    (m_BadPlan : PySem.W.nsIn K mainGlobals "BadPlan" = some (some (.ref c_BadPlan)))
    (m_BadSide : PySem.W.nsIn K mainGlobals "BadSide" = some (some (.ref c_BadSide)))
    (m_BadTurn : PySem.W.nsIn K mainGlobals "BadTurn" = some (some (.ref c_BadTurn)))
    (m_CrateError : PySem.W.nsIn K mainGlobals "CrateError" = some (some (.ref c_CrateError)))
    (m_Full : PySem.W.nsIn K mainGlobals "Full" = some (some (.ref c_Full)))
    (m_Hangs : PySem.W.nsIn K mainGlobals "Hangs" = some (some (.ref c_Hangs)))
    (m_NoDeed : PySem.W.nsIn K mainGlobals "NoDeed" = some (some (.ref c_NoDeed)))
    (m_NoDrawing : PySem.W.nsIn K mainGlobals "NoDrawing" = some (some (.ref c_NoDrawing)))
    (m_NoPicker : PySem.W.nsIn K mainGlobals "NoPicker" = some (some (.ref c_NoPicker)))
    (m_NoSheet : PySem.W.nsIn K mainGlobals "NoSheet" = some (some (.ref c_NoSheet)))
    (m_NoText : PySem.W.nsIn K mainGlobals "NoText" = some (some (.ref c_NoText)))
    (m_NoWare : PySem.W.nsIn K mainGlobals "NoWare" = some (some (.ref c_NoWare)))
    (m_NoWeighing : PySem.W.nsIn K mainGlobals "NoWeighing" = some (some (.ref c_NoWeighing)))
    (m_NothingDone : PySem.W.nsIn K mainGlobals "NothingDone" = some (some (.ref c_NothingDone)))
    (m_Ring : PySem.W.nsIn K mainGlobals "Ring" = some (some (.ref c_Ring)))
    (m_TooMany : PySem.W.nsIn K mainGlobals "TooMany" = some (some (.ref c_TooMany)))
    (m_TooWide : PySem.W.nsIn K mainGlobals "TooWide" = some (some (.ref c_TooWide)))
    (x_BadSide : PySem.W.excIn K c_BadSide vErr "ValueError.__new__" = true)
    (x_BadTurn : PySem.W.excIn K c_BadTurn vErr "ValueError.__new__" = true)
    (x_CrateError : PySem.W.excIn K c_CrateError vErr "ValueError.__new__" = true)
    (x_Full : PySem.W.excIn K c_Full vErr "ValueError.__new__" = true)
    (x_NoDeed : PySem.W.excIn K c_NoDeed vErr "ValueError.__new__" = true)
    (x_NoDrawing : PySem.W.excIn K c_NoDrawing vErr "ValueError.__new__" = true)
    (x_NoPicker : PySem.W.excIn K c_NoPicker vErr "ValueError.__new__" = true)
    (x_NoSheet : PySem.W.excIn K c_NoSheet vErr "ValueError.__new__" = true)
    (x_NoText : PySem.W.excIn K c_NoText vErr "ValueError.__new__" = true)
    (x_NoWare : PySem.W.excIn K c_NoWare vErr "ValueError.__new__" = true)
    (x_NoWeighing : PySem.W.excIn K c_NoWeighing vErr "ValueError.__new__" = true)
    (x_NothingDone : PySem.W.excIn K c_NothingDone vErr "ValueError.__new__" = true)
    (x_Ring : PySem.W.excIn K c_Ring vErr "ValueError.__new__" = true)
    (x_TooMany : PySem.W.excIn K c_TooMany vErr "ValueError.__new__" = true)
    (g_FIGURES : PySem.W.nsIn K mainGlobals "FIGURES" = some (some (.str "0123456789" kt_FIGURES)))
    (g_MOST_FIGURES : PySem.W.nsIn K mainGlobals "MOST_FIGURES" = some (some (.int 43 kt_MOST_FIGURES)))
    (t_exc1 : PySem.W.findIn K (.ref c_NoText) "__getattribute__" = some (some (.builtin "BaseException.__getattribute__")))
    (t_exc2 : PySem.W.findIn K (.ref c_NoText) "__getattr__" = some none)
    (t_exc3 : PySem.W.findIn K (.ref c_NoText) "__class__" = some (some (.builtin "object.__class__")))
    (t_exc4 : PySem.W.mroIn K c_NoText (.type "object") = some true)
    (t_exc5 : PySem.W.subIn K (.ref c_NoText) (.type "BaseException") = some true)
    (t_one : PySem.W.kitAny K (.ref c_NoText) [.ref c_BadSide, .ref c_BadTurn, .ref c_TooMany, .ref c_Ring, .ref c_NoWeighing, .ref c_NoPicker, .ref c_NoSheet, .ref c_NoDrawing] = some false)
    (t_two : PySem.W.kitAny K (.ref c_NoText) [.ref c_NoDeed, .ref c_NoWare, .ref c_Full, .ref c_NothingDone, .ref c_TooWide, .ref c_Hangs, .ref c_BadPlan, .ref c_BadPacking] = some false)
    (t_ce : PySem.W.kitOne K (.ref c_NoText) (.ref c_CrateError) = some true)
    (t_ve : PySem.W.kitOne K (.ref c_NoText) (.type "ValueError") = some true)
    (t_ex : PySem.W.exmOne K (.ref c_NoText) (.ref c_NoText) = some true)
    (t_ex2 : PySem.W.exmOne K (.ref c_BadSide) (.ref c_BadSide) = some true)
    : ∃ fd : FuncData, (∀ (s : Shared) (v : Value), BindsTo s fd ⟨[v], []⟩ [("_law_script", v)]) ∧ ∃ c : Str → Addr, ∀ base : Heap, K.In base → base.Ns mainGlobals mg → FnOk (PySem.Challenge.rw_cratefit_k05_wares_refused).prog w K mg base (CXe (PySem.Challenge.rw_cratefit_k05_wares_refused).prog w) 15 fa fd ["_law_script"] (sp_law K c) := by
  have e := hfa.symm.trans (PySem.W.mg_of X G a_law)
  cases e
  have T : Txt K mg (cOf [("BadPacking", c_BadPacking), ("BadPlan", c_BadPlan), ("BadSide", c_BadSide), ("BadTurn", c_BadTurn), ("CrateError", c_CrateError), ("Full", c_Full), ("Hangs", c_Hangs), ("NoDeed", c_NoDeed), ("NoDrawing", c_NoDrawing), ("NoPicker", c_NoPicker), ("NoSheet", c_NoSheet), ("NoText", c_NoText), ("NoWare", c_NoWare), ("NoWeighing", c_NoWeighing), ("NothingDone", c_NothingDone), ("Ring", c_Ring), ("TooMany", c_TooMany), ("TooWide", c_TooWide)]) := ⟨PySem.W.mg_none_of X G z_ValueError, PySem.W.mg_none_of X G z_any, PySem.W.mg_none_of X G z_bool, PySem.W.mg_none_of X G z_int, PySem.W.mg_none_of X G z_isinstance, PySem.W.mg_none_of X G z_len, PySem.W.mg_none_of X G z_str, PySem.W.mg_none_of X G z_tuple, PySem.W.mg_of X G m_BadPacking, PySem.W.mg_of X G m_BadPlan, PySem.W.mg_of X G m_BadSide, PySem.W.mg_of X G m_BadTurn, PySem.W.mg_of X G m_CrateError, PySem.W.mg_of X G m_Full, PySem.W.mg_of X G m_Hangs, PySem.W.mg_of X G m_NoDeed, PySem.W.mg_of X G m_NoDrawing, PySem.W.mg_of X G m_NoPicker, PySem.W.mg_of X G m_NoSheet, PySem.W.mg_of X G m_NoText, PySem.W.mg_of X G m_NoWare, PySem.W.mg_of X G m_NoWeighing, PySem.W.mg_of X G m_NothingDone, PySem.W.mg_of X G m_Ring, PySem.W.mg_of X G m_TooMany, PySem.W.mg_of X G m_TooWide, x_BadSide, x_BadTurn, x_CrateError, x_Full, x_NoDeed, x_NoDrawing, x_NoPicker, x_NoSheet, x_NoText, x_NoWare, x_NoWeighing, x_NothingDone, x_Ring, x_TooMany, ⟨_, PySem.W.mg_of X G g_FIGURES, ⟨_, rfl⟩⟩, ⟨_, PySem.W.mg_of X G g_MOST_FIGURES, ⟨_, rfl⟩⟩, ⟨t_exc1, t_exc2, t_exc3, t_exc4, t_exc5⟩, t_one, t_two, t_ce, t_ve, t_ex, t_ex2⟩
  refine ⟨PySem.W.fnOf "law" "law" (defArgs s_law) (defBody s_law) (defScope s_law) .none kV_law dc_law pm_law an_law cd_law ct_law, fun s v => .of_eq rfl, cOf [("BadPacking", c_BadPacking), ("BadPlan", c_BadPlan), ("BadSide", c_BadSide), ("BadTurn", c_BadTurn), ("CrateError", c_CrateError), ("Full", c_Full), ("Hangs", c_Hangs), ("NoDeed", c_NoDeed), ("NoDrawing", c_NoDrawing), ("NoPicker", c_NoPicker), ("NoSheet", c_NoSheet), ("NoText", c_NoText), ("NoWare", c_NoWare), ("NoWeighing", c_NoWeighing), ("NothingDone", c_NothingDone), ("Ring", c_Ring), ("TooMany", c_TooMany), ("TooWide", c_TooWide)], fun base _ _ => ?_⟩
  have F_l_cell_at := fun_mk (st := s_l_cell_at) l_l_cell_at c_l_cell_at k_l_cell_at
  have B_l_cell_at := F_l_cell_at.binds (ps := ["_law_script", "_law_k"]) fun _ _ _ _ _ _ us hl => match us, hl with | [_, _], _ => rfl
  have O_l_cell_at : Own (PySem.Challenge.rw_cratefit_k05_wares_refused).prog w K mg base 3 "_law_cell_at" ["_law_script", "_law_k"] (sp_l_cell_at K (cOf [("BadPacking", c_BadPacking), ("BadPlan", c_BadPlan), ("BadSide", c_BadSide), ("BadTurn", c_BadTurn), ("CrateError", c_CrateError), ("Full", c_Full), ("Hangs", c_Hangs), ("NoDeed", c_NoDeed), ("NoDrawing", c_NoDrawing), ("NoPicker", c_NoPicker), ("NoSheet", c_NoSheet), ("NoText", c_NoText), ("NoWare", c_NoWare), ("NoWeighing", c_NoWeighing), ("NothingDone", c_NothingDone), ("Ring", c_Ring), ("TooMany", c_TooMany), ("TooWide", c_TooWide)])) := ⟨_, _, ok_l_cell_at F_l_cell_at T , B_l_cell_at, k_l_cell_at, PySem.W.mg_of X G a_l_cell_at⟩
  have F_l_whole := fun_mk (st := s_l_whole) l_l_whole c_l_whole k_l_whole
  have B_l_whole := F_l_whole.binds (ps := ["_law_found"]) fun _ _ _ _ _ _ us hl => match us, hl with | [_], _ => rfl
  have O_l_whole : Own (PySem.Challenge.rw_cratefit_k05_wares_refused).prog w K mg base 3 "_law_whole" ["_law_found"] (sp_l_whole K (cOf [("BadPacking", c_BadPacking), ("BadPlan", c_BadPlan), ("BadSide", c_BadSide), ("BadTurn", c_BadTurn), ("CrateError", c_CrateError), ("Full", c_Full), ("Hangs", c_Hangs), ("NoDeed", c_NoDeed), ("NoDrawing", c_NoDrawing), ("NoPicker", c_NoPicker), ("NoSheet", c_NoSheet), ("NoText", c_NoText), ("NoWare", c_NoWare), ("NoWeighing", c_NoWeighing), ("NothingDone", c_NothingDone), ("Ring", c_Ring), ("TooMany", c_TooMany), ("TooWide", c_TooWide)])) := ⟨_, _, ok_l_whole F_l_whole T , B_l_whole, k_l_whole, PySem.W.mg_of X G a_l_whole⟩
  have F_is_whole := fun_mk (st := s_is_whole) l_is_whole c_is_whole k_is_whole
  have B_is_whole := F_is_whole.binds (ps := ["value"]) fun _ _ _ _ _ _ us hl => match us, hl with | [_], _ => rfl
  have O_is_whole : Own (PySem.Challenge.rw_cratefit_k05_wares_refused).prog w K mg base 3 "is_whole" ["value"] (sp_is_whole K (cOf [("BadPacking", c_BadPacking), ("BadPlan", c_BadPlan), ("BadSide", c_BadSide), ("BadTurn", c_BadTurn), ("CrateError", c_CrateError), ("Full", c_Full), ("Hangs", c_Hangs), ("NoDeed", c_NoDeed), ("NoDrawing", c_NoDrawing), ("NoPicker", c_NoPicker), ("NoSheet", c_NoSheet), ("NoText", c_NoText), ("NoWare", c_NoWare), ("NoWeighing", c_NoWeighing), ("NothingDone", c_NothingDone), ("Ring", c_Ring), ("TooMany", c_TooMany), ("TooWide", c_TooWide)])) := ⟨_, _, ok_is_whole F_is_whole T , B_is_whole, k_is_whole, PySem.W.mg_of X G a_is_whole⟩
  have F_check_side := fun_mk (st := s_check_side) l_check_side c_check_side k_check_side
  have B_check_side := F_check_side.binds (ps := ["side", "least", "most"]) fun _ _ _ _ _ _ us hl => match us, hl with | [_, _, _], _ => rfl
  have O_check_side : Own (PySem.Challenge.rw_cratefit_k05_wares_refused).prog w K mg base 5 "check_side" ["side", "least", "most"] (sp_check_side K (cOf [("BadPacking", c_BadPacking), ("BadPlan", c_BadPlan), ("BadSide", c_BadSide), ("BadTurn", c_BadTurn), ("CrateError", c_CrateError), ("Full", c_Full), ("Hangs", c_Hangs), ("NoDeed", c_NoDeed), ("NoDrawing", c_NoDrawing), ("NoPicker", c_NoPicker), ("NoSheet", c_NoSheet), ("NoText", c_NoText), ("NoWare", c_NoWare), ("NoWeighing", c_NoWeighing), ("NothingDone", c_NothingDone), ("Ring", c_Ring), ("TooMany", c_TooMany), ("TooWide", c_TooWide)])) := ⟨_, _, ok_check_side F_check_side T O_is_whole, B_check_side, k_check_side, PySem.W.mg_of X G a_check_side⟩
  have F_made_ware := fund_mk (st := s_made_ware) l_made_ware c_made_ware k_made_ware
  have B_made_ware := F_made_ware.binds (ps := ["w", "h", "turns"]) (ds := []) (items := [.bool false]) d_made_ware rfl fun _ _ _ _ _ _ us hl => match us, (show us.length = 3 by simpa using hl) with | [_, _, _], _ => ⟨_, rfl, rfl⟩
  have BD_made_ware := F_made_ware.binds (ps := ["w", "h", "turns"]) (ds := [.bool false]) (items := [.bool false]) d_made_ware rfl fun _ _ _ _ _ _ us hl => match us, (show us.length = 2 by simpa using hl) with | [_, _], _ => ⟨_, rfl, rfl⟩
  have O_made_ware : OwnD (PySem.Challenge.rw_cratefit_k05_wares_refused).prog w K mg base 7 "made_ware" ["w", "h", "turns"] (sp_made_ware K (cOf [("BadPacking", c_BadPacking), ("BadPlan", c_BadPlan), ("BadSide", c_BadSide), ("BadTurn", c_BadTurn), ("CrateError", c_CrateError), ("Full", c_Full), ("Hangs", c_Hangs), ("NoDeed", c_NoDeed), ("NoDrawing", c_NoDrawing), ("NoPicker", c_NoPicker), ("NoSheet", c_NoSheet), ("NoText", c_NoText), ("NoWare", c_NoWare), ("NoWeighing", c_NoWeighing), ("NothingDone", c_NothingDone), ("Ring", c_Ring), ("TooMany", c_TooMany), ("TooWide", c_TooWide)])) (.bl false) := ⟨_, _, _, ok_made_ware F_made_ware T O_check_side, B_made_ware, BD_made_ware, rfl, k_made_ware, PySem.W.mg_of X G a_made_ware⟩
  have F_read_number := fun_mk (st := s_read_number) l_read_number c_read_number k_read_number
  have B_read_number := F_read_number.binds (ps := ["text"]) fun _ _ _ _ _ _ us hl => match us, hl with | [_], _ => rfl
  have O_read_number : Own (PySem.Challenge.rw_cratefit_k05_wares_refused).prog w K mg base 3 "read_number" ["text"] (sp_read_number K (cOf [("BadPacking", c_BadPacking), ("BadPlan", c_BadPlan), ("BadSide", c_BadSide), ("BadTurn", c_BadTurn), ("CrateError", c_CrateError), ("Full", c_Full), ("Hangs", c_Hangs), ("NoDeed", c_NoDeed), ("NoDrawing", c_NoDrawing), ("NoPicker", c_NoPicker), ("NoSheet", c_NoSheet), ("NoText", c_NoText), ("NoWare", c_NoWare), ("NoWeighing", c_NoWeighing), ("NothingDone", c_NothingDone), ("Ring", c_Ring), ("TooMany", c_TooMany), ("TooWide", c_TooWide)])) := ⟨_, _, ok_read_number F_read_number T , B_read_number, k_read_number, PySem.W.mg_of X G a_read_number⟩
  have F_read_sides := fun_mk (st := s_read_sides) l_read_sides c_read_sides k_read_sides
  have B_read_sides := F_read_sides.binds (ps := ["text"]) fun _ _ _ _ _ _ us hl => match us, hl with | [_], _ => rfl
  have O_read_sides : Own (PySem.Challenge.rw_cratefit_k05_wares_refused).prog w K mg base 5 "read_sides" ["text"] (sp_read_sides K (cOf [("BadPacking", c_BadPacking), ("BadPlan", c_BadPlan), ("BadSide", c_BadSide), ("BadTurn", c_BadTurn), ("CrateError", c_CrateError), ("Full", c_Full), ("Hangs", c_Hangs), ("NoDeed", c_NoDeed), ("NoDrawing", c_NoDrawing), ("NoPicker", c_NoPicker), ("NoSheet", c_NoSheet), ("NoText", c_NoText), ("NoWare", c_NoWare), ("NoWeighing", c_NoWeighing), ("NothingDone", c_NothingDone), ("Ring", c_Ring), ("TooMany", c_TooMany), ("TooWide", c_TooWide)])) := ⟨_, _, ok_read_sides F_read_sides T O_read_number, B_read_sides, k_read_sides, PySem.W.mg_of X G a_read_sides⟩
  have F_read_ware := fun_mk (st := s_read_ware) l_read_ware c_read_ware k_read_ware
  have B_read_ware := F_read_ware.binds (ps := ["text"]) fun _ _ _ _ _ _ us hl => match us, hl with | [_], _ => rfl
  have O_read_ware : Own (PySem.Challenge.rw_cratefit_k05_wares_refused).prog w K mg base 9 "read_ware" ["text"] (sp_read_ware K (cOf [("BadPacking", c_BadPacking), ("BadPlan", c_BadPlan), ("BadSide", c_BadSide), ("BadTurn", c_BadTurn), ("CrateError", c_CrateError), ("Full", c_Full), ("Hangs", c_Hangs), ("NoDeed", c_NoDeed), ("NoDrawing", c_NoDrawing), ("NoPicker", c_NoPicker), ("NoSheet", c_NoSheet), ("NoText", c_NoText), ("NoWare", c_NoWare), ("NoWeighing", c_NoWeighing), ("NothingDone", c_NothingDone), ("Ring", c_Ring), ("TooMany", c_TooMany), ("TooWide", c_TooWide)])) := ⟨_, _, ok_read_ware F_read_ware T O_read_sides O_made_ware, B_read_ware, k_read_ware, PySem.W.mg_of X G a_read_ware⟩
  have F_l_side := fun_mk (st := s_l_side) l_l_side c_l_side k_l_side
  have B_l_side := F_l_side.binds (ps := ["_law_cell"]) fun _ _ _ _ _ _ us hl => match us, hl with | [_], _ => rfl
  have O_l_side : Own (PySem.Challenge.rw_cratefit_k05_wares_refused).prog w K mg base 3 "_law_side" ["_law_cell"] (sp_l_side K (cOf [("BadPacking", c_BadPacking), ("BadPlan", c_BadPlan), ("BadSide", c_BadSide), ("BadTurn", c_BadTurn), ("CrateError", c_CrateError), ("Full", c_Full), ("Hangs", c_Hangs), ("NoDeed", c_NoDeed), ("NoDrawing", c_NoDrawing), ("NoPicker", c_NoPicker), ("NoSheet", c_NoSheet), ("NoText", c_NoText), ("NoWare", c_NoWare), ("NoWeighing", c_NoWeighing), ("NothingDone", c_NothingDone), ("Ring", c_Ring), ("TooMany", c_TooMany), ("TooWide", c_TooWide)])) := ⟨_, _, ok_l_side F_l_side T , B_l_side, k_l_side, PySem.W.mg_of X G a_l_side⟩
  have F_l_ware := fun_mk (st := s_l_ware) l_l_ware c_l_ware k_l_ware
  have B_l_ware := F_l_ware.binds (ps := ["_law_cell"]) fun _ _ _ _ _ _ us hl => match us, hl with | [_], _ => rfl
  have O_l_ware : Own (PySem.Challenge.rw_cratefit_k05_wares_refused).prog w K mg base 5 "_law_ware" ["_law_cell"] (sp_l_ware K (cOf [("BadPacking", c_BadPacking), ("BadPlan", c_BadPlan), ("BadSide", c_BadSide), ("BadTurn", c_BadTurn), ("CrateError", c_CrateError), ("Full", c_Full), ("Hangs", c_Hangs), ("NoDeed", c_NoDeed), ("NoDrawing", c_NoDrawing), ("NoPicker", c_NoPicker), ("NoSheet", c_NoSheet), ("NoText", c_NoText), ("NoWare", c_NoWare), ("NoWeighing", c_NoWeighing), ("NothingDone", c_NothingDone), ("Ring", c_Ring), ("TooMany", c_TooMany), ("TooWide", c_TooWide)])) := ⟨_, _, ok_l_ware F_l_ware T O_l_side, B_l_ware, k_l_ware, PySem.W.mg_of X G a_l_ware⟩
  have F_l_sign := fun_mk (st := s_l_sign) l_l_sign c_l_sign k_l_sign
  have B_l_sign := F_l_sign.binds (ps := ["_law_number_here"]) fun _ _ _ _ _ _ us hl => match us, hl with | [_], _ => rfl
  have O_l_sign : Own (PySem.Challenge.rw_cratefit_k05_wares_refused).prog w K mg base 3 "_law_sign" ["_law_number_here"] (sp_l_sign K (cOf [("BadPacking", c_BadPacking), ("BadPlan", c_BadPlan), ("BadSide", c_BadSide), ("BadTurn", c_BadTurn), ("CrateError", c_CrateError), ("Full", c_Full), ("Hangs", c_Hangs), ("NoDeed", c_NoDeed), ("NoDrawing", c_NoDrawing), ("NoPicker", c_NoPicker), ("NoSheet", c_NoSheet), ("NoText", c_NoText), ("NoWare", c_NoWare), ("NoWeighing", c_NoWeighing), ("NothingDone", c_NothingDone), ("Ring", c_Ring), ("TooMany", c_TooMany), ("TooWide", c_TooWide)])) := ⟨_, _, ok_l_sign F_l_sign T , B_l_sign, k_l_sign, PySem.W.mg_of X G a_l_sign⟩
  have F_l_spoilt := fun_mk (st := s_l_spoilt) l_l_spoilt c_l_spoilt k_l_spoilt
  have B_l_spoilt := F_l_spoilt.binds (ps := ["_law_text_here", "_law_cell"]) fun _ _ _ _ _ _ us hl => match us, hl with | [_, _], _ => rfl
  have O_l_spoilt : Own (PySem.Challenge.rw_cratefit_k05_wares_refused).prog w K mg base 5 "_law_spoilt" ["_law_text_here", "_law_cell"] (sp_l_spoilt K (cOf [("BadPacking", c_BadPacking), ("BadPlan", c_BadPlan), ("BadSide", c_BadSide), ("BadTurn", c_BadTurn), ("CrateError", c_CrateError), ("Full", c_Full), ("Hangs", c_Hangs), ("NoDeed", c_NoDeed), ("NoDrawing", c_NoDrawing), ("NoPicker", c_NoPicker), ("NoSheet", c_NoSheet), ("NoText", c_NoText), ("NoWare", c_NoWare), ("NoWeighing", c_NoWeighing), ("NothingDone", c_NothingDone), ("Ring", c_Ring), ("TooMany", c_TooMany), ("TooWide", c_TooWide)])) := ⟨_, _, ok_l_spoilt F_l_spoilt T O_l_sign, B_l_spoilt, k_l_spoilt, PySem.W.mg_of X G a_l_spoilt⟩
  have F_l_number := fun_mk (st := s_l_number) l_l_number c_l_number k_l_number
  have B_l_number := F_l_number.binds (ps := ["_law_text_here", "_law_low", "_law_high"]) fun _ _ _ _ _ _ us hl => match us, hl with | [_, _, _], _ => rfl
  have O_l_number : Own (PySem.Challenge.rw_cratefit_k05_wares_refused).prog w K mg base 3 "_law_number" ["_law_text_here", "_law_low", "_law_high"] (sp_l_number K (cOf [("BadPacking", c_BadPacking), ("BadPlan", c_BadPlan), ("BadSide", c_BadSide), ("BadTurn", c_BadTurn), ("CrateError", c_CrateError), ("Full", c_Full), ("Hangs", c_Hangs), ("NoDeed", c_NoDeed), ("NoDrawing", c_NoDrawing), ("NoPicker", c_NoPicker), ("NoSheet", c_NoSheet), ("NoText", c_NoText), ("NoWare", c_NoWare), ("NoWeighing", c_NoWeighing), ("NothingDone", c_NothingDone), ("Ring", c_Ring), ("TooMany", c_TooMany), ("TooWide", c_TooWide)])) := ⟨_, _, ok_l_number F_l_number T , B_l_number, k_l_number, PySem.W.mg_of X G a_l_number⟩
  have F_l_sides_due := fun_mk (st := s_l_sides_due) l_l_sides_due c_l_sides_due k_l_sides_due
  have B_l_sides_due := F_l_sides_due.binds (ps := ["_law_text_here", "_law_low", "_law_high"]) fun _ _ _ _ _ _ us hl => match us, hl with | [_, _, _], _ => rfl
  have O_l_sides_due : Own (PySem.Challenge.rw_cratefit_k05_wares_refused).prog w K mg base 5 "_law_sides_due" ["_law_text_here", "_law_low", "_law_high"] (sp_l_sides_due K (cOf [("BadPacking", c_BadPacking), ("BadPlan", c_BadPlan), ("BadSide", c_BadSide), ("BadTurn", c_BadTurn), ("CrateError", c_CrateError), ("Full", c_Full), ("Hangs", c_Hangs), ("NoDeed", c_NoDeed), ("NoDrawing", c_NoDrawing), ("NoPicker", c_NoPicker), ("NoSheet", c_NoSheet), ("NoText", c_NoText), ("NoWare", c_NoWare), ("NoWeighing", c_NoWeighing), ("NothingDone", c_NothingDone), ("Ring", c_Ring), ("TooMany", c_TooMany), ("TooWide", c_TooWide)])) := ⟨_, _, ok_l_sides_due F_l_sides_due T O_l_number, B_l_sides_due, k_l_sides_due, PySem.W.mg_of X G a_l_sides_due⟩
  have F_l_ware_due := fun_mk (st := s_l_ware_due) l_l_ware_due c_l_ware_due k_l_ware_due
  have B_l_ware_due := F_l_ware_due.binds (ps := ["_law_text_here"]) fun _ _ _ _ _ _ us hl => match us, hl with | [_], _ => rfl
  have O_l_ware_due : Own (PySem.Challenge.rw_cratefit_k05_wares_refused).prog w K mg base 7 "_law_ware_due" ["_law_text_here"] (sp_l_ware_due K (cOf [("BadPacking", c_BadPacking), ("BadPlan", c_BadPlan), ("BadSide", c_BadSide), ("BadTurn", c_BadTurn), ("CrateError", c_CrateError), ("Full", c_Full), ("Hangs", c_Hangs), ("NoDeed", c_NoDeed), ("NoDrawing", c_NoDrawing), ("NoPicker", c_NoPicker), ("NoSheet", c_NoSheet), ("NoText", c_NoText), ("NoWare", c_NoWare), ("NoWeighing", c_NoWeighing), ("NothingDone", c_NothingDone), ("Ring", c_Ring), ("TooMany", c_TooMany), ("TooWide", c_TooWide)])) := ⟨_, _, ok_l_ware_due F_l_ware_due T O_l_sides_due, B_l_ware_due, k_l_ware_due, PySem.W.mg_of X G a_l_ware_due⟩
  have F_l_alike := fun_mk (st := s_l_alike) l_l_alike c_l_alike k_l_alike
  have B_l_alike := F_l_alike.binds (ps := ["_law_found", "_law_due"]) fun _ _ _ _ _ _ us hl => match us, hl with | [_, _], _ => rfl
  have O_l_alike : Own (PySem.Challenge.rw_cratefit_k05_wares_refused).prog w K mg base 5 "_law_alike" ["_law_found", "_law_due"] (sp_l_alike K (cOf [("BadPacking", c_BadPacking), ("BadPlan", c_BadPlan), ("BadSide", c_BadSide), ("BadTurn", c_BadTurn), ("CrateError", c_CrateError), ("Full", c_Full), ("Hangs", c_Hangs), ("NoDeed", c_NoDeed), ("NoDrawing", c_NoDrawing), ("NoPicker", c_NoPicker), ("NoSheet", c_NoSheet), ("NoText", c_NoText), ("NoWare", c_NoWare), ("NoWeighing", c_NoWeighing), ("NothingDone", c_NothingDone), ("Ring", c_Ring), ("TooMany", c_TooMany), ("TooWide", c_TooWide)])) := ⟨_, _, ok_l_alike F_l_alike T O_l_whole, B_l_alike, k_l_alike, PySem.W.mg_of X G a_l_alike⟩
  have F_l_kinds := fun_mk (st := s_l_kinds) l_l_kinds c_l_kinds k_l_kinds
  have B_l_kinds := F_l_kinds.binds (ps := ["_law_e"]) fun _ _ _ _ _ _ us hl => match us, hl with | [_], _ => rfl
  have O_l_kinds : OwnW (PySem.Challenge.rw_cratefit_k05_wares_refused).prog w K mg base 3 "_law_kinds" ["_law_e"] (sp_l_kinds K (cOf [("BadPacking", c_BadPacking), ("BadPlan", c_BadPlan), ("BadSide", c_BadSide), ("BadTurn", c_BadTurn), ("CrateError", c_CrateError), ("Full", c_Full), ("Hangs", c_Hangs), ("NoDeed", c_NoDeed), ("NoDrawing", c_NoDrawing), ("NoPicker", c_NoPicker), ("NoSheet", c_NoSheet), ("NoText", c_NoText), ("NoWare", c_NoWare), ("NoWeighing", c_NoWeighing), ("NothingDone", c_NothingDone), ("Ring", c_Ring), ("TooMany", c_TooMany), ("TooWide", c_TooWide)])) := ⟨_, _, ok_l_kinds F_l_kinds T , B_l_kinds, k_l_kinds, PySem.W.mg_of X G a_l_kinds⟩
  have F_l_figures := fun_mk (st := s_l_figures) l_l_figures c_l_figures k_l_figures
  have B_l_figures := F_l_figures.binds (ps := ["_law_cell"]) fun _ _ _ _ _ _ us hl => match us, hl with | [_], _ => rfl
  have O_l_figures : Own (PySem.Challenge.rw_cratefit_k05_wares_refused).prog w K mg base 3 "_law_figures" ["_law_cell"] (sp_l_figures K (cOf [("BadPacking", c_BadPacking), ("BadPlan", c_BadPlan), ("BadSide", c_BadSide), ("BadTurn", c_BadTurn), ("CrateError", c_CrateError), ("Full", c_Full), ("Hangs", c_Hangs), ("NoDeed", c_NoDeed), ("NoDrawing", c_NoDrawing), ("NoPicker", c_NoPicker), ("NoSheet", c_NoSheet), ("NoText", c_NoText), ("NoWare", c_NoWare), ("NoWeighing", c_NoWeighing), ("NothingDone", c_NothingDone), ("Ring", c_Ring), ("TooMany", c_TooMany), ("TooWide", c_TooWide)])) := ⟨_, _, ok_l_figures F_l_figures T , B_l_figures, k_l_figures, PySem.W.mg_of X G a_l_figures⟩
  have F_l_text := fun_mk (st := s_l_text) l_l_text c_l_text k_l_text
  have B_l_text := F_l_text.binds (ps := ["_law_script"]) fun _ _ _ _ _ _ us hl => match us, hl with | [_], _ => rfl
  have O_l_text : Own (PySem.Challenge.rw_cratefit_k05_wares_refused).prog w K mg base 7 "_law_text" ["_law_script"] (sp_l_text K (cOf [("BadPacking", c_BadPacking), ("BadPlan", c_BadPlan), ("BadSide", c_BadSide), ("BadTurn", c_BadTurn), ("CrateError", c_CrateError), ("Full", c_Full), ("Hangs", c_Hangs), ("NoDeed", c_NoDeed), ("NoDrawing", c_NoDrawing), ("NoPicker", c_NoPicker), ("NoSheet", c_NoSheet), ("NoText", c_NoText), ("NoWare", c_NoWare), ("NoWeighing", c_NoWeighing), ("NothingDone", c_NothingDone), ("Ring", c_Ring), ("TooMany", c_TooMany), ("TooWide", c_TooWide)])) := ⟨_, _, ok_l_text F_l_text T O_l_cell_at O_l_ware O_l_figures, B_l_text, k_l_text, PySem.W.mg_of X G a_l_text⟩
  have F_l_read := fun_mk (st := s_l_read) l_l_read c_l_read k_l_read
  have B_l_read := F_l_read.binds (ps := ["_law_text_here"]) fun _ _ _ _ _ _ us hl => match us, hl with | [_], _ => rfl
  have O_l_read : Own (PySem.Challenge.rw_cratefit_k05_wares_refused).prog w K mg base 11 "_law_read" ["_law_text_here"] (sp_l_read K (cOf [("BadPacking", c_BadPacking), ("BadPlan", c_BadPlan), ("BadSide", c_BadSide), ("BadTurn", c_BadTurn), ("CrateError", c_CrateError), ("Full", c_Full), ("Hangs", c_Hangs), ("NoDeed", c_NoDeed), ("NoDrawing", c_NoDrawing), ("NoPicker", c_NoPicker), ("NoSheet", c_NoSheet), ("NoText", c_NoText), ("NoWare", c_NoWare), ("NoWeighing", c_NoWeighing), ("NothingDone", c_NothingDone), ("Ring", c_Ring), ("TooMany", c_TooMany), ("TooWide", c_TooWide)])) := ⟨_, _, ok_l_read F_l_read T O_read_ware O_l_kinds, B_l_read, k_l_read, PySem.W.mg_of X G a_l_read⟩
  have F_l_good := fun_mk (st := s_l_good) l_l_good c_l_good k_l_good
  have B_l_good := F_l_good.binds (ps := ["_law_text_here"]) fun _ _ _ _ _ _ us hl => match us, hl with | [_], _ => rfl
  have O_l_good : Own (PySem.Challenge.rw_cratefit_k05_wares_refused).prog w K mg base 13 "_law_good" ["_law_text_here"] (sp_l_good K (cOf [("BadPacking", c_BadPacking), ("BadPlan", c_BadPlan), ("BadSide", c_BadSide), ("BadTurn", c_BadTurn), ("CrateError", c_CrateError), ("Full", c_Full), ("Hangs", c_Hangs), ("NoDeed", c_NoDeed), ("NoDrawing", c_NoDrawing), ("NoPicker", c_NoPicker), ("NoSheet", c_NoSheet), ("NoText", c_NoText), ("NoWare", c_NoWare), ("NoWeighing", c_NoWeighing), ("NothingDone", c_NothingDone), ("Ring", c_Ring), ("TooMany", c_TooMany), ("TooWide", c_TooWide)])) := ⟨_, _, ok_l_good F_l_good T O_l_ware_due O_l_read O_l_alike, B_l_good, k_l_good, PySem.W.mg_of X G a_l_good⟩
  have F_law := fun_mk (st := s_law) l_law c_law k_law
  exact ok_law F_law T O_l_text O_l_spoilt O_l_cell_at O_l_good O_l_ware
end Law
namespace Law
open PySem L2 PyProof.Rows
theorem walk {q : Program} {loose : List Str} {XP : (Str → Option Value) → Heap → Prop} {YP : World → Heap → Prop} {d : DefRec} {K : Params → PySem.W.Frag} (hdf : d.params.defaults = []) (hY : ∀ (w : World) (h : Heap), YP w h → (K w.params).In h)
    (F : ∀ (w : World) (mg : Str → Option Value) (fa : Addr) (h : Heap), (K w.params).In h → h.Ns mainGlobals mg → mg d.name = some (.ref fa) →
      ∃ fd : FuncData, (∀ (s : Shared) (u : Value), BindsTo s fd ⟨[u], []⟩ [("_law_script", u)]) ∧ ∃ c : Str → Addr, ∀ base : Heap, (K w.params).In base → base.Ns mainGlobals mg → FnOk (PySem.Challenge.rw_cratefit_k05_wares_refused).prog w (K w.params) mg base (CXe (PySem.Challenge.rw_cratefit_k05_wares_refused).prog w) 15 fa fd ["_law_script"] (sp_law (K w.params) c)) :
    PySem.W.WalkO q loose XP YP (PySem.Challenge.rw_cratefit_k05_wares_refused).row.toRowW d [] (fun f vs => PySem.call f vs) := by
  refine L2.walk_ofB (l := PySem.Challenge.rw_cratefit_k05_wares_refused) (n := 63) (k := 15) (x := "_law_script") (K := K) (CX := fun w => CXe (PySem.Challenge.rw_cratefit_k05_wares_refused).prog w) (sp := fun w vs H Q E => ∀ c, sp_law (K w.params) c vs H Q E) rfl (by decide) hdf ⟨rfl, by decide, by decide⟩ hY (fun w mg fa h KX G hm => ?_) (fun w H a ns h1 h2 h3 h4 c => ⟨a, ns, rfl, .of h4 h3, h2, fun _ => rfl⟩) fun w H s e s' z => noCXe H s e s' z
  obtain ⟨fd, hb, c, hF⟩ := F w mg fa h KX G hm
  exact ⟨fd, hb, fun base kb nb => (hF base kb nb).imp fun vs H Q E z => z c⟩
end Law
theorem PySem.W.Fast.tw12335431752482442239 : True := trivial
theorem PySem.W.Fast.tw5195752178258231199 : True := trivial
theorem PySem.W.Fast.tw313939299252236191 : True := trivial
theorem PySem.W.Fast.tw16372202422343991135 : True := trivial
theorem PySem.W.Fast.tw12454411991170295423 : True := trivial
theorem PySem.W.Fast.tw11609171201611606559 : True := trivial
theorem PySem.W.Fast.tw6486450457923243231 : True := trivial
theorem PySem.W.Fast.tw1200341955174364383 : True := trivial
theorem PySem.W.Fast.tw7123972744838286463 : True := trivial
theorem PySem.W.Fast.tw2033699488001622942 : True := trivial
theorem PySem.W.Fast.tw9747338791662452606 : True := trivial
theorem PySem.W.Fast.tw11277820195802671934 : True := trivial
theorem PySem.W.Fast.tw12870143351326319422 : True := trivial
theorem PySem.W.Fast.tw6898952487745714910 : True := trivial
theorem PySem.W.Fast.tw13250952481564121758 : True := trivial
theorem PySem.W.Fast.tw2869746140281478718 : True := trivial
theorem PySem.W.Fast.tw1250863396380026334 : True := trivial
theorem PySem.W.Fast.tw5956724178887743902 : True := trivial
theorem PySem.W.Fast.tw2763823116403232030 : True := trivial
theorem PySem.W.Fast.tw341059691709031646 : True := trivial
theorem PySem.W.Fast.tw8656577004709032158 : True := trivial
theorem PySem.W.Fast.tw5697850198031523998 : True := trivial
theorem PySem.W.Fast.tw15381110278804919422 : True := trivial
theorem PySem.W.Fast.tw1224765563039540189 : True := trivial
theorem PySem.W.Fast.tw16405834857137220509 : True := trivial
theorem PySem.W.Fast.tw17904489919210116957 : True := trivial
theorem PySem.W.Fast.tw4507913124361587517 : True := trivial
theorem PySem.W.Fast.tw6858924467694954205 : True := trivial
theorem PySem.W.Fast.tw2131891871647823453 : True := trivial
theorem PySem.W.Fast.tw17834848208932241981 : True := trivial
theorem PySem.W.Fast.tw17056446756135874077 : True := trivial
theorem PySem.W.Fast.tw11543359202852292061 : True := trivial
theorem PySem.W.Fast.tw14840183770530264541 : True := trivial
theorem PySem.W.Fast.tw17538703147458322877 : True := trivial
theorem PySem.W.Fast.tw12627748919508196765 : True := trivial
theorem PySem.W.Fast.tw15131335875770697053 : True := trivial
theorem PySem.W.Fast.tw5805546353590915357 : True := trivial
theorem PySem.W.Fast.tw10793517351834897693 : True := trivial
theorem PySem.W.Fast.tw10126706874357190909 : True := trivial
theorem PySem.W.Fast.tw11058429553633876157 : True := trivial
theorem PySem.W.Fast.tw13384713327408742557 : True := trivial
theorem PySem.W.Fast.tw4270916386480510109 : True := trivial
theorem PySem.W.Fast.tw17121775483798965341 : True := trivial
theorem PySem.W.Fast.tw653717779138536477 : True := trivial
theorem PySem.W.Fast.tw7083118944233074717 : True := trivial
theorem PySem.W.Fast.tw17995750555297193948 : True := trivial
theorem PySem.W.Fast.tw3801677115202819036 : True := trivial
theorem PySem.W.Fast.tw5383622382529683388 : True := trivial
theorem PySem.W.Fast.tw18171100230566480764 : True := trivial
theorem PySem.W.Fast.tw17009790088110791516 : True := trivial
theorem PySem.W.Fast.tw10294673729055988476 : True := trivial
theorem PySem.W.Fast.tw9410138297069956828 : True := trivial
theorem PySem.W.Fast.tw12651420435557799612 : True := trivial
theorem PySem.W.Fast.tw17800209325647939260 : True := trivial
theorem PySem.W.Fast.tw13873209045903933084 : True := trivial
theorem PySem.W.Fast.tw5729948910679997020 : True := trivial
theorem PySem.W.Fast.tw7626710150720800220 : True := trivial
theorem PySem.W.Fast.tw5857340770781079868 : True := trivial
theorem PySem.W.Fast.tw18288871969349179676 : True := trivial
theorem PySem.W.Fast.tw106369458496988284 : True := trivial
theorem PySem.W.Fast.tw14225471220329954428 : True := trivial
theorem PySem.W.Fast.tw8195209313883377627 : True := trivial
theorem PySem.W.Fast.tw784742610665856987 : True := trivial
theorem PySem.W.Fast.tw10369200458042694555 : True := trivial
theorem PySem.W.Fast.tw12695536609146632955 : True := trivial
theorem PySem.W.Fast.tw12561944373663321819 : True := trivial
theorem PySem.W.Fast.tw18280840638005184155 : True := trivial
theorem PySem.W.Fast.tw2720092190318261755 : True := trivial
theorem PySem.W.Fast.tw9911490235347125755 : True := trivial
theorem PySem.W.Fast.tw4283381586625610203 : True := trivial
theorem PySem.W.Fast.tw17173598257793401147 : True := trivial
theorem PySem.W.Fast.tw1080671897929482523 : True := trivial
theorem PySem.W.Fast.tw6282440069012174075 : True := trivial
theorem PySem.W.Fast.tw12122464576767991003 : True := trivial
theorem PySem.W.Fast.tw15584564037348474939 : True := trivial
theorem PySem.W.Fast.tw17874969252270254042 : True := trivial
theorem PySem.W.Fast.tw2625879850105683866 : True := trivial
theorem PySem.W.Fast.tw14853690777620147002 : True := trivial
theorem PySem.W.Fast.tw12452399462051640026 : True := trivial
theorem PySem.W.Fast.tw14460576961620054714 : True := trivial
theorem PySem.W.Fast.tw3129938175105037978 : True := trivial
theorem PySem.W.Fast.tw10904125600990139002 : True := trivial
theorem PySem.W.Fast.tw8029390553290132026 : True := trivial
theorem PySem.W.Fast.tw5855986566727001626 : True := trivial
theorem PySem.W.Fast.tw10452123469062841850 : True := trivial
theorem PySem.W.Fast.tw18208636761823116730 : True := trivial
theorem PySem.W.Fast.tw6065008523511527834 : True := trivial
theorem PySem.W.Fast.tw17453499307648121178 : True := trivial
theorem PySem.W.Fast.tw5780506085007459674 : True := trivial
theorem PySem.W.Fast.tw8740049183796127002 : True := trivial
theorem PySem.W.Fast.tw11919965287691607290 : True := trivial
theorem PySem.W.Fast.tw14130176029395086490 : True := trivial
theorem PySem.W.Fast.tw6473673520148198490 : True := trivial
theorem PySem.W.Fast.tw8197363056431219770 : True := trivial
theorem PySem.W.Fast.tw323182857610573625 : True := trivial
theorem PySem.W.Fast.tw16132524381920437017 : True := trivial
theorem PySem.W.Fast.tw16687516053511608089 : True := trivial
theorem PySem.W.Fast.tw5649545703202359065 : True := trivial
theorem PySem.W.Fast.tw12582398839906108057 : True := trivial
theorem PySem.W.Fast.tw7394525809529850489 : True := trivial
theorem PySem.W.Fast.tw18311324083633792409 : True := trivial
theorem PySem.W.Fast.tw600030416505270585 : True := trivial
theorem PySem.W.Fast.tw11994512989341518041 : True := trivial
theorem PySem.W.Fast.tw17819977004716948665 : True := trivial
theorem PySem.W.Fast.tw16214362724612624569 : True := trivial
theorem PySem.W.Fast.tw3771734268667267097 : True := trivial
theorem PySem.W.Fast.tw1110679193734250488 : True := trivial
theorem PySem.W.Fast.tw707628096535056312 : True := trivial
theorem PySem.W.Fast.tw13782925380194317208 : True := trivial
theorem PySem.W.Fast.tw16564863457856609144 : True := trivial
theorem PySem.W.Fast.tw11393522109706228600 : True := trivial
theorem PySem.W.Fast.tw13168883364647727960 : True := trivial
theorem PySem.W.Fast.tw16921452997330529080 : True := trivial
theorem PySem.W.Fast.tw13093278033503992 : True := trivial
theorem PySem.W.Fast.tw1942994457283193560 : True := trivial
theorem PySem.W.Fast.tw11810241241471218360 : True := trivial
theorem PySem.W.Fast.tw6573893900407611032 : True := trivial
theorem PySem.W.Fast.tw3588425992396468856 : True := trivial
theorem PySem.W.Fast.tw2225690850655084120 : True := trivial
theorem PySem.W.Fast.tw12410441082726726232 : True := trivial
theorem PySem.W.Fast.tw6235087932740864536 : True := trivial
theorem PySem.W.Fast.tw11224551339160689144 : True := trivial
theorem PySem.W.Fast.tw2884762480917106072 : True := trivial
theorem PySem.W.Fast.tw17625881108252893400 : True := trivial
theorem PySem.W.Fast.tw1601572110136729720 : True := trivial
theorem PySem.W.Fast.tw2621058287914462232 : True := trivial
theorem PySem.W.Fast.tw11909857102549660696 : True := trivial
theorem PySem.W.Fast.tw7543610160640600055 : True := trivial
theorem PySem.W.Fast.tw10997733717705262071 : True := trivial
theorem PySem.W.Fast.tw12044052502523215831 : True := trivial
theorem PySem.W.Fast.tw8851314644600467415 : True := trivial
theorem PySem.W.Fast.tw6993445247368965079 : True := trivial
theorem PySem.W.Fast.tw13306547081748692823 : True := trivial
theorem PySem.W.Fast.tw2881549269665374039 : True := trivial
theorem PySem.W.Fast.tw16730963492724432695 : True := trivial
theorem PySem.W.Fast.tw17312199767919066871 : True := trivial
theorem PySem.W.Fast.tw3011842175137687127 : True := trivial
theorem PySem.W.Fast.tw13468152137067689527 : True := trivial
theorem PySem.W.Fast.tw6080725904476897815 : True := trivial
theorem PySem.W.Fast.tw4074630775165980151 : True := trivial
theorem PySem.W.Fast.tw10677488068474852791 : True := trivial
theorem PySem.W.Fast.tw18360665721786220887 : True := trivial
theorem PySem.W.Fast.tw8334158974246463831 : True := trivial
theorem PySem.W.Fast.tw4579836340001705303 : True := trivial
theorem PySem.W.Fast.tw12613595025229185335 : True := trivial
theorem PySem.W.Fast.tw8347284232624695447 : True := trivial
theorem PySem.W.Fast.tw17989202037364950103 : True := trivial
theorem PySem.W.Fast.tw16745969025569052662 : True := trivial
theorem PySem.W.Fast.tw6823833842413805526 : True := trivial
theorem PySem.W.Fast.tw16279806083720189878 : True := trivial
theorem PySem.W.Fast.tw4804960980857023382 : True := trivial
theorem PySem.W.Fast.tw5420231880458775318 : True := trivial
theorem PySem.W.Fast.tw18302851047533979414 : True := trivial
theorem PySem.W.Fast.tw2192203116407215830 : True := trivial
theorem PySem.W.Fast.tw13823840667291949718 : True := trivial
theorem PySem.W.Fast.tw17566134188792747638 : True := trivial
theorem PySem.W.Fast.tw2464323227511435894 : True := trivial
theorem PySem.W.Fast.tw5391655457286555222 : True := trivial
theorem PySem.W.Fast.tw17647839291515954742 : True := trivial
theorem PySem.W.Fast.tw18281842844859714070 : True := trivial
theorem PySem.W.Fast.tw18095264546753490422 : True := trivial
theorem PySem.W.Fast.tw3382630671646941654 : True := trivial
theorem PySem.W.Fast.tw6582828913520308662 : True := trivial
theorem PySem.W.Fast.tw15553306328351696118 : True := trivial
theorem PySem.W.Fast.tw11034854832186811606 : True := trivial
theorem PySem.W.Fast.tw4177887685687491766 : True := trivial
theorem PySem.W.Fast.tw8885223941290641526 : True := trivial
theorem PySem.W.Fast.tw17501658967852062838 : True := trivial
theorem PySem.W.Fast.tw10762303978276616278 : True := trivial
theorem PySem.W.Fast.tw6547058904996885333 : True := trivial
theorem PySem.W.Fast.tw17911316861406674741 : True := trivial
theorem PySem.W.Fast.tw4229071586521244469 : True := trivial
theorem PySem.W.Fast.tw10109718352992348917 : True := trivial
theorem PySem.W.Fast.tw8107161523613175477 : True := trivial
theorem PySem.W.Fast.tw17262558572628179605 : True := trivial
theorem PySem.W.Fast.tw3782490593854281333 : True := trivial
theorem PySem.W.Fast.tw11107664904327846485 : True := trivial
theorem PySem.W.Fast.tw8940448803923276085 : True := trivial
theorem PySem.W.Fast.tw9697120187982133493 : True := trivial
theorem PySem.W.Fast.tw3826682459391674581 : True := trivial
theorem PySem.W.Fast.tw477020384837950581 : True := trivial
theorem PySem.W.Fast.tw6317319632586476661 : True := trivial
theorem PySem.W.Fast.tw13824795630741847125 : True := trivial
theorem PySem.W.Fast.tw1746359398449174484 : True := trivial
theorem PySem.W.Fast.tw946682425947550612 : True := trivial
theorem PySem.W.Fast.tw17596466043654467476 : True := trivial
theorem PySem.W.Fast.tw1428954921593189108 : True := trivial
theorem PySem.W.Fast.tw17879807709012368916 : True := trivial
theorem PySem.W.Fast.tw9564732244475597300 : True := trivial
theorem PySem.W.Fast.tw14857989294413536724 : True := trivial
theorem PySem.W.Fast.tw9801921141400584660 : True := trivial
theorem PySem.W.Fast.tw3909830466512444820 : True := trivial
theorem PySem.W.Fast.tw8034739973108137332 : True := trivial
theorem PySem.W.Fast.tw11995728804552992020 : True := trivial
theorem PySem.W.Fast.tw13116155351856791732 : True := trivial
theorem PySem.W.Fast.tw6914702528398646420 : True := trivial
theorem PySem.W.Fast.tw3977905216462883988 : True := trivial
theorem PySem.W.Fast.tw9970130279833603092 : True := trivial
theorem PySem.W.Fast.tw6713741371908450291 : True := trivial
theorem PySem.W.Fast.tw9958908621875786643 : True := trivial
theorem PySem.W.Fast.tw6317690775996855187 : True := trivial
theorem PySem.W.Fast.tw8440757615636176723 : True := trivial
theorem PySem.W.Fast.tw10565761956144547635 : True := trivial
theorem PySem.W.Fast.tw4014353470547291891 : True := trivial
theorem PySem.W.Fast.tw2734448246548297459 : True := trivial
theorem PySem.W.Fast.tw6700110359053363923 : True := trivial
theorem PySem.W.Fast.tw6562325129790272179 : True := trivial
theorem PySem.W.Fast.tw17242178345085602483 : True := trivial
theorem PySem.W.Fast.tw937588781750007283 : True := trivial
theorem PySem.W.Fast.tw378124774683027859 : True := trivial
theorem PySem.W.Fast.tw11853816900933184883 : True := trivial
theorem PySem.W.Fast.tw186486862530343251 : True := trivial
theorem PySem.W.Fast.tw16627973928808752403 : True := trivial
theorem PySem.W.Fast.tw1453359058734916723 : True := trivial
theorem PySem.W.Fast.tw16487043345120076786 : True := trivial
theorem PySem.W.Fast.tw13194298640072727506 : True := trivial
theorem PySem.W.Fast.tw8217705604173253554 : True := trivial
theorem PySem.W.Fast.tw5582422916075779954 : True := trivial
theorem PySem.W.Fast.tw1276562272972664658 : True := trivial
theorem PySem.W.Fast.tw3786055800573359954 : True := trivial
theorem PySem.W.Fast.tw4830727894778219314 : True := trivial
theorem PySem.W.Fast.tw18336892812842604338 : True := trivial
theorem PySem.W.Fast.tw15774039130300313234 : True := trivial
theorem PySem.W.Fast.tw10580618654449474098 : True := trivial
theorem PySem.W.Fast.tw11756393319258379794 : True := trivial
theorem PySem.W.Fast.tw5864439757176814962 : True := trivial
theorem PySem.W.Fast.tw9027819304397042002 : True := trivial
theorem PySem.W.Fast.tw7599862217177154738 : True := trivial
theorem PySem.W.Fast.tw5439066198698038418 : True := trivial
theorem PySem.W.Fast.tw15199561392843864178 : True := trivial
theorem PySem.W.Fast.tw11385812154755792946 : True := trivial
theorem PySem.W.Fast.tw3046186843070611377 : True := trivial
theorem PySem.W.Fast.tw15786763815262113713 : True := trivial
theorem PySem.W.Fast.tw1176003701504624529 : True := trivial
theorem PySem.W.Fast.tw1607908392331092817 : True := trivial
theorem PySem.W.Fast.tw14213569222781274929 : True := trivial
theorem PySem.W.Fast.tw18445713330452715281 : True := trivial
theorem PySem.W.Fast.tw49585854819704529 : True := trivial
theorem PySem.W.Fast.tw13734058489804793425 : True := trivial
theorem PySem.W.Fast.tw14069388085468528145 : True := trivial
theorem PySem.W.Fast.tw7439724950052692401 : True := trivial
theorem PySem.W.Fast.tw6033508651714480241 : True := trivial
theorem PySem.W.Fast.tw12116583090863638320 : True := trivial
theorem PySem.W.Fast.tw6292840801543796400 : True := trivial
theorem PySem.W.Fast.tw2362124522751081104 : True := trivial
theorem PySem.W.Fast.tw11243997343172352624 : True := trivial
theorem PySem.W.Fast.tw11894402372948258288 : True := trivial
theorem PySem.W.Fast.tw15832842869188304368 : True := trivial
theorem PySem.W.Fast.tw8127243940842259920 : True := trivial
theorem PySem.W.Fast.tw6624044465436646736 : True := trivial
theorem PySem.W.Fast.tw8093619720014720304 : True := trivial
theorem PySem.W.Fast.tw6918250365123272944 : True := trivial
theorem PySem.W.Fast.tw10421033774562084880 : True := trivial
theorem PySem.W.Fast.tw12184436785862030352 : True := trivial
theorem PySem.W.Fast.tw10374886195758694383 : True := trivial
theorem PySem.W.Fast.tw9578580996465566575 : True := trivial
theorem PySem.W.Fast.tw10497347546097845967 : True := trivial
theorem PySem.W.Fast.tw7546780242722802191 : True := trivial
theorem PySem.W.Fast.tw283260316165879279 : True := trivial
theorem PySem.W.Fast.tw16339575536568490479 : True := trivial
theorem PySem.W.Fast.tw6424883794488280271 : True := trivial
theorem PySem.W.Fast.tw13480091184663943343 : True := trivial
theorem PySem.W.Fast.tw780142595378157711 : True := trivial
theorem PySem.W.Fast.tw5244192727535670319 : True := trivial
theorem PySem.W.Fast.tw12485843725734275982 : True := trivial
theorem PySem.W.Fast.tw3180810139067123566 : True := trivial
theorem PySem.W.Fast.tw3866956151364796238 : True := trivial
theorem PySem.W.Fast.tw4575533499142218510 : True := trivial
theorem PySem.W.Fast.tw2864533584847912654 : True := trivial
theorem PySem.W.Fast.tw9941079609885883054 : True := trivial
theorem PySem.W.Fast.tw17263280015444438670 : True := trivial
theorem PySem.W.Fast.tw2309612041704586734 : True := trivial
theorem PySem.W.Fast.tw368976892278608366 : True := trivial
theorem PySem.W.Fast.tw14827212667641095534 : True := trivial
theorem PySem.W.Fast.tw13340988241096043790 : True := trivial
theorem PySem.W.Fast.tw18097314332750482702 : True := trivial
theorem PySem.W.Fast.tw2716982759064360174 : True := trivial
theorem PySem.W.Fast.tw17747642615935741901 : True := trivial
theorem PySem.W.Fast.tw1511999160433134477 : True := trivial
theorem PySem.W.Fast.tw617942357232122477 : True := trivial
theorem PySem.W.Fast.tw1647065478800054861 : True := trivial
theorem PySem.W.Fast.tw17092990303759148589 : True := trivial
theorem PySem.W.Fast.tw1263555052516968941 : True := trivial
theorem PySem.W.Fast.tw13473501335863764429 : True := trivial
theorem PySem.W.Fast.tw10633010652411674029 : True := trivial
theorem PySem.W.Fast.tw14127666492821092717 : True := trivial
theorem PySem.W.Fast.tw9311501377426301197 : True := trivial
theorem PySem.W.Fast.tw12040728694406249709 : True := trivial
theorem PySem.W.Fast.tw996584598860824781 : True := trivial
theorem PySem.W.Fast.tw2994477843700694221 : True := trivial
theorem PySem.W.Fast.tw2636580227642472589 : True := trivial
theorem PySem.W.Fast.tw9421334010032654381 : True := trivial
theorem PySem.W.Fast.tw11899237381998129132 : True := trivial
theorem PySem.W.Fast.tw2438438710599361388 : True := trivial
theorem PySem.W.Fast.tw12271648816165897996 : True := trivial
theorem PySem.W.Fast.tw14336878194820503212 : True := trivial
theorem PySem.W.Fast.tw3954573519583586924 : True := trivial
theorem PySem.W.Fast.tw6237461767909432844 : True := trivial
theorem PySem.W.Fast.tw4749664486578244044 : True := trivial
theorem PySem.W.Fast.tw10370178442551013612 : True := trivial
theorem PySem.W.Fast.tw3344727241280458699 : True := trivial
theorem PySem.W.Fast.tw13118000852148173739 : True := trivial
theorem PySem.W.Fast.tw13098900518156747627 : True := trivial
theorem PySem.W.Fast.tw14499194019365761867 : True := trivial
theorem PySem.W.Fast.tw10728976885846037323 : True := trivial
theorem PySem.W.Fast.tw1742058562299700971 : True := trivial
theorem PySem.W.Fast.tw5710431361429237483 : True := trivial
theorem PySem.W.Fast.tw7036711605014036107 : True := trivial
theorem PySem.W.Fast.tw6831104879579624043 : True := trivial
theorem PySem.W.Fast.tw7752184818623279723 : True := trivial
theorem PySem.W.Fast.tw8427739007750997611 : True := trivial
theorem PySem.W.Fast.tw9262976298548366923 : True := trivial
theorem PySem.W.Fast.tw156026597049542219 : True := trivial
theorem PySem.W.Fast.tw2705059757542009355 : True := trivial
theorem PySem.W.Fast.tw15973780432921908747 : True := trivial
theorem PySem.W.Fast.tw3952956920621912587 : True := trivial
theorem PySem.W.Fast.tw4805504596215224811 : True := trivial
theorem PySem.W.Fast.tw13506218147010961899 : True := trivial
theorem PySem.W.Fast.tw9288630218892094955 : True := trivial
theorem PySem.W.Fast.tw14806934692303047115 : True := trivial
theorem PySem.W.Fast.tw16589913946697252299 : True := trivial
theorem PySem.W.Fast.tw16972000732072538379 : True := trivial
theorem PySem.W.Fast.tw16352537243756315883 : True := trivial
theorem PySem.W.Fast.tw8945807352177911915 : True := trivial
theorem PySem.W.Fast.tw433138419225030699 : True := trivial
theorem PySem.W.Fast.tw5214483362128208939 : True := trivial
theorem PySem.W.Fast.tw16589904792148873259 : True := trivial
theorem PySem.W.Fast.tw2980291090596302859 : True := trivial
theorem PySem.W.Fast.tw8415644287495397354 : True := trivial
theorem PySem.W.Fast.tw8010272285186709482 : True := trivial
theorem PySem.W.Fast.tw2195060070174101386 : True := trivial
theorem PySem.W.Fast.tw727048323232841450 : True := trivial
theorem PySem.W.Fast.tw12300113878473313002 : True := trivial
theorem PySem.W.Fast.tw14445782240119107210 : True := trivial
theorem PySem.W.Fast.tw1179474298869554794 : True := trivial
theorem PySem.W.Fast.tw8790827479375956554 : True := trivial
theorem PySem.W.Fast.tw12074221883620900330 : True := trivial
theorem PySem.W.Fast.tw9784503644725336554 : True := trivial
theorem PySem.W.Fast.tw8583745733751172554 : True := trivial
theorem PySem.W.Fast.tw14211558207624755658 : True := trivial
theorem PySem.W.Fast.tw1389336391517513130 : True := trivial
theorem PySem.W.Fast.tw8683894993790608746 : True := trivial
theorem PySem.W.Fast.tw6799732340017105226 : True := trivial
theorem PySem.W.Fast.tw8241517668132136042 : True := trivial
theorem PySem.W.Fast.tw17404086304014703722 : True := trivial
theorem PySem.W.Fast.tw14057496814922248202 : True := trivial
theorem PySem.W.Fast.tw14239255826891779017 : True := trivial
theorem PySem.W.Fast.tw1804104036514443145 : True := trivial
theorem PySem.W.Fast.tw15652250220938857289 : True := trivial
theorem PySem.W.Fast.tw10379049776005447401 : True := trivial
theorem PySem.W.Fast.tw6151823371020832425 : True := trivial
theorem PySem.W.Fast.tw355476899145386665 : True := trivial
theorem PySem.W.Fast.tw10722895069950264937 : True := trivial
theorem PySem.W.Fast.tw2803811809476933929 : True := trivial
theorem PySem.W.Fast.tw4882056416737552649 : True := trivial
theorem PySem.W.Fast.tw8240834305039289577 : True := trivial
theorem PySem.W.Fast.tw18420268272273940617 : True := trivial
theorem PySem.W.Fast.tw3576122112064655497 : True := trivial
theorem PySem.W.Fast.tw13945683936691104873 : True := trivial
theorem PySem.W.Fast.tw16207262766907680873 : True := trivial
theorem PySem.W.Fast.tw13437603740323237929 : True := trivial
theorem PySem.W.Fast.tw14056200766843822089 : True := trivial
theorem PySem.W.Fast.tw603107010443389896 : True := trivial
theorem PySem.W.Fast.tw2357771469766621000 : True := trivial
theorem PySem.W.Fast.tw1485075576946451240 : True := trivial
theorem PySem.W.Fast.tw880744323608500008 : True := trivial
theorem PySem.W.Fast.tw8318723183373696776 : True := trivial
theorem PySem.W.Fast.tw17953031095643372232 : True := trivial
theorem PySem.W.Fast.tw13372925392072071784 : True := trivial
theorem PySem.W.Fast.tw1231230294214918600 : True := trivial
theorem PySem.W.Fast.tw9810586580412002472 : True := trivial
theorem PySem.W.Fast.tw17865315051739883624 : True := trivial
theorem PySem.W.Fast.tw7755582331745767496 : True := trivial
theorem PySem.W.Fast.tw15459885747545451560 : True := trivial
theorem PySem.W.Fast.tw8553476102676328359 : True := trivial
theorem PySem.W.Fast.tw16746251871027930855 : True := trivial
theorem PySem.W.Fast.tw2750622763718182599 : True := trivial
theorem PySem.W.Fast.tw14470597801043831367 : True := trivial
theorem PySem.W.Fast.tw9229611998001562183 : True := trivial
theorem PySem.W.Fast.tw9511830072202073415 : True := trivial
theorem PySem.W.Fast.tw1703187958675136583 : True := trivial
theorem PySem.W.Fast.tw2428551452233634823 : True := trivial
theorem PySem.W.Fast.tw5436943074069002214 : True := trivial
theorem PySem.W.Fast.tw16470846844055726982 : True := trivial
theorem PySem.W.Fast.tw18142726309848449862 : True := trivial
theorem PySem.W.Fast.tw2839241393635221254 : True := trivial
theorem PySem.W.Fast.tw5948456087296443110 : True := trivial
theorem PySem.W.Fast.tw3735147062468432582 : True := trivial
theorem PySem.W.Fast.tw383032769070485158 : True := trivial
theorem PySem.W.Fast.tw3003508230568461958 : True := trivial
theorem PySem.W.Fast.tw1884766426678022790 : True := trivial
theorem PySem.W.Fast.tw10018738299070092934 : True := trivial
theorem PySem.W.Fast.tw6529554733069272582 : True := trivial
theorem PySem.W.Fast.tw13890760064721843654 : True := trivial
theorem PySem.W.Fast.tw7802404798961662406 : True := trivial
theorem PySem.W.Fast.tw7125729827645781350 : True := trivial
theorem PySem.W.Fast.tw5618570930172247270 : True := trivial
theorem PySem.W.Fast.tw11555076492165900518 : True := trivial
theorem PySem.W.Fast.tw16222505515401361638 : True := trivial
theorem PySem.W.Fast.tw17724879467808892038 : True := trivial
theorem PySem.W.Fast.tw5372794707428370534 : True := trivial
theorem PySem.W.Fast.tw9395388384125044774 : True := trivial
theorem PySem.W.Fast.tw11487076504875497413 : True := trivial
theorem PySem.W.Fast.tw4906647398947037093 : True := trivial
theorem PySem.W.Fast.tw17563760423102337701 : True := trivial
theorem PySem.W.Fast.tw12155231429021896325 : True := trivial
theorem PySem.W.Fast.tw9829863275866109541 : True := trivial
theorem PySem.W.Fast.tw9249146076384216453 : True := trivial
theorem PySem.W.Fast.tw543330635724578149 : True := trivial
theorem PySem.W.Fast.tw17200456850875947237 : True := trivial
theorem PySem.W.Fast.tw366508137186229413 : True := trivial
theorem PySem.W.Fast.tw12238278422179282085 : True := trivial
theorem PySem.W.Fast.tw16943717178163927045 : True := trivial
theorem PySem.W.Fast.tw17220881430397089604 : True := trivial
theorem PySem.W.Fast.tw5161342536619492036 : True := trivial
theorem PySem.W.Fast.tw12242049305970539172 : True := trivial
theorem PySem.W.Fast.tw11189733758500589220 : True := trivial
theorem PySem.W.Fast.tw7988416740776775332 : True := trivial
theorem PySem.W.Fast.tw13245851471987123780 : True := trivial
theorem PySem.W.Fast.tw14819536001915048484 : True := trivial
theorem PySem.W.Fast.tw2276162877342304676 : True := trivial
theorem PySem.W.Fast.tw5755670149144571300 : True := trivial
theorem PySem.W.Fast.tw112705672295385252 : True := trivial
theorem PySem.W.Fast.tw10164285974667360356 : True := trivial
theorem PySem.W.Fast.tw4571543592615915588 : True := trivial
theorem PySem.W.Fast.tw7699767790072951876 : True := trivial
theorem PySem.W.Fast.tw3358028904043246628 : True := trivial
theorem PySem.W.Fast.tw11819956037940455460 : True := trivial
theorem PySem.W.Fast.tw7477716663360738275 : True := trivial
theorem PySem.W.Fast.tw15707145881120995235 : True := trivial
theorem PySem.W.Fast.tw709661894112798563 : True := trivial
theorem PySem.W.Fast.tw13503093456964368131 : True := trivial
theorem PySem.W.Fast.tw15907572522031584995 : True := trivial
theorem PySem.W.Fast.tw4742725555036156515 : True := trivial
theorem PySem.W.Fast.tw4613487384549197411 : True := trivial
theorem PySem.W.Fast.tw10323331019152102979 : True := trivial
theorem PySem.W.Fast.tw14646674874124601827 : True := trivial
theorem PySem.W.Fast.tw3007357673209406915 : True := trivial
theorem PySem.W.Fast.tw14910069220331578755 : True := trivial
theorem PySem.W.Fast.tw3669041229686289795 : True := trivial
theorem PySem.W.Fast.tw8109807321450738947 : True := trivial
theorem PySem.W.Fast.tw7037744414803871939 : True := trivial
theorem PySem.W.Fast.tw8219323604023727299 : True := trivial
theorem PySem.W.Fast.tw8877875727439600803 : True := trivial
theorem PySem.W.Fast.tw7326644093957189667 : True := trivial
theorem PySem.W.Fast.tw9134051567427895266 : True := trivial
theorem PySem.W.Fast.tw14171215006042990498 : True := trivial
theorem PySem.W.Fast.tw4104762388772091778 : True := trivial
theorem PySem.W.Fast.tw1184644617250920258 : True := trivial
theorem PySem.W.Fast.tw17702311383589016226 : True := trivial
theorem PySem.W.Fast.tw957210039652486786 : True := trivial
theorem PySem.W.Fast.tw16820295474676613762 : True := trivial
theorem PySem.W.Fast.tw9425938118561662498 : True := trivial
theorem PySem.W.Fast.tw1257263931126297090 : True := trivial
theorem PySem.W.Fast.tw14691100369953527266 : True := trivial
theorem PySem.W.Fast.tw10630743424646151586 : True := trivial
theorem PySem.W.Fast.tw92628366560660898 : True := trivial
theorem PySem.W.Fast.tw13361651894358199586 : True := trivial
theorem PySem.W.Fast.tw6783580692961963234 : True := trivial
theorem PySem.W.Fast.tw6242064285385916578 : True := trivial
theorem PySem.W.Fast.tw7561854204310856706 : True := trivial
theorem PySem.W.Fast.tw7215879244588178401 : True := trivial
theorem PySem.W.Fast.tw1791036661254983649 : True := trivial
theorem PySem.W.Fast.tw17762846382407844801 : True := trivial
theorem PySem.W.Fast.tw12917583401506861953 : True := trivial
theorem PySem.W.Fast.tw18346623040403953505 : True := trivial
theorem PySem.W.Fast.tw4521569910890007105 : True := trivial
theorem PySem.W.Fast.tw4833356285480616449 : True := trivial
theorem PySem.W.Fast.tw12098946230823326113 : True := trivial
theorem PySem.W.Fast.tw9549380883837850849 : True := trivial
theorem PySem.W.Fast.tw9489694271270884545 : True := trivial
theorem PySem.W.Fast.tw523610353858940929 : True := trivial
theorem PySem.W.Fast.tw16871651766450329472 : True := trivial
theorem PySem.W.Fast.tw17798586337063905088 : True := trivial
theorem PySem.W.Fast.tw13762304358804856544 : True := trivial
theorem PySem.W.Fast.tw2200828778853266080 : True := trivial
theorem PySem.W.Fast.tw17626273449008852608 : True := trivial
theorem PySem.W.Fast.tw11264457406312221248 : True := trivial
theorem PySem.W.Fast.tw2677843842058249792 : True := trivial
theorem PySem.W.Fast.tw7090627186414554560 : True := trivial
theorem PySem.W.Fast.tw9896674031637680288 : True := trivial
theorem PySem.W.Fast.tw494868566519620704 : True := trivial
theorem PySem.W.Fast.tw3315927887428762624 : True := trivial
open PySem PySem.W PyProof.Rows
set_option maxRecDepth 100000 in
set_option maxHeartbeats 0 in
theorem PySem.Challenge.cw_cratefit_k05_wares_refused_holds : PySem.Challenge.rw_cratefit_k05_wares_refused.Holds := by
  w_on; o_law; k_head; (case hw => w_witness2)
  k_fill
  refine Law.walk rfl (fun w h Y => PySem.W.kIn_of Y) ?F
  case F =>
    intro w mg fa h KX G hmg
    refine' Law.all_mk KX G hmg ?a_l_cell_at ?l_l_cell_at ?c_l_cell_at ?k_l_cell_at ?a_l_whole ?l_l_whole ?c_l_whole ?k_l_whole ?a_is_whole ?l_is_whole ?c_is_whole ?k_is_whole ?a_check_side ?l_check_side ?c_check_side ?k_check_side ?a_made_ware ?l_made_ware ?c_made_ware ?k_made_ware ?d_made_ware ?a_read_number ?l_read_number ?c_read_number ?k_read_number ?a_read_sides ?l_read_sides ?c_read_sides ?k_read_sides ?a_read_ware ?l_read_ware ?c_read_ware ?k_read_ware ?a_l_side ?l_l_side ?c_l_side ?k_l_side ?a_l_ware ?l_l_ware ?c_l_ware ?k_l_ware ?a_l_sign ?l_l_sign ?c_l_sign ?k_l_sign ?a_l_spoilt ?l_l_spoilt ?c_l_spoilt ?k_l_spoilt ?a_l_number ?l_l_number ?c_l_number ?k_l_number ?a_l_sides_due ?l_l_sides_due ?c_l_sides_due ?k_l_sides_due ?a_l_ware_due ?l_l_ware_due ?c_l_ware_due ?k_l_ware_due ?a_l_alike ?l_l_alike ?c_l_alike ?k_l_alike ?a_l_kinds ?l_l_kinds ?c_l_kinds ?k_l_kinds ?a_l_figures ?l_l_figures ?c_l_figures ?k_l_figures ?a_l_text ?l_l_text ?c_l_text ?k_l_text ?a_l_read ?l_l_read ?c_l_read ?k_l_read ?a_l_good ?l_l_good ?c_l_good ?k_l_good ?a_law ?l_law ?c_law ?k_law ?z_ValueError ?z_any ?z_bool ?z_int ?z_isinstance ?z_len ?z_str ?z_tuple ?m_BadPacking ?m_BadPlan ?m_BadSide ?m_BadTurn ?m_CrateError ?m_Full ?m_Hangs ?m_NoDeed ?m_NoDrawing ?m_NoPicker ?m_NoSheet ?m_NoText ?m_NoWare ?m_NoWeighing ?m_NothingDone ?m_Ring ?m_TooMany ?m_TooWide ?x_BadSide ?x_BadTurn ?x_CrateError ?x_Full ?x_NoDeed ?x_NoDrawing ?x_NoPicker ?x_NoSheet ?x_NoText ?x_NoWare ?x_NoWeighing ?x_NothingDone ?x_Ring ?x_TooMany ?g_FIGURES ?g_MOST_FIGURES ?t_exc1 ?t_exc2 ?t_exc3 ?t_exc4 ?t_exc5 ?t_one ?t_two ?t_ce ?t_ve ?t_ex ?t_ex2
    (case a_l_cell_at => k_is)
    (case l_l_cell_at => k_is)
    (case c_l_cell_at => k_is)
    (case k_l_cell_at => k_is)
    (case a_l_whole => k_is)
    (case l_l_whole => k_is)
    (case c_l_whole => k_is)
    (case k_l_whole => k_is)
    (case a_is_whole => k_is)
    (case l_is_whole => k_is)
    (case c_is_whole => k_is)
    (case k_is_whole => k_is)
    (case a_check_side => k_is)
    (case l_check_side => k_is)
    (case c_check_side => k_is)
    (case k_check_side => k_is)
    (case a_made_ware => k_is)
    (case l_made_ware => k_is)
    (case c_made_ware => k_is)
    (case k_made_ware => k_is)
    (case d_made_ware => k_is)
    (case a_read_number => k_is)
    (case l_read_number => k_is)
    (case c_read_number => k_is)
    (case k_read_number => k_is)
    (case a_read_sides => k_is)
    (case l_read_sides => k_is)
    (case c_read_sides => k_is)
    (case k_read_sides => k_is)
    (case a_read_ware => k_is)
    (case l_read_ware => k_is)
    (case c_read_ware => k_is)
    (case k_read_ware => k_is)
    (case a_l_side => k_is)
    (case l_l_side => k_is)
    (case c_l_side => k_is)
    (case k_l_side => k_is)
    (case a_l_ware => k_is)
    (case l_l_ware => k_is)
    (case c_l_ware => k_is)
    (case k_l_ware => k_is)
    (case a_l_sign => k_is)
    (case l_l_sign => k_is)
    (case c_l_sign => k_is)
    (case k_l_sign => k_is)
    (case a_l_spoilt => k_is)
    (case l_l_spoilt => k_is)
    (case c_l_spoilt => k_is)
    (case k_l_spoilt => k_is)
    (case a_l_number => k_is)
    (case l_l_number => k_is)
    (case c_l_number => k_is)
    (case k_l_number => k_is)
    (case a_l_sides_due => k_is)
    (case l_l_sides_due => k_is)
    (case c_l_sides_due => k_is)
    (case k_l_sides_due => k_is)
    (case a_l_ware_due => k_is)
    (case l_l_ware_due => k_is)
    (case c_l_ware_due => k_is)
    (case k_l_ware_due => k_is)
    (case a_l_alike => k_is)
    (case l_l_alike => k_is)
    (case c_l_alike => k_is)
    (case k_l_alike => k_is)
    (case a_l_kinds => k_is)
    (case l_l_kinds => k_is)
    (case c_l_kinds => k_is)
    (case k_l_kinds => k_is)
    (case a_l_figures => k_is)
    (case l_l_figures => k_is)
    (case c_l_figures => k_is)
    (case k_l_figures => k_is)
    (case a_l_text => k_is)
    (case l_l_text => k_is)
    (case c_l_text => k_is)
    (case k_l_text => k_is)
    (case a_l_read => k_is)
    (case l_l_read => k_is)
    (case c_l_read => k_is)
    (case k_l_read => k_is)
    (case a_l_good => k_is)
    (case l_l_good => k_is)
    (case c_l_good => k_is)
    (case k_l_good => k_is)
    (case a_law => k_is)
    (case l_law => k_is)
    (case c_law => k_is)
    (case k_law => k_is)
    (case z_ValueError => k_is)
    (case z_any => k_is)
    (case z_bool => k_is)
    (case z_int => k_is)
    (case z_isinstance => k_is)
    (case z_len => k_is)
    (case z_str => k_is)
    (case z_tuple => k_is)
    (case m_BadPacking => k_is)
    (case m_BadPlan => k_is)
    (case m_BadSide => k_is)
    (case m_BadTurn => k_is)
    (case m_CrateError => k_is)
    (case m_Full => k_is)
    (case m_Hangs => k_is)
    (case m_NoDeed => k_is)
    (case m_NoDrawing => k_is)
    (case m_NoPicker => k_is)
    (case m_NoSheet => k_is)
    (case m_NoText => k_is)
    (case m_NoWare => k_is)
    (case m_NoWeighing => k_is)
    (case m_NothingDone => k_is)
    (case m_Ring => k_is)
    (case m_TooMany => k_is)
    (case m_TooWide => k_is)
    (case x_BadSide => kernel_rfl)
    (case x_BadTurn => kernel_rfl)
    (case x_CrateError => kernel_rfl)
    (case x_Full => kernel_rfl)
    (case x_NoDeed => kernel_rfl)
    (case x_NoDrawing => kernel_rfl)
    (case x_NoPicker => kernel_rfl)
    (case x_NoSheet => kernel_rfl)
    (case x_NoText => kernel_rfl)
    (case x_NoWare => kernel_rfl)
    (case x_NoWeighing => kernel_rfl)
    (case x_NothingDone => kernel_rfl)
    (case x_Ring => kernel_rfl)
    (case x_TooMany => kernel_rfl)
    (case g_FIGURES => k_is)
    (case g_MOST_FIGURES => k_is)
    (case t_exc1 => k_is)
    (case t_exc2 => k_is)
    (case t_exc3 => k_is)
    (case t_exc4 => k_is)
    (case t_exc5 => k_is)
    (case t_one => kit_is)
    (case t_two => kit_is)
    (case t_ce => kit_is)
    (case t_ve => kit_is)
    (case t_ex => kts_exm)
    (case t_ex2 => kts_exm)
