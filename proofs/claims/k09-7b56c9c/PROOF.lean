import PyProof.Rows.All
import Wide.All
import OpenK.AllK
import Wide.FinOn
import Lean
import PyProof.EqAt
import PyProof.EqKinds
import PyProof.TupleCall
import PySem.Challenge.RW_cratefit_k09_a_spot
set_option Elab.async false
set_option linter.all false
set_option maxRecDepth 100000
namespace L2
open PySem PySem.Spec PyProof.Rows
abbrev Key := Sum Int Str
def keyIs : Key → Value → Bool
  | .inl k, v => Value.isInt k v
  | .inr x, v => Value.isStrOf x v
def keyH (w : World) : Key → Int
  | .inl k => hashInt k
  | .inr x => hashStr w x
theorem keyIs_shape : ∀ {k : Key} {v : Value}, keyIs k v = true → (∃ i t, k = Sum.inl i ∧ v = Value.int i t) ∨ (∃ x t, k = Sum.inr x ∧ v = Value.str x t)
  | .inl i, v, h => by
    obtain ⟨t, e⟩ := Value.isInt_shape (k := i) (v := v) h
    exact .inl ⟨i, t, rfl, e⟩
  | .inr x, v, h => by
    obtain ⟨t, e⟩ := Value.isStrOf_shape (x := x) (v := v) h
    exact .inr ⟨x, t, rfl, e⟩
theorem key_ll (a b : Int) : decide ((Sum.inl a : Key) = Sum.inl b) = (a == b) := by
  by_cases e : a = b
  · subst e; simp
  · have h : ¬ (Sum.inl a : Key) = Sum.inl b := fun q => e (Sum.inl.inj q)
    rw [decide_eq_false h]
    exact (beq_eq_false_iff_ne.mpr e).symm
theorem key_rr (a b : Str) : decide ((Sum.inr a : Key) = Sum.inr b) = decide (a = b) := by
  by_cases e : a = b
  · subst e; simp
  · have h : ¬ (Sum.inr a : Key) = Sum.inr b := fun q => e (Sum.inr.inj q)
    rw [decide_eq_false h, decide_eq_false e]
theorem key_lr (a : Int) (b : Str) : decide ((Sum.inl a : Key) = Sum.inr b) = false := decide_eq_false (fun q => nomatch q)
theorem key_rl (a : Str) (b : Int) : decide ((Sum.inr a : Key) = Sum.inl b) = false := decide_eq_false (fun q => nomatch q)
def mixKind (prog : Program) (w : World) : PySem.KeyKind prog w Key where
  is := keyIs
  hash := keyH w
  inj := fun v a b ha hb => by
    rcases keyIs_shape ha with ⟨i, t, rfl, rfl⟩ | ⟨x, t, rfl, rfl⟩
    · rcases keyIs_shape hb with ⟨j, u, rfl, e⟩ | ⟨y, u, rfl, e⟩
      · injection e with e1 _; rw [e1]
      · exact nomatch e
    · rcases keyIs_shape hb with ⟨j, u, rfl, e⟩ | ⟨y, u, rfl, e⟩
      · exact nomatch e
      · injection e with e1 _; rw [e1]
  byValue := fun k v h => by
    rcases keyIs_shape h with ⟨i, t, rfl, rfl⟩ | ⟨x, t, rfl, rfl⟩ <;> rfl
  pyHash := fun hv h => by
    rcases keyIs_shape hv with ⟨i, t, rfl, rfl⟩ | ⟨x, t, rfl, rfl⟩
    · exact wpAny_pyHash_int h
    · exact wpAny_pyHash_str h
  eqBool := fun hu hv h => by
    rcases keyIs_shape hu with ⟨i, t, rfl, rfl⟩ | ⟨x, t, rfl, rfl⟩
    · rcases keyIs_shape hv with ⟨j, u, rfl, rfl⟩ | ⟨y, u, rfl, rfl⟩
      · rw [key_ll] at h; exact wpAny_eqBool_int h
      · rw [key_lr] at h; exact SeqAt.EqAt.int_str i t y u _ _ _ _ h
    · rcases keyIs_shape hv with ⟨j, u, rfl, rfl⟩ | ⟨y, u, rfl, rfl⟩
      · rw [key_rl] at h; exact SeqAt.EqAt.str_int x t j u _ _ _ _ h
      · rw [key_rr] at h; exact wpAny_eqBool_str h
  «strs» := fun k x t v h => by
    rcases keyIs_shape h with ⟨i, u, rfl, e⟩ | ⟨y, u, rfl, e⟩
    · exact nomatch e
    · injection e with e1 _
      subst e1
      cases v <;> rfl
end L2
namespace L2
open PySem PySem.Spec PyProof.Rows
inductive V where
  | non | bl (b : Bool) | int (i : Int) | str (x : Str) | byt (b : Array UInt8) | flt (b : UInt64) | ref (a : Addr) | ty (n : String)
  deriving DecidableEq
def RelV : V → Value → Prop
  | .non, u => u = Value.none
  | .bl b, u => u = Value.bool b
  | .int i, u => ∃ t, u = Value.int i t
  | .str x, u => ∃ t, u = Value.str x t
  | .byt b, u => ∃ t, u = Value.bytes b t
  | .flt b, u => ∃ t, u = Value.float b t
  | .ref a, u => u = Value.ref a
  | .ty n, u => u = Value.type n
abbrev Vals : List V → List Value → Prop := Paired RelV
theorem Vals.length {xs : List V} {us : List Value} (r : Vals xs us) : xs.length = us.length := Paired.length r
theorem Vals.get : ∀ {xs : List V} {us : List Value} {i : Nat} {x : V}, Vals xs us → xs[i]? = some x → ∃ u, us[i]? = some u ∧ RelV x u
  | _, _, _, _, .nil, e => by simp at e
  | _, _, 0, _, .cons r _, e => by simp at e; subst e; exact ⟨_, rfl, r⟩
  | _, _, i + 1, x, .cons _ t, e => by
    obtain ⟨u, h1, h2⟩ := Vals.get (i := i) (x := x) t (by simpa using e)
    exact ⟨u, by simpa using h1, h2⟩
theorem Vals.set {x : V} {u : Value} (r : RelV x u) : ∀ {xs : List V} {us : List Value} (i : Nat), Vals xs us → Vals (xs.set i x) (us.set i u)
  | _, _, _, .nil => .nil
  | _, _, 0, .cons _ t => .cons r t
  | _, _, i + 1, .cons q t => .cons q (Vals.set r i t)
theorem Vals.append : ∀ {xs ys : List V} {us ws : List Value}, Vals xs us → Vals ys ws → Vals (xs ++ ys) (us ++ ws)
  | _, _, _, _, .nil, s => s
  | _, _, _, _, .cons r t, s => .cons r (Vals.append t s)
theorem Vals.take : ∀ {xs : List V} {us : List Value} (n : Nat), Vals xs us → Vals (xs.take n) (us.take n)
  | _, _, 0, _ => .nil
  | _, _, _ + 1, .nil => .nil
  | _, _, n + 1, .cons r t => .cons r (Vals.take n t)
theorem Vals.drop : ∀ {xs : List V} {us : List Value} (n : Nat), Vals xs us → Vals (xs.drop n) (us.drop n)
  | _, _, 0, r => r
  | _, _, _ + 1, .nil => .nil
  | _, _, n + 1, .cons _ t => Vals.drop n t
def RelO : Option V → Option Value → Prop
  | some v, some u => RelV v u
  | none, none => True
  | _, _ => False
def KV {κ : Type} : List (κ × V) → List (κ × Value) → Prop := Paired fun (p : κ × V) (q : κ × Value) => p.1 = q.1 ∧ RelV p.2 q.2
def kV : Key → V
  | .inl i => .int i
  | .inr x => .str x
inductive HO where
  /-- a list -/
  | lst (xs : List V)
  /-- a tuple (never changes) -/
  | tup (xs : List V)
  /-- a dict whose keys are ints and texts; one whose keys are tuples of ints and texts (the empty one is both) -/
  | dK (kvs : List (Key × V)) | dT (kvs : List (List Key × V))
  /-- a set of ints: its members, its size -/
  | set (S : Int → Bool) (n : Nat)
  /-- an instance of the class at C, its dict at dx, its attributes -/
  | ins (C dx : Addr) (fs : List (Str × V))
  /-- the dict of the instance at x -/
  | own (x : Addr)
  /-- the dict of an exception -/
  | xd (fs : List (Str × V))
  /-- a bound method, f of x -/
  | met (f x : Addr)
  /-- a range object lo, lo + 1, .. below hi -/
  | rng (lo hi : Int)
  /-- a thing that is known to the object (the script; a dict while a loop walks it): read, never written while it is so -/
  | frz (o : Obj) (u : HO)
  /-- a code object's table -/
  | tbl (ps : Array Value)
  /-- any other thing, by what is true of its one object (a def of one's own: SetO a S n := HO.ext fun h => ..) -/
  | ext (φ : Heap → Prop)
abbrev Hp := Addr → Option HO
def upd (H : Hp) (a : Addr) (o : HO) : Hp := fun b => if b = a then some o else H b
theorem upd_same {H : Hp} {a : Addr} {o : HO} : upd H a o a = some o := by unfold upd; rw [if_pos rfl]
theorem upd_ne {H : Hp} {a b : Addr} {o : HO} (h : b ≠ a) : upd H a o b = H b := by unfold upd; rw [if_neg h]
theorem ne_of {H : Hp} {a b : Addr} {o u : HO} (h : H a = some o) (h' : H b = some u) (d : o ≠ u) : a ≠ b := by
  intro e; subst e; rw [h] at h'; exact d (Option.some.inj h')
theorem ne_of_none {H : Hp} {a b : Addr} {o : HO} (h : H a = some o) (h' : H b = none) : a ≠ b := by
  intro e; subst e; rw [h] at h'; cases h'
section
variable (P : Program) (w : World)
def ObjOk (H : Hp) (h : Heap) (a : Addr) : HO → Prop
  | .lst xs => xs.length ≤ sizeLine ∧ ∃ (its : List Value) (n : Nat), Vals xs its ∧ h.get? a = some { cls := .type "list", data := .seq its.toArray n }
  | .tup xs => xs.length ≤ sizeLine ∧ ∃ its : List Value, Vals xs its ∧ IsTup h a its.toArray
  | .dK kvs => kvs.length ≤ sizeLine ∧ (a == sysModules) = false ∧ ∃ vs, KV kvs vs ∧ h.DictOf (mixKind P w) a vs
  | .dT kvs => kvs.length ≤ sizeLine ∧ (a == sysModules) = false ∧ ∃ xs : List (List Key × Addr × Value),
      Paired (fun (p : List Key × V) (q : List Key × Addr × Value) => p.1 = q.1 ∧ H q.2.1 = some (.tup (p.1.map kV)) ∧ RelV p.2 q.2.2) kvs xs ∧
      ∃ o es ep, h.get? a = some o ∧ o.ExactDict ∧ o.data = .dict es ep ∧ es.toList = xs.map (entryOfKey (tupleKind (mixKind P w))) ∧ (xs.map (·.1)).Nodup
  | .set S n => h.SetOf (intKind P w) a S n
  | .ins C dx fs => H dx = some (.own a) ∧ fs.length ≤ 1000 ∧ dx ≠ a ∧ h.get? a = some (PySem.W.instObj C dx) ∧
      ∃ mA, h.Ns1 dx mA ∧ (∀ f, RelO (fs.lookup f) (mA f)) ∧ PySem.Within mA (fs.map (·.1))
  | .own _ => ∃ o, h.get? a = some o
  | .xd fs => ∃ mA, h.Ns1 a mA ∧ ∀ f, RelO (fs.lookup f) (mA f)
  | .rng lo hi => ∃ t u v, h.get? a = some { cls := .type "range", data := .fields #[.int lo t, .int hi u, .int 1 v] }
  | .frz o u => h.get? a = some o ∧ ObjOk H h a u
  | .tbl ps => h.get? a = some { cls := .none, data := .fields ps }
  | .met f x => h.get? a = some (PySem.W.methodObj (.ref f) (.ref x))
  | .ext φ => φ h ∧ (∃ o, h.get? a = some o) ∧ ∀ h1 h2 : Heap, φ h1 → (∀ o, h1.get? a = some o → h2.get? a = some o) → φ h2
def HOk (H : Hp) (h : Heap) : Prop := ∀ a o, H a = some o → ObjOk P w H h a o
end
section
variable {P : Program} {w : World} {H H' : Hp} {h h' : Heap} {a : Addr} {o : HO}
theorem ObjOk.lt (x : ObjOk P w H h a o) : a < h.objs.size := by
  cases o with
  | lst xs => obtain ⟨_, _, _, _, e⟩ := x; exact Heap.lt_size e
  | tup xs => obtain ⟨_, _, _, p⟩ := x; exact p.lt
  | dK kvs => obtain ⟨_, _, _, _, o, _, _, e, _⟩ := x; exact Heap.lt_size e
  | dT kvs => obtain ⟨_, _, _, _, o, _, _, e, _⟩ := x; exact Heap.lt_size e
  | set S n => obtain ⟨o, _, _, _, e, _⟩ := x; exact Heap.lt_size e
  | ins C dx fs => obtain ⟨_, _, _, e, _⟩ := x; exact Heap.lt_size e
  | own y => obtain ⟨_, e⟩ := x; exact Heap.lt_size e
  | xd fs => obtain ⟨_, ⟨_, _, _, e, _⟩, _⟩ := x; exact Heap.lt_size e
  | rng lo hi => obtain ⟨_, _, _, e⟩ := x; exact Heap.lt_size e
  | frz ob u => obtain ⟨e, _⟩ := x; exact Heap.lt_size e
  | tbl ps => exact Heap.lt_size (show h.get? a = some _ from x)
  | met f y => exact Heap.lt_size (show h.get? a = some _ from x)
  | ext φ => obtain ⟨_, ⟨_, e⟩, _⟩ := x; exact Heap.lt_size e
theorem Paired.mapP {α β : Type} {F G : α → β → Prop} : ∀ {l₁ : List α} {l₂ : List β}, Paired F l₁ l₂ → (∀ a b, F a b → G a b) → Paired G l₁ l₂
  | _, _, .nil, _ => .nil
  | _, _, .cons r t, f => .cons (f _ _ r) (Paired.mapP t f)
theorem ObjOk.stay (x : ObjOk P w H h a o) (k : ∀ b u, (b = a ∨ H b = some (.own a)) → h.get? b = some u → h'.get? b = some u)
    (ho : ∀ b, H b = some (.own a) → H' b = some (.own a)) (ht : ∀ b xs, H b = some (.tup xs) → H' b = some (.tup xs)) : ObjOk P w H' h' a o := by
  induction o with
  | lst xs => obtain ⟨z, its, n, r, e⟩ := x; exact ⟨z, its, n, r, k _ _ (.inl rfl) e⟩
  | tup xs => obtain ⟨z, its, r, ob, e, c⟩ := x; exact ⟨z, its, r, ob, k _ _ (.inl rfl) e, c⟩
  | dK kvs => obtain ⟨z, y, vs, r, ob, es, ep, e, c⟩ := x; exact ⟨z, y, vs, r, ob, es, ep, k _ _ (.inl rfl) e, c⟩
  | dT kvs =>
    obtain ⟨z, y, xs, r, ob, es, ep, e, c⟩ := x
    exact ⟨z, y, xs, Paired.mapP r fun p q z => ⟨z.1, ht _ _ z.2.1, z.2.2⟩, ob, es, ep, k _ _ (.inl rfl) e, c⟩
  | set S n => obtain ⟨ob, es, ep, t, e, c⟩ := x; exact ⟨ob, es, ep, t, k _ _ (.inl rfl) e, c⟩
  | ins C dx fs =>
    obtain ⟨d, z, ne, e, mA, ⟨od, es, ep, e2, c⟩, r⟩ := x
    exact ⟨ho _ d, z, ne, k _ _ (.inl rfl) e, mA, ⟨od, es, ep, k _ _ (.inr d) e2, c⟩, r⟩
  | own y => obtain ⟨ob, e⟩ := x; exact ⟨ob, k _ _ (.inl rfl) e⟩
  | xd fs => obtain ⟨mA, ⟨od, es, ep, e, c⟩, r⟩ := x; exact ⟨mA, ⟨od, es, ep, k _ _ (.inl rfl) e, c⟩, r⟩
  | rng lo hi => obtain ⟨t, u, v, e⟩ := x; exact ⟨t, u, v, k _ _ (.inl rfl) e⟩
  | frz ob u ih => obtain ⟨e, q⟩ := x; exact ⟨k _ _ (.inl rfl) e, ih q⟩
  | tbl ps =>
    have e : h.get? a = some { cls := .none, data := .fields ps } := x
    show h'.get? a = some { cls := .none, data := .fields ps }
    exact k a _ (.inl rfl) e
  | met f y =>
    have e : h.get? a = some (PySem.W.methodObj (.ref f) (.ref y)) := x
    show h'.get? a = some (PySem.W.methodObj (.ref f) (.ref y))
    exact k a _ (.inl rfl) e
  | ext φ => obtain ⟨p, ⟨o, e⟩, st⟩ := x; exact ⟨st _ _ p fun o q => k _ _ (.inl rfl) q, ⟨o, k _ _ (.inl rfl) e⟩, st⟩
theorem HOk.lt (x : HOk P w H h) (e : H a = some o) : a < h.objs.size := (x a o e).lt
theorem HOk.fresh (x : HOk P w H h) (e : h.objs.size ≤ a) : H a = none := by
  cases q : H a with
  | none => rfl
  | some u => exact absurd (Nat.lt_of_lt_of_le (x.lt q) e) (Nat.lt_irrefl _)
theorem HOk.kept (x : HOk P w H h) (k : ∀ b u, h.get? b = some u → h'.get? b = some u) : HOk P w H h' := fun a o e =>
  (x a o e).stay (fun b u _ q => k b u q) (fun _ q => q) fun _ _ q => q
theorem HOk.laid (x : HOk P w H h) (k : ∀ b u, h.get? b = some u → h'.get? b = some u) (hp : h.objs.size ≤ a) (new : ObjOk P w (upd H a o) h' a o) : HOk P w (upd H a o) h' := fun b u e => by
  have hn := x.fresh hp
  by_cases hb : b = a
  · subst hb; rw [upd_same] at e; cases e; exact new
  · rw [upd_ne hb] at e
    exact (x b u e).stay (fun c v _ q => k c v q) (fun c q => by rw [upd_ne (ne_of_none q hn)]; exact q) fun c xs q => by rw [upd_ne (ne_of_none q hn)]; exact q
end
def Rd (H : Hp) (a : Addr) (u : HO) : Prop := H a = some u ∨ ∃ o, H a = some (.frz o u)
theorem Rd.of {H : Hp} {a : Addr} {u : HO} (h : H a = some u) : Rd H a u := .inl h
theorem Rd.ok {P : Program} {w : World} {H : Hp} {h : Heap} {a : Addr} {u : HO} (r : Rd H a u) (x : HOk P w H h) : ObjOk P w H h a u := by
  rcases r with r | ⟨o, r⟩
  · exact x a u r
  · obtain ⟨_, q⟩ := x a _ r
    exact q
section
variable {P : Program} {w : World} {H : Hp} {h h' : Heap} {x e : Addr} {o' : HO}
end
structure Un (fs ex : List Addr) (H H' : Hp) (h h' : Heap) : Prop where
  keep : ∀ b o, h.get? b = some o → H b = none → b ∉ fs → b ∉ ex → h'.get? b = some o
  slot : ∀ b o, h.get? b = some o → H b = none → b ∈ fs → b ∉ ex → ∃ sl, h'.get? b = some { o with slots := sl }
  free : ∀ b o, h.get? b = some o → H b = none → b ∉ ex → H' b = none
  there : ∀ b o, h.get? b = some o → b ∉ ex → ∃ o', h'.get? b = some o'
  tups : ∀ b xs, H b = some (.tup xs) → H' b = some (.tup xs)
  frzs : ∀ b o u, H b = some (.frz o u) → H' b = some (.frz o u)
  tbls : ∀ b ps, H b = some (.tbl ps) → ∃ more, H' b = some (.tbl (ps ++ more))
section
variable {fs fs' ex ex' : List Addr} {H H1 H2 : Hp} {h h1 h2 h' : Heap} {a x e : Addr} {o : HO}
theorem Un.any (u : Un fs ex H H1 h h1) {b : Addr} {ob : Obj} (q : h.get? b = some ob) (n : H b = none) (hx : b ∉ ex) : ∃ sl, h1.get? b = some { ob with slots := sl } := by
  by_cases hb : b ∈ fs
  · exact u.slot b ob q n hb hx
  · exact ⟨ob.slots, u.keep b ob q n hb hx⟩
theorem Un.trans (a : Un fs ex H H1 h h1) (b : Un fs ex H1 H2 h1 h2) : Un fs ex H H2 h h2 where
  keep := fun c ob q n hc hx => b.keep c ob (a.keep c ob q n hc hx) (a.free c ob q n hx) hc hx
  slot := fun c ob q n hc hx => by
    obtain ⟨sl, e1⟩ := a.slot c ob q n hc hx
    obtain ⟨sl', e2⟩ := b.slot c _ e1 (a.free c ob q n hx) hc hx
    exact ⟨sl', e2⟩
  free := fun c ob q n hx => by
    obtain ⟨o', e1⟩ := a.there c ob q hx
    exact b.free c o' e1 (a.free c ob q n hx) hx
  there := fun c ob q hx => by
    obtain ⟨o', e1⟩ := a.there c ob q hx
    exact b.there c o' e1 hx
  tups := fun c xs q => b.tups c xs (a.tups c xs q)
  frzs := fun c ob xs q => b.frzs c ob xs (a.frzs c ob xs q)
  tbls := fun c ps q => by
    obtain ⟨m1, e1⟩ := a.tbls c ps q
    obtain ⟨m2, e2⟩ := b.tbls c _ e1
    exact ⟨m1 ++ m2, by rw [e2, Array.append_assoc]⟩
theorem Un.kept (k : ∀ b u, h.get? b = some u → h'.get? b = some u) : Un fs ex H H h h' :=
  ⟨fun b ob q _ _ _ => k b ob q, fun b ob q _ _ _ => ⟨ob.slots, k b ob q⟩, fun _ _ _ n _ => n, fun b ob q _ => ⟨ob, k b ob q⟩, fun _ _ q => q, fun _ _ _ q => q, fun _ ps q => ⟨#[], by rw [q]; simp⟩⟩
theorem Un.refl : Un fs ex H H h h := Un.kept fun _ _ q => q
theorem Un.laid (k : ∀ b u, h.get? b = some u → h'.get? b = some u) (hp : h.objs.size ≤ a) (hn : H a = none) : Un fs ex H (upd H a o) h h' where
  keep := fun b u q _ _ _ => k b u q
  slot := fun b u q _ _ _ => ⟨u.slots, k b u q⟩
  free := fun b u q n _ => by rw [upd_ne (Nat.ne_of_lt (Nat.lt_of_lt_of_le (Heap.lt_size q) hp))]; exact n
  there := fun b u q _ => ⟨u, k b u q⟩
  tups := fun b xs q => by rw [upd_ne (ne_of_none q hn)]; exact q
  frzs := fun b u xs q => by rw [upd_ne (ne_of_none q hn)]; exact q
  tbls := fun b ps q => ⟨#[], by rw [upd_ne (ne_of_none q hn), q]; simp⟩
theorem Un.mono (u : Un fs ex H H1 h h1) (hs : ∀ b ∈ fs, b ∈ fs') (hx : ∀ b ∈ ex, b ∈ ex') : Un fs' ex' H H1 h h1 :=
  ⟨fun b ob q n hb he => u.keep b ob q n (fun z => hb (hs b z)) fun z => he (hx b z), fun _ _ q n _ he => u.any q n fun z => he (hx _ z), fun b ob q n he => u.free b ob q n fun z => he (hx b z), fun b ob q he => u.there b ob q fun z => he (hx b z), u.tups, u.frzs, u.tbls⟩
end
def trk (h : Heap) (H : Hp) : List Addr := (List.range h.objs.size).filter fun a => (H a).isSome
def hidT (h : Heap) (H : Hp) : Heap := PySem.W.hideAll h (trk h H)
theorem hidT_size (h : Heap) (H : Hp) : (hidT h H).objs.size = h.objs.size := PySem.W.hideAll_size _ _
theorem hidT_get {h : Heap} {H : Hp} {b : Addr} {o : Obj} (e : h.get? b = some o) (n : H b = none) : (hidT h H).get? b = some o :=
  PySem.W.hideAll_get _ e fun hm => by
    have q : (H b).isSome = true := (List.mem_filter.mp hm).2
    rw [n] at q; simp at q
theorem of_hidT {h : Heap} {H : Hp} {b : Addr} {o : Obj} (e : (hidT h H).get? b = some o) : h.get? b = some o ∧ H b = none := by
  have e' : h.get? b = some o := PySem.W.of_hideAll (trk h H) e
  refine ⟨e', ?_⟩
  cases q : H b with
  | none => rfl
  | some x =>
    have hm : b ∈ trk h H := List.mem_filter.mpr ⟨List.mem_range.mpr (Heap.lt_size e'), by simp [q]⟩
    have z : (hidT h H).get? b = none := PySem.W.hideAll_none (trk h H) hm
    rw [z] at e; cases e
def allNews (g h : Heap) (L : Addr) : List (Addr × Obj) := (List.range h.objs.size).filterMap fun a => if a = L ∨ (g.get? a).isSome = true then none else (h.get? a).map fun o => (a, o)
def rest (g h : Heap) (L d : Addr) : List (Addr × Obj) := (allNews g h L).filter fun p => decide (p.1 ≠ d)
end L2
namespace L2
open PySem PySem.Spec PyProof.Rows
structure Mod (K : PySem.W.Frag) (mg : Str → Option Value) (base : Heap) : Prop where
  kin : K.In base
  glob : base.Ns mainGlobals mg
  blt : ∃ mb, base.Ns builtinsNs mb ∧ ∀ x : Str, x ≠ "__name__" → mb x = bootBuiltins x
  nolimit : base.NoLimit
structure Cx where
  prog : Program
  w : World
  K : PySem.W.Frag
  mg : Str → Option Value
  base : Heap
  A : Around
  N : List Str
  s₀ : Shared
  H₀ : Hp
  env : Env
  outer : List Env
  stack : List Env
  ex : List Addr
  fn : Str → Bool
  calm : Bool
  pn : List (Addr × Obj)
  xe : Value → Shared → Prop
def frs (l : List Env) : List Addr := l.filterMap (·.frame)
abbrev Cx.fs (X : Cx) : List Addr := frs X.outer
def Vis (sc : Scope) (x : Str) : Prop := sc.names.lookup x = some .local ∨ sc.names.lookup x = some .cell ∨ sc.names.lookup x = some .free
def Loc (sc : Scope) (x : Str) : Prop := sc.names.lookup x = some .local ∨ sc.names.lookup x = some .cell
def Look (env : Env) (h : Heap) (m : Str → Option Value) (x : Str) (u : Value) : Prop :=
  (env.kindOf x = some .local ∧ m x = some u) ∨ ((env.kindOf x = some .cell ∨ env.kindOf x = some .free) ∧ ∃ c, env.cells.lookup x = some c ∧ h.IsCell c (some u))
structure Cx.Ok (X : Cx) : Prop where
  mod : Mod X.K X.mg X.base
  kind : X.env.scope.kind = .function
  glob : X.env.globals = mainGlobals
  blt : X.env.builtins = builtinsNs
  above : X.s₀.heap.objs.size ≤ X.env.locals
  inj : ∀ x y c, X.env.cells.lookup x = some c → X.env.cells.lookup y = some c → x = y
  has : ∀ x, (X.env.kindOf x = some .cell ∨ X.env.kindOf x = some .free) → ∃ c, X.env.cells.lookup x = some c
  cab : ∀ x c, X.fn x = true → X.env.cells.lookup x = some c → X.s₀.heap.objs.size ≤ c
  hd : X.calm = true → X.A.handled = none
  frames : X.A.frames = some X.stack
  stk : X.stack = X.outer ∨ (X.stack = X.env :: X.outer ∧ X.env.frame = some X.env.locals)
  exf : ∀ b ∈ X.ex, b ≠ X.env.locals ∧ ∀ x c, X.env.cells.lookup x = some c → c ≠ b
  bs : ∀ b o, X.base.get? b = some o → X.s₀.heap.get? b = some o ∧ X.H₀ b = none
  bsz : X.base.objs.size ≤ X.s₀.heap.objs.size
  noex : ∀ b o, X.base.get? b = some o → b ∉ X.ex
  exfs : ∀ b ∈ X.ex, b ∉ X.fs
  funs : X.s₀.heap.FunFrames X.base X.outer
  frf : ∀ b ∈ X.fs, X.H₀ b = none
structure Inv (X : Cx) (pins : List (Addr × Obj)) (σ : List (Option V)) (H : Hp) (s : Shared) : Prop where
  ok : X.Ok
  os : s.os = X.s₀.os
  bare : AllBare s.gens
  base : Un X.fs X.ex X.H₀ H X.s₀.heap s.heap
  loc : ∃ m, s.heap.Ns X.env.locals m ∧ ∀ (i : Nat) (x : Str) (v : V), X.N[i]? = some x → σ[i]? = some (some v) → Vis X.env.scope x → ∃ u, RelV v u ∧ Look X.env s.heap m x u
  cell : ∀ x c, X.env.cells.lookup x = some c → ∃ v, s.heap.IsCell c v
  free : H X.env.locals = none
  freeC : ∀ x c, X.env.cells.lookup x = some c → H c = none
  pin : ∀ p ∈ X.pn ++ pins, s.heap.get? p.1 = some p.2 ∧ H p.1 = none ∧ p.1 ≠ X.env.locals ∧ p.1 ∉ X.fs ∧ ∀ v, p.2.data ≠ .cell v
  hok : HOk X.prog X.w H s.heap
  len : σ.length = X.N.length
section
variable {X : Cx} {pins : List (Addr × Obj)} {σ : List (Option V)} {H H' : Hp} {s : Shared} {h' : Heap}
theorem Cx.Ok.nofr (ok : X.Ok) {b : Addr} {o : Obj} (e : X.base.get? b = some o) : b ∉ X.fs := fun hb => by
  have := (ok.funs.mem hb).1
  rw [e] at this; cases this
theorem Inv.bs (I : Inv X pins σ H s) : ∀ b o, X.base.get? b = some o → s.heap.get? b = some o ∧ H b = none := fun b o e =>
  ⟨I.base.keep b o (I.ok.bs b o e).1 (I.ok.bs b o e).2 (I.ok.nofr e) (I.ok.noex b o e), I.base.free b o (I.ok.bs b o e).1 (I.ok.bs b o e).2 (I.ok.noex b o e)⟩
theorem Inv.bk (I : Inv X pins σ H s) : ∀ b o, X.base.get? b = some o → s.heap.get? b = some o := fun b o e => (I.bs b o e).1
theorem Inv.mod (I : Inv X pins σ H s) : Mod X.K X.mg X.base := I.ok.mod
theorem Inv.kIn (I : Inv X pins σ H s) : X.K.In s.heap := I.ok.mod.kin.keeps I.bk
theorem Inv.nolimit (I : Inv X pins σ H s) : s.heap.NoLimit := I.ok.mod.nolimit.keeps I.bk
theorem Inv.fr (I : Inv X pins σ H s) : ∃ m, Fr X.base X.env.locals s.heap m :=
  let ⟨m, hn, _⟩ := I.loc
  ⟨m, hn, I.bk, Nat.le_trans I.ok.bsz I.ok.above⟩
theorem Inv.lt (I : Inv X pins σ H s) : X.env.locals < s.heap.objs.size := let ⟨_, hn, _⟩ := I.loc; hn.lt
theorem Inv.sz (I : Inv X pins σ H s) : X.s₀.heap.objs.size ≤ s.heap.objs.size := Nat.le_trans I.ok.above (Nat.le_of_lt I.lt)
theorem Inv.nofs (I : Inv X pins σ H s) {a : Addr} (h : s.heap.objs.size ≤ a) : a ∉ X.fs := fun hb => by
  obtain ⟨_, o, ho, _⟩ := I.ok.funs.mem hb
  exact absurd (Nat.lt_of_lt_of_le (Heap.lt_size ho) (Nat.le_trans I.sz h)) (Nat.lt_irrefl _)
theorem Inv.cne (I : Inv X pins σ H s) : ∀ x c, X.env.cells.lookup x = some c → c ≠ X.env.locals := fun x c e z => by
  obtain ⟨v, o, ho, hd⟩ := I.cell x c e
  obtain ⟨m, ⟨o', es, ep, ho', hd', _⟩, _⟩ := I.loc
  rw [z, ho'] at ho; cases ho; rw [hd'] at hd; cases hd
theorem Inv.funs (I : Inv X pins σ H s) : s.heap.FunFrames X.base X.outer := by
  have all : ∀ (l : List Env), (∀ b ∈ frs l, b ∈ X.fs) → X.s₀.heap.FunFrames X.base l → s.heap.FunFrames X.base l := by
    intro l
    induction l with
    | nil => intro _ _; trivial
    | cons env r ih =>
      intro hs hl
      obtain ⟨hk, ⟨L, o, hf, hn, ho, hd⟩, hr⟩ := hl
      have hL : L ∈ X.fs := hs L (by unfold frs; rw [List.filterMap_cons, hf]; exact List.mem_cons_self)
      obtain ⟨sl, e⟩ := I.base.slot L o ho (I.ok.frf L hL) hL fun z => I.ok.exfs L z hL
      exact ⟨hk, ⟨L, _, hf, hn, e, hd⟩, ih (fun b hb => hs b (by unfold frs; rw [List.filterMap_cons, hf]; exact List.mem_cons_of_mem _ hb)) hr⟩
  exact all X.outer (fun _ hb => hb) I.ok.funs
theorem Inv.stack (I : Inv X pins σ H s) : s.heap.FunFrames X.base X.stack := by
  rcases I.ok.stk with e | ⟨e, hf⟩
  · rw [e]; exact I.funs
  · rw [e]
    obtain ⟨m, hn, _⟩ := I.loc
    refine .cons (by rw [I.ok.kind]; decide) hf hn ?_ I.funs
    exact Heap.get?_none_of_le (Nat.le_trans I.ok.bsz I.ok.above)
theorem Inv.stkSub (I : Inv X pins σ H s) : ∀ b ∈ frs X.stack, b ∈ X.env.locals :: X.fs := fun b hb => by
  rcases I.ok.stk with e | ⟨e, hf⟩
  · rw [e] at hb; exact List.mem_cons_of_mem _ hb
  · rw [e] at hb
    unfold frs at hb
    rw [List.filterMap_cons, hf] at hb
    exact hb
theorem Inv.stkFree (I : Inv X pins σ H s) : ∀ b ∈ frs X.stack, H b = none := fun b hb => by
  rcases List.mem_cons.mp (I.stkSub b hb) with e | hb
  · rw [e]; exact I.free
  · obtain ⟨_, o, ho, _⟩ := I.ok.funs.mem hb
    exact I.base.free b o ho (I.ok.frf b hb) fun z => I.ok.exfs b z hb
theorem Inv.step {g' : Array GenState} {t' : Nat} {d' : Drawn} {ch : List Addr} (I : Inv X pins σ H s)
    (hch : ∀ b ∈ ch, (b ∈ X.ex ∨ X.s₀.heap.objs.size ≤ b) ∧ b ≠ X.env.locals ∧ (∀ x c, X.env.cells.lookup x = some c → c ≠ b) ∧ ∀ p ∈ X.pn ++ pins, p.1 ≠ b)
    (keep : ∀ b o, b ≠ X.env.locals → b ∉ X.fs → b ∉ ch → s.heap.get? b = some o → H b = none → h'.get? b = some o)
    (slot : ∀ b o, b ≠ X.env.locals → b ∈ X.fs → b ∉ ch → s.heap.get? b = some o → H b = none → ∃ sl, h'.get? b = some { o with slots := sl }) (free : ∀ b o, b ∉ ch → s.heap.get? b = some o → H b = none → H' b = none)
    (there : ∀ b o, b ∉ ch → s.heap.get? b = some o → ∃ o', h'.get? b = some o')
    (tups : ∀ b xs, H b = some (.tup xs) → H' b = some (.tup xs)) (frzs : ∀ b o u, H b = some (.frz o u) → H' b = some (.frz o u)) (tbls : ∀ b ps, H b = some (.tbl ps) → ∃ more, H' b = some (.tbl (ps ++ more)))
    (ns : ∀ m, s.heap.Ns X.env.locals m → h'.Ns X.env.locals m) (hok : HOk X.prog X.w H' h') (hg : AllBare g') :
    Inv X pins σ H' { s with heap := h', gens := g', drawn := d', toks := t' } := by
  have neL : ∀ b o, X.s₀.heap.get? b = some o → b ≠ X.env.locals := fun b o e => Nat.ne_of_lt (Nat.lt_of_lt_of_le (Heap.lt_size e) I.ok.above)
  have neC : ∀ b o, X.s₀.heap.get? b = some o → b ∉ X.ex → b ∉ ch := fun b o e hx hb => by
    rcases (hch b hb).1 with z | z
    · exact hx z
    · exact absurd (Nat.lt_of_lt_of_le (Heap.lt_size e) z) (Nat.lt_irrefl _)
  have cellK : ∀ x c, X.env.cells.lookup x = some c → ∀ v, s.heap.IsCell c v → h'.IsCell c v := fun x c e v ⟨o, ho, hd⟩ => by
    have nch : c ∉ ch := fun z => (hch c z).2.2.1 x c e rfl
    by_cases hc : c ∈ X.fs
    · obtain ⟨sl, q⟩ := slot c o (I.cne x c e) hc nch ho (I.freeC x c e)
      exact ⟨_, q, hd⟩
    · exact ⟨o, keep c o (I.cne x c e) hc nch ho (I.freeC x c e), hd⟩
  refine ⟨I.ok, I.os, hg, ⟨fun b o e n hb hx => ?_, fun b o e n hb hx => ?_, fun b o e n hx => ?_, fun b o e hx => ?_, fun b xs e => tups b xs (I.base.tups b xs e), fun b o xs e => frzs b o xs (I.base.frzs b o xs e), fun b ps e => ?_⟩, ?_, fun x c e => ?_, ?_, fun x c e => ?_, fun p hp => ?_, hok, I.len⟩
  · exact keep b o (neL b o e) hb (neC b o e hx) (I.base.keep b o e n hb hx) (I.base.free b o e n hx)
  · obtain ⟨sl, e1⟩ := I.base.slot b o e n hb hx
    obtain ⟨sl', e2⟩ := slot b _ (neL b o e) hb (neC b o e hx) e1 (I.base.free b o e n hx)
    exact ⟨sl', e2⟩
  · obtain ⟨o', e1⟩ := I.base.there b o e hx
    exact free b o' (neC b o e hx) e1 (I.base.free b o e n hx)
  · obtain ⟨o', e1⟩ := I.base.there b o e hx
    exact there b o' (neC b o e hx) e1
  · obtain ⟨m1, e1⟩ := I.base.tbls b ps e
    obtain ⟨m2, e2⟩ := tbls b _ e1
    exact ⟨m1 ++ m2, by rw [e2, Array.append_assoc]⟩
  · obtain ⟨m, hn, hl⟩ := I.loc
    refine ⟨m, ns m hn, fun i x v e1 e2 e3 => ?_⟩
    obtain ⟨u, r, l⟩ := hl i x v e1 e2 e3
    refine ⟨u, r, ?_⟩
    rcases l with l | ⟨k, c, e, z⟩
    · exact .inl l
    · exact .inr ⟨k, c, e, cellK x c e _ z⟩
  · obtain ⟨v, z⟩ := I.cell x c e
    exact ⟨v, cellK x c e v z⟩
  · obtain ⟨m, ⟨o, _, _, ho, _⟩, _⟩ := I.loc
    exact free _ o (fun z => (hch _ z).2.1 rfl) ho I.free
  · obtain ⟨v, o, ho, hd⟩ := I.cell x c e
    exact free c o (fun z => (hch c z).2.2.1 x c e rfl) ho (I.freeC x c e)
  · obtain ⟨e, n, ne, nf, d⟩ := I.pin p hp
    have nch : p.1 ∉ ch := fun z => (hch p.1 z).2.2.2 p hp rfl
    exact ⟨keep p.1 p.2 ne nf nch e n, free p.1 p.2 nch e n, ne, nf, d⟩
theorem Inv.un {t' : Nat} (I : Inv X pins σ H s) (u : Un X.fs [] H H' s.heap h') (hok : HOk X.prog X.w H' h') : Inv X pins σ H' { s with heap := h', toks := t' } := by
  obtain ⟨m, ⟨o, es, ep, ho, r⟩, _⟩ := id I.loc
  obtain ⟨sl, hL⟩ := u.any ho I.free (by simp)
  exact I.step (g' := s.gens) (d' := s.drawn) (ch := []) (fun _ z => nomatch z) (fun b o _ hb _ e n => u.keep b o e n hb (by simp)) (fun b o _ hb _ e n => u.slot b o e n hb (by simp)) (fun b o _ e n => u.free b o e n (by simp)) (fun b o _ e => u.there b o e (by simp)) u.tups u.frzs u.tbls (fun m' hm => by
    obtain ⟨o', es', ep', ho', r'⟩ := hm
    rw [ho] at ho'; cases ho'
    exact ⟨_, es', ep', hL, r'⟩) hok I.bare
theorem Inv.call {g' : Array GenState} {t' : Nat} {d' : Drawn} {ch : List Addr} (I : Inv X pins σ H s) (u : Un (frs X.stack) ch H H' s.heap h') (hok : HOk X.prog X.w H' h') (hg : AllBare g')
    (hch : ∀ b ∈ ch, (b ∈ X.ex ∨ X.s₀.heap.objs.size ≤ b) ∧ b ≠ X.env.locals ∧ (∀ x c, X.env.cells.lookup x = some c → c ≠ b) ∧ ∀ p ∈ X.pn ++ pins, p.1 ≠ b) :
    Inv X pins σ H' { s with heap := h', gens := g', drawn := d', toks := t' } := by
  obtain ⟨m, ⟨o, es, ep, ho, r⟩, _⟩ := id I.loc
  obtain ⟨sl, hL⟩ := u.any ho I.free fun z => (hch _ z).2.1 rfl
  exact I.step (ch := ch) hch (fun b o hL hb hc e n => u.keep b o e n (fun z => (List.mem_cons.mp (I.stkSub b z)).elim hL hb) hc) (fun b o _ _ hc e n => u.any e n hc) (fun b o hc e n => u.free b o e n hc) (fun b o hc e => u.there b o e hc) u.tups u.frzs u.tbls (fun m' hm => by
    obtain ⟨o', es', ep', ho', r'⟩ := hm
    rw [ho] at ho'; cases ho'
    exact ⟨_, es', ep', hL, r'⟩) hok hg
theorem Inv.turned {t' : Nat} {it : Addr} (I : Inv X pins σ H s) (k : ∀ b o, b ≠ it → s.heap.get? b = some o → h'.get? b = some o) (hn : H it = none) (hL : it ≠ X.env.locals)
    (h1 : it ∈ X.ex ∨ X.s₀.heap.objs.size ≤ it) (h2 : ∀ x c, X.env.cells.lookup x = some c → c ≠ it) (h3 : ∀ p ∈ X.pn ++ pins, p.1 ≠ it) : Inv X pins σ H { s with heap := h', toks := t' } := by
  have nit : ∀ b u, H b = some u → b ≠ it := fun b u e z => by rw [z, hn] at e; cases e
  refine I.step (g' := s.gens) (d' := s.drawn) (ch := [it]) (fun b hb => ?_) (fun b o _ _ hc e _ => k b o (fun z => hc (by simp [z])) e) (fun b o _ _ hc e _ => ⟨o.slots, k b o (fun z => hc (by simp [z])) e⟩) (fun _ _ _ _ n => n)
    (fun b o hc e => ⟨o, k b o (fun z => hc (by simp [z])) e⟩) (fun _ _ e => e) (fun _ _ _ e => e) (fun b ps e => ⟨#[], by rw [e]; simp⟩) (fun m hm => ?_) (fun b u e => ?_) I.bare
  · have e : b = it := by simpa using hb
    subst e
    exact ⟨h1, hL, h2, h3⟩
  · obtain ⟨o, es, ep, ho, r⟩ := hm
    exact ⟨o, es, ep, k _ o (Ne.symm hL) ho, r⟩
  · refine (I.hok b u e).stay (fun c v hc q => k c v ?_ q) (fun _ q => q) fun _ _ q => q
    rcases hc with z | z
    · rw [z]; exact nit b u e
    · exact nit c _ z
theorem Inv.tok (I : Inv X pins σ H s) (t : Nat) : Inv X pins σ H { s with toks := t } := I.un (h' := s.heap) (t' := t) Un.refl I.hok
theorem Inv.kept {t' : Nat} (I : Inv X pins σ H s) (k : ∀ b u, s.heap.get? b = some u → h'.get? b = some u) : Inv X pins σ H { s with heap := h', toks := t' } := I.un (Un.kept k) (I.hok.kept k)
theorem Inv.laid {a : Addr} {o : HO} {t' : Nat} (I : Inv X pins σ H s) (k : ∀ b u, s.heap.get? b = some u → h'.get? b = some u) (hp : s.heap.objs.size ≤ a) (new : ObjOk X.prog X.w (upd H a o) h' a o) :
    Inv X pins σ (upd H a o) { s with heap := h', toks := t' } := I.un (Un.laid k hp (I.hok.fresh hp)) (I.hok.laid k hp new)
theorem Inv.weak {σ' : List (Option V)} (I : Inv X pins σ H s) (hl : σ'.length = σ.length) (w : ∀ (i : Nat) v, σ'[i]? = some (some v) → σ[i]? = some (some v)) : Inv X pins σ' H s :=
  ⟨I.ok, I.os, I.bare, I.base, let ⟨m, hn, hl'⟩ := I.loc; ⟨m, hn, fun i x v e1 e2 e3 => hl' i x v e1 (w i v e2) e3⟩, I.cell, I.free, I.freeC, I.pin, I.hok, hl.trans I.len⟩
theorem Inv.pins_of {pins' : List (Addr × Obj)} (I : Inv X pins σ H s) (h : ∀ p ∈ pins', s.heap.get? p.1 = some p.2 ∧ H p.1 = none ∧ p.1 ≠ X.env.locals ∧ p.1 ∉ X.fs ∧ ∀ v, p.2.data ≠ .cell v) : Inv X pins' σ H s :=
  ⟨I.ok, I.os, I.bare, I.base, I.loc, I.cell, I.free, I.freeC, fun p hp => (List.mem_append.mp hp).elim (fun z => I.pin p (List.mem_append_left _ z)) (h p), I.hok, I.len⟩
theorem nodup_ix {N : List Str} (hN : N.Nodup) {i j : Nat} {x : Str} (a : N[i]? = some x) (b : N[j]? = some x) : i = j := by
  obtain ⟨h1, e1⟩ := List.getElem?_eq_some_iff.mp a
  obtain ⟨h2, e2⟩ := List.getElem?_eq_some_iff.mp b
  exact (List.getElem_inj hN).mp (e1.trans e2.symm)
theorem store_ok2 {M : Model} {A : Around} {E : Value → Shared → Prop} {i : Nat} {x : Str} {v : V} {u : Value} {Q : Unit → Shared → Prop} (I : Inv X pins σ H s) (hN : X.N.Nodup) (hi : X.N[i]? = some x) (hx : Loc X.env.scope x) (r : RelV v u)
    (h : ∀ s', Inv X pins (σ.set i (some v)) H s' → (∃ a, Heap.SameBut a s.heap s'.heap ∧ (a = X.env.locals ∨ X.env.cells.lookup x = some a)) → Q () s') (hf : X.fn x = true ∨ X.env.scope.names.lookup x = some .local := by first | exact .inl rfl | exact .inr rfl | assumption) : wpAny M A (storeName X.env x u) Q E s := by
  obtain ⟨m, hn, hl⟩ := id I.loc
  have hcls : (X.env.scope.kind == .class || (X.env.scope.kind == .module && X.env.locals != X.env.globals)) = false := by rw [I.ok.kind]; rfl
  have hiσ : i < σ.length := by rw [I.len]; exact (List.getElem?_eq_some_iff.mp hi).1
  have cne := I.cne
  have tracked : ∀ {a : Addr} {h' : Heap}, (∃ o, s.heap.get? a = some o ∧ H a = none) → Heap.SameBut a s.heap h' → HOk X.prog X.w H h' := fun {a h'} ha hs b ob e => by
    obtain ⟨_, _, hfree⟩ := ha
    refine (I.hok b ob e).stay (fun c w' hc q => (hs.2 c ?_).trans q) (fun _ q => q) fun _ _ q => q
    rintro rfl
    rcases hc with rfl | hc
    · rw [hfree] at e; cases e
    · rw [hfree] at hc; cases hc
  rcases hx with hk | hk
  · refine wpAny_storeName_local hk hn (fun h' hn' hs => ?_) hcls
    obtain ⟨oL, _, _, hoL, _⟩ := id hn
    refine h _ ⟨I.ok, I.os, I.bare, ⟨fun b o e n hb hx => ?_, fun b o e n hb hx => ?_, I.base.free, fun b o e hx => ?_, I.base.tups, I.base.frzs, I.base.tbls⟩, ⟨_, hn', fun j y v' e1 e2 e3 => ?_⟩, fun y c e => ?_, I.free, I.freeC, fun p hp => ?_, tracked ⟨oL, hoL, I.free⟩ hs, by simpa using I.len⟩ ⟨_, hs, .inl rfl⟩
    · exact (hs.2 b (Nat.ne_of_lt (Nat.lt_of_lt_of_le (Heap.lt_size e) I.ok.above))).trans (I.base.keep b o e n hb hx)
    · obtain ⟨sl, e1⟩ := I.base.slot b o e n hb hx
      exact ⟨sl, (hs.2 b (Nat.ne_of_lt (Nat.lt_of_lt_of_le (Heap.lt_size e) I.ok.above))).trans e1⟩
    · obtain ⟨o', e1⟩ := I.base.there b o e hx
      exact ⟨o', (hs.2 b (Nat.ne_of_lt (Nat.lt_of_lt_of_le (Heap.lt_size e) I.ok.above))).trans e1⟩
    · by_cases hj : j = i
      · subst hj
        rw [hi] at e1; cases e1
        rw [List.getElem?_set_self hiσ] at e2
        cases e2
        exact ⟨u, r, .inl ⟨hk, by simp⟩⟩
      · rw [List.getElem?_set_ne (Ne.symm hj)] at e2
        obtain ⟨u', r', q⟩ := hl j y v' e1 e2 e3
        refine ⟨u', r', ?_⟩
        rcases q with ⟨k, e⟩ | ⟨k, c, e, z⟩
        · refine .inl ⟨k, ?_⟩
          have : y ≠ x := fun e => hj (nodup_ix hN e1 (e ▸ hi))
          simp [this, e]
        · exact .inr ⟨k, c, e, z.sameBut hs (cne y c e)⟩
    · obtain ⟨w', z⟩ := I.cell y c e
      exact ⟨w', z.sameBut hs (cne y c e)⟩
    · obtain ⟨e, n, ne, nf, d⟩ := I.pin p hp
      exact ⟨(hs.2 p.1 ne).trans e, n, ne, nf, d⟩
  · have hfn : X.fn x = true := by
      rcases hf with z | z
      · exact z
      · rw [z] at hk; cases hk
    obtain ⟨c, hc⟩ := I.ok.has x (.inl hk)
    obtain ⟨w', z⟩ := I.cell x c hc
    refine wpAny_storeName_cell I.ok.kind hk hc z (fun h' hc' hs => ?_)
    obtain ⟨oc, hoc, hocd⟩ := id z
    refine h { s with heap := h' } ⟨I.ok, I.os, I.bare, ⟨fun b o e n hb hx => ?_, fun b o e n hb hx => ?_, I.base.free, fun b o e hx => ?_, I.base.tups, I.base.frzs, I.base.tbls⟩, ⟨m, hn.sameBut hs (Ne.symm (cne x c hc)), fun j y v' e1 e2 e3 => ?_⟩, fun y c' e => ?_, I.free, I.freeC, fun p hp => ?_, tracked ⟨oc, hoc, I.freeC x c hc⟩ hs, by simpa using I.len⟩ ⟨c, hs, .inr hc⟩
    · exact (hs.2 b (Nat.ne_of_lt (Nat.lt_of_lt_of_le (Heap.lt_size e) (I.ok.cab x c hfn hc)))).trans (I.base.keep b o e n hb hx)
    · obtain ⟨sl, e1⟩ := I.base.slot b o e n hb hx
      exact ⟨sl, (hs.2 b (Nat.ne_of_lt (Nat.lt_of_lt_of_le (Heap.lt_size e) (I.ok.cab x c hfn hc)))).trans e1⟩
    · obtain ⟨o', e1⟩ := I.base.there b o e hx
      exact ⟨o', (hs.2 b (Nat.ne_of_lt (Nat.lt_of_lt_of_le (Heap.lt_size e) (I.ok.cab x c hfn hc)))).trans e1⟩
    · by_cases hj : j = i
      · subst hj
        rw [hi] at e1; cases e1
        rw [List.getElem?_set_self hiσ] at e2
        cases e2
        exact ⟨u, r, .inr ⟨.inl hk, c, hc, hc'⟩⟩
      · rw [List.getElem?_set_ne (Ne.symm hj)] at e2
        obtain ⟨u', r', q⟩ := hl j y v' e1 e2 e3
        refine ⟨u', r', ?_⟩
        rcases q with q | ⟨k, c', e, z'⟩
        · exact .inl q
        · refine .inr ⟨k, c', e, z'.sameBut hs ?_⟩
          rintro rfl
          exact hj (nodup_ix hN e1 (I.ok.inj _ _ _ e hc ▸ hi))
    · by_cases hcc : c' = c
      · subst hcc; exact ⟨_, hc'⟩
      · obtain ⟨w2, z2⟩ := I.cell y c' e
        exact ⟨w2, z2.sameBut hs hcc⟩
    · obtain ⟨e, n, ne, nf, d⟩ := I.pin p hp
      refine ⟨(hs.2 p.1 ?_).trans e, n, ne, nf, d⟩
      intro q
      rw [q, hoc] at e
      have q' : oc = p.2 := Option.some.inj e
      exact d w' (by rw [← q']; exact hocd)
theorem store_ok {M : Model} {A : Around} {E : Value → Shared → Prop} {i : Nat} {x : Str} {v : V} {u : Value} {Q : Unit → Shared → Prop} (I : Inv X pins σ H s) (hN : X.N.Nodup) (hi : X.N[i]? = some x) (hx : Loc X.env.scope x) (r : RelV v u)
    (h : ∀ s', Inv X pins (σ.set i (some v)) H s' → Q () s') (hf : X.fn x = true ∨ X.env.scope.names.lookup x = some .local := by first | exact .inl rfl | exact .inr rfl | assumption) : wpAny M A (storeName X.env x u) Q E s :=
  store_ok2 I hN hi hx r (fun s' I' _ => h s' I') hf
theorem Inv.call' {s' : Shared} {ch : List Addr} (I : Inv X pins σ H s) (ho : s'.os = s.os) (u : Un (frs X.stack) ch H H' s.heap s'.heap) (hok : HOk X.prog X.w H' s'.heap) (hg : AllBare s'.gens)
    (hch : ∀ b ∈ ch, (b ∈ X.ex ∨ X.s₀.heap.objs.size ≤ b) ∧ b ≠ X.env.locals ∧ (∀ x c, X.env.cells.lookup x = some c → c ≠ b) ∧ ∀ p ∈ X.pn ++ pins, p.1 ≠ b) : Inv X pins σ H' s' := by
  obtain ⟨h', g', d', t', o'⟩ := s'
  have e : o' = s.os := ho
  subst e
  exact I.call (g' := g') (t' := t') (d' := d') u hok hg hch
end
abbrev XK := Value → Option Addr → Hp → Prop
abbrev St := List (Option V)
abbrev VK := V → Hp → Prop
abbrev TE := St → Hp → VK → Prop
abbrev TT := St → Hp → (Bool → Hp → Prop) → Prop
abbrev TA := St → Hp → (List V → Hp → Prop) → Prop
structure Ends where
  nx : St → Hp → Prop
  rt : VK
  bk : St → Hp → Prop := fun _ _ => False
  ct : St → Hp → Prop := fun _ _ => False
abbrev TS := Ends → St → Hp → Prop
def EP (X : Cx) (pins : List (Addr × Obj)) (σ : St) (Q : VK) (u : Value) (s' : Shared) : Prop := ∃ v H', Inv X pins σ H' s' ∧ RelV v u ∧ Q v H'
def TP (X : Cx) (pins : List (Addr × Obj)) (σ : St) (Q : Bool → Hp → Prop) (b : Bool) (s' : Shared) : Prop := ∃ H', Inv X pins σ H' s' ∧ Q b H'
def AP (X : Cx) (pins : List (Addr × Obj)) (σ : St) (Q : List V → Hp → Prop) (us : List Value) (s' : Shared) : Prop := ∃ vs H', Inv X pins σ H' s' ∧ Vals vs us ∧ Q vs H'
def SP (X : Cx) (pins : List (Addr × Obj)) (D : Ends) (f : Flow) (s' : Shared) : Prop :=
  match f with
  | .next => ∃ σ' H', Inv X pins σ' H' s' ∧ D.nx σ' H'
  | .brk => ∃ σ' H', Inv X pins σ' H' s' ∧ D.bk σ' H'
  | .cont => ∃ σ' H', Inv X pins σ' H' s' ∧ D.ct σ' H'
  | .ret u => ∃ v σ' H', Inv X pins σ' H' s' ∧ RelV v u ∧ D.rt v H'
def PE (X : Cx) (e : Expr) (t : TE) : Prop :=
  ∀ (pins : List (Addr × Obj)) (s : Shared) (σ : St) (H : Hp) (Q : VK), Inv X pins σ H s → t σ H Q → wpAny (model X.prog X.w) X.A (eval e X.env) (EP X pins σ Q) X.xe s
def PT (X : Cx) (e : Expr) (t : TT) : Prop :=
  ∀ (pins : List (Addr × Obj)) (s : Shared) (σ : St) (H : Hp) (Q : Bool → Hp → Prop), Inv X pins σ H s → t σ H Q → wpAny (model X.prog X.w) X.A (isTrue e X.env (eval e X.env)) (TP X pins σ Q) X.xe s
def PW (X : Cx) (e : Expr) (t : TT) : Prop :=
  ∀ (whole : Sem Value) (pins : List (Addr × Obj)) (s : Shared) (σ : St) (H : Hp) (Q : Bool → Hp → Prop), Inv X pins σ H s → t σ H Q → wpAny (model X.prog X.w) X.A (isTrue e X.env whole) (TP X pins σ Q) X.xe s
theorem PW.pt {X : Cx} {e : Expr} {t : TT} (h : PW X e t) : PT X e t := h _
def PA (X : Cx) (es : List Expr) (t : TA) : Prop :=
  ∀ (pos : Pos) (pins : List (Addr × Obj)) (s : Shared) (σ : St) (H : Hp) (Q : List V → Hp → Prop), Inv X pins σ H s → t σ H Q → wpAny (model X.prog X.w) X.A (spliced (backTo pos (starEach es X.env))) (AP X pins σ Q) X.xe s
def PS (X : Cx) (st : Stmt) (t : TS) : Prop :=
  ∀ (pins : List (Addr × Obj)) (s : Shared) (σ : St) (H : Hp) (D : Ends), Inv X pins σ H s → t D σ H → wpAny (model X.prog X.w) X.A (exec st X.env) (SP X pins D) X.xe s
def PSs (X : Cx) (st : List Stmt) (t : TS) : Prop :=
  ∀ (pins : List (Addr × Obj)) (s : Shared) (σ : St) (H : Hp) (D : Ends), Inv X pins σ H s → t D σ H → wpAny (model X.prog X.w) X.A (execs st X.env) (SP X pins D) X.xe s
theorem thn {α : Type} {t : Sem α} {Q Q' : α → Shared → Prop} {M : Model} {A : Around} {E : Value → Shared → Prop} {s : Shared} (h : wpAny M A t Q E s) (hQ : ∀ a s, Q a s → Q' a s) : wpAny M A t Q' E s := wpAny_mono h hQ fun _ _ x => x
end L2
namespace L2
open PySem PySem.Spec PyProof.Rows
section
variable {X : Cx}
def tVar (i : Nat) : TE := fun σ H Q => ∃ v, σ[i]? = some (some v) ∧ Q v H
def tC (v : V) : TE := fun _ H Q => Q v H
theorem pe_var {i : Nat} {x : Str} {pos : Pos} (hN : X.N[i]? = some x) (hv : Vis X.env.scope x) (hd : (x == ("__debug__" : Str)) = false := by decide) (hcd : (x == ("__classdict__" : Str)) = false := by decide) : PE X (.Name x pos) (tVar i) := by
  intro pins s σ H Q I h
  obtain ⟨v, e, h⟩ := h
  obtain ⟨m, hn, hl⟩ := I.loc
  obtain ⟨u, r, l⟩ := hl i x v hN e hv
  have fin : EP X pins σ Q u s := ⟨v, H, I, r, h⟩
  rcases l with ⟨hk, hm⟩ | ⟨hk, c, hc, hcell⟩
  · exact wpAny_Name (wpAny_loadName_local I.ok.kind hk hn hm fin) hd
  · rcases hk with hk | hk
    · exact wpAny_Name (wpAny_loadName_cell I.ok.kind hk hc hcell fin) hd
    · exact wpAny_Name (wpAny_loadName_free I.ok.kind hk hc hcell fin hcd) hd
theorem pe_int {i j pos} : PE X (.Constant (.int i) j pos) (tC (.int i)) := fun _ _ _ H _ I h => wpAny_Constant_int ⟨.int i, H, I.tok _, ⟨_, rfl⟩, h⟩
theorem pe_bl {b j pos} : PE X (.Constant (.bool b) j pos) (tC (.bl b)) := fun _ _ _ H _ I h => Constant_bool ⟨.bl b, H, I, rfl, h⟩
theorem pe_str {x j pos} : PE X (.Constant (.str x) j pos) (tC (.str x)) := fun _ _ _ H _ I h => Calls.Constant_str ⟨.str x, H, I.tok _, ⟨_, rfl⟩, h⟩
def Gl (X : Cx) (x : Str) : Prop := X.env.kindOf x = some .globalImplicit
theorem ld_glob {E : Value → Shared → Prop} {pins : List (Addr × Obj)} {s : Shared} {σ : St} {H : Hp} {x : Str} {u : Value} {pos : Pos} {Q : Value → Shared → Prop} (I : Inv X pins σ H s) (hg : Gl X x) (hm : X.mg x = some u) (h : Q u s)
    (hd : (x == ("__debug__" : Str)) = false := by decide) : wpAny (model X.prog X.w) X.A (eval (.Name x pos) X.env) Q E s :=
  Calls.Name_function_global I.ok.kind hg (Calls.loadGlobal_global (by rw [I.ok.glob]; exact I.mod.glob.keeps I.bk) hm h) hd
theorem ld_blt {E : Value → Shared → Prop} {pins : List (Addr × Obj)} {s : Shared} {σ : St} {H : Hp} {x : Str} {u : Value} {pos : Pos} {Q : Value → Shared → Prop} (I : Inv X pins σ H s) (hg : Gl X x) (hm : X.mg x = none) (hv : bootBuiltins x = some u) (h : Q u s)
    (hn : x ≠ "__name__" := by decide) (hd : (x == ("__debug__" : Str)) = false := by decide) : wpAny (model X.prog X.w) X.A (eval (.Name x pos) X.env) Q E s := by
  obtain ⟨mb, h1, h2⟩ := I.mod.blt
  exact Calls.Name_function_global I.ok.kind hg (Calls.loadGlobal_builtin (by rw [I.ok.glob]; exact I.mod.glob.keeps I.bk) hm (by rw [I.ok.blt]; exact h1.keeps I.bk) ((h2 x hn).trans hv) h) hd
theorem pe_glob {x : Str} {v : V} {u : Value} {pos : Pos} (hg : Gl X x) (hm : X.mg x = some u) (r : RelV v u) (hd : (x == ("__debug__" : Str)) = false := by decide) : PE X (.Name x pos) (tC v) :=
  fun _ _ _ H _ I h => ld_glob I hg hm ⟨v, H, I, r, h⟩ hd
theorem pe_bltn {x : Str} {v : V} {u : Value} {pos : Pos} (hg : Gl X x) (hm : X.mg x = none) (hv : bootBuiltins x = some u) (r : RelV v u) (hn : x ≠ "__name__" := by decide) (hd : (x == ("__debug__" : Str)) = false := by decide) : PE X (.Name x pos) (tC v) :=
  fun _ _ _ H _ I h => ld_blt I hg hm hv ⟨v, H, I, r, h⟩ hn hd
variable {a b : Expr} {ta tb : TE} {pos : Pos}
def tB (t : TE) : TT := fun σ H Q => t σ H fun x H1 => ∃ c, x = .bl c ∧ Q c H1
theorem pt_val {e : Expr} {t : TE} (h : PE X e t) (he : ∀ whole, isTrue e X.env whole = (do let v ← whole; standAt e.pos; holding [v] (truthy v)) := by intro _; rfl) : PT X e (tB t) := by
  intro pins s σ H Q I hw
  refine isTrue_plain (thn (h pins s σ H _ I hw) fun v s1 ⟨x, H1, I1, r1, q1⟩ => ?_) (he _)
  obtain ⟨d, rfl, q⟩ := q1
  cases r1
  exact wpAny_truthy_bool ⟨H1, I1, q⟩
variable {tA tB' : TT} {rest : List Expr}
def tAnd (t u : TT) : TT := fun σ H Q => t σ H fun c H1 => if c = true then u σ H1 Q else Q false H1
def tOr (t u : TT) : TT := fun σ H Q => t σ H fun c H1 => if c = true then Q true H1 else u σ H1 Q
def tNot (t : TT) : TT := fun σ H Q => t σ H fun c H1 => Q (!c) H1
theorem pw_and1 (ha : PT X a tA) : PW X (.BoolOp .And [a] pos) tA := by
  intro wh pins s σ H Q I h
  refine isTrue_and (thn (ha pins s σ H Q I h) fun c s1 e => ?_)
  cases c with
  | true => exact isTrue_and_nil e
  | false => exact e
theorem pw_or1 (ha : PT X a tA) : PW X (.BoolOp .Or [a] pos) tA := by
  intro wh pins s σ H Q I h
  refine isTrue_or (thn (ha pins s σ H Q I h) fun c s1 e => ?_)
  cases c with
  | false => exact isTrue_or_nil e
  | true => exact e
theorem pw_and (ha : PT X a tA) (hb : PW X (.BoolOp .And (b :: rest) pos) tB') : PW X (.BoolOp .And (a :: b :: rest) pos) (tAnd tA tB') := by
  intro wh pins s σ H Q I h
  refine isTrue_and (thn (ha pins s σ H _ I h) fun c s1 ⟨H1, I1, q1⟩ => ?_)
  cases c with
  | true => exact hb wh pins s1 σ H1 Q I1 q1
  | false => exact ⟨H1, I1, q1⟩
theorem pw_or (ha : PT X a tA) (hb : PW X (.BoolOp .Or (b :: rest) pos) tB') : PW X (.BoolOp .Or (a :: b :: rest) pos) (tOr tA tB') := by
  intro wh pins s σ H Q I h
  refine isTrue_or (thn (ha pins s σ H _ I h) fun c s1 ⟨H1, I1, q1⟩ => ?_)
  cases c with
  | true => exact ⟨H1, I1, q1⟩
  | false => exact hb wh pins s1 σ H1 Q I1 q1
theorem pt_not (ha : PT X a tA) : PT X (.UnaryOp .Not a pos) (tNot tA) := by
  intro pins s σ H Q I h
  exact isTrue_not (ha pins s σ H (fun c H1 => Q (!c) H1) I h)
def tAndV (ta tb : TE) : TE := fun σ H Q => ta σ H fun x H1 => ∃ c, x = .bl c ∧ if c = true then tb σ H1 Q else Q (.bl false) H1
def tOrV (ta tb : TE) : TE := fun σ H Q => ta σ H fun x H1 => ∃ c, x = .bl c ∧ if c = true then Q (.bl true) H1 else tb σ H1 Q
def tNotV (ta : TE) : TE := fun σ H Q => ta σ H fun x H1 => ∃ c, x = .bl c ∧ Q (.bl (!c)) H1
theorem pe_one {op} {t : TE} (h : PE X a t) : PE X (.BoolOp op [a] pos) t := fun pins s σ H Q I hw => BoolOp_one (h pins s σ H Q I hw)
theorem pe_and (ha : PE X a ta) (hb : PE X (.BoolOp .And (b :: rest) pos) tb) : PE X (.BoolOp .And (a :: b :: rest) pos) (tAndV ta tb) := by
  intro pins s σ H Q I h
  refine BoolOp_and (thn (ha pins s σ H _ I h) fun v s1 ⟨x, H1, I1, r1, q1⟩ => ?_)
  obtain ⟨c, rfl, q1⟩ := q1
  cases r1
  refine wpAny_truthy_bool ?_
  cases c with
  | true => exact hb pins s1 σ H1 Q I1 q1
  | false => exact ⟨.bl false, H1, I1, rfl, q1⟩
theorem pe_or (ha : PE X a ta) (hb : PE X (.BoolOp .Or (b :: rest) pos) tb) : PE X (.BoolOp .Or (a :: b :: rest) pos) (tOrV ta tb) := by
  intro pins s σ H Q I h
  refine BoolOp_or (thn (ha pins s σ H _ I h) fun v s1 ⟨x, H1, I1, r1, q1⟩ => ?_)
  obtain ⟨c, rfl, q1⟩ := q1
  cases r1
  refine wpAny_truthy_bool ?_
  cases c with
  | false => exact hb pins s1 σ H1 Q I1 q1
  | true => exact ⟨.bl true, H1, I1, rfl, q1⟩
theorem pe_not (ha : PE X a ta) : PE X (.UnaryOp .Not a pos) (tNotV ta) := by
  intro pins s σ H Q I h
  refine UnaryOp_ (thn (ha pins s σ H _ I h) fun v s1 ⟨x, H1, I1, r1, q1⟩ => ?_)
  obtain ⟨c, rfl, q1⟩ := q1
  cases r1
  exact not_of (wpAny_truthy_bool ⟨.bl (!c), H1, I1, rfl, q1⟩)
end
end L2
namespace L2
open PySem PySem.Spec PyProof.Rows
def SqL (K : PySem.W.Frag) (H : Hp) (a : Addr) (xs : List V) : Prop :=
  Rd H a (.lst xs) ∨
    ∃ (o : Obj) (its : Array Value) (n : Nat), K.lookup a = some o ∧ o.cls = .type "list" ∧ o.dict = none ∧ o.data = .seq its n ∧ its.size ≤ sizeLine ∧ Vals xs its.toList
def SqT (K : PySem.W.Frag) (H : Hp) (a : Addr) (xs : List V) : Prop :=
  Rd H a (.tup xs) ∨
    ∃ (o : Obj) (its : Array Value) (n : Nat), K.lookup a = some o ∧ o.cls = .type "tuple" ∧ o.data = .seq its n ∧ its.size ≤ sizeLine ∧ Vals xs its.toList
def absV : Value → Option V
  | .none => some .non
  | .bool b => some (.bl b)
  | .int i _ => some (.int i)
  | .str x _ => some (.str x)
  | .bytes b _ => some (.byt b)
  | .float b _ => some (.flt b)
  | .ref a => some (.ref a)
  | .type n => some (.ty n)
  | _ => none
theorem RelV.abs {x : V} {u : Value} (r : RelV x u) : absV u = some x := by
  cases x with
  | non => cases r; rfl
  | bl _ => cases r; rfl
  | int _ => obtain ⟨t, rfl⟩ := r; rfl
  | str _ => obtain ⟨t, rfl⟩ := r; rfl
  | byt _ => obtain ⟨t, rfl⟩ := r; rfl
  | flt _ => obtain ⟨t, rfl⟩ := r; rfl
  | ref _ => cases r; rfl
  | ty _ => cases r; rfl
theorem RelV.inj {x y : V} {u : Value} (r : RelV x u) (q : RelV y u) : x = y := Option.some.inj (r.abs.symm.trans q.abs)
theorem Vals.inj : ∀ {xs ys : List V} {us : List Value}, Vals xs us → Vals ys us → xs = ys
  | _, _, _, .nil, .nil => rfl
  | _, _, _, .cons r t, .cons r' t' => by rw [r.inj r', Vals.inj t t']
section
variable {X : Cx} {pins : List (Addr × Obj)} {σ : St} {H : Hp} {s : Shared} {a : Addr} {xs ys : List V}
theorem SqL.of {K : PySem.W.Frag} (h : H a = some (.lst xs)) : SqL K H a xs := .inl (.inl h)
theorem SqT.of {K : PySem.W.Frag} (h : H a = some (.tup xs)) : SqT K H a xs := .inl (.inl h)
theorem Inv.list (I : Inv X pins σ H s) (h : SqL X.K H a xs) : ∃ its : List Value, Vals xs its ∧ PlainL s.heap a its.toArray ∧ xs.length ≤ sizeLine := by
  rcases h with h | ⟨o, its, n, hk, hc, hd, hs, hz, r⟩
  · obtain ⟨z, its, n, r, e⟩ := h.ok I.hok
    exact ⟨its, r, ⟨_, n, e, rfl, rfl, rfl⟩, z⟩
  · refine ⟨its.toList, r, ⟨o, n, I.kIn a o hk, hc, hd, by simpa using hs⟩, ?_⟩
    have e := r.length
    simp only [Array.length_toList] at e
    omega
theorem Inv.tuple (I : Inv X pins σ H s) (h : SqT X.K H a xs) : ∃ its : List Value, Vals xs its ∧ IsTup s.heap a its.toArray ∧ xs.length ≤ sizeLine := by
  rcases h with h | ⟨o, its, n, hk, hc, hs, hz, r⟩
  · obtain ⟨z, its, r, p⟩ := h.ok I.hok
    exact ⟨its, r, p, z⟩
  · refine ⟨its.toList, r, ⟨o, I.kIn a o hk, hc, n, by simpa using hs⟩, ?_⟩
    have e := r.length
    simp only [Array.length_toList] at e
    omega
theorem Inv.tuple_inj (I : Inv X pins σ H s) (h : SqT X.K H a xs) (h' : SqT X.K H a ys) : xs = ys := by
  obtain ⟨its, r, ⟨o, e, _, n, d⟩, _⟩ := I.tuple h
  obtain ⟨its', r', ⟨o', e', _, n', d'⟩, _⟩ := I.tuple h'
  rw [e] at e'; cases e'
  rw [d] at d'
  injection d' with d1 _
  have : its = its' := by simpa using congrArg Array.toList d1
  subst this
  exact r.inj r'
end
abbrev Cx.wish (X : Cx) (E : Value → Shared → Prop) : Cx := { X with xe := E }
abbrev Cx.nox (X : Cx) : Cx := X.wish fun _ _ => False
theorem Cx.Ok.wish {X : Cx} (ok : X.Ok) (E : Value → Shared → Prop) : (X.wish E).Ok :=
  ⟨ok.mod, ok.kind, ok.glob, ok.blt, ok.above, ok.inj, ok.has, ok.cab, ok.hd, ok.frames, ok.stk, ok.exf, ok.bs, ok.bsz, ok.noex, ok.exfs, ok.funs, ok.frf⟩
theorem Cx.Ok.unwish {X : Cx} {E : Value → Shared → Prop} (ok : (X.wish E).Ok) : X.Ok :=
  ⟨ok.mod, ok.kind, ok.glob, ok.blt, ok.above, ok.inj, ok.has, ok.cab, ok.hd, ok.frames, ok.stk, ok.exf, ok.bs, ok.bsz, ok.noex, ok.exfs, ok.funs, ok.frf⟩
section
variable {X : Cx} {pins : List (Addr × Obj)} {σ : St} {H : Hp} {s : Shared} {E : Value → Shared → Prop}
theorem Inv.wish (I : Inv X pins σ H s) (E : Value → Shared → Prop) : Inv (X.wish E) pins σ H s := ⟨I.ok.wish E, I.os, I.bare, I.base, I.loc, I.cell, I.free, I.freeC, I.pin, I.hok, I.len⟩
theorem Inv.unwish (I : Inv (X.wish E) pins σ H s) : Inv X pins σ H s := ⟨I.ok.unwish, I.os, I.bare, I.base, I.loc, I.cell, I.free, I.freeC, I.pin, I.hok, I.len⟩
theorem SP.unwish {D : Ends} {f : Flow} {s' : Shared} (h : SP (X.wish E) pins D f s') : SP X pins D f s' := by
  cases f with
  | next => obtain ⟨σ', H', I, q⟩ := h; exact ⟨σ', H', I.unwish, q⟩
  | brk => obtain ⟨σ', H', I, q⟩ := h; exact ⟨σ', H', I.unwish, q⟩
  | cont => obtain ⟨σ', H', I, q⟩ := h; exact ⟨σ', H', I.unwish, q⟩
  | ret u => obtain ⟨v, σ', H', I, r, q⟩ := h; exact ⟨v, σ', H', I.unwish, r, q⟩
theorem PE.nox {e : Expr} {t : TE} (h : PE X.nox e t) : PE X e t := fun pins s σ H Q I hw =>
  wpAny_mono (h pins s σ H Q (I.wish _) hw) (fun _ _ ⟨v, H', I', r, q⟩ => ⟨v, H', I'.unwish, r, q⟩) fun _ _ z => False.elim z
theorem PT.nox {e : Expr} {t : TT} (h : PT X.nox e t) : PT X e t := fun pins s σ H Q I hw =>
  wpAny_mono (h pins s σ H Q (I.wish _) hw) (fun _ _ ⟨H', I', q⟩ => ⟨H', I'.unwish, q⟩) fun _ _ z => False.elim z
theorem PSs.nox {st : List Stmt} {t : TS} (h : PSs X.nox st t) : PSs X st t := fun pins s σ H D I hw =>
  wpAny_mono (h pins s σ H D (I.wish _) hw) (fun _ _ q => q.unwish) fun _ _ z => False.elim z
end
section
variable {X : Cx} {st : Stmt} {rest : List Stmt} {t u : TS} {e : Expr} {te : TE} {pos : Pos}
def tNext : TS := fun D σ H => D.nx σ H
def tSeq (t u : TS) : TS := fun D σ H => t { D with nx := u D } σ H
theorem pss_nil : PSs X [] tNext := fun _ _ σ H _ I h => wpAny_execs_nil ⟨σ, H, I, h⟩
theorem pss_cons (h1 : PS X st t) (h2 : PSs X rest u) : PSs X (st :: rest) (tSeq t u) := by
  intro pins s σ H D I h
  refine wpAny_execs_cons (thn (h1 pins s σ H { D with nx := u D } I h) fun f s1 q => ?_)
  cases f with
  | next =>
    obtain ⟨σ', H', I', q⟩ := q
    exact h2 pins s1 σ' H' D I' q
  | ret v => exact q
  | brk => exact q
  | cont => exact q
theorem pss_one (h1 : PS X st t) : PSs X [st] t := by
  intro pins s σ H D I h
  refine wpAny_execs_cons (thn (h1 pins s σ H D I h) fun f s1 q => ?_)
  cases f with
  | next => exact wpAny_execs_nil q
  | ret v => exact q
  | brk => exact q
  | cont => exact q
def tRet (te : TE) : TS := fun D σ H => te σ H D.rt
theorem ps_ret (he : PE X e te) : PS X (.Return (some e) pos) (tRet te) := by
  intro pins s σ H D I h
  exact wpAny_Return_some (thn (he pins s σ H _ I h) fun v s1 ⟨x, H1, I1, r1, q1⟩ => ⟨x, σ, H1, I1, r1, q1⟩)
def tIfS (c : TT) (t u : TS) : TS := fun D σ H => c σ H fun b H1 => if b = true then t D σ H1 else u D σ H1
theorem ps_if {c : Expr} {a b : List Stmt} {tc : TT} (hc : PT X c tc) (ha : PSs X a t) (hb : PSs X b u) : PS X (.If c a b pos) (tIfS tc t u) := by
  intro pins s σ H D I h
  refine wpAny_If (thn (hc pins s σ H _ I h) fun d s1 ⟨H1, I1, q1⟩ => ?_)
  cases d with
  | true => exact ha pins s1 σ H1 D I1 q1
  | false => exact hb pins s1 σ H1 D I1 q1
end
abbrev TG := V → St → Hp → (St → Hp → Prop) → Prop
abbrev TGs := List V → St → Hp → (St → Hp → Prop) → Prop
def PG (X : Cx) (target : Expr) (t : TG) : Prop :=
  ∀ (pins : List (Addr × Obj)) (s : Shared) (σ : St) (H : Hp) (v : V) (u : Value) (Q : St → Hp → Prop), Inv X pins σ H s → RelV v u → t v σ H Q →
    wpAny (model X.prog X.w) X.A (assign target X.env u) (fun _ s' => ∃ σ' H', Inv X pins σ' H' s' ∧ Q σ' H') X.xe s
def PGs (X : Cx) (ts : List Expr) (t : TGs) : Prop :=
  ∀ (pins : List (Addr × Obj)) (s : Shared) (σ : St) (H : Hp) (vs : List V) (us : List Value) (Q : St → Hp → Prop), Inv X pins σ H s → Vals vs us → t vs σ H Q →
    wpAny (model X.prog X.w) X.A (assignInOrder ((assignEach ts X.env).map (·.2)) us) (fun _ s' => ∃ σ' H', Inv X pins σ' H' s' ∧ Q σ' H') X.xe s
section
variable {X : Cx} {pos : Pos}
def gName (i : Nat) : TG := fun v σ H Q => Q (σ.set i (some v)) H
theorem pg_name {i : Nat} {x : Str} (hN : X.N.Nodup) (hi : X.N[i]? = some x) (hx : Loc X.env.scope x) (hf : X.fn x = true ∨ X.env.scope.names.lookup x = some .local := by first | exact .inl rfl | exact .inr rfl | assumption) : PG X (.Name x pos) (gName i) := by
  intro pins s σ H v u Q I r h
  exact wpAny_assign_Name (store_ok I hN hi hx r (fun s' I' => ⟨_, H, I', h⟩) hf)
def gNil : TGs := fun vs σ H Q => vs = [] ∧ Q σ H
def gCons (t : TG) (u : TGs) : TGs := fun vs σ H Q => ∃ v r, vs = v :: r ∧ t v σ H fun σ' H' => u r σ' H' Q
theorem pgs_nil : PGs X [] gNil := by
  intro pins s σ H vs us Q I r h
  obtain ⟨e, h⟩ := h
  subst e
  cases r
  exact assignInOrder_nil ⟨σ, H, I, h⟩
theorem pgs_cons {e : Expr} {es : List Expr} {t : TG} {u : TGs} (h1 : PG X e t) (h2 : PGs X es u)
    (hs : (assignEach (e :: es) X.env).map (·.2) = assign e X.env :: (assignEach es X.env).map (·.2) := by rfl) : PGs X (e :: es) (gCons t u) := by
  intro pins s σ H vs us Q I r h
  obtain ⟨v, vr, e1, h⟩ := h
  subst e1
  cases r with
  | cons r rr =>
    rw [hs]
    refine assignInOrder_cons (thn (h1 pins s σ H _ _ _ I r h) fun _ s1 ⟨σ1, H1, I1, q1⟩ => ?_)
    exact h2 pins s1 σ1 H1 _ _ Q I1 rr q1
def gTup (K : PySem.W.Frag) (n : Nat) (t : TGs) : TG := fun v σ H Q => ∃ a xs, v = .ref a ∧ SqT K H a xs ∧ xs.length = n ∧ t xs σ H Q
theorem pg_tup {es : List Expr} {k : Nat} {t : TGs} {n : Nat} (hc : X.calm = true) (h : PGs X es t)
    (hn : (assignEach es X.env).length = n := by rfl) (hst : (assignEach es X.env).findIdx? (·.1) = none := by rfl) : PG X (.Tuple es k pos) (gTup X.K n t) := by
  intro pins s σ H v u Q I r hw
  obtain ⟨a, xs, e1, hq, hl, hw⟩ := hw
  subst e1
  cases r
  obtain ⟨its, rv, ht, hz⟩ := I.tuple hq
  refine assign_Tuple_tuple (I.ok.hd hc) ht (by simp [hn, ← hl, rv.length]) hst fun h' hx => ?_
  have I1 : Inv X pins σ H { s with heap := h' } := I.kept (t' := s.toks) fun b o e => hx b o (Nat.ne_of_lt (Heap.lt_size e)) e
  exact h pins _ σ H xs _ Q I1 (by simpa using rv) hw
def tAsg (te : TE) (g : TG) : TS := fun D σ H => te σ H fun x H1 => g x σ H1 D.nx
theorem ps_asg {tg e : Expr} {te : TE} {g : TG} (he : PE X e te) (hg : PG X tg g) (hs : swapsWithSole [tg] e pos.line X.env = pure false := by rfl) (hw : swappedStores [tg] e X.env = pure none := by rfl)
    (h1 : (assignEach [tg] X.env).map (·.2) = [assign tg X.env] := by rfl) : PS X (.Assign [tg] e pos) (tAsg te g) := by
  intro pins s σ H D I h
  refine wpAny_Assign_stores (thn (he pins s σ H _ I h) fun v s1 ⟨x, H1, I1, r1, q1⟩ => ?_) hs hw
  rw [h1]
  exact thn (hg pins s1 σ H1 x v _ I1 r1 q1) fun _ s2 q => q
theorem ps_set {i : Nat} {x : Str} {e : Expr} {te : TE} {pos' : Pos} (hN : X.N.Nodup) (hi : X.N[i]? = some x) (hx : Loc X.env.scope x) (he : PE X e te) (hs : swapsWith e (some (.Name x pos')) pos.line X.env = pure false := by rfl) (hf : X.fn x = true ∨ X.env.scope.names.lookup x = some .local := by first | exact .inl rfl | exact .inr rfl | assumption) :
    PS X (.Assign [.Name x pos'] e pos) (tAsg te (gName i)) := by
  intro pins s σ H D I h
  refine wpAny_Assign_Name (thn (he pins s σ H _ I h) fun v s1 ⟨y, H1, I1, r1, q1⟩ => ?_) hs
  exact store_ok I1 hN hi hx r1 (fun s2 I2 => ⟨_, H1, I2, q1⟩) hf
end
section
variable {X : Cx} {pos : Pos}
end
structure It where
  go : Nat → Hp → Prop
  yld : Nat → Hp → V → Hp → Prop
  stop : Nat → Hp → Prop
def FpOk (X : Cx) (pins : List (Addr × Obj)) (H : Hp) (b : Addr) : Prop :=
  H b = none ∧ b ≠ X.env.locals ∧ b ∉ X.fs ∧ (b ∈ X.ex ∨ X.s₀.heap.objs.size ≤ b) ∧ (∀ x c, X.env.cells.lookup x = some c → c ≠ b) ∧ ∀ p ∈ X.pn ++ pins, p.1 ≠ b
theorem Inv.fpOk {X : Cx} {pins : List (Addr × Obj)} {σ : St} {H H' : Hp} {s : Shared} {b : Addr} (I : Inv X pins σ H s) (hb : s.heap.objs.size ≤ b) (hn : H' b = none) : FpOk X pins H' b := by
  refine ⟨hn, Nat.ne_of_gt (Nat.lt_of_lt_of_le I.lt hb), I.nofs hb, .inr (Nat.le_trans I.sz hb), fun x c e z => ?_, fun p hp z => ?_⟩
  · obtain ⟨v, q⟩ := I.cell x c e
    exact absurd (Nat.lt_of_lt_of_le q.lt (by rw [z]; exact hb)) (Nat.lt_irrefl _)
  · exact absurd (Nat.lt_of_lt_of_le (Heap.lt_size (I.pin p hp).1) (by rw [z]; exact hb)) (Nat.lt_irrefl _)
structure Turn (P : Program) (w : World) (K : PySem.W.Frag) (tg : Expr) (J : It) (fp : List Addr) (it : Addr) (tn : Nat → Heap → Prop) : Prop where
  mem : it ∈ fp
  obj : ∀ i h, tn i h → ∀ b ∈ fp, ∃ o, h.get? b = some o ∧ ∀ v, o.data ≠ .cell v
  keep : ∀ i h h', tn i h → (∀ b ∈ fp, ∀ o, h.get? b = some o → h'.get? b = some o) → tn i h'
  item : ∀ (X : Cx), X.prog = P → X.w = w → X.K = K → X.calm = true → ∀ (i : Nat) (pins : List (Addr × Obj)) (s : Shared) (σ : St) (H : Hp) (E : Value → Shared → Prop), Inv X pins σ H s → (∀ b ∈ fp, FpOk X pins H b) → tn i s.heap → J.go i H →
    wpAny (model P w) X.A (pyNext (.ref it)) (fun r s1 => ∃ u, r = some u ∧
      wpAny (model P w) X.A (letOwnedTupleGo tg (.ref it) u) (fun _ s2 => ∃ x H', Inv X pins σ H' s2 ∧ RelV x u ∧ J.yld i H x H' ∧ tn (i + 1) s2.heap ∧ ∀ b ∈ fp, H' b = none) E s1) E s
  done : ∀ (X : Cx), X.prog = P → X.w = w → X.K = K → X.calm = true → ∀ (i : Nat) (pins : List (Addr × Obj)) (s : Shared) (σ : St) (H : Hp) (E : Value → Shared → Prop), Inv X pins σ H s → (∀ b ∈ fp, FpOk X pins H b) → tn i s.heap → J.stop i H →
    wpAny (model P w) X.A (pyNext (.ref it)) (fun r s1 => r = none ∧ Inv X pins σ H s1) E s
  self : ∀ (A : Around) (i : Nat) (s : Shared) (Q : Value → Shared → Prop) (E : Value → Shared → Prop), tn i s.heap → Q (.ref it) s → wpAny (model P w) A (pyIter (.ref it)) Q E s
abbrev TI := St → Hp → (It → Hp → Prop) → Prop
def PIE (X : Cx) (pins : List (Addr × Obj)) (σ : St) (tg : Expr) (R : It → Hp → Prop) (itv : Value) (s2 : Shared) : Prop :=
  ∃ (it : Addr) (fp : List Addr) (tn : Nat → Heap → Prop) (J : It) (H' : Hp), itv = .ref it ∧ Inv X pins σ H' s2 ∧ Turn X.prog X.w X.K tg J fp it tn ∧ tn 0 s2.heap ∧ (∀ b ∈ fp, FpOk X pins H' b) ∧ R J H'
def PI (X : Cx) (tg iter : Expr) (wi : TI) : Prop :=
  ∀ (pins : List (Addr × Obj)) (s : Shared) (σ : St) (H : Hp) (R : It → Hp → Prop), Inv X pins σ H s → wi σ H R →
    wpAny (model X.prog X.w) X.A (eval iter X.env) (fun v s1 => wpAny (model X.prog X.w) X.A (pyIter v) (PIE X pins σ tg R) X.xe s1) X.xe s
theorem go_of {M : Model} {A : Around} {E : Value → Shared → Prop} {s : Shared} {tg : Expr} {it : Addr} {u : Value} {o : Obj} {n : String} {vs : Array Value} {Q : Unit → Shared → Prop} (ho : s.heap.get? it = some o) (hc : o.cls = .type n) (hd : o.data = .fields vs)
    (hn : ["enumerate", "zip", "dict_itemiterator", "dict_reverseitemiterator", "odict_iterator", "itertools.zip_longest", "itertools.pairwise"].contains n = false) (hQ : Q () s) : wpAny M A (letOwnedTupleGo tg (.ref it) u) Q E s := by
  unfold letOwnedTupleGo
  cases tg <;> first
    | exact wpAny_pure hQ
    | (cases u <;> first
        | exact wpAny_pure hQ
        | (refine wpAny_bind (wpAny_load ho ?_)
           rw [hc, hd]
           show wpAny M A (if (["enumerate", "zip", "dict_itemiterator", "dict_reverseitemiterator", "odict_iterator", "itertools.zip_longest", "itertools.pairwise"].contains n && vs[0]? == some (rawInt _)) = true then _ else _) Q E s
           rw [if_neg (by intro h; rw [hn, Bool.false_and] at h; cases h)]
           exact wpAny_pure hQ))
def Itt (K : PySem.W.Frag) (a : Addr) : It :=
  ⟨fun i H => ∃ xs x, SqT K H a xs ∧ xs[i]? = some x, fun i H x H' => H' = H ∧ ∀ xs, SqT K H a xs → xs[i]? = some x, fun i H => ∃ xs, SqT K H a xs ∧ xs.length ≤ i⟩
theorem turn_tuple {P : Program} {w : World} {K : PySem.W.Frag} {tg : Expr} (a it : Addr) : Turn P w K tg (Itt K a) [it] it (fun i h => h.IsTupleIter it a i) where
  mem := by simp
  obj := fun i h st b hb => by
    have e : b = it := by simpa using hb
    subst e
    obtain ⟨o, e, c, d⟩ := st
    exact ⟨o, e, fun v z => by rw [d] at z; cases z⟩
  keep := fun i h h' st k => st.at fun o e => k it (by simp) o e
  item := by
    intro X hP hw hK hc i pins s σ H E I hf st hg
    subst hP hw hK
    obtain ⟨xs, x, hq, hx⟩ := hg
    obtain ⟨its, rv, p, hz⟩ := I.tuple hq
    obtain ⟨u, hu, ru⟩ := rv.get hx
    obtain ⟨f0, f1, f2, f3, f4, f5⟩ := hf it (by simp)
    refine wpAny_pyNext_tuple_item st (show s.heap.IsTuple a its.toArray from p) (x := u) (by simpa using hu) fun h' st' sb => ?_
    have I1 : Inv X pins σ H { s with heap := h' } := I.turned (t' := s.toks) (fun b o hb e => (sb.2 b hb).trans e) f0 f1 f3 f4 f5
    obtain ⟨o, e, c, d⟩ := id st'
    exact ⟨u, rfl, go_of (s := { s with heap := h' }) e c d (by decide) ⟨x, H, I1, ru, ⟨rfl, fun ys hy => by rw [I.tuple_inj hy hq]; exact hx⟩, st', fun b hb => (hf b hb).1⟩⟩
  done := by
    intro X hP hw hK hc i pins s σ H E I hf st hg
    subst hP hw hK
    obtain ⟨xs, hq, hx⟩ := hg
    obtain ⟨its, rv, p, hz⟩ := I.tuple hq
    obtain ⟨f0, f1, f2, f3, f4, f5⟩ := hf it (by simp)
    have hl := rv.length
    exact wpAny_pyNext_tuple_end (I.ok.hd hc) st (show s.heap.IsTuple a its.toArray from p) (by simp; omega) fun h' eb => ⟨rfl, I.turned (t' := s.toks) (fun b o hb e => eb b o hb e) f0 f1 f3 f4 f5⟩
  self := fun _ _ _ _ _ st h => wpAny_pyIter_tupleiter st h
end L2
namespace L2
open PySem PySem.Spec PyProof.Rows
section
variable {X : Cx} {tg : Expr}
def iTup (K : PySem.W.Frag) (tl : TE) : TI := fun σ H R => tl σ H fun x H1 => ∃ a, x = .ref a ∧ (∃ xs, SqT K H1 a xs) ∧ R (Itt K a) H1
theorem pi_tup {l : Expr} {tl : TE} (hl : PE X l tl) : PI X tg l (iTup X.K tl) := by
  intro pins s σ H R I h
  refine thn (hl pins s σ H _ I h) fun v s1 ⟨x, H1, I1, r1, q1⟩ => ?_
  obtain ⟨a, e, ⟨xs, hq⟩, q⟩ := q1
  subst e
  cases r1
  obtain ⟨its, rv, p, hz⟩ := I1.tuple hq
  refine wpAny_pyIter_tuple (show s1.heap.IsTuple a its.toArray from p) ?_
  refine ⟨s1.heap.objs.size, [s1.heap.objs.size], _, _, H1, rfl, I1.kept (t' := s1.toks) fun b o e => Heap.get?_push_of_some _ e, turn_tuple a _, ⟨_, Heap.get?_push_size _ rfl, rfl, rfl⟩, fun b hb => ?_, q⟩
  have e : b = s1.heap.objs.size := by simpa using hb
  subst e
  exact I1.fpOk (Nat.le_refl _) (I1.hok.fresh (Nat.le_refl _))
def tFor (wi : TI) (g : TG) (tb : TS) : TS := fun D σ H => wi σ H fun J H1 => ∃ W : Nat → Nat → St → Hp → Prop, (∃ m, W 0 m σ H1) ∧ ∀ i m σ H, W i m σ H →
  (J.stop i H ∧ D.nx σ H) ∨ (J.go i H ∧ ∃ N : St → Hp → Prop, (∀ σ' H', N σ' H' → ∃ m', m' < m ∧ W (i + 1) m' σ' H') ∧ ∀ x H', J.yld i H x H' → g x σ H' fun σ2 H2 => tb { D with nx := N, ct := N, bk := D.nx } σ2 H2)
def pinsAt (fp : List Addr) (h : Heap) : List (Addr × Obj) := fp.filterMap fun b => (h.get? b).map fun o => (b, o)
theorem mem_pinsAt {fp : List Addr} {h : Heap} {b : Addr} {o : Obj} (hb : b ∈ fp) (e : h.get? b = some o) : (b, o) ∈ pinsAt fp h := List.mem_filterMap.mpr ⟨b, hb, by rw [e]; rfl⟩
theorem of_pinsAt {fp : List Addr} {h : Heap} {p : Addr × Obj} (hp : p ∈ pinsAt fp h) : p.1 ∈ fp ∧ h.get? p.1 = some p.2 := by
  obtain ⟨b, hb, e⟩ := List.mem_filterMap.mp hp
  cases q : h.get? b with
  | none => rw [q] at e; cases e
  | some o =>
    rw [q] at e
    have e' : (b, o) = p := Option.some.inj e
    subst e'
    exact ⟨hb, q⟩
theorem Inv.pinned {pins : List (Addr × Obj)} {σ : St} {H : Hp} {s : Shared} {fp : List Addr} (I : Inv X pins σ H s) (hf : ∀ b ∈ fp, FpOk X pins H b) (ho : ∀ b ∈ fp, ∃ o, s.heap.get? b = some o ∧ ∀ v, o.data ≠ .cell v) : Inv X (pins ++ pinsAt fp s.heap) σ H s :=
  I.pins_of fun p hp => (List.mem_append.mp hp).elim (fun z => I.pin p (List.mem_append_right _ z)) fun z => by
    obtain ⟨hb, e⟩ := of_pinsAt z
    obtain ⟨f0, f1, f2, _⟩ := hf p.1 hb
    obtain ⟨o, e', d⟩ := ho p.1 hb
    rw [e] at e'; cases e'
    exact ⟨e, f0, f1, f2, d⟩
theorem Inv.unpinned {pins pl : List (Addr × Obj)} {σ : St} {H : Hp} {s : Shared} (I : Inv X (pins ++ pl) σ H s) : Inv X pins σ H s := I.pins_of fun p hp => I.pin p (List.mem_append_right _ (List.mem_append_left _ hp))
theorem ps_for {iter : Expr} {body : List Stmt} {wi : TI} {g : TG} {tb : TS} {pos : Pos} (hp : PassesOwn (model X.prog X.w) X.A X.env X.xe) (hc : X.calm = true) (hi : PI X tg iter wi) (hg : PG X tg g) (hb : PSs X body tb)
    (hs : ∀ x, foldedSetIterable iter X.env x = pure x := by intro _; rfl) : PS X (.For tg iter body [] pos) (tFor wi g tb) := by
  intro pins s σ H D I h
  refine wpAny_For (thn (hi pins s σ H _ I h) fun v s1 h1 => thn h1 fun itv s2 h2 => ?_) hs
  obtain ⟨it, fp, tn, J, H2, e, I2, T, st2, f2, W, ⟨m0, w0⟩, turn⟩ := h2
  subst e
  -- what stays true of the iterator's objects through the loop
  have stat : ∀ {H' : Hp}, (∀ b ∈ fp, H' b = none) → ∀ b ∈ fp, FpOk X pins H' b := fun hn b hb => ⟨hn b hb, (f2 b hb).2⟩
  refine codeAny_forLoop_any (fun n s' => ∃ i σ' H', Inv X pins σ' H' s' ∧ tn i s'.heap ∧ (∀ b ∈ fp, H' b = none) ∧ W i n σ' H') ?_ m0 ⟨0, σ, H2, I2, st2, fun b hb => (f2 b hb).1, w0⟩
  rintro n s3 ⟨i, σ3, H3, I3, st3, fr3, w3⟩
  rcases turn i n σ3 H3 w3 with ⟨stop, qn⟩ | ⟨go, N, hN, step⟩
  · refine wpAny_passesOwn hp (thn (T.done X rfl rfl rfl hc i pins s3 σ3 H3 X.xe I3 (stat fr3) st3 stop) fun r s4 ⟨hr, I4⟩ => ?_)
    subst hr
    exact wpAny_execs_nil ⟨σ3, H3, I4, qn⟩
  · refine wpAny_passesOwn hp (thn (T.item X rfl rfl rfl hc i pins s3 σ3 H3 X.xe I3 (stat fr3) st3 go) fun r s4 ⟨u, hr, h4⟩ => ?_)
    subst hr
    refine wpAny_passesOwn hp (thn h4 fun _ s5 ⟨x, H5, I5, r5, y5, st5, fr5⟩ => ?_)
    have I5' := I5.pinned (stat fr5) (T.obj _ _ st5)
    refine wpAny_passesOwn hp (thn (hg _ s5 σ3 H5 x u _ I5' r5 (step x H5 y5)) fun _ s6 ⟨σ6, H6, I6, q6⟩ => ?_)
    refine wpAny_passesOwn hp (thn (hb _ s6 σ6 H6 _ I6 q6) fun f s7 q7 => ?_)
    have again : ∀ {σ7 : St} {H7 : Hp}, Inv X (pins ++ pinsAt fp s5.heap) σ7 H7 s7 → N σ7 H7 → ∃ m, m < n ∧ ∃ i σ' H', Inv X pins σ' H' s7 ∧ tn i s7.heap ∧ (∀ b ∈ fp, H' b = none) ∧ W i m σ' H' := fun {σ7 H7} I7 n7 => by
      obtain ⟨m', hm, w7⟩ := hN σ7 H7 n7
      refine ⟨m', hm, i + 1, σ7, H7, I7.unpinned, T.keep _ _ _ st5 fun b hb o e => (I7.pin (b, o) (List.mem_append_right _ (List.mem_append_right _ (mem_pinsAt hb e)))).1, fun b hb => ?_, w7⟩
      obtain ⟨o, e, d⟩ := T.obj _ _ st5 b hb
      exact (I7.pin (b, o) (List.mem_append_right _ (List.mem_append_right _ (mem_pinsAt hb e)))).2.1
    cases f with
    | next => obtain ⟨σ7, H7, I7, n7⟩ := q7; exact again I7 n7
    | cont => obtain ⟨σ7, H7, I7, n7⟩ := q7; exact again I7 n7
    | brk => obtain ⟨σ7, H7, I7, q7⟩ := q7; exact ⟨σ7, H7, I7.unpinned, q7⟩
    | ret v => obtain ⟨x7, σ7, H7, I7, r7, q7⟩ := q7; exact ⟨x7, σ7, H7, I7.unpinned, r7, q7⟩
end
theorem for_tup {K : PySem.W.Frag} {a : Addr} {xs : List V} {g : TG} {tb : TS} {D : Ends} {σ : St} {H : Hp} (Pv : Nat → St → Hp → Prop) (h0 : Pv 0 σ H) (hl : ∀ i σ H, i ≤ xs.length → Pv i σ H → SqT K H a xs)
    (hs : ∀ i x σ H, xs[i]? = some x → Pv i σ H → g x σ H fun σ2 H2 => tb { D with nx := Pv (i + 1), ct := Pv (i + 1), bk := D.nx } σ2 H2) (hd : ∀ σ H, Pv xs.length σ H → D.nx σ H) :
    ∃ W : Nat → Nat → St → Hp → Prop, (∃ m, W 0 m σ H) ∧ ∀ i m σ H, W i m σ H →
      ((Itt K a).stop i H ∧ D.nx σ H) ∨ ((Itt K a).go i H ∧ ∃ N : St → Hp → Prop, (∀ σ' H', N σ' H' → ∃ m', m' < m ∧ W (i + 1) m' σ' H') ∧ ∀ x H', (Itt K a).yld i H x H' → g x σ H' fun σ2 H2 => tb { D with nx := N, ct := N, bk := D.nx } σ2 H2) := by
  refine ⟨fun i m σ H => m = xs.length - i ∧ i ≤ xs.length ∧ Pv i σ H, ⟨xs.length, by simp, Nat.zero_le _, h0⟩, ?_⟩
  rintro i m σ H ⟨rfl, hi, p⟩
  have q := hl i σ H hi p
  by_cases hlt : i < xs.length
  · refine .inr ⟨⟨xs, xs[i], q, by simp [hlt]⟩, Pv (i + 1), fun σ' H' p' => ⟨xs.length - (i + 1), by omega, rfl, hlt, p'⟩, fun x H' y => ?_⟩
    obtain ⟨e, y⟩ := y
    subst e
    exact hs i x σ _ (y xs q) p
  · have e : i = xs.length := by omega
    subst e
    exact .inl ⟨⟨xs, q, Nat.le_refl _⟩, hd σ H p⟩
end L2
namespace L2
open PySem PySem.Spec PyProof.Rows
abbrev R2 := V → V → Hp → VK → Prop
def OpR (X : Cx) (f : Value → Value → Sem Value) (r : R2) : Prop :=
  ∀ (pins : List (Addr × Obj)) (s : Shared) (σ : St) (H : Hp) (x y : V) (v u : Value) (Q : VK), Inv X pins σ H s → RelV x v → RelV y u → r x y H Q →
    wpAny (model X.prog X.w) X.A (f v u) (EP X pins σ Q) X.xe s
def UnR (X : Cx) (f : Value → Sem Value) (r : V → Hp → VK → Prop) : Prop :=
  ∀ (pins : List (Addr × Obj)) (s : Shared) (σ : St) (H : Hp) (x : V) (v : Value) (Q : VK), Inv X pins σ H s → RelV x v → r x H Q →
    wpAny (model X.prog X.w) X.A (f v) (EP X pins σ Q) X.xe s
def CallR (X : Cx) (f : Value) (r : List V → Hp → VK → Prop) : Prop :=
  ∀ (pins : List (Addr × Obj)) (s : Shared) (σ : St) (H : Hp) (xs : List V) (us : List Value) (Q : VK), Inv X pins σ H s → Vals xs us → r xs H Q →
    wpAny (model X.prog X.w) X.A (call f us) (EP X pins σ Q) X.xe s
def tOp (r : R2) (ta tb : TE) : TE := fun σ H Q => ta σ H fun x H1 => tb σ H1 fun y H2 => r x y H2 Q
def tUn (r : V → Hp → VK → Prop) (ta : TE) : TE := fun σ H Q => ta σ H fun x H1 => r x H1 Q
def rI (C : Int → Int → Prop) (g : Int → Int → V) : R2 := fun x y H Q => ∃ i j, x = .int i ∧ y = .int j ∧ C i j ∧ Q (g i j) H
def rI0 (g : Int → Int → V) : R2 := fun x y H Q => ∃ i j, x = .int i ∧ y = .int j ∧ Q (g i j) H
def rU (g : Int → V) : V → Hp → VK → Prop := fun x H Q => ∃ i, x = .int i ∧ Q (g i) H
section
variable {X : Cx} {a b c : Expr} {ta tb tc : TE} {pos : Pos}
theorem binT (ha : PE X a ta) (hb : PE X b tb) {pins : List (Addr × Obj)} {s : Shared} {σ : St} {H : Hp} {R : V → V → Hp → Prop} (I : Inv X pins σ H s)
    (h : ta σ H fun x H1 => tb σ H1 fun y H2 => R x y H2) {Q : Value → Shared → Prop} {f : Value → Value → Sem Value}
    (hf : ∀ v u s2 x y H2, Inv X pins σ H2 s2 → RelV x v → RelV y u → R x y H2 → wpAny (model X.prog X.w) X.A (f v u) Q X.xe s2) :
    wpAny (model X.prog X.w) X.A (eval a X.env) (fun v s₁ => wpAny (model X.prog X.w) X.A (eval b X.env) (fun u s₂ => wpAny (model X.prog X.w) X.A (f v u) Q X.xe s₂) X.xe s₁) X.xe s := by
  refine thn (ha pins s σ H _ I h) fun v s1 ⟨x, H1, I1, r1, q1⟩ => ?_
  refine thn (hb pins s1 σ H1 _ I1 q1) fun u s2 ⟨y, H2, I2, r2, q2⟩ => ?_
  exact hf v u s2 x y H2 I2 r1 r2 q2
theorem pe_op {op : Operator} {r : R2} (ho : OpR X (binaryOp op) r) (ha : PE X a ta) (hb : PE X b tb) : PE X (.BinOp a op b pos) (tOp r ta tb) := by
  intro pins s σ H Q I h
  exact wpAny_BinOp (binT ha hb I h fun v u s2 x y H2 I2 rx ry q => ho pins s2 σ H2 x y v u Q I2 rx ry q)
theorem pe_un {op : UnaryOp} {r : V → Hp → VK → Prop} (ho : UnR X (unaryOp op) r) (ha : PE X a ta) : PE X (.UnaryOp op a pos) (tUn r ta) := by
  intro pins s σ H Q I h
  exact UnaryOp_ (thn (ha pins s σ H _ I h) fun v s1 ⟨x, H1, I1, r1, q1⟩ => ho pins s1 σ H1 x v Q I1 r1 q1)
theorem opI {f : Value → Value → Sem Value} {C : Int → Int → Prop} {g : Int → Int → Int}
    (rule : ∀ (i j : Int) (t u : Tok) (s : Shared) (Q : Value → Shared → Prop) (E : Value → Shared → Prop), C i j → Q (.int (g i j) s.toks) { s with toks := s.toks + 1 } → wpAny (model X.prog X.w) X.A (f (.int i t) (.int j u)) Q E s) :
    OpR X f (rI C fun i j => .int (g i j)) := by
  intro pins s σ H x y v u Q I rx ry h
  obtain ⟨i, j, rfl, rfl, hc, q⟩ := h
  obtain ⟨t, rfl⟩ := rx
  obtain ⟨t', rfl⟩ := ry
  exact rule i j t t' s _ _ hc ⟨.int (g i j), H, I.tok _, ⟨_, rfl⟩, q⟩
theorem opI0 {f : Value → Value → Sem Value} {g : Int → Int → Int}
    (rule : ∀ (i j : Int) (t u : Tok) (s : Shared) (Q : Value → Shared → Prop) (E : Value → Shared → Prop), Q (.int (g i j) s.toks) { s with toks := s.toks + 1 } → wpAny (model X.prog X.w) X.A (f (.int i t) (.int j u)) Q E s) :
    OpR X f (rI0 fun i j => .int (g i j)) := by
  intro pins s σ H x y v u Q I rx ry h
  obtain ⟨i, j, rfl, rfl, q⟩ := h
  obtain ⟨t, rfl⟩ := rx
  obtain ⟨t', rfl⟩ := ry
  exact rule i j t t' s _ _ ⟨.int (g i j), H, I.tok _, ⟨_, rfl⟩, q⟩
theorem opB0 {f : Value → Value → Sem Value} {g : Int → Int → Bool}
    (rule : ∀ (i j : Int) (t u : Tok) (s : Shared) (Q : Value → Shared → Prop) (E : Value → Shared → Prop), Q (.bool (g i j)) s → wpAny (model X.prog X.w) X.A (f (.int i t) (.int j u)) Q E s) :
    OpR X f (rI0 fun i j => .bl (g i j)) := by
  intro pins s σ H x y v u Q I rx ry h
  obtain ⟨i, j, rfl, rfl, q⟩ := h
  obtain ⟨t, rfl⟩ := rx
  obtain ⟨t', rfl⟩ := ry
  exact rule i j t t' s _ _ ⟨.bl (g i j), H, I, rfl, q⟩
def CPow (i j : Int) : Prop := 0 ≤ j ∧ j ≤ 1000000 ∧ i.natAbs < 2 ^ 64
def CMul (i j : Int) : Prop := (-(2 ^ 64) < i ∧ i < 2 ^ 64) ∨ (-(2 ^ 64) < j ∧ j < 2 ^ 64)
theorem CMul.ok {i j : Int} (h : CMul i j) : IntMulOk i j := by
  rcases h with ⟨h1, h2⟩ | ⟨h1, h2⟩
  · exact .of_left (intBits_le_64 h1 h2)
  · exact .of_right (intBits_le_64 h1 h2)
theorem op_add : OpR X (binaryOp .Add) (rI0 fun i j => .int (i + j)) := opI0 fun _ _ _ _ _ _ _ q => add_int q
theorem op_sub : OpR X (binaryOp .Sub) (rI0 fun i j => .int (i - j)) := opI0 fun _ _ _ _ _ _ _ q => sub_int q
theorem op_mod : OpR X (binaryOp .Mod) (rI (fun _ j => 0 < j) fun i j => .int (i % j)) := opI fun i j _ _ _ _ _ hc q => by
  have h1 : (0 : Int) < j := hc
  exact mod_int' (by omega) (by rw [Int.fmod_eq_emod_of_nonneg i (by omega)]; exact q)
theorem op_pow : OpR X (binaryOp .Pow) (rI CPow fun i j => .int (i ^ j.toNat)) := opI fun _ _ _ _ _ _ _ hc q => pow_int_small hc.1 hc.2.1 hc.2.2 q
theorem unI {f : Value → Sem Value} {g : Int → Int}
    (rule : ∀ (i : Int) (t : Tok) (s : Shared) (Q : Value → Shared → Prop) (E : Value → Shared → Prop), Q (.int (g i) s.toks) { s with toks := s.toks + 1 } → wpAny (model X.prog X.w) X.A (f (.int i t)) Q E s) :
    UnR X f (rU fun i => .int (g i)) := by
  intro pins s σ H x v Q I rx h
  obtain ⟨i, rfl, q⟩ := h
  obtain ⟨t, rfl⟩ := rx
  exact rule i t s _ _ ⟨.int (g i), H, I.tok _, ⟨_, rfl⟩, q⟩
theorem un_neg : UnR X (unaryOp .USub) (rU fun i => .int (-i)) := unI fun _ _ _ _ _ q => neg_int q
end
def scal : V → V → Bool
  | .non, .non => true | .non, .int _ => true | .int _, .non => true | .non, .bl _ => true | .bl _, .non => true | .non, .str _ => true | .str _, .non => true
  | .int _, .int _ => true | .bl _, .bl _ => true | .str _, .str _ => true | .byt _, .byt _ => true
  | .int _, .str _ => true | .str _, .int _ => true | .bl _, .str _ => true | .str _, .bl _ => true
  | _, _ => false
def rEq : R2 := fun x y H Q => scal x y = true ∧ Q (.bl (decide (x = y))) H
def rNe : R2 := fun x y H Q => scal x y = true ∧ Q (.bl (!decide (x = y))) H
theorem dec_int {i j : Int} : decide (V.int i = V.int j) = (i == j) := by
  rw [Bool.eq_iff_iff]
  simp
theorem dec_bl {i j : Bool} : decide (V.bl i = V.bl j) = (i == j) := by
  rw [Bool.eq_iff_iff]
  simp
theorem dec_str {i j : Str} : decide (V.str i = V.str j) = (i == j) := by
  rw [Bool.eq_iff_iff]
  simp
theorem dec_byt {i j : Array UInt8} : decide (V.byt i = V.byt j) = (i.toList == j.toList) := by
  rw [Bool.eq_iff_iff]
  cases i
  cases j
  simp
section
variable {X : Cx} {a b c : Expr} {ta tb tc : TE} {pos : Pos}
theorem fin_bl {pins : List (Addr × Obj)} {σ : St} {H : Hp} {s : Shared} {Q : VK} {k k' : Bool} (I : Inv X pins σ H s) (q : Q (.bl k) H) (e : k = k') : EP X pins σ Q (.bool k') s := by
  subst e
  exact ⟨.bl k, H, I, rfl, q⟩
theorem op_eq : OpR X (compareOp .Eq) rEq := by
  intro pins s σ H x y v u Q I rx ry h
  obtain ⟨hs, q⟩ := h
  cases x with
  | non =>
    cases rx
    cases y with
    | non => cases ry; exact PySem.EqNone.eq_none_none (fin_bl I q (by simp))
    | bl j => cases ry; exact PySem.EqNone.eq_none_bool (fin_bl I q (by simp))
    | int j => obtain ⟨t', rfl⟩ := ry; exact PySem.EqNone.eq_none_int (fin_bl I q (by simp))
    | str j => obtain ⟨t', rfl⟩ := ry; exact PySem.EqNone.eq_none_str (fin_bl I q (by simp))
    | _ => exact absurd (show false = true from hs) Bool.false_ne_true
  | bl i =>
    cases rx
    cases y with
    | non => cases ry; exact PySem.EqNone.eq_bool_none (fin_bl I q (by simp))
    | bl j => cases ry; exact eq_bool (fin_bl I q dec_bl)
    | str j => obtain ⟨t', rfl⟩ := ry; exact PySem.EqMixed.eq_bool_str (fin_bl I q (by simp))
    | _ => exact absurd (show false = true from hs) Bool.false_ne_true
  | int i =>
    obtain ⟨t, rfl⟩ := rx
    cases y with
    | non => cases ry; exact PySem.EqNone.eq_int_none (fin_bl I q (by simp))
    | int j => obtain ⟨t', rfl⟩ := ry; exact eq_int (fin_bl I q dec_int)
    | str j => obtain ⟨t', rfl⟩ := ry; exact PySem.EqMixed.eq_int_str (fin_bl I q (by simp))
    | _ => exact absurd (show false = true from hs) Bool.false_ne_true
  | str i =>
    obtain ⟨t, rfl⟩ := rx
    cases y with
    | non => cases ry; exact PySem.EqNone.eq_str_none (fin_bl I q (by simp))
    | bl j => cases ry; exact PySem.EqMixed.eq_str_bool (fin_bl I q (by simp))
    | int j => obtain ⟨t', rfl⟩ := ry; exact PySem.EqMixed.eq_str_int (fin_bl I q (by simp))
    | str j => obtain ⟨t', rfl⟩ := ry; exact eq_str (fin_bl I q dec_str)
    | _ => exact absurd (show false = true from hs) Bool.false_ne_true
  | byt i =>
    obtain ⟨t, rfl⟩ := rx
    cases y with
    | byt j => obtain ⟨t', rfl⟩ := ry; exact PySem.W.eq_bytes (fin_bl I q dec_byt)
    | _ => exact absurd (show false = true from hs) Bool.false_ne_true
  | _ => cases y <;> exact absurd (show false = true from hs) Bool.false_ne_true
theorem op_ne : OpR X (compareOp .NotEq) rNe := by
  intro pins s σ H x y v u Q I rx ry h
  obtain ⟨hs, q⟩ := h
  cases x with
  | non =>
    cases rx
    cases y with
    | non => cases ry; exact PySem.EqNone.ne_none_none (fin_bl I q (by simp))
    | bl j => cases ry; exact PySem.EqNone.ne_none_bool (fin_bl I q (by simp))
    | int j => obtain ⟨t', rfl⟩ := ry; exact PySem.EqNone.ne_none_int (fin_bl I q (by simp))
    | str j => obtain ⟨t', rfl⟩ := ry; exact PySem.EqNone.ne_none_str (fin_bl I q (by simp))
    | _ => exact absurd (show false = true from hs) Bool.false_ne_true
  | bl i =>
    cases rx
    cases y with
    | non => cases ry; exact PySem.EqNone.ne_bool_none (fin_bl I q (by simp))
    | bl j => cases ry; exact ne_bool (fin_bl I q (congrArg not dec_bl))
    | str j => obtain ⟨t', rfl⟩ := ry; exact PySem.EqMixed.ne_bool_str (fin_bl I q (by simp))
    | _ => exact absurd (show false = true from hs) Bool.false_ne_true
  | int i =>
    obtain ⟨t, rfl⟩ := rx
    cases y with
    | non => cases ry; exact PySem.EqNone.ne_int_none (fin_bl I q (by simp))
    | int j => obtain ⟨t', rfl⟩ := ry; exact ne_int (fin_bl I q (congrArg not dec_int))
    | str j => obtain ⟨t', rfl⟩ := ry; exact PySem.EqMixed.ne_int_str (fin_bl I q (by simp))
    | _ => exact absurd (show false = true from hs) Bool.false_ne_true
  | str i =>
    obtain ⟨t, rfl⟩ := rx
    cases y with
    | non => cases ry; exact PySem.EqNone.ne_str_none (fin_bl I q (by simp))
    | bl j => cases ry; exact PySem.EqMixed.ne_str_bool (fin_bl I q (by simp))
    | int j => obtain ⟨t', rfl⟩ := ry; exact PySem.EqMixed.ne_str_int (fin_bl I q (by simp))
    | str j => obtain ⟨t', rfl⟩ := ry; exact ne_str (fin_bl I q (congrArg not dec_str))
    | _ => exact absurd (show false = true from hs) Bool.false_ne_true
  | byt i =>
    obtain ⟨t, rfl⟩ := rx
    cases y with
    | byt j => obtain ⟨t', rfl⟩ := ry; exact PySem.W.ne_bytes (fin_bl I q (congrArg not dec_byt))
    | _ => exact absurd (show false = true from hs) Bool.false_ne_true
  | _ => cases y <;> exact absurd (show false = true from hs) Bool.false_ne_true
theorem op_lt : OpR X (compareOp .Lt) (rI0 fun i j => .bl (decide (i < j))) := opB0 fun _ _ _ _ _ _ _ q => lt_int q
theorem op_gt : OpR X (compareOp .Gt) (rI0 fun i j => .bl (decide (j < i))) := opB0 fun _ _ _ _ _ _ _ q => gt_int q
theorem nomark (b : Expr) {op : CmpOp} (h : op ≠ .In := by decide) (h2 : op ≠ .NotIn := by decide) : behindInMarks op b = false := by
  have e1 : (op == CmpOp.In) = false := by cases op <;> first | rfl | exact absurd rfl h
  have e2 : (op == CmpOp.NotIn) = false := by cases op <;> first | rfl | exact absurd rfl h2
  cases b <;> simp [behindInMarks, e1, e2]
theorem pe_cmpR {op : CmpOp} {r : R2} (ho : OpR X (compareOp op) r) (ha : PE X a ta) (hb : PE X b tb) (hm : behindInMarks op b = false) : PE X (.Compare a [op] [b] pos) (tOp r ta tb) := by
  intro pins s σ H Q I h
  exact wpAny_Compare1 (binT ha hb I h fun v u s2 x y H2 I2 rx ry q => ho pins s2 σ H2 x y v u Q I2 rx ry q) hm
def tTest (t : TE) : TT := fun σ H Q => t σ H fun x H' => ∃ k, x = .bl k ∧ Q k H'
theorem pt_cmpR {op : CmpOp} {r : R2} (ho : OpR X (compareOp op) r) (ha : PE X a ta) (hb : PE X b tb) (hm : behindInMarks op b = false) : PT X (.Compare a [op] [b] pos) (tTest (tOp r ta tb)) := by
  intro pins s σ H Q I h
  refine wpAny_isTrue_Compare1 (thn (ha pins s σ H _ I h) fun v s1 ⟨x, H1, I1, r1, q1⟩ => thn (hb pins s1 σ H1 _ I1 q1) fun u s2 ⟨y, H2, I2, r2, q2⟩ =>
    thn (ho pins s2 σ H2 x y v u _ I2 r1 r2 q2) fun c s3 ⟨z, H3, I3, r3, k, e, q3⟩ => ?_) hm
  subst e
  cases r3
  exact wpAny_truthy_bool ⟨H3, I3, q3⟩
theorem line63 : (sizeLine : Nat) < 2 ^ 63 := by rw [sizeLine_eq]; decide
theorem vals1 {x : V} {us : List Value} (r : Vals [x] us) : ∃ u, us = [u] ∧ RelV x u := by
  cases r with
  | cons r1 r2 => cases r2; exact ⟨_, rfl, r1⟩
theorem vals2 {x y : V} {us : List Value} (r : Vals [x, y] us) : ∃ u w', us = [u, w'] ∧ RelV x u ∧ RelV y w' := by
  cases r with
  | cons r1 r2 =>
    cases r2 with
    | cons r3 r4 => cases r4; exact ⟨_, _, rfl, r1, r3⟩
end
end L2
namespace L2
open PySem PySem.Spec PyProof.Rows
structure ObjM (h : Heap) (x dx C : Addr) (mA : Str → Option Value) : Prop where
  obj : h.get? x = some (PySem.W.instObj C dx)
  ns : h.Ns1 dx mA
  ne : dx ≠ x
theorem lookIn_ns {h : Heap} {dx : Addr} {mA : Str → Option Value} (n : h.Ns1 dx mA) : ∃ od, h.get? dx = some od ∧ ∀ name, PySem.W.lookIn name od = some (mA name) := by
  obtain ⟨o, es, ep, ho, hd, hk, _, hm⟩ := n
  refine ⟨o, ho, fun name => ?_⟩
  have e := hm name
  unfold nsFind findBy at e
  rw [← Array.find?_toList] at e
  unfold PySem.W.lookIn
  rw [hd]
  dsimp only
  split
  · rename_i y q
    rw [q] at e
    exact congrArg some e
  · rename_i q
    rw [q] at e
    have a : es.toList.any (·.refKey) = false := by
      rw [List.any_eq_false]
      intro y hy
      obtain ⟨z, t, hkey⟩ := hk y (Array.mem_toList_iff.mp hy)
      simp [DictEntry.refKey, hkey]
    have a' : ¬ es.toList.any (·.refKey) = true := by rw [a]; exact Bool.false_ne_true
    rw [if_neg a']
    exact congrArg some e
theorem ObjM.look {h : Heap} {x dx C : Addr} {mA : Str → Option Value} (I : ObjM h x dx C mA) : ∃ od, PySem.W.InstAt h x (PySem.W.instObj C dx) C (some od) ∧ ∀ name, PySem.W.lookIn name od = some (mA name) :=
  let ⟨od, ho, hl⟩ := lookIn_ns I.ns
  ⟨od, ⟨I.obj, rfl, rfl, ho⟩, hl⟩
section
variable {prog : Program} {w : World} {A : Around} {E : Value → Shared → Prop} {s : Shared} {K : PySem.W.Frag} {x dx C f : Addr} {mA : Str → Option Value} {name : Str} {v : Value}
end
section
variable {P : Program} {w : World} {H H' : Hp} {h h' : Heap} {a C dx : Addr} {fs fs' : List (Str × V)}
theorem ins_get (hok : HOk P w H h) (e : H a = some (.ins C dx fs)) : ∃ mA, ObjM h a dx C mA ∧ (∀ f, RelO (fs.lookup f) (mA f)) ∧ PySem.Within mA (fs.map (·.1)) ∧ fs.length ≤ 1000 ∧ H dx = some (.own a) := by
  obtain ⟨d, z, ne, ob, mA, n, r, q⟩ := (show ObjOk P w H h a (.ins C dx fs) from hok a _ e)
  exact ⟨mA, ⟨ob, n, ne⟩, r, q, z, d⟩
end
structure Cls (K : PySem.W.Frag) (C : Addr) : Prop where
  pg : PySem.W.plainGet K C Str.empty = true
  hd : PySem.W.hasDictIn K C = true
  po : PySem.W.plainOver K C = true
  sa : PySem.W.findIn K (.ref C) "__setattr__" = some (some (.builtin "object.__setattr__"))
theorem Cls.get {K : PySem.W.Frag} {C : Addr} (c : Cls K C) (f : Str) : PySem.W.plainGet K C f = true := c.pg
section
variable {X : Cx} {pins : List (Addr × Obj)} {σ : St} {H : Hp} {s : Shared} {a C dx : Addr} {fs : List (Str × V)} {f : Str} {v : V} {A : Around} {E : Value → Shared → Prop}
theorem Inv.made (I : Inv X pins σ H s) : Inv X pins σ (upd (upd H s.heap.objs.size (.own (s.heap.objs.size + 1))) (s.heap.objs.size + 1) (.ins C s.heap.objs.size []))
    { s with heap := (s.heap.push PySem.W.emptyDict).push (PySem.W.instObj C s.heap.objs.size) } := by
  have e1 : (s.heap.push PySem.W.emptyDict).get? s.heap.objs.size = some PySem.W.emptyDict := Heap.get?_push_size s.heap rfl
  have e2 : ((s.heap.push PySem.W.emptyDict).push (PySem.W.instObj C s.heap.objs.size)).get? (s.heap.objs.size + 1) = some (PySem.W.instObj C s.heap.objs.size) := by
    have := Heap.get?_push_size (s.heap.push PySem.W.emptyDict) (o := PySem.W.instObj C s.heap.objs.size) rfl
    rwa [Heap.size_push] at this
  have e3 : (s.heap.push PySem.W.emptyDict).Ns s.heap.objs.size (fun _ => none) := ⟨PySem.W.emptyDict, #[], _, e1, rfl, (fun e he => absurd he (by simp)), fun _ => rfl⟩
  have I1 := I.laid (a := s.heap.objs.size) (o := .own (s.heap.objs.size + 1)) (h' := s.heap.push PySem.W.emptyDict) (t' := s.toks) (fun b u q => Heap.get?_push_of_some _ q) (Nat.le_refl _) ⟨_, e1⟩
  refine I1.laid (a := s.heap.objs.size + 1) (o := .ins C s.heap.objs.size []) (t' := s.toks) (fun b u q => Heap.get?_push_of_some _ q) (Nat.le_of_eq (Heap.size_push _ _)) ?_
  have ne : s.heap.objs.size ≠ s.heap.objs.size + 1 := Nat.ne_of_lt (Nat.lt_succ_self _)
  refine ⟨by rw [upd_ne ne, upd_same], Nat.zero_le _, ne, e2, fun _ => none, (Heap.Ns1.of_empty e3).at fun o q => Heap.get?_push_of_some _ q, fun _ => True.intro, fun y hy => absurd rfl hy⟩
end
section
variable {X : Cx} {o e value : Expr} {f : Str} {pos pos' tpos : Pos} {ta tv : TE}
end
section
variable {X : Cx} {pins : List (Addr × Obj)} {σ : St} {H : Hp} {s : Shared} {A : Around} {E : Value → Shared → Prop} {Q : Value → Shared → Prop} {c : Value} {b : Bool}
inductive TyOf (K : PySem.W.Frag) (H : Hp) : V → Value → Prop where
  | non : TyOf K H .non (.type "NoneType")
  | bl (x : Bool) : TyOf K H (.bl x) (.type "bool")
  | int (i : Int) : TyOf K H (.int i) (.type "int")
  | str (x : Str) : TyOf K H (.str x) (.type "str")
  | flt (x : UInt64) : TyOf K H (.flt x) (.type "float")
  | lst {a : Addr} {xs : List V} (e : H a = some (.lst xs)) : TyOf K H (.ref a) (.type "list")
  | frz {a : Addr} {o : Obj} {xs : List V} (e : H a = some (.frz o (.lst xs))) : TyOf K H (.ref a) (.type "list")
  | tup {a : Addr} {xs : List V} (e : H a = some (.tup xs)) : TyOf K H (.ref a) (.type "tuple")
  | dK {a : Addr} {kvs : List (Key × V)} (e : H a = some (.dK kvs)) : TyOf K H (.ref a) (.type "dict")
  | dT {a : Addr} {kvs : List (List Key × V)} (e : H a = some (.dT kvs)) : TyOf K H (.ref a) (.type "dict")
  | ins {a C dx : Addr} {fs : List (Str × V)} (e : H a = some (.ins C dx fs)) (cl : Cls K C) (ha : PySem.W.findIn K (.ref C) "__class__" = some (some (.builtin "object.__class__")))
      (hn : PySem.W.specialIn K (.builtin "object.__class__") "__get__" = some (some (.builtin "getset_descriptor.__get__"))) (htk : PySem.W.takesIn K (.builtin "object.__class__") = some true)
      (hm : PySem.W.mroIn K C (.type "object") = some true) : TyOf K H (.ref a) (.ref C)
end
end L2
namespace L2
open PySem PySem.Spec PyProof.Rows
structure Room (k : Nat) (A : Around) : Prop where
  hd : A.handled = none
  dp : A.depth + 3 * k + 5 < recursionLimit
  un : A.units + 16 * k + 200 < cLine
theorem Room.mono {j k : Nat} {A : Around} (r : Room k A) (h : j ≤ k) : Room j A := ⟨r.hd, by have := r.dp; omega, by have := r.un; omega⟩
theorem Room.deeper {k : Nat} {A : Around} (r : Room (k + 1) A) (env : Env) : Room k (A.deeper env) :=
  ⟨r.hd, by have := r.dp; show A.depth + 1 + 3 * k + 5 < _; omega, by have := r.un; show A.units + 3 + 16 * k + 200 < _; omega⟩
theorem Room.depth {k : Nat} {A : Around} (r : Room k A) : A.depth < recursionLimit := by have := r.dp; omega
theorem Room.units {k : Nat} {A : Around} (r : Room k A) : A.units + 64 < cLine := by have := r.un; omega
def tNil : TA := fun _ H Q => Q [] H
def tCons (ta : TE) (tr : TA) : TA := fun σ H Q => ta σ H fun x H1 => tr σ H1 fun xs H2 => Q (x :: xs) H2
section
variable {X : Cx} {e : Expr} {es : List Expr} {te : TE} {t : TA} {pos : Pos}
theorem pa_nil : PA X [] tNil := fun _ _ _ _ H Q I h => Calls.spliced_nil ⟨[], H, I, .nil, h⟩
theorem pa_cons (ha : PE X e te) (hr : PA X es t) (hs : starEach (e :: es) X.env = (false, eval e X.env) :: starEach es X.env := by rfl) : PA X (e :: es) (tCons te t) := by
  intro pos pins s σ H Q I h
  rw [hs]
  show wpAny _ _ (spliced ((false, eval e X.env) :: backTo pos (starEach es X.env))) _ _ s
  refine Calls.spliced_cons (thn (ha pins s σ H _ I h) fun u s1 ⟨x, H1, I1, r1, q1⟩ => ?_)
  exact thn (hr pos pins s1 σ H1 _ I1 q1) fun us s2 ⟨xs, H2, I2, r2, q2⟩ => ⟨x :: xs, H2, I2, .cons r1 r2, q2⟩
def tTup (t : TA) : TE := fun σ H Q => t σ H fun xs H1 => xs.length ≤ sizeLine ∧ ∀ p, H1 p = none → Q (.ref p) (upd H1 p (.tup xs))
def tLst (t : TA) : TE := fun σ H Q => t σ H fun xs H1 => xs.length ≤ sizeLine ∧ ∀ p, H1 p = none → Q (.ref p) (upd H1 p (.lst xs))
theorem pe_tup {x1} (h : PA X es t) : PE X (.Tuple es x1 pos) (tTup t) := by
  intro pins s σ H Q I hq
  refine wpAny_Tuple_spliced (thn (h pos pins s σ H _ I hq) fun us s1 ⟨xs, H1, I1, r, z, q⟩ => ⟨by rw [← r.length]; exact z, ?_⟩)
  have hf : H1 s1.heap.objs.size = none := I1.hok.fresh (Nat.le_refl _)
  refine ⟨.ref s1.heap.objs.size, upd H1 s1.heap.objs.size (.tup xs), I1.laid (t' := s1.toks) (fun b u e => Heap.get?_push_of_some _ e) (Nat.le_refl _) ?_, rfl, q _ hf⟩
  exact ⟨z, us, r, ⟨_, Heap.get?_push_size _ rfl, rfl, _, rfl⟩⟩
theorem pe_lst (h : PA X es t) : PE X (.List es pos) (tLst t) := by
  intro pins s σ H Q I hq
  refine wpAny_List_spliced (thn (h pos pins s σ H _ I hq) fun us s1 ⟨xs, H1, I1, r, z, q⟩ => ⟨by rw [← r.length]; exact z, ?_⟩)
  have hf : H1 s1.heap.objs.size = none := I1.hok.fresh (Nat.le_refl _)
  refine ⟨.ref s1.heap.objs.size, upd H1 s1.heap.objs.size (.lst xs), I1.laid (t' := s1.toks) (fun b u e => Heap.get?_push_of_some _ e) (Nat.le_refl _) ?_, rfl, q _ hf⟩
  exact ⟨z, us, 0, r, Heap.get?_push_size _ rfl⟩
end
abbrev Sp := List V → Hp → VK → XK → Prop
abbrev CXT := List Env → Hp → Shared → XK → Value → Shared → Prop
structure Env0 (P : Program) (w : World) (K : PySem.W.Frag) (mg : Str → Option Value) (base : Heap) (A : Around) (outer : List Env) (s : Shared) (H : Hp) : Prop where
  frames : A.frames = some outer
  mod : Mod K mg base
  bs : ∀ b o, base.get? b = some o → s.heap.get? b = some o ∧ H b = none
  bsz : base.objs.size ≤ s.heap.objs.size
  funs : s.heap.FunFrames base outer
  frf : ∀ b ∈ frs outer, H b = none
  hok : HOk P w H s.heap
  bare : AllBare s.gens
def CE (outer : List Env) (P : Program) (w : World) (H : Hp) (s : Shared) (Q : VK) (u : Value) (s' : Shared) : Prop :=
  ∃ v H', s'.os = s.os ∧ AllBare s'.gens ∧ Un (frs outer) [] H H' s.heap s'.heap ∧ HOk P w H' s'.heap ∧ RelV v u ∧ Q v H'
def CR (CX : CXT) (outer : List Env) (P : Program) (w : World) (H : Hp) (s : Shared) (Q : VK) (E : XK) (r : Result) (s' : Shared) : Prop :=
  match r with
  | .ok (.ret u) => CE outer P w H s Q u s'
  | .ok _ => False
  | .error e => CX outer H s E e s'
structure FnOk (P : Program) (w : World) (K : PySem.W.Frag) (mg : Str → Option Value) (base : Heap) (CX : CXT) (k : Nat) (f : Addr) (fd : FuncData) (ps : List Str) (sp : Sp) : Prop where
  len : ∀ vs H Q E, sp vs H Q E → vs.length = ps.length
  run : ∀ (A : Around) (outer : List Env) (s : Shared) (H : Hp) (args : Args) (us : List Value) (vs : List V) (Q : VK) (E : XK), Room k A → Env0 P w K mg base A outer s H → BindsTo s fd args (ps.zip us) → Vals vs us → sp vs H Q E →
    codeAny (model P w) A (.call (.ref f) args) (CR CX outer P w H s Q E) s
theorem FnOk.mono {P : Program} {w : World} {K : PySem.W.Frag} {mg : Str → Option Value} {base : Heap} {CX : CXT} {j k : Nat} {f : Addr} {fd : FuncData} {ps : List Str} {sp : Sp} (F : FnOk P w K mg base CX j f fd ps sp) (h : j ≤ k) :
    FnOk P w K mg base CX k f fd ps sp := ⟨F.len, fun A outer s H args us vs Q E hr => F.run A outer s H args us vs Q E (hr.mono h)⟩
theorem FnOk.imp {P : Program} {w : World} {K : PySem.W.Frag} {mg : Str → Option Value} {base : Heap} {CX : CXT} {k : Nat} {f : Addr} {fd : FuncData} {ps : List Str} {sp sp' : Sp} (F : FnOk P w K mg base CX k f fd ps sp)
    (h : ∀ vs H Q E, sp' vs H Q E → sp vs H Q E) : FnOk P w K mg base CX k f fd ps sp' :=
  ⟨fun vs H Q E q => F.len vs H Q E (h _ _ _ _ q), fun A outer s H args us vs Q E hr he hb hv hs => F.run A outer s H args us vs Q E hr he hb hv (h _ _ _ _ hs)⟩
section
variable {X : Cx} {pins : List (Addr × Obj)} {σ : St} {H : Hp} {s s' : Shared}
theorem Inv.env0 (I : Inv X pins σ H s) : Env0 X.prog X.w X.K X.mg X.base X.A X.stack s H :=
  ⟨I.ok.frames, I.ok.mod, I.bs, Nat.le_trans I.ok.bsz I.sz, I.stack, I.stkFree, I.hok, I.bare⟩
theorem Inv.after {Q : VK} {u : Value} (I : Inv X pins σ H s) (h : CE X.stack X.prog X.w H s Q u s') : EP X pins σ Q u s' := by
  obtain ⟨v, H', os, bare, un, hok, r, q⟩ := h
  obtain ⟨hh, g, d, t, os'⟩ := s'
  obtain rfl : os' = s.os := os
  exact ⟨v, H', I.call (h' := hh) (g' := g) (d' := d) (t' := t) (ch := []) un hok bare (fun b z => absurd z (by simp)), r, q⟩
end
def tCall (sp : Sp) (dvs : List V) (E : XK) (t : TA) : TE := fun σ H Q => t σ H fun vs H1 => sp (vs ++ dvs) H1 Q E
def Binds (K : PySem.W.Frag) (fd : FuncData) (ps : List Str) (ds : List Value) : Prop :=
  ∀ (s : Shared) (us : List Value), K.In s.heap → (us ++ ds).length = ps.length → BindsTo s fd ⟨us, []⟩ (ps.zip (us ++ ds))
theorem Binds.all {K : PySem.W.Frag} {fd : FuncData} {ps : List Str} (h : ∀ us : List Value, us.length = ps.length → bindArgs fd ⟨us, []⟩ = pure (ps.zip us)) : Binds K fd ps [] := fun s us _ hl => by
  rw [List.append_nil] at hl ⊢
  exact .of_eq (h us hl)
def Passes (CX : CXT) (X : Cx) (E : XK) : Prop := ∀ (pins : List (Addr × Obj)) (σ : St) (H : Hp) (s : Shared) (e : Value) (s' : Shared), Inv X pins σ H s → CX X.stack H s E e s' → X.xe e s'
section
variable {X : Cx} {CX : CXT} {k : Nat} {f C : Addr} {fd : FuncData} {ps : List Str} {sp : Sp} {dvs : List V} {ds : List Value} {E : XK} {x m : Str} {p pos apos : Pos} {e o : Expr} {es : List Expr} {ta : TE} {t : TA}
theorem run_fn {pins : List (Addr × Obj)} {σ : St} {H : Hp} {s : Shared} {Q : VK} {us : List Value} {vs : List V} (F : FnOk X.prog X.w X.K X.mg X.base CX k f fd ps sp) (hr : Room k X.A) (hb : Binds X.K fd ps ds) (hd : Vals dvs ds) (hx : Passes CX X E)
    (I : Inv X pins σ H s) (r : Vals vs us) (h : sp (vs ++ dvs) H Q E) : wpAny (model X.prog X.w) X.A (call (.ref f) us) (EP X pins σ Q) X.xe s := by
  have r2 : Vals (vs ++ dvs) (us ++ ds) := r.append hd
  have hl : (us ++ ds).length = ps.length := by rw [← r2.length]; exact F.len _ _ _ _ h
  refine wpAny_call (codeAny_mono (F.run X.A X.stack s H ⟨us, []⟩ (us ++ ds) (vs ++ dvs) Q E hr I.env0 (hb s us I.kIn hl) r2 h) fun r s' hq => ?_)
  cases r with
  | error e => exact hx pins σ H s e s' I hq
  | ok fl =>
    cases fl with
    | ret u => exact I.after hq
    | next => exact False.elim hq
    | brk => exact False.elim hq
    | cont => exact False.elim hq
theorem pe_call (F : FnOk X.prog X.w X.K X.mg X.base CX k f fd ps sp) (hr : Room k X.A) (hg : Gl X x) (hm : X.mg x = some (.ref f)) (hk : PySem.W.keepIn X.K (.ref f) = true) (hb : Binds X.K fd ps ds) (hd : Vals dvs ds) (hx : Passes CX X E)
    (ha : PA X (e :: es) t) (hdb : (x == ("__debug__" : Str)) = false := by decide) (he : starEach (e :: es) X.env = (false, eval e X.env) :: starEach es X.env := by rfl) (hpl : (backTo pos (starEach es X.env)).any (·.1) = false := by rfl) :
    PE X (.Call (.Name x p) (e :: es) [] pos) (tCall sp dvs E t) := by
  intro pins s σ H Q I h
  refine wpAny_Call_Name_kw (ld_glob I hg hm ?_ hdb)
  refine PySem.W.callWith_K (h₀ := X.base) I.ok.mod.kin hk (thn (ha pos pins s σ H _ I h) fun us s1 ⟨vs, H1, I1, r, q⟩ => ⟨I1.kIn, ?_⟩) he hpl
  exact run_fn F hr hb hd hx I1 r q
end
section
variable {X : Cx} {CX : CXT} {k : Nat} {f C : Addr} {fd : FuncData} {ps ks : List Str} {sp : Sp} {E : XK} {x m : Str} {p pos apos kpos : Pos} {e o : Expr} {es : List Expr} {kws : List Keyword} {te ta : TE} {t tk : TA} {nm : Option Str}
variable {g : List Value → List Value → List Value} {gV : List V → List V → List V}
end
structure FnScope (N P : List Str) (sc : Scope) : Prop where
  kind : sc.kind = .function
  co : sc.isCoroutine = false
  gen : sc.isGenerator = false
  nd : N.Nodup
  pre : N.take P.length = P
  par : ∀ x ∈ P, sc.names.lookup x = some .local ∨ sc.names.lookup x = some .cell
  nofree : ∀ y ∈ sc.names, y.2 ≠ .free
theorem bindL_out {kindOf : Str → Option NameKind} {x : Str} : ∀ {binds : List (Str × Value)} {m : Str → Option Value}, (∀ v, (x, v) ∉ binds) → bindL kindOf binds m x = m x
  | [], _, _ => rfl
  | (n, v) :: r, m, h => by
    unfold bindL
    rw [bindL_out fun w hw => h w (List.mem_cons_of_mem _ hw)]
    split
    · have : x ≠ n := by rintro rfl; exact h v List.mem_cons_self
      simp [this]
    · rfl
theorem bindC_out {kindOf : Str → Option NameKind} {x : Str} : ∀ {binds : List (Str × Value)} {m : Str → Option Value}, (∀ v, (x, v) ∉ binds) → bindC kindOf binds m x = m x
  | [], _, _ => rfl
  | (n, v) :: r, m, h => by
    unfold bindC
    rw [bindC_out fun w hw => h w (List.mem_cons_of_mem _ hw)]
    split
    · rfl
    · have : x ≠ n := by rintro rfl; exact h v List.mem_cons_self
      simp [this]
theorem bindL_get {kindOf : Str → Option NameKind} {x : Str} {v : Value} : ∀ {P : List Str} {vs : List Value} {i : Nat} {m : Str → Option Value}, P.Nodup → P[i]? = some x → vs[i]? = some v → kindOf x = some .local →
    bindL kindOf (P.zip vs) m x = some v
  | [], _, _, _, _, h, _, _ => by simp at h
  | _ :: _, [], _, _, _, _, h, _ => by simp at h
  | p :: P, w :: vs, 0, m, nd, h1, h2, hk => by
    simp at h1 h2; subst h1; subst h2
    show bindL kindOf ((p, w) :: P.zip vs) m p = _
    unfold bindL
    rw [bindL_out fun v hv => (List.nodup_cons.mp nd).1 (List.of_mem_zip hv).1, if_pos hk]
    simp
  | p :: P, w :: vs, i + 1, m, nd, h1, h2, hk => by
    show bindL kindOf ((p, w) :: P.zip vs) m x = _
    unfold bindL
    exact bindL_get (i := i) (List.nodup_cons.mp nd).2 (by simpa using h1) (by simpa using h2) hk
theorem bindC_get {kindOf : Str → Option NameKind} {x : Str} {v : Value} : ∀ {P : List Str} {vs : List Value} {i : Nat} {m : Str → Option Value}, P.Nodup → P[i]? = some x → vs[i]? = some v → kindOf x ≠ some .local →
    bindC kindOf (P.zip vs) m x = some v
  | [], _, _, _, _, h, _, _ => by simp at h
  | _ :: _, [], _, _, _, _, h, _ => by simp at h
  | p :: P, w :: vs, 0, m, nd, h1, h2, hk => by
    simp at h1 h2; subst h1; subst h2
    show bindC kindOf ((p, w) :: P.zip vs) m p = _
    unfold bindC
    rw [bindC_out fun v hv => (List.nodup_cons.mp nd).1 (List.of_mem_zip hv).1, if_neg hk]
    simp
  | p :: P, w :: vs, i + 1, m, nd, h1, h2, hk => by
    show bindC kindOf ((p, w) :: P.zip vs) m x = _
    unfold bindC
    exact bindC_get (i := i) (List.nodup_cons.mp nd).2 (by simpa using h1) (by simpa using h2) hk
def start (N : List Str) (vs : List V) : St := vs.map some ++ List.replicate (N.length - vs.length) none
def cxOf (CX : CXT) (P : Program) (w : World) (K : PySem.W.Frag) (mg : Str → Option Value) (base : Heap) (N : List Str) (qual : Str) (scope : Scope) (f : Addr) (cd : Value) (A : Around) (outer : List Env) (s : Shared) (H : Hp) (E : XK) : Cx where
  prog := P
  w := w
  K := K
  mg := mg
  base := base
  A := A.deeper (envOfC qual scope s.heap.objs.size f cd)
  N := N
  s₀ := s
  H₀ := H
  env := envOfC qual scope s.heap.objs.size f cd
  outer := outer
  stack := envOfC qual scope s.heap.objs.size f cd :: outer
  ex := []
  calm := true
  fn := fun _ => true
  pn := []
  xe := fun e s' => wpAny (model P w) (A.deeper (envOfC qual scope s.heap.objs.size f cd)) (leaving (envOfC qual scope s.heap.objs.size f cd) e) (fun _ s'' => CX outer H s E e s'') (fun e' s'' => CX outer H s E e' s'') s'
theorem cell_has {sc : Scope} {n : Nat} {x : Str} (h : sc.names.lookup x = some .cell) : ∃ c, (cellsFrom n sc.names []).lookup x = some c := by
  have q := PySem.W.cellsFrom_some sc.names n [] (.inl h)
  exact Option.isSome_iff_exists.mp q
theorem inv_start {CX : CXT} {P : Program} {w : World} {K : PySem.W.Frag} {mg : Str → Option Value} {base : Heap} {N ps : List Str} {qual : Str} {scope : Scope} {f : Addr} {cd : Value} {A : Around} {outer : List Env} {s s1 : Shared} {H : Hp} {E : XK} {us : List Value} {vs : List V}
    (S : FnScope N ps scope) (hd : A.handled = none) (e0 : Env0 P w K mg base A outer s H) (hl : vs.length = ps.length) (r : Vals vs us)
    (x : InCallC s s.heap.objs.size (bindL (envOfC qual scope s.heap.objs.size f cd).kindOf (ps.zip us) fun _ => none) (cellsFrom (s.heap.objs.size + 1) scope.names []) (bindC (envOfC qual scope s.heap.objs.size f cd).kindOf (ps.zip us) fun _ => none) s1) :
    Inv (cxOf CX P w K mg base N qual scope f cd A outer s H E) [] (start N vs) H s1 := by
  have hpl : ps.length ≤ N.length := by have := congrArg List.length S.pre; rw [List.length_take] at this; omega
  obtain ⟨h1, tk, rfl, hk⟩ := x.done
  have noA : ∀ b : Addr, b ∉ (cxOf CX P w K mg base N qual scope f cd A outer s H E).ex := fun b z => absurd (show b ∈ ([] : List Addr) from z) (by simp)
  refine ⟨⟨e0.mod, S.kind, rfl, rfl, Nat.le_refl _, fun y z c h1 h2 => ?_, fun y hy => ?_, fun y c _ h => ?_, fun _ => hd, Around.frames_deeper e0.frames, .inr ⟨rfl, rfl⟩, fun b z => absurd z (noA b), e0.bs, e0.bsz, fun b _ _ => noA b, fun b z => absurd z (noA b), e0.funs, e0.frf⟩,
    rfl, e0.bare, Un.kept hk, ⟨_, x.toInCall.ns, fun i y v h1 h2 h3 => ?_⟩, fun y c h => ⟨_, x.cell y c h⟩, e0.hok.fresh (Nat.le_refl _), fun y c h => ?_, fun p hp => absurd (show p ∈ ([] : List (Addr × Obj)) from hp) (by simp), e0.hok.kept hk, ?_⟩
  · exact name_of_addr x.apart (PySem.mem_of_lookup h1) (PySem.mem_of_lookup h2)
  · have hy : scope.names.lookup y = some .cell ∨ scope.names.lookup y = some .free := hy
    rcases hy with hy | hy
    · exact cell_has hy
    · exact absurd rfl (S.nofree _ (PySem.mem_of_lookup hy))
  · exact Nat.le_of_lt (x.above y c (PySem.mem_of_lookup h))
  · have hi : i < vs.length := by
      unfold start at h2
      by_cases hi : i < vs.length
      · exact hi
      · rw [List.getElem?_append_right (by simpa using hi)] at h2
        rw [List.getElem?_replicate] at h2
        split at h2 <;> cases h2
    have ha : vs[i]? = some v := by
      unfold start at h2
      rw [List.getElem?_append_left (by simpa using hi), List.getElem?_map] at h2
      cases e : vs[i]? with
      | none => rw [e] at h2; cases h2
      | some a => rw [e] at h2; cases h2; rfl
    obtain ⟨u, hu, rv⟩ := r.get ha
    have hp : ps[i]? = some y := by
      rw [← S.pre, List.getElem?_take_of_lt (by omega)]; exact h1
    have ndP : ps.Nodup := by rw [← S.pre]; exact S.nd.sublist (List.take_sublist _ _)
    refine ⟨u, rv, ?_⟩
    rcases S.par y (List.mem_of_getElem? hp) with k | k
    · exact .inl ⟨k, bindL_get ndP hp hu k⟩
    · obtain ⟨c, e⟩ := cell_has (n := s.heap.objs.size + 1) k
      refine .inr ⟨.inl k, c, e, ?_⟩
      have q := x.cell y c e
      rw [bindC_get ndP hp hu (by show scope.names.lookup y ≠ _; rw [k]; decide)] at q
      exact q
  · exact e0.hok.fresh (Nat.le_of_lt (x.above y c (PySem.mem_of_lookup h)))
  · unfold start
    show _ = N.length
    rw [List.length_append, List.length_map, List.length_replicate]
    omega
theorem fn_of {CX : CXT} {P : Program} {w : World} {K : PySem.W.Frag} {mg : Str → Option Value} {base : Heap} {k : Nat} {f : Addr} {name qual : Str} {params : Arguments} {body : List Stmt} {scope : Scope} {dV kV doc pm cdv ct oc : Value} {an od : Option Addr}
    {osl : Array (Option Value)} {N ps : List Str} {sp : Sp} (lk : K.lookup f = some ⟨oc, od, .func (PySem.W.fnOf name qual params body scope dV kV doc pm an cdv ct), osl⟩) (hcd : PySem.W.codeIn K cdv qual = true) (S : FnScope N ps scope)
    (len : ∀ vs H Q E, sp vs H Q E → vs.length = ps.length)
    (hbody : ∀ (A : Around) (outer : List Env) (s : Shared) (H : Hp) (vs : List V) (Q : VK) (E : XK), Room k (A.deeper (envOfC qual scope s.heap.objs.size f cdv)) → sp vs H Q E →
      ∃ t, PSs (cxOf CX P w K mg base N qual scope f cdv A outer s H E) body t ∧ t { nx := fun _ H' => Q .non H', rt := Q } (start N vs) H) :
    FnOk P w K mg base CX (k + 1) f (PySem.W.fnOf name qual params body scope dV kV doc pm an cdv ct) ps sp := by
  refine ⟨len, fun A outer s H args us vs Q E hr e0 hb r hsp => ?_⟩
  have hl := len _ _ _ _ hsp
  have KX : K.In s.heap := e0.mod.kin.keeps fun b o e => (e0.bs b o e).1
  have lim : s.heap.NoLimit := e0.mod.nolimit.keeps fun b o e => (e0.bs b o e).1
  have hkind : ∀ y ∈ ps.zip us, scope.names.lookup y.1 = some .local ∨ (scope.names.lookup y.1 = some .cell ∧ ((cellsFrom (s.heap.objs.size + 1) scope.names []).lookup y.1).isSome = true) := fun ⟨n, v⟩ hy => by
    rcases S.par n (List.of_mem_zip hy).1 with q | q
    · exact .inl q
    · exact .inr ⟨q, PySem.W.cellsFrom_some _ _ _ (.inl q)⟩
  refine codeAny_call_function hr.depth (KX _ _ lk) rfl S.co S.gen rfl (PySem.W.codeRec_of KX hcd) (hb _ _ _ _ ?_)
  refine wpAny_newFunctionEnv_cells S.kind hkind fun env he s1 x => ?_
  subst he
  refine ⟨lim.keeps x.toInCall.keep, codeAny_func ?_⟩
  obtain ⟨t, ht, hq⟩ := hbody A outer s H vs Q E (hr.deeper _) hsp
  have I : Inv (cxOf CX P w K mg base N qual scope f cdv A outer s H E) [] (start N vs) H s1 := inv_start S hr.hd e0 hl r x
  refine wpAny_mono (ht [] s1 (start N vs) H _ I hq) (fun fl s' hs => ?_) fun e s' hs => hs
  have fin : ∀ {σ' : St} {H' : Hp} {v : V} {u : Value}, Inv (cxOf CX P w K mg base N qual scope f cdv A outer s H E) [] σ' H' s' → RelV v u → Q v H' → CE outer P w H s Q u s' :=
    fun {σ' H' v u} J rv q => ⟨v, H', J.os, J.bare, J.base, J.hok, rv, q⟩
  cases fl with
  | ret u =>
    obtain ⟨v, σ', H', J, rv, q⟩ := hs
    exact fin J rv q
  | next =>
    obtain ⟨σ', H', J, q⟩ := hs
    exact fin (v := V.non) (u := Value.none) J rfl q
  | brk =>
    obtain ⟨_, _, _, q⟩ := hs
    exact False.elim q
  | cont =>
    obtain ⟨_, _, _, q⟩ := hs
    exact False.elim q
end L2
namespace L2
open PySem PySem.Spec PyProof.Rows
section
variable {X : Cx} {x : Str} {p pos : Pos} {e : Expr} {es : List Expr} {t : TA} {id T : String} {r : List V → Hp → VK → Prop}
def tCB (r : List V → Hp → VK → Prop) (t : TA) : TE := fun σ H Q => t σ H fun vs H1 => r vs H1 Q
theorem pe_callB (hc : CallR X (.builtin id) r) (hg : Gl X x) (hm : X.mg x = none) (hv : bootBuiltins x = some (.builtin id)) (ha : PA X (e :: es) t) (hn : x ≠ "__name__" := by decide) (hdb : (x == ("__debug__" : Str)) = false := by decide)
    (he : starEach (e :: es) X.env = (false, eval e X.env) :: starEach es X.env := by rfl) (hpl : (backTo pos (starEach es X.env)).any (·.1) = false := by rfl) : PE X (.Call (.Name x p) (e :: es) [] pos) (tCB r t) := by
  intro pins s σ H Q I h
  refine wpAny_Call_Name_kw (ld_blt I hg hm hv ?_ hn hdb)
  exact PyProof.Rows.callWith_builtin1 (thn (ha pos pins s σ H _ I h) fun us s1 ⟨vs, H1, I1, r1, q1⟩ => hc pins s1 σ H1 vs us Q I1 r1 q1) he hpl
end
end L2
namespace HT
open PySem PyProof.Rows
section
open PySem.SeqAt
open PySem.AutoSeq1 (wpAny_loadPart')
open PySem.MeetsSeq PySem.MeetsSeq2 PySem.MeetsSeq3
end
section
variable {prog : Program} {w : World} {A : Around} {E : Value → Shared → Prop} {s : Shared}
end
end HT
namespace L2
open PySem PySem.Spec PyProof.Rows
abbrev TO := St → Hp → (Option Int → Hp → Prop) → Prop
section
variable {X : Cx} {e : Expr} {te : TE} {lo hi : Option Expr} {tl th : TO} {pos p2 : Pos}
end
end L2
namespace L2
open PySem PySem.Spec PyProof.Rows
def ixN (n : Nat) (i : Int) : Option Nat := if 0 ≤ i then (if i < n then some i.toNat else none) else if -(n : Int) ≤ i then some (i + n).toNat else none
def atI {α : Type} (xs : List α) (i : Int) : Option α := (ixN xs.length i).bind fun j => xs[j]?
theorem ixN_seq {n : Nat} {i : Int} {j : Nat} (h : ixN n i = some j) : seqIndex? i n = some j ∧ j < n ∧ -(n : Int) ≤ i ∧ i < n := by
  unfold ixN at h
  by_cases h0 : 0 ≤ i
  · rw [if_pos h0] at h
    by_cases h1 : i < n
    · rw [if_pos h1] at h
      have e : i.toNat = j := Option.some.inj h
      exact ⟨by rw [seqIndex_of h0 h1, e], by omega, by omega, h1⟩
    · rw [if_neg h1] at h; cases h
  · rw [if_neg h0] at h
    by_cases h1 : -(n : Int) ≤ i
    · rw [if_pos h1] at h
      have e : (i + n).toNat = j := Option.some.inj h
      exact ⟨by rw [seqIndex_neg (by omega) h1, e], by omega, h1, by omega⟩
    · rw [if_neg h1] at h; cases h
theorem atI_get {α : Type} {xs : List α} {i : Int} {v : α} (h : atI xs i = some v) : ∃ j, seqIndex? i xs.length = some j ∧ xs[j]? = some v ∧ j < xs.length ∧ -(xs.length : Int) ≤ i ∧ i < xs.length := by
  unfold atI at h
  cases e : ixN xs.length i with
  | none => rw [e] at h; cases h
  | some j =>
    rw [e] at h
    obtain ⟨h1, h2, h3, h4⟩ := ixN_seq e
    exact ⟨j, h1, h, h2, h3, h4⟩
def PlainIx (b : Expr) : Prop := ∀ o i, subscripted b false o i = operate [o, i] (getItem o i)
def IxR (X : Cx) (r : R2) : Prop :=
  ∀ (value slice : Expr) (pins : List (Addr × Obj)) (s : Shared) (σ : St) (H : Hp) (x y : V) (v u : Value) (Q : VK), Inv X pins σ H s → RelV x v → RelV y u → r x y H Q →
    subscripted slice false v u = operate [v, u] (getItem v u) → wpAny (model X.prog X.w) X.A (subscriptTail value slice v u) (EP X pins σ Q) X.xe s
section
variable {X : Cx} {a b : Expr} {ta tb : TE} {pos : Pos}
theorem pe_ix {r : R2} (hr : IxR X r) (ha : PE X a ta) (hb : PE X b tb) (hs : PlainIx b) : PE X (.Subscript a b pos) (tOp r ta tb) := by
  intro pins s σ H Q I h
  exact Subscript_ (binT ha hb I h fun v u s2 x y H2 I2 rx ry q => hr a b pins s2 σ H2 x y v u Q I2 rx ry q (hs _ _))
def rIxL (K : PySem.W.Frag) : R2 := fun x y H Q => ∃ p xs i v, x = .ref p ∧ y = .int i ∧ SqL K H p xs ∧ atI xs i = some v ∧ Q v H
def rIxT (K : PySem.W.Frag) : R2 := fun x y H Q => ∃ p xs i v, x = .ref p ∧ y = .int i ∧ SqT K H p xs ∧ atI xs i = some v ∧ Q v H
theorem ix_list : IxR X (rIxL X.K) := by
  intro value slice pins s σ H x y v u Q I rx ry h hs
  obtain ⟨p, xs, i, z, rfl, rfl, hq, he, q⟩ := h
  cases rx
  obtain ⟨t, rfl⟩ := ry
  obtain ⟨its, r, pl, hz⟩ := I.list hq
  obtain ⟨j, h1, h2, h3, h4, h5⟩ := atI_get he
  obtain ⟨w, ew, rw'⟩ := r.get h2
  have hl := r.length
  have hn := line63
  have fin : EP X pins σ Q w s := ⟨z, H, I, rw', q⟩
  by_cases h0 : 0 ≤ i
  · have hj : i.toNat = j := by
      rw [seqIndex_of h0 h5] at h1
      exact Option.some.inj h1
    exact item_listR pl.isList h0 (by omega) (by rw [hj]; simpa using ew) fin hs
  · have hj : (i + (its.toArray.size : Int)).toNat = j := by
      rw [seqIndex_neg (by omega) h4] at h1
      rw [List.size_toArray, ← hl]
      exact Option.some.inj h1
    exact subscriptTail_builtinR (x := w) pl.isList.typeIs slot_list_getitem.lookup
      (wpAny_getItem_list_neg (Q := fun r s' => r = w ∧ EP X pins σ Q r s') pl.isList (by omega) (by rw [List.size_toArray] <;> omega) (by omega) (by rw [hj]; simpa using ew) ⟨rfl, fin⟩) hs
theorem ix_tup : IxR X (rIxT X.K) := by
  intro value slice pins s σ H x y v u Q I rx ry h hs
  obtain ⟨p, xs, i, z, rfl, rfl, hq, he, q⟩ := h
  cases rx
  obtain ⟨t, rfl⟩ := ry
  obtain ⟨its, r, pl, hz⟩ := I.tuple hq
  obtain ⟨j, h1, h2, h3, h4, h5⟩ := atI_get he
  obtain ⟨w, ew, rw'⟩ := r.get h2
  have hl := r.length
  have hn := line63
  have fin : EP X pins σ Q w s := ⟨z, H, I, rw', q⟩
  exact subscriptTail_builtinR (x := w) pl.typeIs slot_tuple_getitem.lookup
    (getItem_tuple (j := j) (Q := fun r s' => r = w ∧ EP X pins σ Q r s') pl (by omega) (by omega) (by rw [List.size_toArray, ← hl]; exact h1) (by simpa using ew) ⟨rfl, fin⟩) hs
theorem Inv.lst {pins : List (Addr × Obj)} {σ : St} {H : Hp} {s : Shared} {p : Addr} {xs : List V} (I : Inv X pins σ H s) (h : H p = some (.lst xs)) :
    ∃ (its : List Value) (n : Nat), Vals xs its ∧ s.heap.get? p = some { cls := .type "list", data := .seq its.toArray n } ∧ xs.length ≤ sizeLine := by
  obtain ⟨z, its, n, r, e⟩ := I.hok p _ h
  exact ⟨its, n, r, e, z⟩
def flatV : V → Bool
  | .non => true
  | .bl _ => true
  | .int _ => true
  | .str _ => true
  | _ => false
def eqV : V → V → Bool
  | .non, .non => true
  | .bl a, .bl b => a == b
  | .bl a, .int b => (if a then 1 else 0) == b
  | .int a, .bl b => a == (if b then 1 else 0)
  | .int a, .int b => a == b
  | .str a, .str b => a == b
  | _, _ => false
theorem eqAt_V {A : Around} {s : Shared} {y x : V} {u v : Value} (ry : RelV y u) (rx : RelV x v) (fy : flatV y = true) (fx : flatV x = true) : SeqAt.EqAt A s u v (eqV y x) := by
  cases y with
  | non =>
    cases ry
    cases x with
    | non => cases rx; exact SeqAt.EqAt.same _
    | bl b => cases rx; exact SeqAt.EqAt.none_bool b
    | int b => obtain ⟨t, rfl⟩ := rx; exact SeqAt.EqAt.none_int b t
    | str b => obtain ⟨t, rfl⟩ := rx; exact SeqAt.EqAt.none_str b t
    | _ => exact absurd (show false = true from fx) Bool.false_ne_true
  | bl a =>
    cases ry
    cases x with
    | non => cases rx; exact SeqAt.EqAt.bool_none a
    | bl b => cases rx; exact SeqAt.EqAt.bool_bool a b
    | int b => obtain ⟨t, rfl⟩ := rx; exact SeqAt.EqAt.bool_int a b t
    | str b => obtain ⟨t, rfl⟩ := rx; exact SeqAt.EqAt.bool_str a b t
    | _ => exact absurd (show false = true from fx) Bool.false_ne_true
  | int a =>
    obtain ⟨t', rfl⟩ := ry
    cases x with
    | non => cases rx; exact SeqAt.EqAt.int_none a t'
    | bl b => cases rx; exact SeqAt.EqAt.int_bool a t' b
    | int b => obtain ⟨t, rfl⟩ := rx; exact SeqAt.EqAt.int_int a t' b t
    | str b => obtain ⟨t, rfl⟩ := rx; exact SeqAt.EqAt.int_str a t' b t
    | _ => exact absurd (show false = true from fx) Bool.false_ne_true
  | str a =>
    obtain ⟨t', rfl⟩ := ry
    cases x with
    | non => cases rx; exact SeqAt.EqAt.str_none a t'
    | bl b => cases rx; exact SeqAt.EqAt.str_bool a t' b
    | int b => obtain ⟨t, rfl⟩ := rx; exact SeqAt.EqAt.str_int a t' b t
    | str b => obtain ⟨t, rfl⟩ := rx; exact SeqAt.EqAt.str_str a t' b t
    | _ => exact absurd (show false = true from fx) Bool.false_ne_true
  | _ => exact absurd (show false = true from fy) Bool.false_ne_true
theorem call_len_seq : CallR X (.builtin "len") (fun xs H Q => ∃ p ys, xs = [.ref p] ∧ (SqL X.K H p ys ∨ SqT X.K H p ys) ∧ Q (.int ys.length) H) := by
  intro pins s σ H xs us Q I r h
  obtain ⟨p, ys, rfl, hq, q⟩ := h
  obtain ⟨u, rfl, rx⟩ := vals1 r
  cases rx
  have hn := line63
  rcases hq with hq | hq
  · obtain ⟨its, r', pl, hz⟩ := I.list hq
    have hlen := r'.length
    exact Calls.call_len_list pl.isList (by simp only [List.size_toArray] <;> omega) ⟨.int ys.length, H, I.tok _, ⟨s.toks + 1, by rw [List.size_toArray, hlen]⟩, q⟩
  · obtain ⟨its, r', pl, hz⟩ := I.tuple hq
    have hlen := r'.length
    exact len_tuple pl (by simp only [List.size_toArray] <;> omega) ⟨.int ys.length, H, I.tok _, ⟨s.toks + 1, by rw [List.size_toArray, hlen]⟩, q⟩
variable {o e : Expr} {es : List Expr} {to : TE} {t : TA} {name : Str} {apos cpos : Pos} {T id : String} {r : V → List V → Hp → VK → Prop}
end
end L2
namespace L2
open PySem PySem.Spec PyProof.Rows
theorem Vals.one : ∀ {x : V} {us : List Value}, Vals [x] us → ∃ u, us = [u] ∧ RelV x u
  | _, _, .cons r .nil => ⟨_, rfl, r⟩
section
variable {X : Cx} {pins : List (Addr × Obj)} {σ : St} {H : Hp} {s : Shared} {l b : Addr} {xs ys zs : List V}
theorem Inv.fresh (I : Inv X pins σ H s) : H s.heap.objs.size = none := I.hok.fresh (Nat.le_refl _)
end
section
variable {X : Cx}
end
section
variable {prog : Program} {w : World} {A : Around} {E : Value → Shared → Prop} {s : Shared}
end
section
variable {X : Cx}
end
end L2
namespace Att
open PySem PySem.W PySem.Calls PyProof.Rows
theorem ints_of_wellAll {P : Params} {h : Heap} : ∀ (ns : List Int) (vs : List Value), WellAll P h vs (ns.map WData.int) → IntsAre vs ns := by
  intro ns
  induction ns with
  | nil =>
    intro vs w
    rw [List.map_nil] at w
    cases w
    exact .nil
  | cons n ns ih =>
    intro vs w
    rw [List.map_cons] at w
    cases w with
    | cons a b =>
      cases a
      exact .cons _ _ (ih _ b)
theorem script_of {l : OpenLaw} {n : Nat} (hn : l.most = some n) {P : Params} {h : Heap} {args : List WData} {vals : List Value}
    (hpre : l.row.toRowW.claim.pre args = true) (hwl : WellAll P h vals args) :
    ∃ a vs ns, vals = [Value.ref a] ∧ args = [WData.list (ns.map WData.int)] ∧ h.get? a = some { cls := .type "list", data := .seq vs.toArray } ∧ IntsAre vs ns ∧ ns.length ≤ n := by
  have hsh : WShape.hasAll [] args [.list .int] = true := (pre_splitW hpre).1
  have hc : l.pre.holds [] { args := args } = true := (pre_splitW hpre).2
  obtain ⟨d, r, rfl, h1, h2⟩ := hasAllW_cons hsh
  obtain rfl := hasAllW_nil h2
  obtain ⟨xs, rfl, h3⟩ := hasW_list h1
  obtain ⟨ns, rfl⟩ := items_int h3
  have hlen : ns.length ≤ n := by
    unfold OpenLaw.pre at hc
    have h4 : (WTm.not (.lt (.lit (.int (n : Int))) (.len (.arg 0)))).holds [] { args := [.list (ns.map .int)] } = true := by
      have h4 := (holds_andW hc).1
      rw [hn] at h4
      exact h4
    have h5 := condW_of h4 (w_not (w_lt w_lit (w_len_list (w_arg rfl))))
    rw [List.length_map] at h5
    refine Nat.le_of_not_lt fun q => ?_
    have q' : (n : Int) < ((ns.length : Nat) : Int) := by omega
    first
      | (rw [decide_eq_true q'] at h5; exact absurd h5 (by decide))
      | (simp at h5; omega)
  cases hwl with
  | cons w1 w2 =>
    cases w2
    cases w1 with
    | list ho hall => exact ⟨_, _, ns, rfl, rfl, ho, ints_of_wellAll ns _ hall, hlen⟩
theorem post_true (l : OpenLaw) (args : List WData) : l.row.toRowW.claim.post args (.bool true) args = true :=
  postW_of (r := l.row.toRowW) (X := (true == true))
    (show WShape.has [] (.bool true) .bool = true by first | rfl | decide | simp [WShape.has, WShape.arms, WShape.armsAll])
    (show (WTm.eq .res (.lit (.bool true))).value [] { args := args, res := some (.bool true), after := args } = some (.bool (true == true)) from w_eq_bool (w_res rfl) w_lit) rfl
section
variable {prog : Program} {w : World} {A : Around} {E : Value → Shared → Prop} {s : Shared} {K : Frag}
end
end Att
namespace L2
open PySem PySem.Spec PyProof.Rows
theorem vals_ints : ∀ {vs : List Value} {ns : List Int}, IntsAre vs ns → Vals (ns.map V.int) vs
  | _, _, .nil => .nil
  | _, _, .cons n t h => .cons ⟨t, rfl⟩ (vals_ints h)
def Only (H : Hp) : Prop := ∀ b, H b = none ∨ ∃ o xs, H b = some (.frz o (.lst xs))
theorem law_call {P : Program} {w : World} {K : PySem.W.Frag} {mg mb : Str → Option Value} {CX : CXT} {k : Nat} {fa a : Addr} {fd : FuncData} {x : Str} {sp : Sp} {s₁ : Shared} {vs : List Value} {ns : List Int}
    (KX : K.In s₁.heap) (hns : s₁.heap.Ns mainGlobals mg) (hb : s₁.heap.Ns builtinsNs mb) (hbb : ∀ x : Str, x ≠ "__name__" → mb x = bootBuiltins x) (hlim : s₁.heap.NoLimit) (hg : s₁.gens = #[])
    (ha : s₁.heap.get? a = some { cls := .type "list", data := .seq vs.toArray }) (hi : IntsAre vs ns) (hl : ns.length ≤ sizeLine) (hr : Room k callerA)
    (F : ∀ base : Heap, K.In base → base.Ns mainGlobals mg → FnOk P w K mg base CX k fa fd [x] sp) (hbind : ∀ (s : Shared) (u : Value), BindsTo s fd ⟨[u], []⟩ [(x, u)])
    (hsp : ∀ H : Hp, Only H → SqL K H a (ns.map V.int) → sp [.ref a] H (fun v _ => v = .bl true) fun _ _ _ => False)
    (hCX : ∀ H e s', CX [] H s₁ (fun _ _ _ => False) e s' → False) :
    codeAny (model P w) callerA (.call (.ref fa) ⟨[.ref a], []⟩) (fun r s' => r = .ok (.ret (.bool true)) ∧ OldK s₁.heap s'.heap ∧ s'.os = s₁.os ∧ AllBare s'.gens) s₁ := by
  have rv := vals_ints hi
  have lenV := hi.length
  -- from an abstract heap in which nothing but the script may be tracked
  have core : ∀ H : Hp, Only H → SqL K H a (ns.map V.int) → HOk P w H s₁.heap → (∀ b, H b ≠ none → b = a) → (H a ≠ none → K.lookup a = none) →
      codeAny (model P w) callerA (.call (.ref fa) ⟨[.ref a], []⟩) (fun r s' => r = .ok (.ret (.bool true)) ∧ OldK s₁.heap s'.heap ∧ s'.os = s₁.os ∧ AllBare s'.gens) s₁ := by
    intro H hO hS hok hA hK
    have base_of : ∀ {b : Addr} {o : Obj}, s₁.heap.get? b = some o → H b = none → (hidT s₁.heap H).get? b = some o := fun e n => hidT_get e n
    have noA : ∀ {b : Addr} {o : Obj} {es : Array DictEntry} {ep : Nat}, s₁.heap.get? b = some o → o.data = .dict es ep → H b = none := fun {b o es ep} e d => by
      cases q : H b with
      | none => rfl
      | some u =>
        have e' : b = a := hA b (by rw [q]; simp)
        subst e'
        rw [ha] at e; cases e
        have d' : Data.seq vs.toArray _ = Data.dict es ep := d
        cases d'
    have nsK : ∀ {b : Addr} {m : Str → Option Value}, s₁.heap.Ns b m → (hidT s₁.heap H).Ns b m := fun {b m} ⟨o, es, ep, e, d, r⟩ => ⟨o, es, ep, base_of e (noA e d), d, r⟩
    have hKb : K.In (hidT s₁.heap H) := fun b o e => base_of (KX b o e) (by
      cases q : H b with
      | none => rfl
      | some u =>
        have e' : b = a := hA b (by rw [q]; simp)
        subst e'
        rw [hK (by rw [q]; simp)] at e; cases e)
    have hM : Mod K mg (hidT s₁.heap H) := ⟨hKb, nsK hns, ⟨mb, nsK hb, hbb⟩, let ⟨mc, h1, h2⟩ := hlim; ⟨mc, nsK h1, h2⟩⟩
    have e0 : Env0 P w K mg (hidT s₁.heap H) callerA [] s₁ H := ⟨rfl, hM, fun b o e => of_hidT e, Nat.le_of_eq (hidT_size _ _), trivial, fun b hb => absurd (show b ∈ ([] : List Addr) from hb) (by simp), hok, .of_eq hg⟩
    refine codeAny_mono ((F _ hKb (nsK hns)).run callerA [] s₁ H ⟨[.ref a], []⟩ [.ref a] [.ref a] _ _ hr e0 (hbind s₁ (.ref a)) (.cons rfl .nil) (hsp H hO hS)) fun r s' h => ?_
    cases r with
    | error e => exact (hCX H e s' h).elim
    | ok fl =>
      cases fl with
      | next => exact False.elim h
      | brk => exact False.elim h
      | cont => exact False.elim h
      | ret u =>
        obtain ⟨v, H', os, bare, un, hok', r', q⟩ := h
        have q' : v = .bl true := q
        subst q'
        obtain rfl : u = Value.bool true := r'
        refine ⟨rfl, OldK.of_keep fun b o e => ?_, os, bare⟩
        cases q : H b with
        | none => exact un.keep b o e q (by intro z; exact absurd (show b ∈ ([] : List Addr) from z) (by simp)) (by simp)
        | some u =>
          rcases hO b with z | ⟨ob, xs, z⟩
          · rw [q] at z; cases z
          · have z2 := un.frzs b ob _ z
            obtain ⟨e1, _⟩ := hok b _ z
            obtain ⟨e2, _⟩ := hok' b _ z2
            rw [e] at e1; cases e1
            exact e2
  cases hk : K.lookup a with
  | some o =>
    -- the script is one of the module's own objects
    have e := KX a o hk
    rw [ha] at e
    cases e
    refine core (fun _ => none) (fun _ => .inl rfl) (.inr ⟨_, vs.toArray, _, hk, rfl, rfl, rfl, by rw [List.size_toArray, lenV]; exact hl, by simpa using rv⟩) (fun b u z => by have z' : (none : Option HO) = some u := z; cases z') (fun b z => absurd rfl z) fun z => absurd rfl z
  | none =>
    refine core (fun b => if b = a then some (.frz { cls := .type "list", data := .seq vs.toArray } (.lst (ns.map V.int))) else none) (fun b => ?_) (.inl (.inr ⟨{ cls := .type "list", data := .seq vs.toArray }, if_pos rfl⟩)) (fun b u z => ?_) (fun b z => ?_) fun _ => hk
    · by_cases hb : b = a
      · exact .inr ⟨_, _, if_pos hb⟩
      · exact .inl (if_neg hb)
    · by_cases hb : b = a
      · have z' := (if_pos hb).symm.trans z
        cases z'
        subst hb
        exact ⟨ha, by rw [List.length_map]; exact hl, vs, _, rv, ha⟩
      · have z' := (if_neg hb).symm.trans z
        cases z'
    · by_cases hb : b = a
      · exact hb
      · exact absurd (if_neg hb) z
end L2
namespace L2
open PySem PySem.Spec PyProof.Rows
end L2
namespace L2
open PySem PySem.Spec PyProof.Rows
def defArgs (s : Stmt) : Arguments := match s with
  | .FunctionDef _ a _ _ _ _ _ _ _ _ => a
  | _ => { posonlyargs := [], args := [], vararg := none, kwonlyargs := [], kw_defaults := [], kwarg := none, defaults := [] }
def defBody (s : Stmt) : List Stmt := match s with
  | .FunctionDef _ _ b _ _ _ _ _ _ _ => b
  | _ => []
def defScope (s : Stmt) : Scope := match s with
  | .FunctionDef _ _ _ _ _ _ sc _ _ _ => sc
  | _ => { kind := .function, names := [], isGenerator := false, isCoroutine := false }
abbrev CX0 : CXT := fun _ _ _ _ _ _ => False
abbrev E0 : XK := fun _ _ _ => False
structure Fun (K : PySem.W.Frag) (x qual : Str) (st : Stmt) (f : Addr) (fd : FuncData) : Prop where
  ex : ∃ (oc : Value) (od : Option Addr) (kV doc pm : Value) (an : Option Addr) (cdv ct : Value) (osl : Array (Option Value)),
    fd = PySem.W.fnOf x qual (defArgs st) (defBody st) (defScope st) .none kV doc pm an cdv ct ∧ K.lookup f = some ⟨oc, od, .func fd, osl⟩ ∧ PySem.W.codeIn K cdv qual = true
  kp : PySem.W.keepIn K (.ref f) = true
section
variable {P : Program} {w : World} {K : PySem.W.Frag} {mg : Str → Option Value} {base : Heap}
theorem Fun.ok {x qual : Str} {st : Stmt} {f : Addr} {fd : FuncData} {N ps : List Str} {k : Nat} {sp : Sp} (F : Fun K x qual st f fd) (S : FnScope N ps (defScope st)) (len : ∀ vs H Q E, sp vs H Q E → vs.length = ps.length)
    (hbody : ∀ (cdv : Value) (A : Around) (outer : List Env) (s : Shared) (H : Hp) (vs : List V) (Q : VK) (E : XK), Room k (A.deeper (envOfC qual (defScope st) s.heap.objs.size f cdv)) → sp vs H Q E →
      ∃ t, PSs (cxOf CX0 P w K mg base N qual (defScope st) f cdv A outer s H E).nox (defBody st) t ∧ t { nx := fun _ H' => Q .non H', rt := Q } (start N vs) H) : FnOk P w K mg base CX0 (k + 1) f fd ps sp := by
  obtain ⟨oc, od, kV, doc, pm, an, cdv, ct, osl, rfl, lk, hcd⟩ := F.ex
  refine fn_of lk hcd S len fun A outer s H vs Q E hr hsp => ?_
  obtain ⟨t, h, q⟩ := hbody cdv A outer s H vs Q E hr hsp
  exact ⟨t, h.nox, q⟩
theorem Fun.binds {x qual : Str} {st : Stmt} {f : Addr} {fd : FuncData} {ps : List Str} (F : Fun K x qual st f fd)
    (h : ∀ (kV doc pm : Value) (an : Option Addr) (cdv ct : Value) (us : List Value), us.length = ps.length → bindArgs (PySem.W.fnOf x qual (defArgs st) (defBody st) (defScope st) .none kV doc pm an cdv ct) ⟨us, []⟩ = pure (ps.zip us)) : Binds K fd ps [] := by
  obtain ⟨oc, od, kV, doc, pm, an, cdv, ct, osl, rfl, lk, hcd⟩ := F.ex
  exact .all (h kV doc pm an cdv ct)
theorem fun_mk {x qual : Str} {st : Stmt} {f : Addr} {oc : Value} {od an : Option Addr} {osl : Array (Option Value)} {kV doc pm cdv ct : Value} (l : K.lookup f = some ⟨oc, od, .func (PySem.W.fnOf x qual (defArgs st) (defBody st) (defScope st) .none kV doc pm an cdv ct), osl⟩)
    (c : PySem.W.codeIn K cdv qual = true) (k : PySem.W.keepIn K (.ref f) = true) : Fun K x qual st f (PySem.W.fnOf x qual (defArgs st) (defBody st) (defScope st) .none kV doc pm an cdv ct) := ⟨⟨oc, od, kV, doc, pm, an, cdv, ct, osl, rfl, l, c⟩, k⟩
end
theorem hu_of {A : Around} {k : Nat} (hr : Room k A) : A.units + 1 < cLine := Nat.lt_of_le_of_lt (Nat.add_le_add_left (by decide : 1 ≤ 64) _) hr.units
section
variable {X : Cx}
theorem pv (i : Nat) {x : Str} {pos : Pos} (hN : X.N[i]? = some x := by rfl) (hv : Vis X.env.scope x := by first | exact Or.inl rfl | exact Or.inr (Or.inl rfl) | exact Or.inr (Or.inr rfl)) (hd : (x == ("__debug__" : Str)) = false := by decide)
    (hcd : (x == ("__classdict__" : Str)) = false := by decide) : PE X (.Name x pos) (tVar i) := pe_var hN hv hd hcd
end
def Same (H H' : Hp) : Prop := ∀ b o, H b = some o → H' b = some o
theorem Same.refl (H : Hp) : Same H H := fun _ _ h => h
theorem Same.trans {H H1 H2 : Hp} (a : Same H H1) (b : Same H1 H2) : Same H H2 := fun c o h => b c o (a c o h)
theorem Same.free {H H' : Hp} (e : Same H H') {l : Addr} (h : H' l = Option.none) : H l = Option.none := by
  cases q : H l with
  | none => rfl
  | some o =>
    rw [e l o q] at h
    cases h
theorem Same.seq {K : PySem.W.Frag} {H H' : Hp} {a : Addr} {xs : List V} (e : Same H H') (h : SqL K H a xs) : SqL K H' a xs := by
  rcases h with (h | ⟨o, h⟩) | h
  · exact .inl (.inl (e _ _ h))
  · exact .inl (.inr ⟨o, e _ _ h⟩)
  · exact .inr h
end L2
set_option Elab.async false
set_option linter.all false
set_option maxRecDepth 100000
set_option maxHeartbeats 4000000
namespace L2
open PySem PySem.Spec PyProof.Rows
theorem ObjOk.there {P : Program} {w : World} {H : Hp} {h : Heap} {a : Addr} {o : HO} (x : ObjOk P w H h a o) : ∃ ob, h.get? a = some ob := by
  cases o with
  | lst xs => obtain ⟨_, _, _, _, e⟩ := x; exact ⟨_, e⟩
  | tup xs => obtain ⟨_, _, _, p⟩ := x; obtain ⟨o, e, _⟩ := p; exact ⟨_, e⟩
  | dK kvs => obtain ⟨_, _, _, _, o, _, _, e, _⟩ := x; exact ⟨_, e⟩
  | dT kvs => obtain ⟨_, _, _, _, o, _, _, e, _⟩ := x; exact ⟨_, e⟩
  | set S n => obtain ⟨o, _, _, _, e, _⟩ := x; exact ⟨_, e⟩
  | ins C dx fs => obtain ⟨_, _, _, e, _⟩ := x; exact ⟨_, e⟩
  | own y => obtain ⟨_, e⟩ := x; exact ⟨_, e⟩
  | xd fs => obtain ⟨_, ⟨_, _, _, e, _⟩, _⟩ := x; exact ⟨_, e⟩
  | rng lo hi => obtain ⟨_, _, _, e⟩ := x; exact ⟨_, e⟩
  | frz ob u => obtain ⟨e, _⟩ := x; exact ⟨_, e⟩
  | tbl ps => exact ⟨_, (show h.get? a = some _ from x)⟩
  | met f y => exact ⟨_, (show h.get? a = some _ from x)⟩
  | ext φ => obtain ⟨_, ⟨_, e⟩, _⟩ := x; exact ⟨_, e⟩
def Imp (X : Cx) (pins : List (Addr × Obj)) (H : Hp) (b : Addr) : Prop := H b ≠ none ∨ (b ∉ X.ex ∧ ∃ o, X.s₀.heap.get? b = some o) ∨ ∃ p ∈ X.pn ++ pins, p.1 = b
def ctxV : Option Addr → Value
  | none => .none
  | some a => .ref a
def TrX (h B : Heap) (e : Addr) (cls : Value) (cx : Option Addr) (fl : Value) : Prop :=
  ∃ oe vs T oT ts, (h.get? e = some oe ∧ oe.cls = cls ∧ oe.data = .fields vs) ∧ (vs[1]? = some (.ref T) ∧ vs[2]? = some (ctxV cx)) ∧ (B.get? T = none ∧ T ≠ e) ∧ h.get? T = some oT ∧ oT.data = .fields ts ∧ ts[3]? = some fl
theorem ref_not_none (T : Addr) : (Value.ref T != Value.none) = true := by simp
inductive Ph where | new | fly | any
def XTr (B h : Heap) (a : Addr) (cls : Value) (cx : Option Addr) : Ph → Prop
  | .new => ∃ oe vs, h.get? a = some oe ∧ oe.cls = cls ∧ oe.data = .fields vs ∧ vs[1]? = some .none ∧ vs[2]? = some (ctxV cx)
  | .fly => TrX h B a cls cx .none
  | .any => ∃ fl, TrX h B a cls cx fl
theorem XTr.there {B h : Heap} {a : Addr} {cls : Value} {cx : Option Addr} {ph : Ph} (x : XTr B h a cls cx ph) : ∃ oe vs, h.get? a = some oe ∧ oe.cls = cls ∧ oe.data = .fields vs ∧ vs[2]? = some (ctxV cx) := by
  cases ph with
  | new => obtain ⟨oe, vs, h1, h2, h3, _, h4⟩ := x; exact ⟨oe, vs, h1, h2, h3, h4⟩
  | fly => obtain ⟨oe, vs, _, _, _, ⟨h1, h2, h3⟩, ⟨_, h4⟩, _⟩ := x; exact ⟨oe, vs, h1, h2, h3, h4⟩
  | any => obtain ⟨_, oe, vs, _, _, _, ⟨h1, h2, h3⟩, ⟨_, h4⟩, _⟩ := x; exact ⟨oe, vs, h1, h2, h3, h4⟩
section
variable {M : Model} {A : Around} {E : Value → Shared → Prop} {s : Shared}
def NoteX (B : Heap) (l : List Env) (e : Addr) (cls : Value) (cx : Option Addr) (fl : Value) (h h' : Heap) : Prop := B.StaysIn h' ∧ h'.FunFrames B l ∧ TrX h' B e cls cx fl ∧ h.UpToSlots h'
theorem entry_x {B : Heap} {env : Env} {outer : List Env} {L e : Addr} {oe : Obj} {vs : Array Value} {head : Value} {cx : Option Addr} {nx : Bool} {Q : Unit → Shared → Prop} (fr : A.frames = some (env :: outer)) (ff : s.heap.FunFrames B (env :: outer)) (hf : env.frame = some L)
    (ge : s.heap.get? e = some oe) (st : B.StaysIn s.heap) (be : B.get? e = none) (de : oe.data = .fields vs) (z1 : 1 < vs.size) (z2 : vs[2]? = some (ctxV cx)) (q : ∀ h', NoteX B (env :: outer) e oe.cls cx (rawInt L) s.heap h' → Q () { s with heap := h' }) :
    wpAny M A (do let a ← frameOf env; let pl ← entryPlaceOf L nx; let b ← EntryCells.newEntry head a .none (rawInt L) .none pl; setField (.ref e) 1 b) Q E s := by
  have nf : ∀ b o, s.heap.get? b = some o → (∀ ws, o.data ≠ .fields ws) → b ≠ e := fun b o gb nb zb => by subst zb; rw [ge] at gb; cases gb; exact nb vs de
  have out : e ∉ (env :: outer).filterMap (·.frame) := fun m => by obtain ⟨_, o, go, no⟩ := ff.mem m; exact nf e o go no rfl
  refine wpAny_bind (wpAny_frameOf_fun fr ff hf fun h1 only => wpAny_bind (wpAny_entryPlaceOf fun pl place => ?_))
  unfold EntryCells.newEntry newFields
  refine wpAny_bind (wpAny_newObj_type ?_ (place.sizeOk5 _ _ _ _ _))
  have ge1 : h1.get? e = some oe := (only.2.1 e out).trans ge
  have st1 : B.StaysIn h1 := fun b o gb => (only.2.1 b fun m => by have := (ff.mem m).1; rw [this] at gb; cases gb).trans (st b o gb)
  have ne1 : h1.objs.size ≠ e := fun z => absurd (Heap.lt_size ge1) (by rw [z]; exact Nat.lt_irrefl _)
  refine wpAny_setField (Heap.get?_push_of_some _ ge1) de z1 (q _ ?_)
  have far : ∀ {ob : Obj} {g : Obj → Obj} {b : Addr} {o : Obj}, b ≠ e → h1.get? b = some o → ((h1.push ob).update e g).get? b = some o := fun ne gb => (Heap.get?_update_other _ _ (Ne.symm ne)).trans (Heap.get?_push_of_some _ gb)
  refine ⟨fun b o gb => far (fun z => by rw [z, be] at gb; cases gb) (st1 b o gb), ff.of_keeps fun b o gb nb => ?_, ?_, fun b o gb nb => ?_⟩
  · obtain ⟨sl, g⟩ := only.2.2 b o gb; exact ⟨_, far (nf b o gb nb) g, rfl⟩
  · have dd := Obj.data_mapFields de (·.setIfInBounds 1 (Value.ref h1.objs.size))
    refine ⟨_, _, h1.objs.size, _, _, ⟨Heap.get?_update_self _ (Heap.get?_push_of_some _ ge1) (Obj.isFreed_of_fields dd), Obj.cls_mapFields _ _, dd⟩, ⟨by simp [z1], by rw [Array.getElem?_setIfInBounds_ne (by decide)]; exact z2⟩, ⟨st1.fresh, ne1⟩, (Heap.get?_update_other _ _ (Ne.symm ne1)).trans (Heap.get?_push_size h1 rfl), rfl, ?_⟩
    first | (simp; done) | (rcases place with rfl | ⟨_, _, _, _, _, _, _, rfl⟩ <;> simp)
  · obtain ⟨sl, g⟩ := only.2.2 b o gb; exact ⟨sl, far (nf b o gb nb) g⟩
theorem note_first {B : Heap} {env : Env} {outer : List Env} {L e : Addr} {oe : Obj} {vs : Array Value} {cx : Option Addr} {Q : Unit → Shared → Prop} (fr : A.frames = some (env :: outer)) (ff : s.heap.FunFrames B (env :: outer)) (hf : env.frame = some L)
    (ge : s.heap.get? e = some oe) (st : B.StaysIn s.heap) (be : B.get? e = none) (de : oe.data = .fields vs) (z1 : vs[1]? = some .none) (z2 : vs[2]? = some (ctxV cx)) (q : ∀ h', NoteX B (env :: outer) e oe.cls cx (rawInt L) s.heap h' → Q () { s with heap := h' }) : wpAny M A (noteFrame (.ref e) env) Q E s := by
  unfold noteFrame
  simp only [hf]
  refine wpAny_bind (wpAny_field ge de z1 ?_)
  rw [if_neg (by decide)]
  exact entry_x fr ff hf ge st be de (Array.getElem?_eq_some_iff.mp z1).1 z2 q
theorem note_on {B : Heap} {env : Env} {outer : List Env} {L e : Addr} {cls : Value} {cx : Option Addr} {Q : Unit → Shared → Prop} (fr : A.frames = some (env :: outer)) (ff : s.heap.FunFrames B (env :: outer)) (hf : env.frame = some L)
    {fl : Value} (t : TrX s.heap B e cls cx fl) (nl : ¬ (fl == rawInt L) = true) (st : B.StaysIn s.heap) (be : B.get? e = none) (q : ∀ h', NoteX B (env :: outer) e cls cx (rawInt L) s.heap h' → Q () { s with heap := h' }) : wpAny M A (noteFrame (.ref e) env) Q E s := by
  obtain ⟨oe, vs, T, oT, ts, ⟨ge, rfl, de⟩, ⟨z1, z2⟩, ⟨bT, nT⟩, gT, dT, z3⟩ := t
  unfold noteFrame
  simp only [hf]
  refine wpAny_bind (wpAny_field ge de z1 ?_)
  rw [if_pos (ref_not_none T)]
  refine wpAny_bind (wpAny_field gT dT z3 ?_)
  rw [if_neg nl]
  refine wpAny_bind (wpAny_setField gT dT (Array.getElem?_eq_some_iff.mp z3).1 ?_)
  have far : ∀ {g : Obj → Obj} b, b ≠ T → (s.heap.update T g).get? b = s.heap.get? b := fun b ne => Heap.get?_update_other _ _ (Ne.symm ne)
  have nf : ∀ b o, s.heap.get? b = some o → (∀ ws, o.data ≠ .fields ws) → b ≠ T := fun b o gb nb zb => by subst zb; rw [gT] at gb; cases gb; exact nb ts dT
  refine entry_x fr (ff.of_keeps fun b o gb nb => ⟨o, (far b (nf b o gb nb)).trans gb, rfl⟩) hf ((far e (Ne.symm nT)).trans ge) (fun b o gb => (far b fun z => by rw [z, bT] at gb; cases gb).trans (st b o gb)) be de (Array.getElem?_eq_some_iff.mp z1).1 z2 fun h' x => q h' ⟨x.1, x.2.1, x.2.2.1, fun b o gb nb => ?_⟩
  exact x.2.2.2 b o ((far b (nf b o gb nb)).trans gb) nb
theorem note_again {B : Heap} {env : Env} {L e : Addr} {cls : Value} {cx : Option Addr} {fl : Value} {Q : Unit → Shared → Prop} (hf : env.frame = some L) (t : TrX s.heap B e cls cx fl) (el : (fl == rawInt L) = true) (q : Q () s) : wpAny M A (noteFrame (.ref e) env) Q E s := by
  obtain ⟨oe, vs, T, oT, ts, ⟨ge, rfl, de⟩, ⟨z1, z2⟩, ⟨bT, nT⟩, gT, dT, z3⟩ := t
  unfold noteFrame
  simp only [hf]
  refine wpAny_bind (wpAny_field ge de z1 ?_)
  rw [if_pos (ref_not_none T)]
  refine wpAny_bind (wpAny_field gT dT z3 ?_)
  rw [if_pos el]
  exact wpAny_pure q
theorem flight_x {B : Heap} {l : List Env} {e : Addr} {cls fl : Value} {cx fr : Option Addr} {Q : Unit → Shared → Prop} (st : B.StaysIn s.heap) (ff : s.heap.FunFrames B l) (t : TrX s.heap B e cls cx fl)
    (q : ∀ h', NoteX B l e cls cx (fr.elim Value.none fun f => rawInt f) s.heap h' → Q () { s with heap := h' }) : wpAny M A (setFlight (.ref e) fr) Q E s := by
  obtain ⟨oe, vs, T, oT, ts, ⟨ge, rfl, de⟩, ⟨z1, z2⟩, ⟨bT, nT⟩, gT, dT, z3⟩ := t
  have z4 : 3 < ts.size := (Array.getElem?_eq_some_iff.mp z3).1
  have far : ∀ {g : Obj → Obj} b, b ≠ T → (s.heap.update T g).get? b = s.heap.get? b := fun b ne => Heap.get?_update_other _ _ (Ne.symm ne)
  have nf : ∀ b o, s.heap.get? b = some o → (∀ ws, o.data ≠ .fields ws) → b ≠ T := fun b o gb nb zb => by subst zb; rw [gT] at gb; cases gb; exact nb ts dT
  unfold setFlight
  refine wpAny_bind (wpAny_field ge de z1 ?_)
  rw [if_pos (ref_not_none T)]
  refine wpAny_setField gT dT z4 (q _ ⟨fun b o gb => (far b fun z => by rw [z, bT] at gb; cases gb).trans (st b o gb), ff.of_keeps fun b o gb nb => ⟨o, (far b (nf b o gb nb)).trans gb, rfl⟩, ?_, fun b o gb nb => ⟨o.slots, (far b (nf b o gb nb)).trans gb⟩⟩)
  have dd := Obj.data_mapFields dT (·.setIfInBounds 3 (fr.elim Value.none fun f => rawInt f))
  exact ⟨oe, vs, T, _, _, ⟨(far e (Ne.symm nT)).trans ge, rfl, de⟩, ⟨z1, z2⟩, ⟨bT, nT⟩, Heap.get?_update_self _ gT (Obj.isFreed_of_fields dd), dd, by simp [z4]⟩
end
structure XAt (X : Cx) (pins : List (Addr × Obj)) (H : Hp) (s : Shared) (a : Addr) (cls : Value) (cx : Option Addr) (B : Heap) (ph : Ph) : Prop where
  free : H a = none
  stays : B.StaysIn s.heap
  fresh : B.get? a = none
  frames : s.heap.FunFrames B X.stack
  cov : ∀ b o, s.heap.get? b = some o → Imp X pins H b → b ∉ frs X.stack → B.get? b = some o
  tr : XTr B s.heap a cls cx ph
section
variable {X : Cx} {pins : List (Addr × Obj)} {σ : St} {H : Hp} {s : Shared} {a : Addr} {cls : Value} {cx : Option Addr} {B h' : Heap} {ph : Ph}
theorem Imp.there (I : Inv X pins σ H s) {b : Addr} (i : Imp X pins H b) : ∃ o, s.heap.get? b = some o := by
  rcases i with i | ⟨hx, o, i⟩ | ⟨p, hp, e⟩
  · cases q : H b with
    | none => exact absurd q i
    | some u => exact (I.hok b u q).there
  · exact I.base.there b o i hx
  · exact ⟨p.2, by rw [← e]; exact (I.pin p hp).1⟩
theorem Inv.exc (I : Inv X pins σ H s) (cov : ∀ b o, s.heap.get? b = some o → Imp X pins H b → b ∉ frs X.stack → B.get? b = some o) (st : B.StaysIn h') (ups : s.heap.UpToSlots h') :
    Inv X pins σ H { s with heap := h' } := by
  have fr : ∀ b, b ∈ frs X.stack → ∀ o, s.heap.get? b = some o → ∃ sl, h'.get? b = some { o with slots := sl } := fun b hb o e => by
    obtain ⟨_, o', e', d⟩ := I.stack.mem hb
    rw [e] at e'; cases e'
    exact ups b o e d
  have nfr : ∀ b, b ∉ X.fs → b ≠ X.env.locals → b ∉ frs X.stack := fun b h1 h2 z => (List.mem_cons.mp (I.stkSub b z)).elim h2 h1
  have neL : ∀ b o, X.s₀.heap.get? b = some o → b ≠ X.env.locals := fun b o e => Nat.ne_of_lt (Nat.lt_of_lt_of_le (Heap.lt_size e) I.ok.above)
  have cellK : ∀ c v, s.heap.IsCell c v → h'.IsCell c v := fun c v ⟨o, ho, hd⟩ => by
    obtain ⟨sl, q⟩ := ups c o ho (fun vs z => by rw [hd] at z; cases z)
    exact ⟨_, q, hd⟩
  refine ⟨I.ok, I.os, I.bare, ⟨fun b o e n hb hx => ?_, fun b o e n hb hx => ?_, I.base.free, fun b o e hx => ?_, I.base.tups, I.base.frzs, I.base.tbls⟩, ?_, fun x c e => ?_, I.free, I.freeC, fun p hp => ?_, ?_, I.len⟩
  · exact st _ _ (cov b o (I.base.keep b o e n hb hx) (.inr (.inl ⟨hx, o, e⟩)) (nfr b hb (neL b o e)))
  · obtain ⟨sl, e1⟩ := I.base.slot b o e n hb hx
    have hb' : b ∈ frs X.stack := by
      rcases I.ok.stk with q | ⟨q, hf⟩
      · rw [q]; exact hb
      · rw [q]; unfold frs; rw [List.filterMap_cons, hf]; exact List.mem_cons_of_mem _ hb
    obtain ⟨sl', e2⟩ := fr b hb' _ e1
    exact ⟨sl', e2⟩
  · obtain ⟨o', e1⟩ := I.base.there b o e hx
    by_cases hb : b ∈ frs X.stack
    · obtain ⟨sl, q⟩ := fr b hb _ e1
      exact ⟨_, q⟩
    · exact ⟨o', st _ _ (cov b o' e1 (.inr (.inl ⟨hx, o, e⟩)) hb)⟩
  · obtain ⟨m, hn, hl⟩ := I.loc
    refine ⟨m, ups.ns hn, fun i x v e1 e2 e3 => ?_⟩
    obtain ⟨u, r, l⟩ := hl i x v e1 e2 e3
    refine ⟨u, r, ?_⟩
    rcases l with l | ⟨k, c, e, z⟩
    · exact .inl l
    · exact .inr ⟨k, c, e, cellK c _ z⟩
  · obtain ⟨v, z⟩ := I.cell x c e
    exact ⟨v, cellK c v z⟩
  · obtain ⟨e, n, ne, nf, d⟩ := I.pin p hp
    exact ⟨st _ _ (cov p.1 p.2 e (.inr (.inr ⟨p, hp, rfl⟩)) (nfr p.1 nf ne)), n, ne, nf, d⟩
  · intro b u e
    refine (I.hok b u e).stay (fun c v hc q => ?_) (fun _ q => q) fun _ _ q => q
    have hc' : H c ≠ none := by
      rcases hc with z | z
      · rw [z, e]; exact fun q => nomatch q
      · rw [z]; exact fun q => nomatch q
    exact st _ _ (cov c v q (.inl hc') fun z => hc' (I.stkFree c z))
theorem XAt.cov' (x : XAt X pins H s a cls cx B ph) (I : Inv X pins σ H s) (st : B.StaysIn h') : ∀ b o, h'.get? b = some o → Imp X pins H b → b ∉ frs X.stack → B.get? b = some o := fun b o e i n => by
  obtain ⟨o1, e1⟩ := i.there I
  have q := x.cov b o1 e1 i n
  have q2 := st _ _ q
  rw [e] at q2; cases q2
  exact q
variable {M : Model} {A : Around} {E : Value → Shared → Prop} {Q : Unit → Shared → Prop}
theorem note_env {e : Value} {env env0 : Env} (h : env0.frame = env.frame) : noteFrame e env = noteFrame e env0 := by
  unfold noteFrame PySem.frameOf
  rw [h]
theorem note_ok {env0 : Env} {out0 : List Env} {F : Addr} (hA : A.frames = some X.stack) (hs : X.stack = env0 :: out0) (h0 : env0.frame = X.env.frame) (hf : X.env.frame = some F) (I : Inv X pins σ H s) (x : XAt X pins H s a cls cx B ph)
    (hQ : ∀ h', Inv X pins σ H { s with heap := h' } → XAt X pins H { s with heap := h' } a cls cx B .any → Q () { s with heap := h' }) : wpAny M A (noteFrame (.ref a) X.env) Q E s := by
  have hfr : A.frames = some (env0 :: out0) := by rw [hA, hs]
  have hl : s.heap.FunFrames B (env0 :: out0) := by rw [← hs]; exact x.frames
  rw [note_env h0]
  have hf : env0.frame = some F := h0.trans hf
  have fin : ∀ {fl : Value} h', NoteX B (env0 :: out0) a cls cx fl s.heap h' → Q () { s with heap := h' } := fun h' ⟨k1, k2, k3, k4⟩ =>
    hQ h' (I.exc x.cov k1 k4) ⟨x.free, k1, x.fresh, by rw [hs]; exact k2, x.cov' I k1, _, k3⟩
  have on : ∀ fl, TrX s.heap B a cls cx fl → wpAny M A (noteFrame (.ref a) env0) Q E s := fun fl t => by
    by_cases z : (fl == rawInt F) = true
    · exact note_again hf t z (hQ s.heap I ⟨x.free, x.stays, x.fresh, x.frames, x.cov, fl, t⟩)
    · exact note_on hfr hl hf t z x.stays x.fresh fin
  cases ph with
  | new =>
    obtain ⟨oe, vs, he, hc, hd, h1, h2⟩ := x.tr
    refine note_first hfr hl hf he x.stays x.fresh hd h1 h2 fun h' hN => ?_
    rw [hc] at hN
    exact fin h' hN
  | fly => exact on _ x.tr
  | any => obtain ⟨fl, t⟩ := x.tr; exact on fl t
theorem land_ok (I : Inv X pins σ H s) (x : XAt X pins H s a cls cx B ph) (hn : ph ≠ .new)
    (hQ : ∀ h', Inv X pins σ H { s with heap := h' } → XAt X pins H { s with heap := h' } a cls cx B .fly → Q () { s with heap := h' }) : wpAny M A (setFlight (.ref a) none) Q E s := by
  have go : ∀ fl, TrX s.heap B a cls cx fl → wpAny M A (setFlight (.ref a) none) Q E s := fun fl ht =>
    flight_x x.stays x.frames ht fun h' ⟨k1, k2, k3, k4⟩ => hQ h' (I.exc x.cov k1 k4) ⟨x.free, k1, x.fresh, k2, x.cov' I k1, k3⟩
  cases ph with
  | new => exact absurd rfl hn
  | fly => exact go _ x.tr
  | any => obtain ⟨fl, t⟩ := x.tr; exact go fl t
end
def CXe (P : Program) (w : World) : CXT := fun outer H s E e s' =>
  ∃ (a : Addr) (cls : Value) (cx : Option Addr) (H' : Hp) (B : Heap), e = .ref a ∧ s'.os = s.os ∧ AllBare s'.gens ∧ Un (frs outer) [] H H' s.heap s'.heap ∧ HOk P w H' s'.heap ∧ B.StaysIn s'.heap ∧ B.get? a = none ∧ s'.heap.FunFrames B outer ∧
    TrX s'.heap B a cls cx .none ∧ H' a = none ∧ (∀ b o, s'.heap.get? b = some o → (H' b ≠ none ∨ ∃ o', s.heap.get? b = some o') → b ∉ frs outer → B.get? b = some o) ∧ E cls cx H'
def XAcc (X : Cx) (E : XK) : Prop := ∀ (pins : List (Addr × Obj)) (σ : St) (H : Hp) (s : Shared) (a : Addr) (cls : Value) (cx : Option Addr) (B : Heap) (ph : Ph), Inv X pins σ H s → XAt X pins H s a cls cx B ph → E cls cx H → X.xe (.ref a) s
theorem acc_def {P : Program} {w : World} {K : PySem.W.Frag} {mg : Str → Option Value} {base : Heap} {N : List Str} {qual : Str} {scope : Scope} {f : Addr} {cd : Value} {A : Around} {outer : List Env} {s : Shared} {H : Hp} {E : XK} :
    XAcc (cxOf (CXe P w) P w K mg base N qual scope f cd A outer s H E) E := by
  intro pins σ H1 s1 a cls cx B ph I x e
  show wpAny (model P w) (A.deeper (envOfC qual scope s.heap.objs.size f cd)) (leaving (envOfC qual scope s.heap.objs.size f cd) (.ref a)) _ _ s1
  unfold leaving
  refine wpAny_bind (note_ok (X := cxOf (CXe P w) P w K mg base N qual scope f cd A outer s H E) I.ok.frames rfl rfl rfl I x fun h1 I1 x1 => ?_)
  refine land_ok I1 x1 (fun z => nomatch z) fun h2 I2 x2 => ?_
  refine ⟨a, cls, cx, H1, B, rfl, I2.os, I2.bare, I2.base, I2.hok, x2.stays, x2.fresh, x2.frames.2.2, x2.tr, x2.free, fun b o e1 i n => ?_, e⟩
  have nl : b ≠ (envOfC qual scope s.heap.objs.size f cd).locals := fun z => by
    rcases i with i | ⟨o', i⟩
    · exact i (by rw [z]; exact I2.free)
    · have := Heap.lt_size i
      rw [z] at this
      exact absurd this (Nat.lt_irrefl _)
  refine x2.cov b o e1 (i.elim .inl fun z => .inr (.inl ⟨List.not_mem_nil, z⟩)) fun z => ?_
  rcases List.mem_cons.mp (I2.stkSub b z) with q | q
  · exact nl q
  · exact n q
theorem XAcc.passes {X : Cx} {E : XK} (acc : XAcc X E) : Passes (CXe X.prog X.w) X E := by
  intro pins σ H s e s' I h
  obtain ⟨a, cls, cx, H', B, rfl, os, bare, un, hok, st, fr, ff, tr, free, cov, hE⟩ := h
  have I' : Inv X pins σ H' s' := I.call' (ch := []) os un hok bare (fun b z => absurd z (by simp))
  refine acc pins σ H' s' a cls cx B .fly I' ⟨free, st, fr, ff, fun b o e i n => cov b o e ?_ n, tr⟩ hE
  rcases i with i | ⟨hx, o', i⟩ | ⟨p, hp, q⟩
  · exact .inl i
  · exact .inr (I.base.there b o' i hx)
  · exact .inr ⟨p.2, by rw [← q]; exact (I.pin p hp).1⟩
end L2
set_option Elab.async false
set_option linter.all false
set_option maxRecDepth 100000
set_option maxHeartbeats 4000000
namespace PySem.W
open PySem PySem.Spec PySem.Calls PyProof.Rows
structure ExcT (K : Frag) (C : Addr) : Prop where
  ga : findIn K (.ref C) "__getattribute__" = some (some (.builtin "BaseException.__getattribute__"))
  gt : findIn K (.ref C) "__getattr__" = some none
  cl : findIn K (.ref C) "__class__" = some (some (.builtin "object.__class__"))
  mo : mroIn K C (.type "object") = some true
  sb : subIn K (.ref C) (.type "BaseException") = some true
section
variable {prog : Program} {w : World} {A : Around} {E : Value → Shared → Prop} {h : Heap} {g : Array GenState} {d : Drawn} {t : Nat} {os : OsState} {K : Frag} {x C : Addr} {o : Obj} {R : Result → Shared → Prop}
theorem exc_class_get {tp : Value} (X : K.In h) (hx : h.get? x = some o) (hc : o.cls = .ref C) (hm : mroIn K C (.type "object") = some true)
    (q : R (.ok (.ret (.ref C))) ⟨h, g, d, t, os⟩) : codeAny (model prog w) A (.call (.builtin "getset_descriptor.__get__") ⟨[.builtin "object.__class__", .ref x, tp], []⟩) R ⟨h, g, d, t, os⟩ := by
  have L0 : Looks (model prog w) h (typeOf (.ref x)) (.ref C) := hc ▸ (Looks.ld hx).andThen .now
  have L1 := looks_mroIn (M := model prog w) X hm
  refine codeAny_call_builtin KF.slot_gs.plain KF.entry_gs (KF.slot_gs.check _ _ _ _ _ _ _ _ KF.type_class (KF.args_gs _ _ _) ?_)
  unfold Builtin.«getset_descriptor.__get__» Builtin.Getset_descriptor.descrGet
  rw [dga_obj]
  refine wpAny_bind (wpAny_pure ?_)
  unfold Builtin.Getset_descriptor.descrGetter Builtin.Getset_descriptor.descrCheckInstance Builtin.Getset_descriptor.descrNameAndClass isInstance
  simp only [KF.owner_class]
  repeat lk
  refine ⟨Code.quiet_builtin _ (by decide +kernel), codeAny_builtin KF.entry_class ?_⟩
  unfold Builtin.«object.__class__» shownTypeOf
  repeat lk
  exact q
theorem exc_class_entry {tk : Tok} {Q : Fin → Shared → Prop} (X : K.In h) (T : ExcT K C) (hx : h.get? x = some o) (hc : o.cls = .ref C) (q : Q (.done (.ret (.ref C))) ⟨h, g, d, t, os⟩) :
    wpAny (model prog w) A (Builtin.«object.__getattribute__» ⟨[.ref x, .str "__class__" tk], []⟩) Q E ⟨h, g, d, t, os⟩ := by
  have L0 : Looks (model prog w) h (typeOf (.ref x)) (.ref C) := hc ▸ (Looks.ld hx).andThen .now
  have L1 := looks_findIn (M := model prog w) X T.cl
  have hT5 : (⟨h, g, d, t, os⟩ : Shared).TypeIs (.builtin "object.__class__") "getset_descriptor" := F.typeOf_object_class
  have f5 := F.typeOf_object_class
  have f6 := F.slot_gs_get.lookup
  have f7 := F.slot_gs_set.lookup
  repeat (any_goals (first | assumption | (with_reducible refine L0.at ?_) | (with_reducible refine wpAny_bind (L0.at ?_)) | (with_reducible refine L1.at ?_) | (with_reducible refine wpAny_bind (L1.at ?_)) | wp_step))
  refine exc_class_get X hx hc T.mo ?_
  repeat (any_goals (first | assumption | wp_step))
theorem exc_check_ga {M : Model} {nameV : Value} {Q : Unit → Shared → Prop} (X : K.In h) (T : ExcT K C) (hx : h.get? x = some o) (hc : o.cls = .ref C) (hq : Q () ⟨h, g, d, t, os⟩) : wpAny M A (checkBuiltinCall "BaseException.__getattribute__" ⟨[.ref x, nameV], []⟩) Q E ⟨h, g, d, t, os⟩ := by
  have hk : builtinKind "BaseException.__getattribute__" = some .slot := by decide +kernel
  have hsplit : splitId "BaseException.__getattribute__" = some ("BaseException", "__getattribute__") := by decide +kernel
  have L0 : Looks M h (typeOf (.ref x)) (.ref C) := hc ▸ (Looks.ld hx).andThen .now
  have L1 := looks_subIn (M := M) X T.sb
  have L2 : Looks M h (isInstance (.ref x) (.type "BaseException")) true := L0.andThen L1
  have ha := F.args_bexc_ga (.ref x) nameV
  simp only [checkBuiltinCall, hk, hsplit]
  refine wpAny_bind (L2.at ?_)
  repeat (first | assumption | wp_step)
theorem exc_class_by {tk : Tok} {Q : Value → Shared → Prop} (X : K.In h) (T : ExcT K C) (hx : h.get? x = some o) (hc : o.cls = .ref C) (hq : Q (.ref C) ⟨h, g, d, t, os⟩) : wpAny (model prog w) A (getAttrBy (.ref x) (.str "__class__" tk) false) Q E ⟨h, g, d, t, os⟩ := by
  have L0 : Looks (model prog w) h (typeOf (.ref x)) (.ref C) := hc ▸ (Looks.ld hx).andThen .now
  have L1 := looks_findIn (M := model prog w) X T.ga
  have L2 := looks_findIn (M := model prog w) X T.gt
  have f3 := F.attr_ValueError.ga.bind (.ref x)
  have hx2 : (Value.builtin "BaseException.__getattribute__" == Value.builtin "object.__getattribute__") = false := by decide +kernel
  have hx1 : (onTheHeap (Value.ref C) && Value.builtin "BaseException.__getattribute__" == Value.builtin "object.__getattribute__") = false := by rw [hx2]; rfl
  repeat (any_goals (first | assumption | (with_reducible refine L0.at ?_) | (with_reducible refine wpAny_bind (L0.at ?_)) | (with_reducible refine L1.at ?_) | (with_reducible refine wpAny_bind (L1.at ?_)) | (with_reducible refine L2.at ?_) | (with_reducible refine wpAny_bind (L2.at ?_)) | wp_step))
  refine codeAny_call_builtin F.attr_ValueError.ga.plain F.entry_bexc_ga (exc_check_ga X T hx hc (exc_class_entry X T hx hc ?_))
  repeat (any_goals (first | assumption | wp_step))
theorem exc_class_attr {Q : Option Value → Shared → Prop} (X : K.In h) (T : ExcT K C) (hx : h.get? x = some o) (hc : o.cls = .ref C) (hq : Q (some (.ref C)) ⟨h, g, d, t + 1, os⟩) : wpAny (model prog w) A (getAttr? (.ref x) "__class__") Q E ⟨h, g, d, t, os⟩ := by
  unfold getAttr? getAttrBy?
  repeat (any_goals (first | assumption | with_reducible apply exc_class_by X T hx hc | wp_step))
end
def ExcAtC (x C : Addr) (h : Heap) : Prop := ∃ o vs, h.get? x = some o ∧ o.cls = .ref C ∧ o.data = .fields vs
theorem kitx_exc {K : Frag} {x C : Addr} (T : ExcT K C) : KitX K (.ref x) (.ref C) (ExcAtC x C) where
  ty := fun _ _ _ ⟨_, _, hx, hc, _⟩ => hc ▸ (Looks.ld hx).andThen .now
  it := fun M h X _ => by
    have hm := T.mo
    unfold mroIn at hm
    obtain ⟨cd, hcd⟩ : ∃ cd, clsIn K C = some cd := by
      cases q : clsIn K C with
      | none => rw [q] at hm; cases hm
      | some cd => exact ⟨cd, rfl⟩
    unfold clsIn at hcd
    split at hcd
    · rename_i c' d' cd' sl' ho
      intro A' Q' E' s' k q
      unfold isType loadHead
      exact wpAny_bind (wpAny_loadPart (k _ _ (X _ _ ho)) (wpAny_pure q))
    · cases hcd
  ne := fun h tp dd its n sl X htp => by
    have hm := T.mo
    unfold mroIn at hm
    obtain ⟨cd, hcd⟩ : ∃ cd, clsIn K C = some cd := by
      cases q : clsIn K C with
      | none => rw [q] at hm; cases hm
      | some cd => exact ⟨cd, rfl⟩
    refine Bool.eq_false_iff.mpr fun q => ?_
    have e : C = tp := Value.ref.inj (beq_iff_eq.mp q)
    subst e
    unfold clsIn at hcd
    split at hcd
    · rename_i c' d' cd' sl' ho
      have z := (X _ _ ho).symm.trans htp
      cases z
    · cases hcd
  ca := fun {_ _ _ _ _ s} X ⟨_, _, hx, hc, _⟩ k => by
    obtain ⟨h, g, d, t, os⟩ := s
    exact exc_class_attr X T hx hc k
end PySem.W
set_option Elab.async false
set_option linter.all false
set_option maxRecDepth 100000
set_option maxHeartbeats 4000000
namespace L2
open PySem PySem.Spec PyProof.Rows
abbrev TJ := St → Hp → Str → (Str → Hp → Prop) → Prop
section
variable {X : Cx} {e : Expr} {es : List Expr} {te : TE} {t : TJ} {pos : Pos}
end
def vErr : List Value := [.type "ValueError", .type "Exception", .type "BaseException", .type "object"]
theorem exc_obj {K : PySem.W.Frag} {h₀ : Heap} {C : Addr} (KX : K.In h₀) (q : PySem.W.excIn K C vErr "ValueError.__new__" = true) :
    ∃ bm N nm q bs hdct sn sub ab col dd k0 k1 k2 k3 k5 mN, h₀.get? C = some (excClassObj nm q C N bs bm hdct sn sub ab col dd k0 k1 k2 k3 k5 "ValueError.__new__") ∧ h₀.Ns N mN ∧ mN "__init__" = none ∧ OwnTail h₀ vErr bm := by
  unfold PySem.W.excIn at q
  split at q
  · rename_i dd cd sl ho
    split at q
    · rename_i C' bm k0 k1 k2 k3 n k5 hm hs
      simp only [Bool.and_eq_true, beq_iff_eq, Bool.not_eq_true'] at q
      obtain ⟨⟨⟨⟨⟨rfl, rfl⟩, hdel⟩, ht⟩, hok⟩, hni⟩ := q
      obtain ⟨nm, bs, mro, ns, qn, hd, sn, sub, ab, col, del⟩ := cd
      dsimp only at hm hdel hok hni
      subst hm hdel
      have hsl : sl = #[k0, k1, k2, k3, some (.builtin "ValueError.__new__"), k5] := by
        obtain ⟨l⟩ := sl
        simp only at hs
        rw [hs]
      subst hsl
      exact ⟨bm, ns, nm, qn, bs, hd, sn, sub, ab, col, dd, k0, k1, k2, k3, k5, _, KX _ _ ho, .of_isNs (PySem.W.isNs_of_in KX hok), PySem.W.nsMap_none_of_in KX hok hni, PySem.W.tail_of_in KX ht⟩
    · cases q
  · cases q
section
variable {X : Cx} {E : XK}
theorem XAt.first {pins : List (Addr × Obj)} {σ : St} {H : Hp} {s : Shared} {h' : Heap} {a : Addr} {cls : Value} {cx : Option Addr} {oe : Obj} {vs : Array Value} (I : Inv X pins σ H s) (k : ∀ b o, s.heap.get? b = some o → h'.get? b = some o)
    (n : s.heap.get? a = none) (g : h'.get? a = some oe) (hc : oe.cls = cls) (hd : oe.data = .fields vs) (z1 : vs[1]? = some .none) (z2 : vs[2]? = some (ctxV cx)) :
    Inv X pins σ H { s with heap := h' } ∧ XAt X pins H { s with heap := h' } a cls cx (PySem.W.hideAll s.heap (frs X.stack)) .new := by
  have I' : Inv X pins σ H { s with heap := h' } := I.kept (t' := s.toks) k
  have fr : H a = none := by
    cases q : H a with
    | none => rfl
    | some u => obtain ⟨o, e⟩ := (I.hok a u q).there; rw [n] at e; cases e
  refine ⟨I', fr, fun b o e => k b o (PySem.W.of_hideAll _ e), ?_, (PySem.W.funFrames_hide I.stack fun env he b hb => List.mem_filterMap.mpr ⟨env, he, hb⟩).of_keeps fun b o e _ => ⟨o, k b o e, rfl⟩, fun b o e i n => ?_, ⟨oe, vs, g, hc, hd, z1, z2⟩⟩
  · cases q : (PySem.W.hideAll s.heap (frs X.stack)).get? a with
    | none => rfl
    | some o => have := PySem.W.of_hideAll _ q; rw [n] at this; cases this
  · obtain ⟨o1, e1⟩ := i.there I
    have e2 := k _ _ e1
    rw [e] at e2; cases e2
    exact PySem.W.hideAll_get _ e1 n
theorem XAt.made {pins : List (Addr × Obj)} {σ : St} {H : Hp} {s : Shared} {h' : Heap} {a : Addr} {cls : Value} {vs : List Value} (I : Inv X pins σ H s) (m : Heap.MadeExcOf s.heap h' a cls vs) :
    Inv X pins σ H { s with heap := h' } ∧ XAt X pins H { s with heap := h' } a cls none (PySem.W.hideAll s.heap (frs X.stack)) .new := by
  obtain ⟨t, he, _, _⟩ := m.there
  exact XAt.first I m.keeps m.new he rfl rfl rfl rfl
def tRaise (C : Addr) (E : XK) (ta : TA) : TS := fun _ σ H => ta σ H fun vs H1 => vs.length ≤ sizeLine ∧ E (.ref C) none H1
theorem ps_raise {x : Str} {C : Addr} {e₀ : Expr} {rest : List Expr} {np cpos pos : Pos} {ta : TA} (acc : XAcc X E) (q : PySem.W.excIn X.K C vErr "ValueError.__new__" = true) (hg : Gl X x) (hm : X.mg x = some (.ref C)) (ha : PA X (e₀ :: rest) ta)
    (hc : X.calm = true := by rfl) (hex : X.ex = [] := by rfl)
    (he : starEach (e₀ :: rest) X.env = (false, eval e₀ X.env) :: starEach rest X.env := by rfl) (hplain : (backTo cpos (starEach rest X.env)).any (·.1) = false := by rfl) (hd : (x == ("__debug__" : Str)) = false := by decide) :
    PS X (.Raise (some (.Call (.Name x np) (e₀ :: rest) [] cpos)) none pos) (tRaise C E ta) := by
  intro pins s σ H D I h
  obtain ⟨tl, N, nm, qn, bs, hdct, sn, sub, ab, col, dd, k0, k1, k2, k3, k5, mN, hC, hN, hni, T⟩ := exc_obj I.mod.kin q
  have hp := ha cpos pins s σ H _ I h
  rw [he] at hp
  refine wpAny_Raise_call_subT (C := C) (nm := nm) (q := qn) (N := N) (bs := bs) (bm := tl) (hdct := hdct) (sn := sn) (sub := sub) (ab := ab) (col := col) (dd := dd) (k0 := k0) (k1 := k1) (k2 := k2) (k3 := k3) (k5 := k5)
    PySem.F.excBase_ValueError (mN := mN) (T.hasType PySem.F.excBase_ValueError.hasBase) (I.ok.hd hc) (by rw [he]; show (false || (backTo cpos (starEach rest X.env)).any (·.1)) = false; rw [hplain]; rfl) hni (ld_glob I hg hm ⟨rfl, ?_⟩ hd)
  rw [he]
  refine Calls.evalArgs_plain (thn hp fun us s2 ⟨vs, H2, I2, rv, z, hE⟩ => ⟨rfl, by rw [← rv.length]; exact z, I2.bk _ _ hC, hN.keeps I2.bk, T.keeps I2.bk, fun h' e m => ?_⟩)
  obtain ⟨I3, x3⟩ := XAt.made I2 m
  exact acc pins σ H2 _ e _ none _ .new I3 x3 hE
end
def ExcO (a : Addr) (cls : Value) (cx : Option Addr) : HO := .ext fun h => ∃ o vs, h.get? a = some o ∧ o.cls = cls ∧ o.data = .fields vs ∧ vs[2]? = some (ctxV cx)
section
variable {X : Cx} {pins : List (Addr × Obj)} {σ : St} {H : Hp} {s : Shared} {a : Addr} {cls : Value} {cx : Option Addr} {B : Heap} {ph : Ph}
theorem XAt.nofr (x : XAt X pins H s a cls cx B ph) : a ∉ frs X.stack := fun z => by
  obtain ⟨oe, vs, e, _, d, _⟩ := x.tr.there
  obtain ⟨_, o, e', d'⟩ := x.frames.mem z
  rw [e] at e'; cases e'
  exact d' vs d
theorem XAt.noimp (x : XAt X pins H s a cls cx B ph) : ¬ Imp X pins H a := fun i => by
  obtain ⟨oe, vs, e, _, d, _⟩ := x.tr.there
  have := x.cov a oe e i x.nofr
  rw [x.fresh] at this; cases this
theorem Inv.track (I : Inv X pins σ H s) (x : XAt X pins H s a cls cx B ph) : Inv X pins σ (upd H a (ExcO a cls cx)) s := by
  obtain ⟨oe, vs, e, hc, d, d2⟩ := x.tr.there
  have ni := x.noimp
  refine ⟨I.ok, I.os, I.bare, ⟨I.base.keep, I.base.slot, fun b o e1 n hx => ?_, I.base.there, fun b xs q => ?_, fun b o u q => ?_, fun b ps q => ?_⟩, I.loc, I.cell, ?_, fun y c q => ?_, fun p hp => ?_, fun b u q => ?_, I.len⟩
  · rw [upd_ne (fun z => ni (.inr (.inl ⟨by rw [← z]; exact hx, o, by rw [← z]; exact e1⟩)))]
    exact I.base.free b o e1 n hx
  · have q1 := I.base.tups b xs q
    rw [upd_ne (ne_of_none q1 x.free)]; exact q1
  · have q1 := I.base.frzs b o u q
    rw [upd_ne (ne_of_none q1 x.free)]; exact q1
  · obtain ⟨more, q1⟩ := I.base.tbls b ps q
    exact ⟨more, by rw [upd_ne (ne_of_none q1 x.free)]; exact q1⟩
  · rw [upd_ne fun z => ?_]
    · exact I.free
    · obtain ⟨m, ⟨o, es, ep, ho, hd, _⟩, _⟩ := I.loc
      rw [z, e] at ho; cases ho
      rw [d] at hd; cases hd
  · rw [upd_ne fun z => ?_]
    · exact I.freeC y c q
    · obtain ⟨v, o, ho, hd⟩ := I.cell y c q
      rw [z, e] at ho; cases ho
      rw [d] at hd; cases hd
  · obtain ⟨h1, h2, h3, h4, h5⟩ := I.pin p hp
    exact ⟨h1, by rw [upd_ne (fun z => ni (.inr (.inr ⟨p, hp, z⟩)))]; exact h2, h3, h4, h5⟩
  · by_cases hb : b = a
    · subst hb
      rw [upd_same] at q; cases q
      exact ⟨⟨oe, vs, e, hc, d, d2⟩, ⟨oe, e⟩, fun h1 h2 ⟨o, ws, z1, z2, z3⟩ k => ⟨o, ws, k o z1, z2, z3⟩⟩
    · rw [upd_ne hb] at q
      refine (I.hok b u q).stay (fun _ _ _ z => z) (fun c z => ?_) fun c xs z => ?_
      · rw [upd_ne (ne_of_none z x.free)]; exact z
      · rw [upd_ne (ne_of_none z x.free)]; exact z
end
abbrev Cx.tryCx (X : Cx) (E2 : Value → Shared → Prop) (pins : List (Addr × Obj)) : Cx := { X with xe := E2, pn := X.pn ++ pins }
abbrev Cx.inExc (X : Cx) (a : Addr) : Cx := { X with A := X.A.mark (some (.ref a)), calm := false }
def blank (n : Nat) : St := List.replicate n none
section
variable {X : Cx} {pins : List (Addr × Obj)} {σ : St} {H : Hp} {s : Shared} {a : Addr} {E2 : Value → Shared → Prop}
theorem Cx.Ok.tryCx (ok : X.Ok) : (X.tryCx E2 pins).Ok := ⟨ok.mod, ok.kind, ok.glob, ok.blt, ok.above, ok.inj, ok.has, ok.cab, ok.hd, ok.frames, ok.stk, ok.exf, ok.bs, ok.bsz, ok.noex, ok.exfs, ok.funs, ok.frf⟩
theorem Cx.Ok.inExc (ok : X.Ok) : (X.inExc a).Ok := ⟨ok.mod, ok.kind, ok.glob, ok.blt, ok.above, ok.inj, ok.has, ok.cab, (fun z => nomatch z), ok.frames, ok.stk, ok.exf, ok.bs, ok.bsz, ok.noex, ok.exfs, ok.funs, ok.frf⟩
theorem Inv.toTry (I : Inv X pins σ H s) : Inv (X.tryCx E2 pins) [] σ H s :=
  ⟨I.ok.tryCx, I.os, I.bare, I.base, I.loc, I.cell, I.free, I.freeC, fun p hp => I.pin p (by rw [List.append_nil] at hp; exact hp), I.hok, I.len⟩
theorem Inv.ofTry {pins' : List (Addr × Obj)} (ok : X.Ok) (I : Inv (X.tryCx E2 pins) pins' σ H s) : Inv X pins σ H s :=
  ⟨ok, I.os, I.bare, I.base, I.loc, I.cell, I.free, I.freeC, fun p hp => I.pin p (List.mem_append_left _ hp), I.hok, I.len⟩
theorem Inv.toExc (I : Inv X pins σ H s) : Inv (X.inExc a) pins σ H s :=
  ⟨I.ok.inExc, I.os, I.bare, I.base, I.loc, I.cell, I.free, I.freeC, I.pin, I.hok, I.len⟩
theorem Inv.ofExc (ok : X.Ok) (I : Inv (X.inExc a) pins σ H s) : Inv X pins σ H s :=
  ⟨ok, I.os, I.bare, I.base, I.loc, I.cell, I.free, I.freeC, I.pin, I.hok, I.len⟩
theorem Inv.forget (I : Inv X pins σ H s) : Inv X pins (blank X.N.length) H s := I.weak (by unfold blank; rw [List.length_replicate, I.len]) fun i v q => by
  unfold blank at q
  rw [List.getElem?_replicate] at q
  split at q <;> cases q
theorem SP.ofTry {pins' : List (Addr × Obj)} {D : Ends} {f : Flow} {s' : Shared} (ok : X.Ok) (h : SP (X.tryCx E2 pins) pins' D f s') : SP X pins D f s' := by
  cases f with
  | next => obtain ⟨σ', H', I, q⟩ := h; exact ⟨σ', H', I.ofTry ok, q⟩
  | brk => obtain ⟨σ', H', I, q⟩ := h; exact ⟨σ', H', I.ofTry ok, q⟩
  | cont => obtain ⟨σ', H', I, q⟩ := h; exact ⟨σ', H', I.ofTry ok, q⟩
  | ret u => obtain ⟨v, σ', H', I, r, q⟩ := h; exact ⟨v, σ', H', I.ofTry ok, r, q⟩
theorem SP.ofExc {D : Ends} {f : Flow} {s' : Shared} (ok : X.Ok) (h : SP (X.inExc a) pins D f s') : SP X pins D f s' := by
  cases f with
  | next => obtain ⟨σ', H', I, q⟩ := h; exact ⟨σ', H', I.ofExc ok, q⟩
  | brk => obtain ⟨σ', H', I, q⟩ := h; exact ⟨σ', H', I.ofExc ok, q⟩
  | cont => obtain ⟨σ', H', I, q⟩ := h; exact ⟨σ', H', I.ofExc ok, q⟩
  | ret u => obtain ⟨v, σ', H', I, r, q⟩ := h; exact ⟨v, σ', H', I.ofExc ok, r, q⟩
theorem XAcc.inExc {E : XK} {a : Addr} (acc : XAcc X E) (ok : X.Ok) : XAcc (X.inExc a) E := fun pins σ H s b cls cx B ph I x e => acc pins σ H s b cls cx B ph (I.ofExc ok) ⟨x.free, x.stays, x.fresh, x.frames, x.cov, x.tr⟩ e
end
section
variable {M : Model} {A : Around} {E : Value → Shared → Prop} {env : Env}
variable {nm q : Str} {C N : Addr} {bs bm : List Value} {hdct : Bool} {sn : List Str} {sub : List Value} {ab : Bool} {col : Option Bool} {dd : Option Addr} {k0 k1 k2 k3 k5 : Option Value} {newId : String}
end
section
variable {X : Cx} {E : XK} {a : Addr}
end
section
variable {X : Cx} {pins : List (Addr × Obj)} {σ : St} {H : Hp} {s : Shared} {a : Addr} {E2 : Value → Shared → Prop}
def tTryAs (K : PySem.W.Frag) (C : Addr) (n i : Nat) (tb : XK → TS) (ts : Addr → TS) : TS := fun D σ H => ∃ Eh : XK, tb Eh D σ H ∧ ∀ cls cx H', Eh cls cx H' → PySem.W.exmOne K cls (.ref C) = some true ∧ ∀ a, H' a = none →
  ts a { nx := fun σ' H2 => D.nx (σ'.set i none) H2, rt := D.rt, bk := fun σ' H2 => D.bk (σ'.set i none) H2, ct := fun σ' H2 => D.ct (σ'.set i none) H2 } ((blank n).set i (some (.ref a))) (upd H' a (ExcO a cls cx))
theorem Inv.nameGoes {M : Model} {A : Around} {E : Value → Shared → Prop} {n : Str} {i : Nat} {pos : Pos} {Q : Unit → Shared → Prop} (I : Inv X pins σ H s) (hN : X.N.Nodup) (hi : X.N[i]? = some n) (hl : X.env.scope.names.lookup n = some .local)
    (h : ∀ h', Inv X pins (σ.set i none) H { s with heap := h', toks := s.toks + 1 } → Q () { s with heap := h', toks := s.toks + 1 }) : wpAny M A (do bindName X.env n .none; unbindBehindTheSuite X.env n pos) Q E s := by
  obtain ⟨m, hn, hlo⟩ := id I.loc
  have hcls : (X.env.scope.kind == .class || (X.env.scope.kind == .module && X.env.locals != X.env.globals)) = false := by rw [I.ok.kind]; rfl
  refine wpAny_nameGoes_keeps hl hn hcls fun h' v hn' hs => h h' ?_
  obtain ⟨oL, _, _, hoL, _⟩ := id hn
  have cne := I.cne
  have neL : ∀ b o, X.s₀.heap.get? b = some o → b ≠ X.env.locals := fun b o e => Nat.ne_of_lt (Nat.lt_of_lt_of_le (Heap.lt_size e) I.ok.above)
  refine ⟨I.ok, I.os, I.bare, ⟨fun b o e k hb hx => (hs.2 b (neL b o e)).trans (I.base.keep b o e k hb hx), fun b o e k hb hx => ?_, I.base.free, fun b o e hx => ?_, I.base.tups, I.base.frzs, I.base.tbls⟩, ⟨_, hn', fun j y v' e1 e2 e3 => ?_⟩, fun y c e => ?_, I.free, I.freeC, fun p hp => ?_, ?_, by simpa using I.len⟩
  · obtain ⟨sl, e1⟩ := I.base.slot b o e k hb hx
    exact ⟨sl, (hs.2 b (neL b o e)).trans e1⟩
  · obtain ⟨o', e1⟩ := I.base.there b o e hx
    exact ⟨o', (hs.2 b (neL b o e)).trans e1⟩
  · by_cases hj : j = i
    · subst hj
      by_cases hlt : j < σ.length
      · rw [List.getElem?_set_self hlt] at e2; cases e2
      · rw [List.getElem?_eq_none (by rw [List.length_set]; omega)] at e2; cases e2
    · rw [List.getElem?_set_ne (Ne.symm hj)] at e2
      obtain ⟨u', r', q⟩ := hlo j y v' e1 e2 e3
      refine ⟨u', r', ?_⟩
      rcases q with ⟨k, e⟩ | ⟨k, c, e, z⟩
      · refine .inl ⟨k, ?_⟩
        have : y ≠ n := fun e => hj (nodup_ix hN e1 (e ▸ hi))
        simp [this, e]
      · exact .inr ⟨k, c, e, z.sameBut hs (cne y c e)⟩
  · obtain ⟨w', z⟩ := I.cell y c e
    exact ⟨w', z.sameBut hs (cne y c e)⟩
  · obtain ⟨e, n', ne, nf, d⟩ := I.pin p hp
    exact ⟨(hs.2 p.1 ne).trans e, n', ne, nf, d⟩
  · intro b ob e
    refine (I.hok b ob e).stay (fun c w' hc q => (hs.2 c ?_).trans q) (fun _ q => q) fun _ _ q => q
    rintro rfl
    rcases hc with rfl | hc
    · rw [I.free] at e; cases e
    · rw [I.free] at hc; cases hc
theorem ps_tryAs {x n : Str} {i : Nat} {C : Addr} {body suite : List Stmt} {b₀ : Stmt} {np hpos pos : Pos} {tb : XK → TS} {ts : Addr → TS} (hg : Gl X x) (hm : X.mg x = some (.ref C)) (hN : X.N.Nodup) (hi : X.N[i]? = some n)
    (hb : ∀ (Eh : XK) (E2 : Value → Shared → Prop) (pins : List (Addr × Obj)), XAcc (X.tryCx E2 pins) Eh → PassesOwn (model X.prog X.w) X.A X.env E2 → PSs (X.tryCx E2 pins) body (tb Eh))
    (hh : ∀ a, PSs (X.inExc a).nox (b₀ :: suite) (ts a))
    (hl : X.env.scope.names.lookup n = some .local := by rfl)
    (hs : X.stack = X.env :: X.outer := by rfl) (hf : X.env.frame = some X.env.locals := by rfl) (hex : X.ex = [] := by rfl) (hd : (x == ("__debug__" : Str)) = false := by decide) :
    PS X (.Try body [.ExceptHandler (some (.Name x np)) (some n) (b₀ :: suite) hpos] [] [] pos) (tTryAs X.K C X.N.length i tb ts) := by
  intro pins s σ H D I h
  obtain ⟨Eh, h1, h2⟩ := h
  refine wpAny_Try_except ?_
  have ok := I.ok
  have acc : XAcc (X.tryCx (fun e s₁ => wpAny (model X.prog X.w) X.A (noteFrame e X.env) (fun _ s₂ => wpAny (model X.prog X.w) X.A (setFlight e none) (fun _ s₃ =>
      wpAny (model X.prog X.w) X.A (handleBy e X.env [.ExceptHandler (some (.Name x np)) (some n) (b₀ :: suite) hpos]) (SP X pins D) X.xe s₃) X.xe s₂) X.xe s₁) pins) Eh := by
    intro pins' σ' H' s1 a cls cx B ph I1 x1 hE
    have I2 : Inv X pins (blank X.N.length) H' s1 := (I1.ofTry ok).forget
    have x2 : XAt X pins H' s1 a cls cx B ph := ⟨x1.free, x1.stays, x1.fresh, x1.frames, fun b o e i n => x1.cov b o e (i.elim .inl fun z => .inr (z.elim .inl fun ⟨p, hp, q⟩ => .inr ⟨p, List.mem_append_left _ hp, q⟩)) n, x1.tr⟩
    obtain ⟨hx, hsu⟩ := h2 cls cx H' hE
    refine note_ok ok.frames hs rfl hf I2 x2 fun h3 I3 x3 => ?_
    refine land_ok I3 x3 (fun z => nomatch z) fun h4 I4 x4 => ?_
    refine wpAny_handleBy_cons (codeAny_handlers_test (ld_glob (I4.toExc (a := a)) hg hm ?_ hd)) (by intro q; cases q)
    obtain ⟨oe, vs, e, hc, d, _⟩ := x4.tr.there
    have LT : PySem.W.Looks (model X.prog X.w) h4 (typeOf (.ref a)) cls := hc ▸ (PySem.W.Looks.ld e).andThen .now
    refine (PySem.W.exm_one I4.kIn LT hx).here ?_
    refine codeAny_handlers_suite_as ?_
    refine land_ok I4 x4 (fun z => nomatch z) fun h5 I5 x5 => ?_
    have I6 := (I5.track x5).toExc (a := a)
    refine store_ok (X := X.inExc a) (v := .ref a) I6 hN hi (.inl hl) rfl (fun s6 I7 => ?_) (.inr hl)
    refine wpAny_mono (hh a pins s6 _ _ _ (I7.wish _) (hsu a x5.free)) (fun f s7 q => ?_) fun _ _ z => z.elim
    have q := (q.unwish).ofExc ok
    cases f with
    | next =>
      obtain ⟨σ7, H7, I8, q⟩ := q
      exact I8.nameGoes hN hi hl fun h8 I9 => ⟨_, H7, I9, q⟩
    | brk =>
      obtain ⟨σ7, H7, I8, q⟩ := q
      exact I8.nameGoes hN hi hl fun h8 I9 => ⟨_, H7, I9, q⟩
    | cont =>
      obtain ⟨σ7, H7, I8, q⟩ := q
      exact I8.nameGoes hN hi hl fun h8 I9 => ⟨_, H7, I9, q⟩
    | ret u =>
      obtain ⟨v7, σ7, H7, I8, r, q⟩ := q
      exact I8.nameGoes hN hi hl fun h8 I9 => ⟨v7, _, H7, I9, r, q⟩
  refine wpAny_mono (hb Eh _ pins acc PassesOwn.looking [] s σ H D I.toTry h1) (fun f s1 q => ?_) fun e s1 q => q
  have q' := q.ofTry ok
  cases f with
  | next => exact wpAny_execs_nil q'
  | brk => exact q'
  | cont => exact q'
  | ret u => exact q'
end
end L2
set_option Elab.async false
set_option linter.all false
set_option maxRecDepth 100000
set_option maxHeartbeats 4000000
namespace L2
open PySem PySem.Spec PyProof.Rows
theorem pass0e {X : Cx} {P : Program} {w : World} : Passes (CXe P w) X E0 := fun _ _ _ _ _ _ _ h => by
  obtain ⟨_, _, _, _, _, _, _, _, _, _, _, _, _, _, _, _, hE⟩ := h
  exact hE.elim
section
variable {P : Program} {w : World} {K : PySem.W.Frag} {mg : Str → Option Value} {base : Heap}
theorem Fun.okE {x qual : Str} {st : Stmt} {f : Addr} {fd : FuncData} {N ps : List Str} {k : Nat} {sp : Sp} (F : Fun K x qual st f fd) (S : FnScope N ps (defScope st)) (len : ∀ vs H Q E, sp vs H Q E → vs.length = ps.length)
    (hbody : ∀ (cdv : Value) (A : Around) (outer : List Env) (s : Shared) (H : Hp) (vs : List V) (Q : VK) (E : XK), Room k (A.deeper (envOfC qual (defScope st) s.heap.objs.size f cdv)) → sp vs H Q E →
      ∃ t, PSs (cxOf (CXe P w) P w K mg base N qual (defScope st) f cdv A outer s H E) (defBody st) t ∧ t { nx := fun _ H' => Q .non H', rt := Q } (start N vs) H) : FnOk P w K mg base (CXe P w) (k + 1) f fd ps sp := by
  obtain ⟨oc, od, kV, doc, pm, an, cdv, ct, osl, rfl, lk, hcd⟩ := F.ex
  exact fn_of lk hcd S len fun A outer s H vs Q E hr hsp => hbody cdv A outer s H vs Q E hr hsp
structure FunD (K : PySem.W.Frag) (x qual : Str) (st : Stmt) (dT : Addr) (f : Addr) (fd : FuncData) : Prop where
  ex : ∃ (oc : Value) (od : Option Addr) (kV doc pm : Value) (an : Option Addr) (cdv ct : Value) (osl : Array (Option Value)),
    fd = PySem.W.fnOf x qual (defArgs st) (defBody st) (defScope st) (.ref dT) kV doc pm an cdv ct ∧ K.lookup f = some ⟨oc, od, .func fd, osl⟩ ∧ PySem.W.codeIn K cdv qual = true
  kp : PySem.W.keepIn K (.ref f) = true
theorem FunD.okE {x qual : Str} {st : Stmt} {dT f : Addr} {fd : FuncData} {N ps : List Str} {k : Nat} {sp : Sp} (F : FunD K x qual st dT f fd) (S : FnScope N ps (defScope st)) (len : ∀ vs H Q E, sp vs H Q E → vs.length = ps.length)
    (hbody : ∀ (cdv : Value) (A : Around) (outer : List Env) (s : Shared) (H : Hp) (vs : List V) (Q : VK) (E : XK), Room k (A.deeper (envOfC qual (defScope st) s.heap.objs.size f cdv)) → sp vs H Q E →
      ∃ t, PSs (cxOf (CXe P w) P w K mg base N qual (defScope st) f cdv A outer s H E) (defBody st) t ∧ t { nx := fun _ H' => Q .non H', rt := Q } (start N vs) H) : FnOk P w K mg base (CXe P w) (k + 1) f fd ps sp := by
  obtain ⟨oc, od, kV, doc, pm, an, cdv, ct, osl, rfl, lk, hcd⟩ := F.ex
  exact fn_of lk hcd S len fun A outer s H vs Q E hr hsp => hbody cdv A outer s H vs Q E hr hsp
theorem FunD.binds {x qual : Str} {st : Stmt} {dT f : Addr} {fd : FuncData} {ps : List Str} {ds : List Value} {items : List Value} {o : Obj} {nn : Nat} (F : FunD K x qual st dT f fd) (ho : K.lookup dT = some o) (hs : o.data = .seq items.toArray nn)
    (h : ∀ (kV doc pm : Value) (an : Option Addr) (cdv ct : Value) (us : List Value), (us ++ ds).length = ps.length → ∃ k : Option (Array Value) → Sem (List (Str × Value)),
      bindArgs (PySem.W.fnOf x qual (defArgs st) (defBody st) (defScope st) (.ref dT) kV doc pm an cdv ct) ⟨us, []⟩ = seqItems? (.ref dT) >>= k ∧ k (some items.toArray) = pure (ps.zip (us ++ ds))) : Binds K fd ps ds := by
  obtain ⟨oc, od, kV, doc, pm, an, cdv, ct, osl, rfl, lk, hcd⟩ := F.ex
  intro s us KX hl
  obtain ⟨k, h1, h2⟩ := h kV doc pm an cdv ct us hl
  exact PySem.W.binds_K KX rfl ho hs h1 h2
end
structure RoomW (k : Nat) (A : Around) : Prop where
  dp : A.depth + 3 * k + 5 < recursionLimit
  un : A.units + 16 * k + 200 < cLine
theorem Room.w {k : Nat} {A : Around} (r : Room k A) (h : Option Value) : RoomW k (A.mark h) := ⟨r.dp, r.un⟩
theorem RoomW.deeper {k : Nat} {A : Around} (r : RoomW (k + 1) A) (env : Env) : RoomW k (A.deeper env) :=
  ⟨by have := r.dp; show A.depth + 1 + 3 * k + 5 < _; omega, by have := r.un; show A.units + 3 + 16 * k + 200 < _; omega⟩
structure FnOkW (P : Program) (w : World) (K : PySem.W.Frag) (mg : Str → Option Value) (base : Heap) (k : Nat) (f : Addr) (fd : FuncData) (ps : List Str) (sp : Sp) : Prop where
  len : ∀ vs H Q E, sp vs H Q E → vs.length = ps.length
  run : ∀ (A : Around) (outer : List Env) (s : Shared) (H : Hp) (args : Args) (us : List Value) (vs : List V) (Q : VK), RoomW k A → Env0 P w K mg base A outer s H → BindsTo s fd args (ps.zip us) → Vals vs us → sp vs H Q E0 →
    codeAny (model P w) A (.call (.ref f) args) (CR CX0 outer P w H s Q E0) s
abbrev cxOfW (P : Program) (w : World) (K : PySem.W.Frag) (mg : Str → Option Value) (base : Heap) (N : List Str) (qual : Str) (scope : Scope) (f : Addr) (cd : Value) (A : Around) (outer : List Env) (s : Shared) (H : Hp) : Cx :=
  { cxOf CX0 P w K mg base N qual scope f cd A outer s H E0 with calm := false, xe := fun _ _ => False }
theorem inv_startW {P : Program} {w : World} {K : PySem.W.Frag} {mg : Str → Option Value} {base : Heap} {N ps : List Str} {qual : Str} {scope : Scope} {f : Addr} {cd : Value} {A : Around} {outer : List Env} {s s1 : Shared} {H : Hp} {us : List Value} {vs : List V}
    (S : FnScope N ps scope) (e0 : Env0 P w K mg base A outer s H) (hl : vs.length = ps.length) (r : Vals vs us)
    (x : InCallC s s.heap.objs.size (bindL (envOfC qual scope s.heap.objs.size f cd).kindOf (ps.zip us) fun _ => none) (cellsFrom (s.heap.objs.size + 1) scope.names []) (bindC (envOfC qual scope s.heap.objs.size f cd).kindOf (ps.zip us) fun _ => none) s1) :
    Inv (cxOfW P w K mg base N qual scope f cd A outer s H) [] (start N vs) H s1 := by
  have hpl : ps.length ≤ N.length := by have := congrArg List.length S.pre; rw [List.length_take] at this; omega
  obtain ⟨h1, tk, rfl, hk⟩ := x.done
  have noA : ∀ b : Addr, b ∉ (cxOfW P w K mg base N qual scope f cd A outer s H).ex := fun b z => absurd (show b ∈ ([] : List Addr) from z) (by simp)
  refine ⟨⟨e0.mod, S.kind, rfl, rfl, Nat.le_refl _, fun y z c h1 h2 => ?_, fun y hy => ?_, fun y c _ h => ?_, (fun z => nomatch z), Around.frames_deeper e0.frames, .inr ⟨rfl, rfl⟩, fun b z => absurd z (noA b), e0.bs, e0.bsz, fun b _ _ => noA b, fun b z => absurd z (noA b), e0.funs, e0.frf⟩,
    rfl, e0.bare, Un.kept hk, ⟨_, x.toInCall.ns, fun i y v h1 h2 h3 => ?_⟩, fun y c h => ⟨_, x.cell y c h⟩, e0.hok.fresh (Nat.le_refl _), fun y c h => ?_, fun p hp => absurd (show p ∈ ([] : List (Addr × Obj)) from hp) (by simp), e0.hok.kept hk, ?_⟩
  · exact name_of_addr x.apart (PySem.mem_of_lookup h1) (PySem.mem_of_lookup h2)
  · have hy : scope.names.lookup y = some .cell ∨ scope.names.lookup y = some .free := hy
    rcases hy with hy | hy
    · exact cell_has hy
    · exact absurd rfl (S.nofree _ (PySem.mem_of_lookup hy))
  · exact Nat.le_of_lt (x.above y c (PySem.mem_of_lookup h))
  · have hi : i < vs.length := by
      unfold start at h2
      by_cases hi : i < vs.length
      · exact hi
      · rw [List.getElem?_append_right (by simpa using hi)] at h2
        rw [List.getElem?_replicate] at h2
        split at h2 <;> cases h2
    have ha : vs[i]? = some v := by
      unfold start at h2
      rw [List.getElem?_append_left (by simpa using hi), List.getElem?_map] at h2
      cases e : vs[i]? with
      | none => rw [e] at h2; cases h2
      | some a => rw [e] at h2; cases h2; rfl
    obtain ⟨u, hu, rv⟩ := r.get ha
    have hp : ps[i]? = some y := by
      rw [← S.pre, List.getElem?_take_of_lt (by omega)]; exact h1
    have ndP : ps.Nodup := by rw [← S.pre]; exact S.nd.sublist (List.take_sublist _ _)
    refine ⟨u, rv, ?_⟩
    rcases S.par y (List.mem_of_getElem? hp) with k | k
    · exact .inl ⟨k, bindL_get ndP hp hu k⟩
    · obtain ⟨c, e⟩ := cell_has (n := s.heap.objs.size + 1) k
      refine .inr ⟨.inl k, c, e, ?_⟩
      have q := x.cell y c e
      rw [bindC_get ndP hp hu (by show scope.names.lookup y ≠ _; rw [k]; decide)] at q
      exact q
  · exact e0.hok.fresh (Nat.le_of_lt (x.above y c (PySem.mem_of_lookup h)))
  · unfold start
    show _ = N.length
    rw [List.length_append, List.length_map, List.length_replicate]
    omega
section
variable {P : Program} {w : World} {K : PySem.W.Frag} {mg : Str → Option Value} {base : Heap}
theorem Fun.okW {x qual : Str} {st : Stmt} {f : Addr} {fd : FuncData} {N ps : List Str} {k : Nat} {sp : Sp} (F : Fun K x qual st f fd) (S : FnScope N ps (defScope st)) (len : ∀ vs H Q E, sp vs H Q E → vs.length = ps.length)
    (hbody : ∀ (cdv : Value) (A : Around) (outer : List Env) (s : Shared) (H : Hp) (vs : List V) (Q : VK), RoomW k (A.deeper (envOfC qual (defScope st) s.heap.objs.size f cdv)) → sp vs H Q E0 →
      ∃ t, PSs (cxOfW P w K mg base N qual (defScope st) f cdv A outer s H) (defBody st) t ∧ t { nx := fun _ H' => Q .non H', rt := Q } (start N vs) H) : FnOkW P w K mg base (k + 1) f fd ps sp := by
  obtain ⟨oc, od, kV, doc, pm, an, cdv, ct, osl, rfl, lk, hcd⟩ := F.ex
  refine ⟨len, fun A outer s H args us vs Q hr e0 hb r hsp => ?_⟩
  have hl := len _ _ _ _ hsp
  have KX : K.In s.heap := e0.mod.kin.keeps fun b o e => (e0.bs b o e).1
  have lim : s.heap.NoLimit := e0.mod.nolimit.keeps fun b o e => (e0.bs b o e).1
  have hkind : ∀ y ∈ ps.zip us, (defScope st).names.lookup y.1 = some .local ∨ ((defScope st).names.lookup y.1 = some .cell ∧ ((cellsFrom (s.heap.objs.size + 1) (defScope st).names []).lookup y.1).isSome = true) := fun ⟨n, v⟩ hy => by
    rcases S.par n (List.of_mem_zip hy).1 with q | q
    · exact .inl q
    · exact .inr ⟨q, PySem.W.cellsFrom_some _ _ _ (.inl q)⟩
  refine codeAny_call_function (by have := hr.dp; omega) (KX _ _ lk) rfl S.co S.gen rfl (PySem.W.codeRec_of KX hcd) (hb _ _ _ _ ?_)
  refine wpAny_newFunctionEnv_cells S.kind hkind fun env he s1 x => ?_
  subst he
  refine ⟨lim.keeps x.toInCall.keep, codeAny_func ?_⟩
  obtain ⟨t, ht, hq⟩ := hbody cdv A outer s H vs Q (hr.deeper _) hsp
  have I := inv_startW S e0 hl r x
  refine wpAny_mono (ht [] s1 (start N vs) H _ I hq) (fun fl s' hs => ?_) fun e s' hs => hs.elim
  have fin : ∀ {σ' : St} {H' : Hp} {v : V} {u : Value}, Inv (cxOfW P w K mg base N qual (defScope st) f cdv A outer s H) [] σ' H' s' → RelV v u → Q v H' → CE outer P w H s Q u s' :=
    fun {σ' H' v u} J rv q => ⟨v, H', J.os, J.bare, J.base, J.hok, rv, q⟩
  cases fl with
  | ret u =>
    obtain ⟨v, σ', H', J, rv, q⟩ := hs
    exact fin J rv q
  | next =>
    obtain ⟨σ', H', J, q⟩ := hs
    exact fin (v := V.non) (u := Value.none) J rfl q
  | brk =>
    obtain ⟨_, _, _, q⟩ := hs
    exact False.elim q
  | cont =>
    obtain ⟨_, _, _, q⟩ := hs
    exact False.elim q
end
section
variable {X : Cx} {k : Nat} {f : Addr} {fd : FuncData} {ps : List Str} {sp : Sp} {x : Str} {p pos : Pos} {e : Expr} {es : List Expr} {t : TA}
def tCallW (sp : Sp) (t : TA) : TE := fun σ H Q => t σ H fun vs H1 => sp vs H1 Q E0
theorem pe_callW (F : FnOkW X.prog X.w X.K X.mg X.base k f fd ps sp) (hr : RoomW k X.A) (hg : Gl X x) (hm : X.mg x = some (.ref f)) (hk : PySem.W.keepIn X.K (.ref f) = true) (hb : Binds X.K fd ps [])
    (ha : PA X (e :: es) t) (hdb : (x == ("__debug__" : Str)) = false := by decide) (he : starEach (e :: es) X.env = (false, eval e X.env) :: starEach es X.env := by rfl) (hp : (backTo pos (starEach es X.env)).any (·.1) = false := by rfl) :
    PE X (.Call (.Name x p) (e :: es) [] pos) (tCallW sp t) := by
  intro pins s σ H Q I hq
  refine wpAny_Call_Name_kw (ld_glob I hg hm ?_ hdb)
  refine PySem.W.callWith_K (h₀ := X.base) I.ok.mod.kin hk (thn (ha pos pins s σ H _ I hq) fun us s1 ⟨vs, H1, I1, r, q⟩ => ⟨I1.kIn, ?_⟩) he hp
  have hl : us.length = ps.length := by rw [← r.length]; exact F.len _ _ _ _ q
  have hl' : (us ++ ([] : List Value)).length = ps.length := by rw [List.append_nil]; exact hl
  refine wpAny_call (codeAny_mono (F.run X.A X.stack s1 H1 ⟨us, []⟩ us vs Q hr I1.env0 (by have := hb s1 us I1.kIn hl'; rw [List.append_nil] at this; exact this) r q) fun r s' hq => ?_)
  cases r with
  | error e => exact False.elim hq
  | ok fl =>
    cases fl with
    | ret u => exact I1.after hq
    | next => exact False.elim hq
    | brk => exact False.elim hq
    | cont => exact False.elim hq
end
end L2
set_option Elab.async false
set_option linter.all false
set_option maxRecDepth 100000
set_option maxHeartbeats 4000000
namespace L2
open PySem PySem.Spec PyProof.Rows
def clsV : V → Option Value
  | .ty n => some (.type n)
  | .ref a => some (.ref a)
  | _ => none
theorem clsV_of {y : V} {c u : Value} (e : clsV y = some c) (r : RelV y u) : u = c := by
  cases y with
  | ty n => cases e; exact r
  | ref a => cases e; exact r
  | _ => cases e
theorem clsVs_of : ∀ {ys : List V} {cs us : List Value}, ys.mapM clsV = some cs → Vals ys us → us = cs
  | [], cs, _, e, .nil => by cases e; rfl
  | y :: ys, cs, u :: us, e, .cons r t => by
    rw [List.mapM_cons] at e
    cases h1 : clsV y with
    | none => rw [h1] at e; cases e
    | some c =>
      cases h2 : ys.mapM clsV with
      | none => rw [h1, h2] at e; cases e
      | some cr =>
        rw [h1, h2] at e
        have e' : c :: cr = cs := Option.some.inj e
        subst e'
        rw [clsV_of h1 r, clsVs_of h2 t]
inductive TyX (K : PySem.W.Frag) (H : Hp) : V → Value → Prop where
  | of {x : V} {t : Value} (h : TyOf K H x t) : TyX K H x t
  | exc {a C : Addr} {cx : Option Addr} (h : H a = some (ExcO a (.ref C) cx)) (T : PySem.W.ExcT K C) : TyX K H (.ref a) (.ref C)
section
variable {X : Cx} {pins : List (Addr × Obj)} {σ : St} {H : Hp} {s : Shared} {A : Around} {E : Value → Shared → Prop} {Q : Value → Shared → Prop}
theorem TyX.kit {x : V} {u t : Value} (I : Inv X pins σ H s) (rx : RelV x u) (ty : TyX X.K H x t) : ∃ Φ : Heap → Prop, PySem.W.KitX X.K u t Φ ∧ Φ s.heap ∧ u ≠ .builtin "__main__.__loader__#opaque" := by
  cases ty with
  | @exc a C cx h T =>
    cases (show u = Value.ref a from rx)
    obtain ⟨⟨o, vs, h1, h2, h3, _⟩, _⟩ := (show ObjOk X.prog X.w H s.heap a (ExcO a (.ref C) cx) from I.hok a _ h)
    exact ⟨_, PySem.W.kitx_exc T, ⟨o, vs, h1, h2, h3⟩, fun z => nomatch z⟩
  | of h =>
  cases h with
  | non => cases (show u = Value.none from rx); exact ⟨_, PySem.W.kitx_none, True.intro, fun z => nomatch z⟩
  | bl y => cases (show u = Value.bool y from rx); exact ⟨_, PySem.W.kitx_bool, True.intro, fun z => nomatch z⟩
  | int i => obtain ⟨t, q⟩ := (show ∃ t, u = Value.int i t from rx); cases q; exact ⟨_, PySem.W.kitx_int, True.intro, fun z => nomatch z⟩
  | str y => obtain ⟨t, q⟩ := (show ∃ t, u = Value.str y t from rx); cases q; exact ⟨_, PySem.W.kitx_str, True.intro, fun z => nomatch z⟩
  | flt y => obtain ⟨t, q⟩ := (show ∃ t, u = Value.float y t from rx); cases q; exact ⟨_, PySem.W.kitx_float, True.intro, fun z => nomatch z⟩
  | @lst a xs ea =>
    cases (show u = Value.ref a from rx)
    obtain ⟨_, _, n, _, h1⟩ := (show ObjOk X.prog X.w H s.heap a (.lst xs) from I.hok a _ ea)
    exact ⟨_, PySem.W.kitx_list, ⟨_, h1, rfl⟩, fun z => nomatch z⟩
  | @frz a ob xs ea =>
    cases (show u = Value.ref a from rx)
    obtain ⟨_, _, _, n, _, h1⟩ := (show ObjOk X.prog X.w H s.heap a (.frz ob (.lst xs)) from I.hok a _ ea)
    exact ⟨_, PySem.W.kitx_list, ⟨_, h1, rfl⟩, fun z => nomatch z⟩
  | @tup a xs ea =>
    cases (show u = Value.ref a from rx)
    obtain ⟨_, _, _, p⟩ := (show ObjOk X.prog X.w H s.heap a (.tup xs) from I.hok a _ ea)
    obtain ⟨o, h1, h2, _⟩ := p
    exact ⟨_, PySem.W.kitx_tuple, ⟨o, h1, h2⟩, fun z => nomatch z⟩
  | @dK a kvs ea =>
    cases (show u = Value.ref a from rx)
    obtain ⟨_, _, vs, _, p⟩ := (show ObjOk X.prog X.w H s.heap a (.dK kvs) from I.hok a _ ea)
    obtain ⟨o, es, ep, h1, h2, _⟩ := p
    exact ⟨_, PySem.W.kitx_dict, ⟨o, h1, h2.1⟩, fun z => nomatch z⟩
  | @dT a kvs ea =>
    cases (show u = Value.ref a from rx)
    obtain ⟨_, _, xs, _, o, es, ep, h1, h2, _⟩ := (show ObjOk X.prog X.w H s.heap a (.dT kvs) from I.hok a _ ea)
    exact ⟨_, PySem.W.kitx_dict, ⟨o, h1, h2.1⟩, fun z => nomatch z⟩
  | @ins a C dx fs ea cl ha hn htk hm =>
    cases (show u = Value.ref a from rx)
    obtain ⟨mA, O, _⟩ := ins_get I.hok ea
    obtain ⟨od, J, _⟩ := O.look
    exact ⟨_, PySem.W.kitx_own (cl.get _) cl.hd ha hn htk hm, J, fun z => nomatch z⟩
def rIsi (K : PySem.W.Frag) : List V → Hp → VK → Prop := fun xs H Q => ∃ x y t c b, xs = [x, y] ∧ clsV y = some c ∧ TyX K H x t ∧ PySem.W.kitOne K t c = some b ∧ Q (.bl b) H
theorem call_isi : CallR X (.builtin "isinstance") (rIsi X.K) := by
  intro pins s σ H xs us Q I r h
  obtain ⟨x, y, t, c, b, rfl, e1, e2, e3, q⟩ := h
  obtain ⟨u, v, rfl, r1, r2⟩ := vals2 r
  obtain rfl := clsV_of e1 r2
  obtain ⟨Φ, Z, p, n⟩ := e2.kit I r1
  exact PySem.W.kia_one Z I.kIn p e3 n fun tk => ⟨.bl b, H, I.tok _, rfl, q⟩
def rIsiT (K : PySem.W.Frag) : List V → Hp → VK → Prop := fun xs H Q => ∃ x p ys t cs b, xs = [x, .ref p] ∧ H p = some (.tup ys) ∧ ys.mapM clsV = some cs ∧ TyX K H x t ∧ PySem.W.kitAny K t cs = some b ∧ Q (.bl b) H
theorem call_isiT : CallR X (.builtin "isinstance") (rIsiT X.K) := by
  intro pins s σ H xs us Q I r h
  obtain ⟨x, p, ys, t, cs, b, rfl, e0, e1, e2, e3, q⟩ := h
  obtain ⟨u, v, rfl, r1, r2⟩ := vals2 r
  cases (show v = Value.ref p from r2)
  obtain ⟨_, its, rv, o, ho, hc, n, hd⟩ := (show ObjOk X.prog X.w H s.heap p (.tup ys) from I.hok p _ e0)
  obtain rfl := clsVs_of e1 rv
  obtain ⟨Φ, Z, pp, nn⟩ := e2.kit I r1
  obtain ⟨oc, od, oda, osl⟩ := o
  dsimp only at hc hd
  subst hc hd
  exact PySem.W.kia_tup Z I.kIn pp ho e3 nn fun tk => ⟨.bl b, H, I.tok _, rfl, q⟩
end
def eqVs : List V → List V → Bool
  | [], [] => true
  | x :: xs, y :: ys => eqV x y && eqVs xs ys
  | _, _ => false
theorem eqVs_len : ∀ {xs ys : List V}, xs.length ≠ ys.length → eqVs xs ys = false
  | [], [], h => absurd rfl h
  | _ :: _, [], _ => rfl
  | [], _ :: _, _ => rfl
  | x :: xs, y :: ys, h => by
    unfold eqVs
    rw [eqVs_len (fun q => h (by simp [q])), Bool.and_false]
def eAt (xs ys : List V) (j : Nat) : Bool := match xs[j]?, ys[j]? with
  | some x, some y => eqV x y
  | _, _ => true
theorem eqVs_range : ∀ {xs ys : List V}, xs.length = ys.length → (List.range xs.length).all (eAt xs ys) = eqVs xs ys
  | [], [], _ => rfl
  | x :: xs, y :: ys, h => by
    have h' : xs.length = ys.length := by simpa using h
    show (List.range (xs.length + 1)).all _ = (eqV x y && eqVs xs ys)
    rw [List.range_succ_eq_map, List.all_cons, List.all_map, ← eqVs_range h']
    rfl
section
variable {X : Cx} {pins : List (Addr × Obj)} {σ : St} {H : Hp} {s : Shared}
theorem eAt_ok {A : Around} {s : Shared} : ∀ {xs ys : List V} {us ws : List Value}, Vals xs us → Vals ys ws → xs.all flatV = true → ys.all flatV = true → ∀ j (h1 : j < us.toArray.size) (h2 : j < ws.toArray.size), SeqAt.EqAt A s us.toArray[j] ws.toArray[j] (eAt xs ys j)
  | x :: xs, y :: ys, u :: us, w :: ws, .cons r1 t1, .cons r2 t2, f1, f2, 0, _, _ => by
    rw [List.all_cons, Bool.and_eq_true] at f1 f2
    exact eqAt_V r1 r2 f1.1 f2.1
  | x :: xs, y :: ys, u :: us, w :: ws, .cons r1 t1, .cons r2 t2, f1, f2, j + 1, h1, h2 => by
    rw [List.all_cons, Bool.and_eq_true] at f1 f2
    have := eAt_ok (A := A) (s := s) t1 t2 f1.2 f2.2 j (by simpa using h1) (by simpa using h2)
    simpa [eAt] using this
  | [], _, _, _, .nil, _, _, _, j, h1, _ => absurd h1 (by simp)
  | _ :: _, [], _, _, _, .nil, _, _, j, _, h2 => absurd h2 (by simp)
def rEqL (K : PySem.W.Frag) (neg : Bool) : R2 := fun x y H Q => ∃ a b xs ys, x = .ref a ∧ y = .ref b ∧ ((SqL K H a xs ∧ SqL K H b ys) ∨ (SqT K H a xs ∧ SqT K H b ys)) ∧ xs.all flatV = true ∧ ys.all flatV = true ∧ Q (.bl (if neg then !eqVs xs ys else eqVs xs ys)) H
theorem op_eqL (hu : X.A.units + 1 < cLine) : OpR X (compareOp .Eq) (rEqL X.K false) := by
  intro pins s σ H x y v u Q I rx ry h
  obtain ⟨a, b, xs, ys, rfl, rfl, hq, f1, f2, q⟩ := h
  cases rx; cases ry
  have hu' : X.A.units < cLine := by omega
  rcases hq with ⟨h1, h2⟩ | ⟨h1, h2⟩
  · obtain ⟨us, r1, p1, z1⟩ := I.list h1
    obtain ⟨ws, r2, p2, z2⟩ := I.list h2
    by_cases hl : xs.length = ys.length
    · refine SeqAt.eq_listAt p1.isList p2.isList (by simp [← r1.length, ← r2.length, hl]) hu' (eAt_ok r1 r2 f1 f2) ⟨.bl _, H, I, rfl, ?_⟩
      rw [show us.toArray.size = xs.length by simp [r1.length], eqVs_range hl]
      exact q
    · refine SeqAt.eq_list_lengthsAt p1.isList p2.isList (by simp [← r1.length, ← r2.length, hl]) hu' ⟨.bl false, H, I, rfl, ?_⟩
      rw [eqVs_len hl] at q
      exact q
  · obtain ⟨us, r1, p1, z1⟩ := I.tuple h1
    obtain ⟨ws, r2, p2, z2⟩ := I.tuple h2
    refine SeqAt.eq_tupleAt p1 p2 hu' (eAt_ok r1 r2 f1 f2) ⟨.bl _, H, I, rfl, ?_⟩
    by_cases hl : xs.length = ys.length
    · rw [show us.toArray.size = xs.length by simp [r1.length], show ws.toArray.size = ys.length by simp [r2.length], ← hl, Nat.min_self, eqVs_range hl, beq_self_eq_true, Bool.and_true]
      exact q
    · rw [show us.toArray.size = xs.length by simp [r1.length], show ws.toArray.size = ys.length by simp [r2.length], beq_eq_false_iff_ne.mpr hl, Bool.and_false]
      rw [eqVs_len hl] at q
      exact q
theorem op_mulB : OpR X (binaryOp .Mult) (rI IntMulOk fun i j => .int (i * j)) := opI fun _ _ _ _ _ _ _ hc q => mul_int q hc
theorem op_fdivB : OpR X (binaryOp .FloorDiv) (rI (fun _ j => 0 < j ∧ j.natAbs.log2 < 9000) fun i j => .int (i / j)) := opI fun i j _ _ _ _ _ hc q => by
  have h0 : j ≠ 0 := by have := hc.1; omega
  refine floordiv_int h0 ?_ (.inl (PyProof.noPylong_of_log2 hc.2))
  rw [Int.fdiv_eq_ediv_of_nonneg _ (Int.le_of_lt hc.1)]
  exact q
end
end L2
namespace L2
open PySem PySem.W PySem.Calls PyProof.Rows
theorem script_bits {ns : List Int} (h : WData.layableAll [WData.list (ns.map WData.int)] = true) : ∀ n ∈ ns, Builtin.Int.intBits n ≤ 2 ^ 20 := fun n hn => by
  have h1 : (WData.list (ns.map WData.int)).layable = true := layableW_arg h _ (List.mem_singleton.mpr rfl)
  have h2 := layableW_item h1 (WData.int n) (List.mem_map.mpr ⟨n, hn, rfl⟩)
  have h3 := (layableW_iff.mp h2).2.2
  simpa only [WData.weight, Builtin.Int.intBits] using h3
theorem walk_ofB {l : OpenLaw} {n k : Nat} {q : Program} {loose : List Str} {XP : (Str → Option Value) → Heap → Prop} {YP : World → Heap → Prop} {d : DefRec} {K : Params → Frag} {CX : World → CXT} {sp : World → Sp} {x : Str}
    (hn : l.most = some n) (hn2 : n ≤ sizeLine) (hdf : d.params.defaults = []) (hr : Room k callerA)
    (hY : ∀ (w : World) (h : Heap), YP w h → (K w.params).In h)
    (F : ∀ (w : World) (mg : Str → Option Value) (fa : Addr) (h : Heap), (K w.params).In h → h.Ns mainGlobals mg → mg d.name = some (.ref fa) →
      ∃ fd : FuncData, (∀ (s : Shared) (u : Value), BindsTo s fd ⟨[u], []⟩ [(x, u)]) ∧
        ∀ base : Heap, (K w.params).In base → base.Ns mainGlobals mg → FnOk l.prog w (K w.params) mg base (CX w) k fa fd [x] (sp w))
    (hsp : ∀ (w : World) (H : Hp) (a : Addr) (ns : List Int), ns.length ≤ n → (∀ m ∈ ns, Builtin.Int.intBits m ≤ 2 ^ 20) → Only H → SqL (K w.params) H a (ns.map V.int) → sp w [.ref a] H (fun v _ => v = .bl true) fun _ _ _ => False)
    (hCX : ∀ (w : World) (H : Hp) (s : Shared) (e : Value) (s' : Shared), CX w [] H s (fun _ _ _ => False) e s' → False) :
    WalkO q loose XP YP l.row.toRowW d [] (fun f vs => PySem.call f vs) := by
  intro w s₀ s₁ mg mb G Y fa o pm cd doc dV kV ho hd hcd hD hmg hg args vals as hpre hlay hrd hwl hlo
  obtain rfl : dV = .none := Dflts.none hD hdf
  obtain rfl : kV = .none := Dflts.noKw hD
  obtain ⟨a, vs, ns, rfl, rfl, hobj, hints, hlen⟩ := Att.script_of hn hpre hwl
  have KX := hY w _ Y
  obtain ⟨fd, hb, hF⟩ := F w mg fa _ KX G.T.g hmg
  refine enter_call (codeAny_mono (law_call KX G.T.g G.T.b G.T.builtins G.T.nolimit hg hobj hints (Nat.le_trans hlen hn2) hr hF hb (fun H hO hS => hsp w H a ns hlen (script_bits hlay) hO hS) fun H e s' => hCX w H s₁ e s') fun r s' hq => ?_)
  obtain ⟨rfl, h2, h3, h4⟩ := hq
  exact ⟨.inl ⟨.bool true, .bool true, [], rfl, fun _ => rfl, .bool true, Att.post_true l _, fun _ => ⟨List.Pairwise.nil, fun _ hm => (nomatch hm)⟩⟩, h2, h3, h4⟩
theorem noCXe {P : Program} {w : World} {outer : List Env} (H : Hp) (s : Shared) (e : Value) (s' : Shared) (h : CXe P w outer H s (fun _ _ _ => False) e s') : False := by
  obtain ⟨_, _, _, _, _, _, _, _, _, _, _, _, _, _, _, _, hE⟩ := h
  exact hE
end L2
set_option Elab.async false
set_option linter.all false
set_option maxRecDepth 100000
set_option maxHeartbeats 4000000
namespace L2
open PySem PySem.Spec PyProof.Rows
structure Own (P : Program) (w : World) (K : PySem.W.Frag) (mg : Str → Option Value) (base : Heap) (k : Nat) (x : Str) (ps : List Str) (sp : Sp) : Prop where
  ex : ∃ f fd, FnOk P w K mg base (CXe P w) k f fd ps sp ∧ Binds K fd ps [] ∧ PySem.W.keepIn K (.ref f) = true ∧ mg x = some (.ref f)
structure OwnW (P : Program) (w : World) (K : PySem.W.Frag) (mg : Str → Option Value) (base : Heap) (k : Nat) (x : Str) (ps : List Str) (sp : Sp) : Prop where
  ex : ∃ f fd, FnOkW P w K mg base k f fd ps sp ∧ Binds K fd ps [] ∧ PySem.W.keepIn K (.ref f) = true ∧ mg x = some (.ref f)
section
variable {X : Cx} {k k' : Nat} {ps : List Str} {sp : Sp} {x : Str} {p pos : Pos} {e : Expr} {es : List Expr} {t : TA} {E : XK} {d : V}
theorem pe_own (G : Own X.prog X.w X.K X.mg X.base k x ps sp) (hr : Room k' X.A) (hk : k ≤ k') (hx : Passes (CXe X.prog X.w) X E) (ha : PA X (e :: es) t) (hg : Gl X x := by rfl)
    (hdb : (x == ("__debug__" : Str)) = false := by decide) (he : starEach (e :: es) X.env = (false, eval e X.env) :: starEach es X.env := by rfl) (hpl : (backTo pos (starEach es X.env)).any (·.1) = false := by rfl) :
    PE X (.Call (.Name x p) (e :: es) [] pos) (tCall sp [] E t) := by
  obtain ⟨f, fd, F, b, kp, m⟩ := G.ex
  exact pe_call F (hr.mono hk) hg m kp b .nil hx ha hdb he hpl
theorem pe_ownW (G : OwnW X.prog X.w X.K X.mg X.base k x ps sp) (hr : RoomW k' X.A) (ha : PA X (e :: es) t) (hk : k ≤ k' := by decide) (hg : Gl X x := by rfl)
    (hdb : (x == ("__debug__" : Str)) = false := by decide) (he : starEach (e :: es) X.env = (false, eval e X.env) :: starEach es X.env := by rfl) (hpl : (backTo pos (starEach es X.env)).any (·.1) = false := by rfl) :
    PE X (.Call (.Name x p) (e :: es) [] pos) (tCallW sp t) := by
  obtain ⟨f, fd, F, b, kp, m⟩ := G.ex
  exact pe_callW F ⟨by have := hr.dp; omega, by have := hr.un; omega⟩ hg m kp b ha hdb he hpl
end
theorem bt_int : bootBuiltins "int" = some (.type "int") := by decide +kernel
theorem bt_bool : bootBuiltins "bool" = some (.type "bool") := by decide +kernel
theorem bt_tuple : bootBuiltins "tuple" = some (.type "tuple") := by decide +kernel
theorem bt_ValueError : bootBuiltins "ValueError" = some (.type "ValueError") := by decide +kernel
theorem bt_isinstance : bootBuiltins "isinstance" = some (.builtin "isinstance") := by decide +kernel
theorem bt_len : bootBuiltins "len" = some (.builtin "len") := by decide +kernel
theorem same_new {H : Hp} {p : Addr} (h : H p = none) (o : HO) : Same H (upd H p o) := fun b u q => by rw [upd_ne (ne_of_none q h)]; exact q
def Scr (K : PySem.W.Frag) (H : Hp) (a : Addr) (xs : List V) : Prop := (∃ o, H a = some (.frz o (.lst xs))) ∨
    ∃ (o : Obj) (its : Array Value) (n : Nat), K.lookup a = some o ∧ o.cls = .type "list" ∧ o.dict = none ∧ o.data = .seq its n ∧ its.size ≤ sizeLine ∧ Vals xs its.toList
theorem Scr.seq {K : PySem.W.Frag} {H : Hp} {a : Addr} {xs : List V} (h : Scr K H a xs) : SqL K H a xs := h.elim (fun z => .inl (.inr z)) .inr
theorem Scr.of {K : PySem.W.Frag} {H : Hp} {a : Addr} {xs : List V} (h : SqL K H a xs) (o : Only H) : Scr K H a xs := by
  rcases h with (h | h) | h
  · rcases o a with z | ⟨o, ys, z⟩
    · rw [h] at z; cases z
    · rw [h] at z; cases z
  · exact .inl h
  · exact .inr h
theorem Scr.same {K : PySem.W.Frag} {H H' : Hp} {a : Addr} {xs : List V} (g : Same H H') (h : Scr K H a xs) : Scr K H' a xs := h.elim (fun ⟨o, z⟩ => .inl ⟨o, g _ _ z⟩) .inr
theorem Scr.upd {K : PySem.W.Frag} {H : Hp} {a l : Addr} {xs ys : List V} {o : HO} (hl : H l = some (.lst ys)) (h : Scr K H a xs) : Scr K (L2.upd H l o) a xs := h.elim (fun ⟨ob, z⟩ => .inl ⟨ob, by rw [upd_ne (ne_of z hl (by intro q; cases q))]; exact z⟩) .inr
end L2
set_option Elab.async false
set_option linter.all false
set_option maxRecDepth 100000
set_option maxHeartbeats 4000000
namespace L2
open PySem PySem.Spec PyProof.Rows
section
variable {prog : Program} {w : World} {A : Around} {R : Result → Shared → Prop} {s : Shared}
end
section
variable {X : Cx} {pins : List (Addr × Obj)} {σ : St} {H3 : Hp} {s3 : Shared} {scope : Scope} {Nc : List Str} {k : Nat} {js : List Nat} {fp : List Addr} {xe : Value → Shared → Prop} {h₁ : Heap} {m₀ : Str → Option Value} {tk : Nat}
end
section
variable {X : Cx} {pins : List (Addr × Obj)} {σ : St} {H : Hp} {s : Shared} {elt tg iter : Expr} {ifs : List Expr} {scope : Scope} {pos : Pos} {Nc : List Str} {k : Nat} {js : List Nat} {g : TG} {tf : TT} {te : TE}
end
end L2
set_option Elab.async false
set_option linter.all false
set_option maxRecDepth 100000
set_option maxHeartbeats 4000000
namespace L2
open PySem PySem.Spec PyProof.Rows
section
variable {X : Cx} {elt tg iter : Expr} {ifs : List Expr} {scope : Scope} {pos : Pos} {Nc : List Str} {k : Nat} {js : List Nat} {wi : TI} {g : TG} {tf : TT} {te : TE}
end
section
variable {X : Cx} {pins : List (Addr × Obj)} {σ : St} {H : Hp} {s : Shared}
end
section
variable {X : Cx}
end
section
variable {X : Cx}
end
end L2
set_option Elab.async false
set_option linter.all false
set_option maxRecDepth 100000
set_option maxHeartbeats 4000000
namespace L2
open PySem PySem.Spec PyProof.Rows
section
variable {prog : Program} {w : World} {A : Around} {R : Result → Shared → Prop}
end
section
variable {X : Cx}
end
section
variable {X : Cx}
end
end L2
set_option Elab.async false
set_option linter.all false
set_option maxRecDepth 100000
set_option maxHeartbeats 4000000
namespace L2
open PySem PySem.Spec PyProof.Rows
section
variable {X : Cx} {K : PySem.W.Frag}
theorem ixK_list (hK : X.K = K := by rfl) : IxR X (rIxL K) := hK ▸ ix_list
theorem ixK_tup (hK : X.K = K := by rfl) : IxR X (rIxT K) := hK ▸ ix_tup
theorem opK_eqL (hu : X.A.units + 1 < cLine) (hK : X.K = K := by rfl) : OpR X (compareOp .Eq) (rEqL K false) := hK ▸ op_eqL hu
def rLenSeq (K : PySem.W.Frag) : List V → Hp → VK → Prop := fun xs H Q => ∃ p ys, xs = [.ref p] ∧ (SqL K H p ys ∨ SqT K H p ys) ∧ Q (.int ys.length) H
theorem callK_len_seq (hK : X.K = K := by rfl) : CallR X (.builtin "len") (rLenSeq K) := hK ▸ call_len_seq
theorem callK_isi (hK : X.K = K := by rfl) : CallR X (.builtin "isinstance") (rIsi K) := hK ▸ call_isi
theorem callK_isiT (hK : X.K = K := by rfl) : CallR X (.builtin "isinstance") (rIsiT K) := hK ▸ call_isiT
theorem pgK_tup {es : List Expr} {k : Nat} {t : TGs} {n : Nat} {pos : Pos} (hc : X.calm = true) (h : PGs X es t) (hK : X.K = K := by rfl) (hn : (assignEach es X.env).length = n := by rfl) (hst : (assignEach es X.env).findIdx? (·.1) = none := by rfl) :
    PG X (.Tuple es k pos) (gTup K n t) := hK ▸ pg_tup hc h hn hst
variable {o e : Expr} {es : List Expr} {to : TE} {t : TA} {name : Str} {apos cpos : Pos} {T id : String} {r : V → List V → Hp → VK → Prop}
end
end L2
set_option Elab.async false
set_option linter.all false
set_option maxRecDepth 100000
set_option maxHeartbeats 4000000
namespace L2
open PySem PySem.Spec PyProof.Rows
section
variable {X : Cx}
end
section
variable {X : Cx} {tg : Expr}
end
end L2
set_option Elab.async false
set_option linter.all false
set_option maxRecDepth 100000
set_option maxHeartbeats 4000000
namespace L2
open PySem PySem.Spec PyProof.Rows
section
variable {X : Cx} {E : XK} {pins pins' : List (Addr × Obj)} {σ σ' : St} {H3 H' : Hp} {s3 s' : Shared} {scope : Scope} {Nc : List Str} {C a : Addr} {fp : List Addr} {xe : Value → Shared → Prop} {cls : Value} {cx : Option Addr} {B : Heap}
end
section
variable {X : Cx} {E : XK} {elt tg iter : Expr} {ifs : List Expr} {scope : Scope} {pos : Pos} {Nc : List Str} {k : Nat} {js : List Nat} {wi : TI} {g : TG} {tf : TT} {te : TE}
end
end L2
set_option Elab.async false
set_option linter.all false
set_option maxRecDepth 100000
set_option maxHeartbeats 4000000
namespace L2
open PySem PySem.Spec PyProof.Rows
inductive D where
  | non | bl (b : Bool) | int (i : Int) | str (x : Str) | ty (n : String) | cls (n : Str) | tup (ds : List D) | lst (ds : List D) | scr (ns : List Int) | exc (c : Str)
mutual
def Rp (K : PySem.W.Frag) (cl : Str → Addr) (F : Hp) : D → V → Prop
  | .non, v => v = .non
  | .bl b, v => v = .bl b
  | .int i, v => v = .int i
  | .str x, v => v = .str x
  | .ty n, v => v = .ty n
  | .cls n, v => v = .ref (cl n)
  | .tup ds, v => ∃ a xs, v = .ref a ∧ F a = some (.tup xs) ∧ Rps K cl F ds xs
  | .lst ds, v => ∃ a xs, v = .ref a ∧ F a = some (.lst xs) ∧ Rps K cl F ds xs
  | .scr ns, v => ∃ a, v = .ref a ∧ Scr K F a (ns.map V.int)
  | .exc c, v => ∃ a cx, v = .ref a ∧ F a = some (ExcO a (.ref (cl c)) cx)
def Rps (K : PySem.W.Frag) (cl : Str → Addr) (F : Hp) : List D → List V → Prop
  | [], vs => vs = []
  | d :: ds, vs => ∃ v r, vs = v :: r ∧ Rp K cl F d v ∧ Rps K cl F ds r
end
section
variable {K : PySem.W.Frag} {cl : Str → Addr} {F F' H H' : Hp}
mutual
theorem Rp.mono (g : Same F F') : ∀ (d : D) (v : V), Rp K cl F d v → Rp K cl F' d v
  | .non, _, h => by simpa only [Rp] using h
  | .bl _, _, h => by simpa only [Rp] using h
  | .int _, _, h => by simpa only [Rp] using h
  | .str _, _, h => by simpa only [Rp] using h
  | .ty _, _, h => by simpa only [Rp] using h
  | .cls _, _, h => by simpa only [Rp] using h
  | .tup ds, v, h => by
    simp only [Rp] at h ⊢
    obtain ⟨a, xs, e, h1, h2⟩ := h
    exact ⟨a, xs, e, g _ _ h1, Rps.mono g ds xs h2⟩
  | .lst ds, v, h => by
    simp only [Rp] at h ⊢
    obtain ⟨a, xs, e, h1, h2⟩ := h
    exact ⟨a, xs, e, g _ _ h1, Rps.mono g ds xs h2⟩
  | .scr ns, v, h => by
    simp only [Rp] at h ⊢
    obtain ⟨a, e, h1⟩ := h
    exact ⟨a, e, h1.same g⟩
  | .exc c, v, h => by
    simp only [Rp] at h ⊢
    obtain ⟨a, cx, e, h1⟩ := h
    exact ⟨a, cx, e, g _ _ h1⟩
theorem Rps.mono (g : Same F F') : ∀ (ds : List D) (vs : List V), Rps K cl F ds vs → Rps K cl F' ds vs
  | [], _, h => by simpa only [Rps] using h
  | d :: ds, vs, h => by
    simp only [Rps] at h ⊢
    obtain ⟨v, r, e, h1, h2⟩ := h
    exact ⟨v, r, e, Rp.mono g d v h1, Rps.mono g ds r h2⟩
end
theorem Rps.nil : Rps K cl F [] [] := by simp only [Rps]
theorem Rps.cons {d : D} {v : V} {ds : List D} {vs : List V} (h : Rp K cl F d v) (t : Rps K cl F ds vs) : Rps K cl F (d :: ds) (v :: vs) := by simp only [Rps]; exact ⟨v, vs, rfl, h, t⟩
theorem Rps.inv {d : D} {ds : List D} {vs : List V} (h : Rps K cl F (d :: ds) vs) : ∃ v r, vs = v :: r ∧ Rp K cl F d v ∧ Rps K cl F ds r := by simpa only [Rps] using h
theorem Rps.inv0 {vs : List V} (h : Rps K cl F [] vs) : vs = [] := by simpa only [Rps] using h
theorem Rps.length : ∀ {ds : List D} {vs : List V}, Rps K cl F ds vs → ds.length = vs.length
  | [], vs, h => by rw [h.inv0]; rfl
  | d :: ds, vs, h => by obtain ⟨v, r, rfl, _, t⟩ := h.inv; simp [t.length]
theorem Rps.get : ∀ {ds : List D} {vs : List V} {i : Nat} {d : D}, Rps K cl F ds vs → ds[i]? = some d → ∃ v, vs[i]? = some v ∧ Rp K cl F d v
  | [], _, _, _, _, e => by simp at e
  | d :: ds, vs, 0, x, h, e => by
    obtain ⟨v, r, rfl, h1, _⟩ := h.inv
    simp at e; subst e
    exact ⟨v, rfl, h1⟩
  | d :: ds, vs, i + 1, x, h, e => by
    obtain ⟨v, r, rfl, _, t⟩ := h.inv
    obtain ⟨u, h1, h2⟩ := t.get (i := i) (d := x) (by simpa using e)
    exact ⟨u, by simpa using h1, h2⟩
theorem Rps.get' {ds : List D} {vs : List V} {i : Nat} {v : V} (h : Rps K cl F ds vs) (e : vs[i]? = some v) : ∃ d, ds[i]? = some d ∧ Rp K cl F d v := by
  have hi : i < ds.length := by
    have := (List.getElem?_eq_some_iff.mp e).1
    rw [h.length]; exact this
  obtain ⟨u, h1, h2⟩ := h.get (List.getElem?_eq_getElem hi)
  rw [e] at h1; cases h1
  exact ⟨_, List.getElem?_eq_getElem hi, h2⟩
theorem Rps.append : ∀ {ds es : List D} {vs us : List V}, Rps K cl F ds vs → Rps K cl F es us → Rps K cl F (ds ++ es) (vs ++ us)
  | [], _, _, _, h, t => by rw [h.inv0]; exact t
  | d :: ds, _, _, _, h, t => by obtain ⟨v, r, rfl, h1, h2⟩ := h.inv; exact .cons h1 (h2.append t)
theorem Rps.one {d : D} {v : V} (h : Rp K cl F d v) : Rps K cl F [d] [v] := .cons h .nil
theorem Rps.set {d : D} {v : V} (r : Rp K cl F d v) : ∀ {ds : List D} {vs : List V} (i : Nat), Rps K cl F ds vs → Rps K cl F (ds.set i d) (vs.set i v)
  | [], _, _, h => by rw [h.inv0]; exact .nil
  | _ :: _, _, 0, h => by obtain ⟨_, _, rfl, _, h2⟩ := h.inv; exact .cons r h2
  | _ :: _, _, i + 1, h => by obtain ⟨_, _, rfl, h1, h2⟩ := h.inv; exact .cons h1 (h2.set r i)
theorem Rps.drop : ∀ {ds : List D} {vs : List V} (n : Nat), Rps K cl F ds vs → Rps K cl F (ds.drop n) (vs.drop n)
  | _, _, 0, h => h
  | [], _, _ + 1, h => by rw [h.inv0]; exact .nil
  | _ :: _, _, n + 1, h => by obtain ⟨_, _, rfl, _, h2⟩ := h.inv; exact h2.drop n
theorem Rps.take : ∀ {ds : List D} {vs : List V} (n : Nat), Rps K cl F ds vs → Rps K cl F (ds.take n) (vs.take n)
  | _, _, 0, h => .nil
  | [], _, _ + 1, h => by rw [h.inv0]; exact .nil
  | _ :: _, _, n + 1, h => by obtain ⟨_, _, rfl, h1, h2⟩ := h.inv; exact .cons h1 (h2.take n)
theorem Rps.ints : ∀ {ns : List Int} {vs : List V}, Rps K cl F (ns.map D.int) vs → vs = ns.map V.int
  | [], _, h => h.inv0
  | n :: ns, _, h => by
    obtain ⟨v, r, rfl, h1, h2⟩ := h.inv
    rw [h2.ints]
    simp only [Rp] at h1
    rw [h1]; rfl
theorem Rps.ofInts : ∀ {ns : List Int}, Rps K cl F (ns.map D.int) (ns.map V.int)
  | [] => .nil
  | _ :: _ => .cons (by simp only [Rp]) Rps.ofInts
theorem Rps.strs : ∀ {bs : List Str} {vs : List V}, Rps K cl F (bs.map D.str) vs → vs = bs.map V.str
  | [], _, h => h.inv0
  | n :: ns, _, h => by
    obtain ⟨v, r, rfl, h1, h2⟩ := h.inv
    rw [h2.strs]
    simp only [Rp] at h1
    rw [h1]; rfl
end
inductive Sl where | no | fz (d : D) | ow (ds : List D) | hd (ds : List D)
abbrev DE := List Sl
def Mu (env : DE) (i : Nat) : Prop := ∃ ds : List D, env[i]? = some (.ow ds) ∨ env[i]? = some (.hd ds)
def Ow (σ : St) (env : DE) (a : Addr) : Prop := ∃ (i : Nat) (ds : List D), env[i]? = some (Sl.ow ds) ∧ σ[i]? = some (some (V.ref a))
structure Rel (K : PySem.W.Frag) (cl : Str → Addr) (σ : St) (H F : Hp) (env : DE) : Prop where
  sub : Same F H
  len : σ.length = env.length
  fz : ∀ (i : Nat) (d : D), env[i]? = some (.fz d) → ∃ v, σ[i]? = some (some v) ∧ Rp K cl F d v
  mu : ∀ (i : Nat) (ds : List D), (env[i]? = some (.ow ds) ∨ env[i]? = some (.hd ds)) → ∃ a xs, σ[i]? = some (some (.ref a)) ∧ H a = some (.lst xs) ∧ F a = none ∧ Rps K cl F ds xs
  inj : ∀ (i j : Nat) (a : Addr), Mu env i → Mu env j → σ[i]? = some (some (.ref a)) → σ[j]? = some (some (.ref a)) → i = j
structure Frm (σ : St) (H F : Hp) (env : DE) (σ' : St) (H' F' : Hp) (env' : DE) : Prop where
  fz : Same F F'
  hid : ∀ a o, H a = some o → F a = none → ¬ Ow σ env a → H' a = some o ∧ F' a = none ∧ ¬ Ow σ' env' a
  keep : ∀ (i : Nat) (ds : List D), env[i]? = some (.hd ds) → env'[i]? = some (.hd ds) ∧ σ'[i]? = σ[i]?
  dom : ∀ a, H' a = none → H a = none
structure Gr (H F H' F' : Hp) : Prop where
  fz : Same F F'
  sub : Same F' H'
  hid : ∀ a o, H a = some o → F a = none → H' a = some o ∧ F' a = none
section
variable {K : PySem.W.Frag} {cl : Str → Addr} {σ σ' σ'' : St} {H H' H'' F F' F'' : Hp} {env env' env'' : DE}
theorem Frm.refl : Frm σ H F env σ H F env := ⟨Same.refl _, fun _ _ h f o => ⟨h, f, o⟩, fun _ _ h => ⟨h, rfl⟩, fun _ h => h⟩
theorem Frm.trans (a : Frm σ H F env σ' H' F' env') (b : Frm σ' H' F' env' σ'' H'' F'' env'') : Frm σ H F env σ'' H'' F'' env'' :=
  ⟨a.fz.trans b.fz, fun x o h f w => by obtain ⟨h1, f1, w1⟩ := a.hid x o h f w; exact b.hid x o h1 f1 w1,
   fun i ds h => by obtain ⟨h1, e1⟩ := a.keep i ds h; obtain ⟨h2, e2⟩ := b.keep i ds h1; exact ⟨h2, e2.trans e1⟩, fun x h => a.dom x (b.dom x h)⟩
theorem Gr.dom (g : Gr H F H' F') (a : Addr) (h : H' a = none) : H a = none := by
  cases e : H a with
  | none => rfl
  | some o =>
    cases f : F a with
    | none => rw [(g.hid a o e f).1] at h; cases h
    | some u => rw [g.sub _ _ (g.fz _ _ f)] at h; cases h
theorem Rel.gr (R : Rel K cl σ H F env) (g : Gr H F H' F') : Rel K cl σ H' F' env :=
  ⟨g.sub, R.len, fun i d h => by obtain ⟨v, e, r⟩ := R.fz i d h; exact ⟨v, e, r.mono g.fz⟩,
   fun i ds h => by obtain ⟨a, xs, e, hH, hF, r⟩ := R.mu i ds h; obtain ⟨h1, f1⟩ := g.hid a _ hH hF; exact ⟨a, xs, e, h1, f1, r.mono g.fz⟩, R.inj⟩
theorem Rel.frm (R : Rel K cl σ H F env) (g : Gr H F H' F') : Frm σ H F env σ H' F' env :=
  ⟨g.fz, fun a o h f w => by obtain ⟨h1, f1⟩ := g.hid a o h f; exact ⟨h1, f1, w⟩, fun _ _ h => ⟨h, rfl⟩, g.dom⟩
theorem Gr.refl (s : Same F H) : Gr H F H F := ⟨Same.refl _, s, fun _ _ h f => ⟨h, f⟩⟩
theorem Gr.trans (a : Gr H F H' F') (b : Gr H' F' H'' F'') : Gr H F H'' F'' := ⟨a.fz.trans b.fz, b.sub, fun x o h f => by obtain ⟨h1, f1⟩ := a.hid x o h f; exact b.hid x o h1 f1⟩
theorem Gr.new {p : Addr} {o : HO} (s : Same F H) (hp : H p = none) : Gr H F (upd H p o) (upd F p o) := by
  have fp : F p = none := s.free hp
  refine ⟨same_new fp o, fun b u e => ?_, fun a u e f => ?_⟩
  · by_cases z : b = p
    · subst z; rw [upd_same] at e ⊢; exact e
    · rw [upd_ne z] at e ⊢; exact s _ _ e
  · have z : a ≠ p := fun z => by rw [z, hp] at e; cases e
    rw [upd_ne z, upd_ne z]; exact ⟨e, f⟩
theorem Rel.freeze {i : Nat} {ds : List D} (R : Rel K cl σ H F env) (h : env[i]? = some (.ow ds)) : ∃ a F', σ[i]? = some (some (.ref a)) ∧ Frm σ H F env σ H F' (env.set i (.fz (.lst ds))) ∧ Rel K cl σ H F' (env.set i (.fz (.lst ds))) ∧ Rp K cl F' (.lst ds) (.ref a) := by
  obtain ⟨a, xs, e, hH, hF, r⟩ := R.mu i ds (.inl h)
  have hi : i < env.length := (List.getElem?_eq_some_iff.mp h).1
  have sF : Same F (upd F a (.lst xs)) := same_new hF _
  have oth : ∀ j, j ≠ i → (env.set i (.fz (.lst ds)))[j]? = env[j]? := fun j hj => List.getElem?_set_ne (Ne.symm hj)
  have self : (env.set i (.fz (.lst ds)))[i]? = some (.fz (.lst ds)) := List.getElem?_set_self hi
  have mui : ∀ j, Mu (env.set i (.fz (.lst ds))) j → j ≠ i ∧ Mu env j := fun j ⟨es, q⟩ => by
    by_cases z : j = i
    · subst z; rw [self] at q; rcases q with q | q <;> cases q
    · rw [oth j z] at q; exact ⟨z, es, q⟩
  have rl : Rp K cl (upd F a (.lst xs)) (.lst ds) (.ref a) := by simp only [Rp]; exact ⟨a, xs, rfl, upd_same, r.mono sF⟩
  refine ⟨a, upd F a (.lst xs), e, ⟨sF, fun b o hb fb w => ?_, fun j es q => ?_, fun _ h => h⟩, ⟨fun b o q => ?_, by rw [List.length_set]; exact R.len, fun j d q => ?_, fun j es q => ?_, fun j k b hj hk e1 e2 => R.inj j k b (mui j hj).2 (mui k hk).2 e1 e2⟩, rl⟩
  · have z : b ≠ a := fun z => w ⟨i, ds, h, by rw [z]; exact e⟩
    refine ⟨hb, by rw [upd_ne z]; exact fb, fun ⟨j, es, q, e1⟩ => ?_⟩
    by_cases y : j = i
    · subst y; rw [self] at q; cases q
    · rw [oth j y] at q; exact w ⟨j, es, q, e1⟩
  · have z : j ≠ i := fun z => by subst z; rw [h] at q; cases q
    exact ⟨by rw [oth j z]; exact q, rfl⟩
  · by_cases z : b = a
    · subst z; rw [upd_same] at q; cases q; exact hH
    · rw [upd_ne z] at q; exact R.sub _ _ q
  · by_cases z : j = i
    · subst z; rw [self] at q; cases q; exact ⟨_, e, rl⟩
    · rw [oth j z] at q; obtain ⟨v, e1, r1⟩ := R.fz j d q; exact ⟨v, e1, r1.mono sF⟩
  · have z : j ≠ i := (mui j ⟨es, q⟩).1
    rw [oth j z] at q
    obtain ⟨b, ys, e1, h1, f1, r1⟩ := R.mu j es q
    have nb : b ≠ a := fun y => z (R.inj j i b ⟨es, q⟩ ⟨ds, .inl h⟩ e1 (by rw [y]; exact e))
    exact ⟨b, ys, e1, h1, by rw [upd_ne nb]; exact f1, r1.mono sF⟩
theorem Rel.put {i : Nat} {d : D} {v : V} (R : Rel K cl σ H F env) (hi : i < env.length) (nh : ∀ ds, env[i]? ≠ some (.hd ds)) (r : Rp K cl F d v) : Rel K cl (σ.set i (some v)) H F (env.set i (.fz d)) := by
  refine ⟨R.sub, by rw [List.length_set, List.length_set]; exact R.len, fun j e q => ?_, fun j es q => ?_, fun j k b hj hk e1 e2 => ?_⟩
  · by_cases z : j = i
    · subst z
      rw [List.getElem?_set_self hi] at q; cases q
      exact ⟨v, List.getElem?_set_self (by rw [R.len]; exact hi), r⟩
    · rw [List.getElem?_set_ne (Ne.symm z)] at q
      obtain ⟨u, e1, r1⟩ := R.fz j e q
      exact ⟨u, by rw [List.getElem?_set_ne (Ne.symm z)]; exact e1, r1⟩
  · have z : j ≠ i := fun z => by
      subst z
      rw [List.getElem?_set_self hi] at q
      rcases q with q | q <;> cases q
    rw [List.getElem?_set_ne (Ne.symm z)] at q
    obtain ⟨a, xs, e1, h1, f1, r1⟩ := R.mu j es q
    exact ⟨a, xs, by rw [List.getElem?_set_ne (Ne.symm z)]; exact e1, h1, f1, r1⟩
  · have nz : ∀ j, Mu (env.set i (.fz d)) j → j ≠ i ∧ Mu env j := fun j ⟨es, q⟩ => by
      by_cases z : j = i
      · subst z
        rw [List.getElem?_set_self hi] at q
        rcases q with q | q <;> cases q
      · rw [List.getElem?_set_ne (Ne.symm z)] at q; exact ⟨z, es, q⟩
    obtain ⟨zj, mj⟩ := nz j hj
    obtain ⟨zk, mk⟩ := nz k hk
    rw [List.getElem?_set_ne (Ne.symm zj)] at e1
    rw [List.getElem?_set_ne (Ne.symm zk)] at e2
    exact R.inj j k b mj mk e1 e2
theorem Rel.putO {i : Nat} {ds : List D} {a : Addr} {xs : List V} (R : Rel K cl σ H F env) (hi : i < env.length) (hH : H a = some (.lst xs)) (hF : F a = none) (na : ∀ j, Mu env j → σ[j]? ≠ some (some (.ref a))) (r : Rps K cl F ds xs) : Rel K cl (σ.set i (some (.ref a))) H F (env.set i (.ow ds)) := by
  have his : i < σ.length := by rw [R.len]; exact hi
  have nz : ∀ j, j ≠ i → Mu (env.set i (.ow ds)) j → Mu env j := fun j z ⟨es, q⟩ => by
    rw [List.getElem?_set_ne (Ne.symm z)] at q; exact ⟨es, q⟩
  refine ⟨R.sub, by rw [List.length_set, List.length_set]; exact R.len, fun j e q => ?_, fun j es q => ?_, fun j k b hj hk e1 e2 => ?_⟩
  · have z : j ≠ i := fun z => by subst z; rw [List.getElem?_set_self hi] at q; cases q
    rw [List.getElem?_set_ne (Ne.symm z)] at q
    obtain ⟨u, e1, r1⟩ := R.fz j e q
    exact ⟨u, by rw [List.getElem?_set_ne (Ne.symm z)]; exact e1, r1⟩
  · by_cases z : j = i
    · subst z
      rw [List.getElem?_set_self hi] at q
      rcases q with q | q
      · cases q; exact ⟨a, xs, List.getElem?_set_self his, hH, hF, r⟩
      · cases q
    · rw [List.getElem?_set_ne (Ne.symm z)] at q
      obtain ⟨b, ys, e1, h1, f1, r1⟩ := R.mu j es q
      exact ⟨b, ys, by rw [List.getElem?_set_ne (Ne.symm z)]; exact e1, h1, f1, r1⟩
  · by_cases zj : j = i
    · by_cases zk : k = i
      · rw [zj, zk]
      · subst zj
        rw [List.getElem?_set_self his] at e1
        rw [List.getElem?_set_ne (Ne.symm zk)] at e2
        cases e1
        exact absurd e2 (na k (nz k zk hk))
    · rw [List.getElem?_set_ne (Ne.symm zj)] at e1
      by_cases zk : k = i
      · subst zk
        rw [List.getElem?_set_self his] at e2
        cases e2
        exact absurd e1 (na j (nz j zj hj))
      · rw [List.getElem?_set_ne (Ne.symm zk)] at e2
        exact R.inj j k b (nz j zj hj) (nz k zk hk) e1 e2
theorem Frm.put {i : Nat} {d : D} {x : Option V} (nh : ∀ ds, env[i]? ≠ some (.hd ds)) : Frm σ H F env (σ.set i x) H F (env.set i (.fz d)) := by
  refine ⟨Same.refl _, fun a o h f w => ⟨h, f, fun ⟨j, ds, q, e⟩ => ?_⟩, fun j ds q => ?_, fun _ h => h⟩
  · by_cases z : j = i
    · subst z
      have hj : j < env.length := by have := (List.getElem?_eq_some_iff.mp q).1; rwa [List.length_set] at this
      rw [List.getElem?_set_self hj] at q
      cases q
    · rw [List.getElem?_set_ne (Ne.symm z)] at q e
      exact w ⟨j, ds, q, e⟩
  · have z : j ≠ i := fun z => by subst z; exact nh ds q
    rw [List.getElem?_set_ne (Ne.symm z), List.getElem?_set_ne (Ne.symm z)]
    exact ⟨q, rfl⟩
theorem Frm.putO {i : Nat} {es : List D} {a : Addr} (f : Frm σ H F env σ' H' F' env') (ha : H a = none) (nh : ∀ ds, env'[i]? ≠ some (.hd ds)) : Frm σ H F env (σ'.set i (some (.ref a))) H' F' (env'.set i (.ow es)) := by
  refine ⟨f.fz, fun b o h g w => ?_, fun j ds q => ?_, f.dom⟩
  · obtain ⟨h1, f1, w1⟩ := f.hid b o h g w
    refine ⟨h1, f1, fun ⟨j, ds, q, e⟩ => ?_⟩
    by_cases z : j = i
    · subst z
      have hj : j < σ'.length := by have := (List.getElem?_eq_some_iff.mp e).1; rwa [List.length_set] at this
      rw [List.getElem?_set_self hj] at e
      cases e
      rw [ha] at h; cases h
    · rw [List.getElem?_set_ne (Ne.symm z)] at q e
      exact w1 ⟨j, ds, q, e⟩
  · obtain ⟨q1, e1⟩ := f.keep j ds q
    have z : j ≠ i := fun z => by subst z; exact nh ds q1
    rw [List.getElem?_set_ne (Ne.symm z), List.getElem?_set_ne (Ne.symm z)]
    exact ⟨q1, e1⟩
end
end L2
set_option Elab.async false
set_option linter.all false
set_option maxRecDepth 100000
set_option maxHeartbeats 4000000
namespace L2
open PySem PySem.Spec PyProof.Rows
inductive R (α : Type) where | ok (a : α) (e : DE) | ex (c : Str)
inductive RS where | nx (e : DE) | rt (d : D) | ro (ds : List D) | bk (e : DE) | ct (e : DE) | ex (c : Str)
def bnd {α β : Type} (x : Option (R α)) (k : α → DE → Option (R β)) : Option (R β) := match x with
  | none => none
  | some (.ok a e) => k a e
  | some (.ex c) => some (.ex c)
def sbn {α : Type} (x : Option (R α)) (k : α → DE → Option RS) : Option RS := match x with
  | none => none
  | some (.ok a e) => k a e
  | some (.ex c) => some (.ex c)
def opt {α : Type} (x : Option α) (e : DE) : Option (R α) := match x with
  | none => none
  | some a => some (.ok a e)
@[simp] theorem bnd_ok {α β : Type} (a : α) (e : DE) (k : α → DE → Option (R β)) : bnd (some (.ok a e)) k = k a e := rfl
@[simp] theorem bnd_ex {α β : Type} (c : Str) (k : α → DE → Option (R β)) : bnd (some (.ex c)) k = some (.ex c) := rfl
@[simp] theorem bnd_no {α β : Type} (k : α → DE → Option (R β)) : bnd (none : Option (R α)) k = none := rfl
@[simp] theorem sbn_ok {α : Type} (a : α) (e : DE) (k : α → DE → Option RS) : sbn (some (.ok a e)) k = k a e := rfl
@[simp] theorem sbn_ex {α : Type} (c : Str) (k : α → DE → Option RS) : sbn (some (.ex c)) k = some (.ex c) := rfl
@[simp] theorem sbn_no {α : Type} (k : α → DE → Option RS) : sbn (none : Option (R α)) k = none := rfl
@[simp] theorem opt_some {α : Type} (a : α) (e : DE) : opt (some a) e = some (.ok a e) := rfl
@[simp] theorem opt_none {α : Type} (e : DE) : opt (none : Option α) e = none := rfl
structure FX (σ : St) (H F : Hp) (env : DE) (H' F' : Hp) : Prop where
  fz : Same F F'
  sub : Same F' H'
  hid : ∀ a o, H a = some o → F a = none → ¬ Ow σ env a → H' a = some o ∧ F' a = none
  dom : ∀ a, H' a = none → H a = none
section
variable {K : PySem.W.Frag} {cl : Str → Addr} {E : XK} {σ σ' : St} {H H' H1 F F' F1 : Hp} {env env' env1 : DE} {α β γ δ : Type}
theorem Frm.fx {H2 F2 : Hp} (a : Frm σ H F env σ' H1 F1 env1) (b : FX σ' H1 F1 env1 H2 F2) : FX σ H F env H2 F2 :=
  ⟨a.fz.trans b.fz, b.sub, fun x o h f w => by obtain ⟨h1, f1, w1⟩ := a.hid x o h f w; exact b.hid x o h1 f1 w1, fun x h => a.dom x (b.dom x h)⟩
theorem Frm.toFX (a : Frm σ H F env σ' H1 F1 env1) (s : Same F1 H1) : FX σ H F env H1 F1 := ⟨a.fz, s, fun x o h f w => by obtain ⟨h1, f1, _⟩ := a.hid x o h f w; exact ⟨h1, f1⟩, a.dom⟩
abbrev Py (α β : Type) := α → St → Hp → Hp → Hp → DE → β → Prop
def PM (P : Py α β) : Prop := ∀ a σ H0 H1 H' F' e b, (∀ x : Addr, H1 x = none → H0 x = none) → P a σ H1 H' F' e b → P a σ H0 H' F' e b
def Ct (K : PySem.W.Frag) (cl : Str → Addr) (E : XK) (P : Py α β) (r : Option (R α)) (σ : St) (H F : Hp) (env : DE) (Q : β → Hp → Prop) : Prop := match r with
  | none => False
  | some (.ok a e) => ∀ b H' F', Frm σ H F env σ H' F' e → Rel K cl σ H' F' e → P a σ H H' F' e b → Q b H'
  | some (.ex c) => ∀ H' F', FX σ H F env H' F' → E (.ref (cl c)) none H'
def Cs (K : PySem.W.Frag) (cl : Str → Addr) (E : XK) (r : Option RS) (σ : St) (H F : Hp) (env : DE) (N : Ends) : Prop := match r with
  | none => False
  | some (.nx e) => ∀ σ' H' F', Frm σ H F env σ' H' F' e → Rel K cl σ' H' F' e → N.nx σ' H'
  | some (.bk e) => ∀ σ' H' F', Frm σ H F env σ' H' F' e → Rel K cl σ' H' F' e → N.bk σ' H'
  | some (.ct e) => ∀ σ' H' F', Frm σ H F env σ' H' F' e → Rel K cl σ' H' F' e → N.ct σ' H'
  | some (.rt d) => ∀ v H' F', FX σ H F env H' F' → Rp K cl F' d v → N.rt v H'
  | some (.ro ds) => ∀ a xs H' F', FX σ H F env H' F' → H' a = some (.lst xs) → F' a = none → (∀ o, H a = some o → Ow σ env a) → Rps K cl F' ds xs → N.rt (.ref a) H'
  | some (.ex c) => ∀ H' F', FX σ H F env H' F' → E (.ref (cl c)) none H'
theorem Ct.mono {P : Py α β} {r : Option (R α)} {Q Q' : β → Hp → Prop} (h : Ct K cl E P r σ H F env Q) (q : ∀ b H', Q b H' → Q' b H') : Ct K cl E P r σ H F env Q' := by
  unfold Ct at h ⊢
  split at h
  · exact h
  · exact fun b H' F' f R p => q _ _ (h b H' F' f R p)
  · exact h
theorem Ct.from {P2 : Py γ δ} {r : Option (R γ)} {Q : δ → Hp → Prop} (f : Frm σ H F env σ H1 F1 env1) (pm : PM P2) (h : Ct K cl E P2 r σ H F env Q) : Ct K cl E P2 r σ H1 F1 env1 Q := by
  unfold Ct at h ⊢
  split at h
  · exact h
  · exact fun b H' F' f2 R2 p2 => h b H' F' (f.trans f2) R2 (pm _ _ _ _ _ _ _ _ f.dom p2)
  · exact fun H' F' x => h H' F' (f.fx x)
theorem Ct.bnd {P1 : Py α β} {P2 : Py γ δ} {r : Option (R α)} {k : α → DE → Option (R γ)} {Q : δ → Hp → Prop} (h : Ct K cl E P2 (bnd r k) σ H F env Q) (pm : PM P2) :
    Ct K cl E P1 r σ H F env fun b H1 => ∃ F1 env1 a, Same F F1 ∧ Rel K cl σ H1 F1 env1 ∧ P1 a σ H H1 F1 env1 b ∧ Ct K cl E P2 (k a env1) σ H1 F1 env1 Q := by
  unfold Ct
  rcases r with _ | ⟨a, e⟩ | c
  · exact h
  · intro b H1 F1 f R p
    refine ⟨F1, e, a, f.fz, R, p, ?_⟩
    have h : Ct K cl E P2 (k a e) σ H F env Q := h
    exact Ct.from f pm h
  · exact h
theorem Cs.from {r : Option RS} {N : Ends} (f : Frm σ H F env σ' H1 F1 env1) (h : Cs K cl E r σ H F env N) : Cs K cl E r σ' H1 F1 env1 N := by
  unfold Cs at h ⊢
  split at h
  · exact h
  · exact fun σ' H' F' f2 R2 => h σ' H' F' (f.trans f2) R2
  · exact fun σ' H' F' f2 R2 => h σ' H' F' (f.trans f2) R2
  · exact fun σ' H' F' f2 R2 => h σ' H' F' (f.trans f2) R2
  · exact fun v H' F' x p => h v H' F' (f.fx x) p
  · refine fun a xs H' F' x ha fa nw p => h a xs H' F' (f.fx x) ha fa (fun o e => ?_) p
    refine Classical.byContradiction fun w => ?_
    cases q : F a with
    | none =>
      obtain ⟨h1, f1, w1⟩ := f.hid a o e q w
      exact w1 (nw o h1)
    | some u => rw [x.fz _ _ (f.fz _ _ q)] at fa; cases fa
  · exact fun H' F' x => h H' F' (f.fx x)
theorem Cs.bnd {P1 : Py α β} {r : Option (R α)} {k : α → DE → Option RS} {N : Ends} (h : Cs K cl E (sbn r k) σ H F env N) :
    Ct K cl E P1 r σ H F env fun b H1 => ∃ F1 env1 a, Frm σ H F env σ H1 F1 env1 ∧ Rel K cl σ H1 F1 env1 ∧ P1 a σ H H1 F1 env1 b ∧ Cs K cl E (k a env1) σ H F env N := by
  unfold Ct
  rcases r with _ | ⟨a, e⟩ | c
  · exact h
  · intro b H1 F1 f R p
    exact ⟨F1, e, a, f, R, p, h⟩
  · exact h
end
def PZ (K : PySem.W.Frag) (cl : Str → Addr) : Py D V := fun d _ _ _ F' _ v => Rp K cl F' d v
def PAs (K : PySem.W.Frag) (cl : Str → Addr) : Py (List D) (List V) := fun ds _ _ _ F' _ vs => Rps K cl F' ds vs
def PB : Py Bool Bool := fun b _ _ _ _ _ c => c = b
def PN (K : PySem.W.Frag) (cl : Str → Addr) : Py (List D) V := fun ds σ H H' F' e v => ∃ a xs, v = .ref a ∧ H a = none ∧ H' a = some (.lst xs) ∧ F' a = none ∧ (∀ j, Mu e j → σ[j]? ≠ some (some (.ref a))) ∧ Rps K cl F' ds xs
theorem pm_Z {K cl} : PM (PZ K cl) := fun _ _ _ _ _ _ _ _ _ h => h
theorem pm_A {K cl} : PM (PAs K cl) := fun _ _ _ _ _ _ _ _ _ h => h
theorem pm_B : PM PB := fun _ _ _ _ _ _ _ _ _ h => h
theorem pm_N {K cl} : PM (PN K cl) := fun _ _ _ _ _ _ _ _ g ⟨a, xs, e, h, r⟩ => ⟨a, xs, e, g a h, r⟩
abbrev ZF := DE → Option (R D)
abbrev NF := DE → Option (R (List D))
abbrev AF := DE → Option (R (List D))
abbrev BF := DE → Option (R Bool)
abbrev SF := DE → Option RS
section
variable (K : PySem.W.Frag) (cl : Str → Addr) (E : XK)
def RfZ (t : TE) (f : ZF) : Prop := ∀ σ H Q env F, Rel K cl σ H F env → Ct K cl E (PZ K cl) (f env) σ H F env Q → t σ H Q
def RfN (t : TE) (f : NF) : Prop := ∀ σ H Q env F, Rel K cl σ H F env → Ct K cl E (PN K cl) (f env) σ H F env Q → t σ H Q
def RfA (t : TA) (f : AF) : Prop := ∀ σ H Q env F, Rel K cl σ H F env → Ct K cl E (PAs K cl) (f env) σ H F env Q → t σ H Q
def RfB (t : TT) (f : BF) : Prop := ∀ σ H Q env F, Rel K cl σ H F env → Ct K cl E PB (f env) σ H F env Q → t σ H Q
def RfS (t : TS) (f : SF) : Prop := ∀ (N : Ends) σ H env F, Rel K cl σ H F env → Cs K cl E (f env) σ H F env N → t N σ H
end
def eC (d : D) : ZF := fun e => some (.ok d e)
def eV (i : Nat) : ZF := fun e => match e[i]? with
  | some (.fz d) => some (.ok d e)
  | some (.ow ds) => some (.ok (.lst ds) (e.set i (.fz (.lst ds))))
  | _ => none
def look (e : DE) (i : Nat) : Option D := match e[i]? with
  | some (.fz d) => some d
  | some (.ow ds) => some (.lst ds)
  | some (.hd ds) => some (.lst ds)
  | _ => none
def Rb (K : PySem.W.Frag) (cl : Str → Addr) (F H : Hp) (d : D) (v : V) : Prop := Rp K cl F d v ∨ ∃ a xs ds, v = .ref a ∧ d = .lst ds ∧ H a = some (.lst xs) ∧ Rps K cl F ds xs
section
variable {K : PySem.W.Frag} {cl : Str → Addr} {E : XK} {σ : St} {H F : Hp} {env : DE}
theorem Rel.look {i : Nat} {d : D} (R : Rel K cl σ H F env) (h : look env i = some d) : ∃ v, σ[i]? = some (some v) ∧ Rb K cl F H d v := by
  unfold L2.look at h
  split at h
  · rename_i q; cases h; obtain ⟨v, e, r⟩ := R.fz i d q; exact ⟨v, e, .inl r⟩
  · rename_i ds q; cases h; obtain ⟨a, xs, e, hH, _, r⟩ := R.mu i ds (.inl q); exact ⟨_, e, .inr ⟨a, xs, ds, rfl, rfl, hH, r⟩⟩
  · rename_i ds q; cases h; obtain ⟨a, xs, e, hH, _, r⟩ := R.mu i ds (.inr q); exact ⟨_, e, .inr ⟨a, xs, ds, rfl, rfl, hH, r⟩⟩
  · cases h
theorem rf_c {v : V} {d : D} (h : ∀ F, Rp K cl F d v := by intro F; simp only [Rp]) : RfZ K cl E (tC v) (eC d) := fun σ H Q env F R h' => h' v H F Frm.refl R (h F)
theorem rf_v {i : Nat} : RfZ K cl E (tVar i) (eV i) := by
  intro σ H Q env F R h
  unfold eV at h
  split at h
  · rename_i d q
    obtain ⟨v, e, r⟩ := R.fz i d q
    exact ⟨v, e, h v H F Frm.refl R r⟩
  · rename_i ds q
    obtain ⟨a, F', e, fr, R', r⟩ := R.freeze q
    exact ⟨_, e, h _ H F' fr R' r⟩
  · exact h.elim
end
def OpOk (K : PySem.W.Frag) (cl : Str → Addr) (r : R2) (g : D → D → Option D) : Prop := ∀ x y d e z H F Q, Same F H → Rb K cl F H d x → Rb K cl F H e y → g d e = some z → (∀ v H' F', Gr H F H' F' → Rp K cl F' z v → Q v H') → r x y H Q
def eB (g : D → D → Option D) (f k : ZF) : ZF := fun e => bnd (f e) fun d e1 => bnd (k e1) fun d' e2 => opt (g d d') e2
def eBV (g : D → D → Option D) (i : Nat) (k : ZF) : ZF := fun e => match look e i with
  | none => none
  | some _ => bnd (k e) fun d' e2 => match look e2 i with
    | some d => opt (g d d') e2
    | none => none
def eBW (g : D → D → Option D) (f : ZF) (j : Nat) : ZF := fun e => bnd (f e) fun d e2 => match look e2 j with
  | some d' => opt (g d d') e2
  | none => none
def eBVV (g : D → D → Option D) (i j : Nat) : ZF := fun e => match look e i, look e j with
  | some d, some d' => opt (g d d') e
  | _, _ => none
section
variable {K : PySem.W.Frag} {cl : Str → Addr} {E : XK} {r : R2} {g : D → D → Option D} {ta tb : TE} {f k : ZF} {i j : Nat}
theorem OpOk.fin {σ : St} {H F : Hp} {env : DE} {x y : V} {d e : D} {Q : VK} (ok : OpOk K cl r g) (R : Rel K cl σ H F env) (hx : Rb K cl F H d x) (hy : Rb K cl F H e y) (h : Ct K cl E (PZ K cl) (opt (g d e) env) σ H F env Q) : r x y H Q := by
  cases hz : g d e with
  | none => rw [hz] at h; exact h.elim
  | some z =>
    rw [hz] at h
    exact ok x y d e z H F Q R.sub hx hy hz fun v H' F' gr p => h v H' F' (R.frm gr) (R.gr gr) p
theorem rf_op (ok : OpOk K cl r g) (ha : RfZ K cl E ta f) (hb : RfZ K cl E tb k) : RfZ K cl E (tOp r ta tb) (eB g f k) := by
  intro σ H Q env F R h
  refine ha σ H _ env F R ((Ct.bnd h pm_Z).mono fun x H1 ⟨F1, e1, d, s1, R1, p1, h1⟩ => ?_)
  refine hb σ H1 _ e1 F1 R1 ((Ct.bnd h1 pm_Z).mono fun y H2 ⟨F2, e2, e, s2, R2, p2, h2⟩ => ?_)
  exact ok.fin R2 (.inl (Rp.mono s2 _ _ p1)) (.inl p2) h2
theorem rf_opV (ok : OpOk K cl r g) (hb : RfZ K cl E tb k) : RfZ K cl E (tOp r (tVar i) tb) (eBV g i k) := by
  intro σ H Q env F R h
  unfold eBV at h
  cases q : look env i with
  | none => rw [q] at h; exact h.elim
  | some d0 =>
    rw [q] at h
    obtain ⟨x, e0, _⟩ := R.look q
    refine ⟨x, e0, hb σ H _ env F R ((Ct.bnd h pm_Z).mono fun y H2 ⟨F2, e2, e, s2, R2, p2, h2⟩ => ?_)⟩
    cases q2 : look e2 i with
    | none => rw [q2] at h2; exact h2.elim
    | some d =>
      rw [q2] at h2
      obtain ⟨x', e', rb⟩ := R2.look q2
      rw [e0] at e'; cases e'
      exact ok.fin R2 rb (.inl p2) h2
end
section
variable {K : PySem.W.Frag} {cl : Str → Addr} {E : XK}
theorem Rb.int {F H : Hp} {i : Int} {v : V} (h : Rb K cl F H (.int i) v) : v = .int i := by
  rcases h with h | ⟨_, _, _, _, z, _⟩
  · simpa only [Rp] using h
  · cases z
theorem Rb.bl {F H : Hp} {i : Bool} {v : V} (h : Rb K cl F H (.bl i) v) : v = .bl i := by
  rcases h with h | ⟨_, _, _, _, z, _⟩
  · simpa only [Rp] using h
  · cases z
theorem Rb.str {F H : Hp} {i : Str} {v : V} (h : Rb K cl F H (.str i) v) : v = .str i := by
  rcases h with h | ⟨_, _, _, _, z, _⟩
  · simpa only [Rp] using h
  · cases z
theorem Rb.non {F H : Hp} {v : V} (h : Rb K cl F H .non v) : v = .non := by
  rcases h with h | ⟨_, _, _, _, z, _⟩
  · simpa only [Rp] using h
  · cases z
theorem Rb.lst {F H : Hp} {ds : List D} {v : V} (s : Same F H) (h : Rb K cl F H (.lst ds) v) : ∃ a xs, v = .ref a ∧ H a = some (.lst xs) ∧ Rps K cl F ds xs := by
  rcases h with h | ⟨a, xs, ds', e, z, h, r⟩
  · simp only [Rp] at h
    obtain ⟨a, xs, e, h, r⟩ := h
    exact ⟨a, xs, e, s _ _ h, r⟩
  · cases z; exact ⟨a, xs, e, h, r⟩
theorem Rb.tup {F H : Hp} {ds : List D} {v : V} (s : Same F H) (h : Rb K cl F H (.tup ds) v) : ∃ a xs, v = .ref a ∧ H a = some (.tup xs) ∧ Rps K cl F ds xs := by
  rcases h with h | ⟨_, _, _, _, z, _⟩
  · simp only [Rp] at h
    obtain ⟨a, xs, e, h, r⟩ := h
    exact ⟨a, xs, e, s _ _ h, r⟩
  · cases z
theorem Rb.scr {F H : Hp} {ns : List Int} {v : V} (s : Same F H) (h : Rb K cl F H (.scr ns) v) : ∃ a, v = .ref a ∧ Scr K H a (ns.map V.int) := by
  rcases h with h | ⟨_, _, _, _, z, _⟩
  · simp only [Rp] at h
    obtain ⟨a, e, h⟩ := h
    exact ⟨a, e, h.same s⟩
  · cases z
def gI (C : Int → Int → Prop) [∀ i j, Decidable (C i j)] (g : Int → Int → D) : D → D → Option D
  | .int i, .int j => if C i j then some (g i j) else none
  | _, _ => none
def gI0 (g : Int → Int → D) : D → D → Option D
  | .int i, .int j => some (g i j)
  | _, _ => none
theorem ok_I {C : Int → Int → Prop} [∀ i j, Decidable (C i j)] {g : Int → Int → V} {g' : Int → Int → D} (hg : ∀ F i j, Rp K cl F (g' i j) (g i j)) : OpOk K cl (rI C g) (gI C g') := by
  intro x y d e z H F Q s hx hy h q
  unfold gI at h
  split at h
  · rename_i i j
    split at h
    · rename_i c; cases h
      exact ⟨i, j, hx.int, hy.int, c, q _ H F (.refl s) (hg F i j)⟩
    · cases h
  · cases h
theorem ok_I0 {g : Int → Int → V} {g' : Int → Int → D} (hg : ∀ F i j, Rp K cl F (g' i j) (g i j)) : OpOk K cl (rI0 g) (gI0 g') := by
  intro x y d e z H F Q s hx hy h q
  unfold gI0 at h
  split at h
  · rename_i i j
    cases h
    exact ⟨i, j, hx.int, hy.int, q _ H F (.refl s) (hg F i j)⟩
  · cases h
end
end L2
set_option Elab.async false
set_option linter.all false
set_option maxRecDepth 100000
set_option maxHeartbeats 4000000
namespace L2
open PySem PySem.Spec PyProof.Rows
section
variable {K : PySem.W.Frag} {cl : Str → Addr} {E : XK} {σ : St} {H F : Hp} {env : DE}
theorem Rel.newN {p : Addr} {o : HO} (R : Rel K cl σ H F env) (hp : H p = none) : Rel K cl σ (upd H p o) F env ∧ Frm σ H F env σ (upd H p o) F env := by
  have fp : F p = none := R.sub.free hp
  have ne : ∀ a u, H a = some u → a ≠ p := fun a u h z => by rw [z, hp] at h; cases h
  refine ⟨⟨R.sub.trans (same_new hp _), R.len, R.fz, fun i ds h => ?_, R.inj⟩, ⟨Same.refl _, fun a u h f w => ?_, fun _ _ h => ⟨h, rfl⟩, fun a h => ?_⟩⟩
  · obtain ⟨a, xs, e, hH, hF, r⟩ := R.mu i ds h
    exact ⟨a, xs, e, by rw [upd_ne (ne _ _ hH)]; exact hH, hF, r⟩
  · exact ⟨by rw [upd_ne (ne _ _ h)]; exact h, f, w⟩
  · by_cases z : a = p
    · rw [z]; exact hp
    · rw [upd_ne z] at h; exact h
theorem Ct.newN {p : Addr} {xs : List V} {ds : List D} {Q : VK} (R : Rel K cl σ H F env) (hp : H p = none) (r : Rps K cl F ds xs) (h : Ct K cl E (PN K cl) (some (.ok ds env)) σ H F env Q) : Q (.ref p) (upd H p (.lst xs)) := by
  obtain ⟨R', f⟩ := R.newN (o := .lst xs) hp
  refine h _ _ F f R' ⟨p, xs, rfl, hp, upd_same, R.sub.free hp, fun j mj e => ?_, r⟩
  obtain ⟨ds', q⟩ := mj
  obtain ⟨a, ys, e1, hH, _⟩ := R.mu j ds' q
  rw [e] at e1; cases e1
  rw [hp] at hH; cases hH
def zN (f : NF) : ZF := fun e => bnd (f e) fun ds e1 => some (.ok (.lst ds) e1)
theorem rf_zN {t : TE} {f : NF} (h : RfN K cl E t f) : RfZ K cl E t (zN f) := by
  intro σ H Q env F R q
  refine h σ H Q env F R ?_
  unfold zN at q
  rcases hf : f env with _ | ⟨ds, e1⟩ | c
  · rw [hf] at q; exact q
  · rw [hf] at q
    rintro b H' F' fr R' ⟨a, xs, rfl, hn, hH, hF, nm, r⟩
    have sF : Same F' (upd F' a (.lst xs)) := same_new hF _
    refine q _ H' (upd F' a (.lst xs)) ⟨fr.fz.trans sF, fun b o hb fb w => ?_, fr.keep, fr.dom⟩ ⟨fun b o z => ?_, R'.len, fun i d z => ?_, fun i es z => ?_, R'.inj⟩ (by show Rp K cl _ (.lst ds) _; simp only [Rp]; exact ⟨a, xs, rfl, upd_same, r.mono sF⟩)
    · obtain ⟨h1, f1, w1⟩ := fr.hid b o hb fb w
      have nb : b ≠ a := fun z => by rw [z, hn] at hb; cases hb
      exact ⟨h1, by rw [upd_ne nb]; exact f1, w1⟩
    · by_cases y : b = a
      · subst y; rw [upd_same] at z; cases z; exact hH
      · rw [upd_ne y] at z; exact R'.sub _ _ z
    · obtain ⟨v, e, r1⟩ := R'.fz i d z
      exact ⟨v, e, r1.mono sF⟩
    · obtain ⟨b, ys, e, h1, f1, r1⟩ := R'.mu i es z
      have nb : b ≠ a := fun y => nm i ⟨es, z⟩ (by rw [e, y])
      exact ⟨b, ys, e, h1, by rw [upd_ne nb]; exact f1, r1.mono sF⟩
  · rw [hf] at q; exact q
def aN : AF := fun e => some (.ok [] e)
def aC (f : ZF) (k : AF) : AF := fun e => bnd (f e) fun d e1 => bnd (k e1) fun ds e2 => some (.ok (d :: ds) e2)
theorem rf_aN : RfA K cl E tNil aN := fun σ H Q env F R h => h [] H F Frm.refl R .nil
theorem rf_aC {te : TE} {ta : TA} {f : ZF} {k : AF} (hf : RfZ K cl E te f) (hk : RfA K cl E ta k) : RfA K cl E (tCons te ta) (aC f k) := by
  intro σ H Q env F R h
  refine hf σ H _ env F R ((Ct.bnd h pm_A).mono fun x H1 ⟨F1, e1, d, s1, R1, p1, h1⟩ => ?_)
  refine hk σ H1 _ e1 F1 R1 ((Ct.bnd h1 pm_A).mono fun xs H2 ⟨F2, e2, ds, s2, R2, p2, h2⟩ => ?_)
  exact h2 (x :: xs) H2 F2 Frm.refl R2 (.cons (Rp.mono s2 _ _ p1) p2)
def eT (f : AF) : ZF := fun e => bnd (f e) fun ds e1 => if ds.length ≤ sizeLine then some (.ok (.tup ds) e1) else none
def eL (f : AF) : NF := fun e => bnd (f e) fun ds e1 => if ds.length ≤ sizeLine then some (.ok ds e1) else none
theorem rf_T {ta : TA} {f : AF} (hf : RfA K cl E ta f) : RfZ K cl E (tTup ta) (eT f) := by
  intro σ H Q env F R h
  refine hf σ H _ env F R ((Ct.bnd h pm_Z).mono fun xs H1 ⟨F1, e1, ds, s1, R1, p1, h1⟩ => ?_)
  have hl : ds.length = xs.length := Rps.length p1
  split at h1
  · rename_i z
    refine ⟨by rw [← hl]; exact z, fun p hp => ?_⟩
    have g : Gr H1 F1 (upd H1 p (.tup xs)) (upd F1 p (.tup xs)) := .new R1.sub hp
    exact h1 _ _ _ (R1.frm g) (R1.gr g) (by show Rp K cl _ (.tup ds) _; simp only [Rp]; exact ⟨p, xs, rfl, upd_same, Rps.mono g.fz _ _ p1⟩)
  · exact h1.elim
theorem rf_L {ta : TA} {f : AF} (hf : RfA K cl E ta f) : RfN K cl E (tLst ta) (eL f) := by
  intro σ H Q env F R h
  refine hf σ H _ env F R ((Ct.bnd h pm_N).mono fun xs H1 ⟨F1, e1, ds, s1, R1, p1, h1⟩ => ?_)
  have hl : ds.length = xs.length := Rps.length p1
  split at h1
  · rename_i z
    exact ⟨by rw [← hl]; exact z, fun p hp => Ct.newN R1 hp p1 h1⟩
  · exact h1.elim
def bZ (f : ZF) : BF := fun e => bnd (f e) fun d e1 => match d with
  | .bl b => some (.ok b e1)
  | _ => none
theorem rf_bZ {t : TE} {f : ZF} (hf : RfZ K cl E t f) : RfB K cl E (tB t) (bZ f) := by
  intro σ H Q env F R h
  refine hf σ H _ env F R ((Ct.bnd h pm_B).mono fun x H1 ⟨F1, e1, d, s1, R1, p1, h1⟩ => ?_)
  split at h1
  · rename_i b
    have : x = .bl b := by have := (show Rp K cl F1 (.bl b) x from p1); simpa only [Rp] using this
    exact ⟨b, this, h1 b H1 F1 Frm.refl R1 rfl⟩
  · exact h1.elim
theorem rf_bT {t : TE} {f : ZF} (hf : RfZ K cl E t f) : RfB K cl E (tTest t) (bZ f) := rf_bZ hf
def bNot (f : BF) : BF := fun e => bnd (f e) fun b e1 => some (.ok (!b) e1)
def bAnd (f k : BF) : BF := fun e => bnd (f e) fun b e1 => if b = true then k e1 else some (.ok false e1)
def bOr (f k : BF) : BF := fun e => bnd (f e) fun b e1 => if b = true then some (.ok true e1) else k e1
theorem rf_bNot {t : TT} {f : BF} (hf : RfB K cl E t f) : RfB K cl E (tNot t) (bNot f) := by
  intro σ H Q env F R h
  refine hf σ H _ env F R ((Ct.bnd h pm_B).mono fun x H1 ⟨F1, e1, d, s1, R1, p1, h1⟩ => ?_)
  cases (show x = d from p1)
  exact h1 _ H1 F1 Frm.refl R1 rfl
theorem rf_bAnd {t u : TT} {f k : BF} (hf : RfB K cl E t f) (hk : RfB K cl E u k) : RfB K cl E (tAnd t u) (bAnd f k) := by
  intro σ H Q env F R h
  refine hf σ H _ env F R ((Ct.bnd h pm_B).mono fun x H1 ⟨F1, e1, d, s1, R1, p1, h1⟩ => ?_)
  cases (show x = d from p1)
  by_cases z : x = true
  · rw [if_pos z] at h1 ⊢; exact hk σ H1 Q e1 F1 R1 h1
  · rw [if_neg z] at h1 ⊢; exact h1 _ H1 F1 Frm.refl R1 rfl
theorem rf_bOr {t u : TT} {f k : BF} (hf : RfB K cl E t f) (hk : RfB K cl E u k) : RfB K cl E (tOr t u) (bOr f k) := by
  intro σ H Q env F R h
  refine hf σ H _ env F R ((Ct.bnd h pm_B).mono fun x H1 ⟨F1, e1, d, s1, R1, p1, h1⟩ => ?_)
  cases (show x = d from p1)
  by_cases z : x = true
  · rw [if_pos z] at h1 ⊢; exact h1 _ H1 F1 Frm.refl R1 rfl
  · rw [if_neg z] at h1 ⊢; exact hk σ H1 Q e1 F1 R1 h1
def eNot (f : ZF) : ZF := fun e => bnd (f e) fun d e1 => match d with
  | .bl b => some (.ok (.bl (!b)) e1)
  | _ => none
def eAnd (f k : ZF) : ZF := fun e => bnd (f e) fun d e1 => match d with
  | .bl b => if b = true then k e1 else some (.ok (.bl false) e1)
  | _ => none
def eOr (f k : ZF) : ZF := fun e => bnd (f e) fun d e1 => match d with
  | .bl b => if b = true then some (.ok (.bl true) e1) else k e1
  | _ => none
def eIf (c : BF) (f k : ZF) : ZF := fun e => bnd (c e) fun b e1 => if b = true then f e1 else k e1
theorem rf_Not {t : TE} {f : ZF} (hf : RfZ K cl E t f) : RfZ K cl E (tNotV t) (eNot f) := by
  intro σ H Q env F R h
  refine hf σ H _ env F R ((Ct.bnd h pm_Z).mono fun x H1 ⟨F1, e1, d, s1, R1, p1, h1⟩ => ?_)
  split at h1
  · rename_i b
    have : x = .bl b := by have := (show Rp K cl F1 (.bl b) x from p1); simpa only [Rp] using this
    exact ⟨b, this, h1 _ H1 F1 Frm.refl R1 (by show Rp K cl F1 (.bl _) _; simp only [Rp])⟩
  · exact h1.elim
theorem rf_And {t u : TE} {f k : ZF} (hf : RfZ K cl E t f) (hk : RfZ K cl E u k) : RfZ K cl E (tAndV t u) (eAnd f k) := by
  intro σ H Q env F R h
  refine hf σ H _ env F R ((Ct.bnd h pm_Z).mono fun x H1 ⟨F1, e1, d, s1, R1, p1, h1⟩ => ?_)
  split at h1
  · rename_i b
    have : x = .bl b := by have := (show Rp K cl F1 (.bl b) x from p1); simpa only [Rp] using this
    refine ⟨b, this, ?_⟩
    by_cases z : b = true
    · rw [if_pos z] at h1 ⊢; exact hk σ H1 Q e1 F1 R1 h1
    · rw [if_neg z] at h1 ⊢; exact h1 _ H1 F1 Frm.refl R1 (by show Rp K cl F1 (.bl _) _; simp only [Rp])
  · exact h1.elim
theorem rf_Or {t u : TE} {f k : ZF} (hf : RfZ K cl E t f) (hk : RfZ K cl E u k) : RfZ K cl E (tOrV t u) (eOr f k) := by
  intro σ H Q env F R h
  refine hf σ H _ env F R ((Ct.bnd h pm_Z).mono fun x H1 ⟨F1, e1, d, s1, R1, p1, h1⟩ => ?_)
  split at h1
  · rename_i b
    have : x = .bl b := by have := (show Rp K cl F1 (.bl b) x from p1); simpa only [Rp] using this
    refine ⟨b, this, ?_⟩
    by_cases z : b = true
    · rw [if_pos z] at h1 ⊢; exact h1 _ H1 F1 Frm.refl R1 (by show Rp K cl F1 (.bl _) _; simp only [Rp])
    · rw [if_neg z] at h1 ⊢; exact hk σ H1 Q e1 F1 R1 h1
  · exact h1.elim
def nIf (c : BF) (f k : NF) : NF := fun e => bnd (c e) fun b e1 => if b = true then f e1 else k e1
def UnOk (K : PySem.W.Frag) (cl : Str → Addr) (r : V → Hp → VK → Prop) (g : D → Option D) : Prop := ∀ x d z H F Q, Same F H → Rb K cl F H d x → g d = some z → (∀ v H' F', Gr H F H' F' → Rp K cl F' z v → Q v H') → r x H Q
def eU (g : D → Option D) (f : ZF) : ZF := fun e => bnd (f e) fun d e1 => opt (g d) e1
theorem rf_U {r : V → Hp → VK → Prop} {g : D → Option D} {t : TE} {f : ZF} (ok : UnOk K cl r g) (hf : RfZ K cl E t f) : RfZ K cl E (tUn r t) (eU g f) := by
  intro σ H Q env F R h
  refine hf σ H _ env F R ((Ct.bnd h pm_Z).mono fun x H1 ⟨F1, e1, d, s1, R1, p1, h1⟩ => ?_)
  cases hz : g d with
  | none => rw [hz] at h1; exact h1.elim
  | some z =>
    rw [hz] at h1
    exact ok x d z H1 F1 Q R1.sub (.inl p1) hz fun v H' F' gr p => h1 v H' F' (R1.frm gr) (R1.gr gr) p
def gNeg : D → Option D
  | .int i => some (.int (-i))
  | _ => none
theorem ok_neg : UnOk K cl (rU fun i => .int (-i)) gNeg := by
  intro x d z H F Q s hx h q
  unfold gNeg at h
  split at h
  · rename_i i; cases h
    exact ⟨i, hx.int, q _ H F (.refl s) (by simp only [Rp])⟩
  · cases h
def CbOk (K : PySem.W.Frag) (cl : Str → Addr) (r : List V → Hp → VK → Prop) (g : List D → Option D) : Prop := ∀ xs ds z H F Q, Same F H → Rps K cl F ds xs → g ds = some z → (∀ v H' F', Gr H F H' F' → Rp K cl F' z v → Q v H') → r xs H Q
def CbOk1 (K : PySem.W.Frag) (cl : Str → Addr) (r : List V → Hp → VK → Prop) (g : D → Option D) : Prop := ∀ x d z H F Q, Same F H → Rb K cl F H d x → g d = some z → (∀ v H' F', Gr H F H' F' → Rp K cl F' z v → Q v H') → r [x] H Q
def eCB (g : List D → Option D) (f : AF) : ZF := fun e => bnd (f e) fun ds e1 => opt (g ds) e1
def eCV (g : D → Option D) (i : Nat) : ZF := fun e => match look e i with
  | some d => opt (g d) e
  | none => none
theorem rf_CB {r : List V → Hp → VK → Prop} {g : List D → Option D} {t : TA} {f : AF} (ok : CbOk K cl r g) (hf : RfA K cl E t f) : RfZ K cl E (tCB r t) (eCB g f) := by
  intro σ H Q env F R h
  refine hf σ H _ env F R ((Ct.bnd h pm_Z).mono fun x H1 ⟨F1, e1, d, s1, R1, p1, h1⟩ => ?_)
  cases hz : g d with
  | none => rw [hz] at h1; exact h1.elim
  | some z =>
    rw [hz] at h1
    exact ok x d z H1 F1 Q R1.sub p1 hz fun v H' F' gr p => h1 v H' F' (R1.frm gr) (R1.gr gr) p
theorem rf_CV {r : List V → Hp → VK → Prop} {g : D → Option D} {i : Nat} (ok : CbOk1 K cl r g) : RfZ K cl E (tCB r (tCons (tVar i) tNil)) (eCV g i) := by
  intro σ H Q env F R h
  unfold eCV at h
  cases q : look env i with
  | none => rw [q] at h; exact h.elim
  | some d =>
    rw [q] at h
    obtain ⟨x, e, rb⟩ := R.look q
    refine ⟨x, e, ?_⟩
    cases hz : g d with
    | none => simp only [hz, opt_none] at h; exact h.elim
    | some z =>
      simp only [hz, opt_some] at h
      exact ok x d z H F Q R.sub rb hz fun v H' F' gr p => h v H' F' (R.frm gr) (R.gr gr) p
def g1 (g : D → Option D) : List D → Option D
  | [d] => g d
  | _ => none
def nCB (g : D → Option (List D)) (f : ZF) : NF := fun e => bnd (f e) fun d e1 => opt (g d) e1
def nCV (g : D → Option (List D)) (i : Nat) : NF := fun e => match look e i with
  | some d => opt (g d) e
  | none => none
def nB (g : D → D → Option (List D)) (f k : ZF) : NF := fun e => bnd (f e) fun d e1 => bnd (k e1) fun d' e2 => opt (g d d') e2
end
end L2
set_option Elab.async false
set_option linter.all false
set_option maxRecDepth 100000
set_option maxHeartbeats 4000000
namespace L2
open PySem PySem.Spec PyProof.Rows
section
variable {K : PySem.W.Frag} {cl : Str → Addr} {E : XK} {σ : St} {H F : Hp} {env : DE}
instance decMul (i j : Int) : Decidable (IntMulOk i j) := by unfold IntMulOk; infer_instance
instance decPow (i j : Int) : Decidable (CPow i j) := by unfold CPow; infer_instance
abbrev gAdd := gI0 fun i j => .int (i + j)
abbrev gSub' := gI0 fun i j => .int (i - j)
abbrev gMul := gI IntMulOk fun i j => .int (i * j)
abbrev gDiv := gI (fun _ j => 0 < j ∧ j.natAbs.log2 < 9000) fun i j => .int (i / j)
abbrev gMod := gI (fun _ j => 0 < j) fun i j => .int (i % j)
abbrev gPow := gI CPow fun i j => .int (i ^ j.toNat)
abbrev gLt := gI0 fun i j => .bl (decide (i < j))
abbrev gLe := gI0 fun i j => .bl (decide (i ≤ j))
abbrev gGt := gI0 fun i j => .bl (decide (j < i))
abbrev gGe := gI0 fun i j => .bl (decide (j ≤ i))
theorem ok_add : OpOk K cl (rI0 fun i j => .int (i + j)) gAdd := ok_I0 fun F i j => by simp only [Rp]
theorem ok_sub : OpOk K cl (rI0 fun i j => .int (i - j)) gSub' := ok_I0 fun F i j => by simp only [Rp]
theorem ok_mul : OpOk K cl (rI IntMulOk fun i j => .int (i * j)) gMul := ok_I fun F i j => by simp only [Rp]
theorem ok_div : OpOk K cl (rI (fun _ j => 0 < j ∧ j.natAbs.log2 < 9000) fun i j => .int (i / j)) gDiv := ok_I fun F i j => by simp only [Rp]
theorem ok_mod : OpOk K cl (rI (fun _ j => 0 < j) fun i j => .int (i % j)) gMod := ok_I fun F i j => by simp only [Rp]
theorem ok_pow : OpOk K cl (rI CPow fun i j => .int (i ^ j.toNat)) gPow := ok_I fun F i j => by simp only [Rp]
theorem ok_lt : OpOk K cl (rI0 fun i j => .bl (decide (i < j))) gLt := ok_I0 fun F i j => by simp only [Rp]
theorem ok_gt : OpOk K cl (rI0 fun i j => .bl (decide (j < i))) gGt := ok_I0 fun F i j => by simp only [Rp]
def toV : D → Option V
  | .non => some .non
  | .bl b => some (.bl b)
  | .int i => some (.int i)
  | .str x => some (.str x)
  | _ => none
theorem Rb.toV {d : D} {v u : V} (h : Rb K cl F H d v) (e : toV d = some u) : v = u := by
  cases d with
  | non => cases e; exact h.non
  | bl b => cases e; exact h.bl
  | int i => cases e; exact h.int
  | str x => cases e; exact h.str
  | _ => cases e
def gEq (neg : Bool) (d e : D) : Option D := match toV d, toV e with
  | some x, some y => if scal x y = true then some (.bl (if neg then !decide (x = y) else decide (x = y))) else none
  | _, _ => none
theorem ok_eq : OpOk K cl rEq (gEq false) := by
  intro x y d e z H F Q s hx hy h q
  unfold gEq at h
  split at h
  · rename_i u w hu hw
    split at h
    · rename_i c; cases h
      rw [hx.toV hu, hy.toV hw]
      exact ⟨c, q _ H F (.refl s) (by simp only [Rp]; rfl)⟩
    · cases h
  · cases h
theorem ok_ne : OpOk K cl rNe (gEq true) := by
  intro x y d e z H F Q s hx hy h q
  unfold gEq at h
  split at h
  · rename_i u w hu hw
    split at h
    · rename_i c; cases h
      rw [hx.toV hu, hy.toV hw]
      exact ⟨c, q _ H F (.refl s) (by simp only [Rp]; rfl)⟩
    · cases h
  · cases h
@[simp] theorem gEq_int (neg : Bool) (a b : Int) : gEq neg (.int a) (.int b) = some (.bl (if neg then !decide (a = b) else decide (a = b))) := by
  unfold gEq toV
  simp only [scal, if_true, V.int.injEq]
@[simp] theorem gEq_str (neg : Bool) (a b : Str) : gEq neg (.str a) (.str b) = some (.bl (if neg then !decide (a = b) else decide (a = b))) := by
  unfold gEq toV
  simp only [scal, if_true, V.str.injEq]
@[simp] theorem gEq_bl (neg : Bool) (a b : Bool) : gEq neg (.bl a) (.bl b) = some (.bl (if neg then !decide (a = b) else decide (a = b))) := by
  unfold gEq toV
  simp only [scal, if_true, V.bl.injEq]
def gIsN (neg : Bool) (d e : D) : Option D := match d, e with
  | .non, .non => some (.bl (!neg))
  | _, .non => some (.bl neg)
  | _, _ => none
theorem Rps.atI {ds : List D} {xs : List V} {i : Int} {d : D} (h : Rps K cl F ds xs) (e : atI ds i = some d) : ∃ v, L2.atI xs i = some v ∧ Rp K cl F d v := by
  unfold L2.atI at e ⊢
  rw [← h.length]
  cases q : ixN ds.length i with
  | none => rw [q] at e; cases e
  | some j => rw [q] at e; exact h.get e
def gIxL (d e : D) : Option D := match d, e with
  | .lst ds, .int i => atI ds i
  | .scr ns, .int i => (atI ns i).map .int
  | _, _ => none
def gIxT (d e : D) : Option D := match d, e with
  | .tup ds, .int i => atI ds i
  | _, _ => none
theorem atI_map {α β : Type} (f : α → β) (xs : List α) (i : Int) : atI (xs.map f) i = (atI xs i).map f := by
  unfold L2.atI
  rw [List.length_map]
  cases ixN xs.length i with
  | none => rfl
  | some j => simp
theorem ok_ixL : OpOk K cl (rIxL K) gIxL := by
  intro x y d e z H F Q s hx hy h q
  unfold gIxL at h
  split at h
  · obtain ⟨a, xs, rfl, hH, r⟩ := hx.lst s
    obtain ⟨v, e, p⟩ := r.atI h
    exact ⟨a, xs, _, v, rfl, hy.int, .of hH, e, q v H F (.refl s) p⟩
  · rename_i ns i
    obtain ⟨a, rfl, hS⟩ := hx.scr s
    cases hz : atI ns i with
    | none => rw [hz] at h; cases h
    | some n =>
      rw [hz] at h; cases h
      exact ⟨a, _, _, .int n, rfl, hy.int, hS.seq, by rw [atI_map, hz]; rfl, q _ H F (.refl s) (by simp only [Rp])⟩
  · cases h
theorem ok_ixT : OpOk K cl (rIxT K) gIxT := by
  intro x y d e z H F Q s hx hy h q
  unfold gIxT at h
  split at h
  · obtain ⟨a, xs, rfl, hH, r⟩ := hx.tup s
    obtain ⟨v, e, p⟩ := r.atI h
    exact ⟨a, xs, _, v, rfl, hy.int, .of hH, e, q v H F (.refl s) p⟩
  · cases h
def eqD : D → D → Bool
  | .non, .non => true
  | .bl a, .bl b => a == b
  | .bl a, .int b => (if a then 1 else 0) == b
  | .int a, .bl b => a == (if b then 1 else 0)
  | .int a, .int b => a == b
  | .str a, .str b => a == b
  | _, _ => false
def eqDs : List D → List D → Bool
  | [], [] => true
  | x :: xs, y :: ys => eqD x y && eqDs xs ys
  | _, _ => false
def flatD : D → Bool
  | .non => true
  | .bl _ => true
  | .int _ => true
  | .str _ => true
  | _ => false
theorem Rp.flat {d : D} {v : V} (h : Rp K cl F d v) (f : flatD d = true) : toV d = some v ∧ flatV v = true := by
  cases d <;> simp only [Rp] at h <;> first | (subst h; exact ⟨rfl, rfl⟩) | cases f
theorem Rps.flat : ∀ {ds : List D} {vs : List V}, Rps K cl F ds vs → ds.all flatD = true → vs.all flatV = true
  | [], _, h, _ => by rw [h.inv0]; rfl
  | d :: ds, _, h, f => by
    obtain ⟨v, r, rfl, h1, h2⟩ := h.inv
    rw [List.all_cons, Bool.and_eq_true] at f
    rw [List.all_cons, (h1.flat f.1).2, h2.flat f.2]; rfl
theorem Rp.eq {d e : D} {v u : V} (h : Rp K cl F d v) (g : Rp K cl F e u) (fd : flatD d = true) (fe : flatD e = true) : eqV v u = eqD d e := by
  have h1 := (h.flat fd).1
  have h2 := (g.flat fe).1
  cases d <;> cases e <;> first | (cases h1; cases h2; rfl) | (cases fd; done) | (cases fe; done)
theorem Rps.eq : ∀ {ds es : List D} {vs us : List V}, Rps K cl F ds vs → Rps K cl F es us → ds.all flatD = true → es.all flatD = true → eqVs vs us = eqDs ds es
  | [], [], _, _, h, g, _, _ => by rw [h.inv0, g.inv0]; rfl
  | [], _ :: _, _, _, h, g, _, _ => by rw [h.inv0]; obtain ⟨_, _, rfl, _, _⟩ := g.inv; rfl
  | _ :: _, [], _, _, h, g, _, _ => by rw [g.inv0]; obtain ⟨_, _, rfl, _, _⟩ := h.inv; rfl
  | d :: ds, e :: es, _, _, h, g, fd, fe => by
    obtain ⟨v, r, rfl, h1, h2⟩ := h.inv
    obtain ⟨u, r', rfl, g1, g2⟩ := g.inv
    rw [List.all_cons, Bool.and_eq_true] at fd fe
    unfold eqVs eqDs
    rw [h1.eq g1 fd.1 fe.1, h2.eq g2 fd.2 fe.2]
def gEqL (neg : Bool) (d e : D) : Option D := match d, e with
  | .lst ds, .lst es => if (ds.all flatD && es.all flatD) = true then some (.bl (if neg then !eqDs ds es else eqDs ds es)) else none
  | .tup ds, .tup es => if (ds.all flatD && es.all flatD) = true then some (.bl (if neg then !eqDs ds es else eqDs ds es)) else none
  | _, _ => none
theorem ok_eqL {neg : Bool} : OpOk K cl (rEqL K neg) (gEqL neg) := by
  intro x y d e z H F Q s hx hy h q
  unfold gEqL at h
  split at h
  · split at h
    · rename_i c; cases h
      rw [Bool.and_eq_true] at c
      obtain ⟨a, xs, rfl, hH, r⟩ := hx.lst s
      obtain ⟨b, ys, rfl, hH', r'⟩ := hy.lst s
      refine ⟨a, b, xs, ys, rfl, rfl, .inl ⟨.of hH, .of hH'⟩, r.flat c.1, r'.flat c.2, q _ H F (.refl s) ?_⟩
      simp only [Rp]; rw [r.eq r' c.1 c.2]
    · cases h
  · split at h
    · rename_i c; cases h
      rw [Bool.and_eq_true] at c
      obtain ⟨a, xs, rfl, hH, r⟩ := hx.tup s
      obtain ⟨b, ys, rfl, hH', r'⟩ := hy.tup s
      refine ⟨a, b, xs, ys, rfl, rfl, .inr ⟨.of hH, .of hH'⟩, r.flat c.1, r'.flat c.2, q _ H F (.refl s) ?_⟩
      simp only [Rp]; rw [r.eq r' c.1 c.2]
    · cases h
  · cases h
def gCat (d e : D) : Option (List D) := match d, e with
  | .lst ds, .lst es => if ds.length + es.length ≤ sizeLine then some (ds ++ es) else none
  | _, _ => none
def gLen : D → Option D
  | .lst ds => some (.int ds.length)
  | .tup ds => some (.int ds.length)
  | .scr ns => some (.int ns.length)
  | _ => none
theorem ok_len : CbOk1 K cl (rLenSeq K) gLen := by
  intro x d z H F Q s hx h q
  unfold gLen at h
  split at h
  · cases h
    obtain ⟨a, xs, rfl, hH, r⟩ := hx.lst s
    exact ⟨a, xs, rfl, .inl (.of hH), q _ H F (.refl s) (by simp only [Rp]; rw [r.length])⟩
  · cases h
    obtain ⟨a, xs, rfl, hH, r⟩ := hx.tup s
    exact ⟨a, xs, rfl, .inr (.of hH), q _ H F (.refl s) (by simp only [Rp]; rw [r.length])⟩
  · cases h
    obtain ⟨a, rfl, hS⟩ := hx.scr s
    exact ⟨a, _, rfl, .inl hS.seq, q _ H F (.refl s) (by simp only [Rp]; rw [List.length_map])⟩
  · cases h
def gAbs : D → Option D
  | .int i => some (.int (if i < 0 then -i else i))
  | _ => none
def gList : D → Option (List D)
  | .lst ds => some ds
  | .tup ds => some ds
  | .scr ns => some (ns.map .int)
  | _ => none
end
end L2
set_option Elab.async false
set_option linter.all false
set_option maxRecDepth 100000
set_option maxHeartbeats 4000000
namespace L2
open PySem PySem.Spec PyProof.Rows
inductive R1 where | ret (d : D) | own (ds : List D) | ex (c : Str)
def spD (K : PySem.W.Frag) (cl : Str → Addr) (g : List D → Option R1) : Sp := fun vs H Q E => ∃ ds F, Same F H ∧ Rps K cl F ds vs ∧ match g ds with
  | none => False
  | some (.ret d) => ∀ v H' F', Gr H F H' F' → Rp K cl F' d v → Q v H'
  | some (.own es) => ∀ a xs H' F', Gr H F H' F' → H a = none → H' a = some (.lst xs) → F' a = none → Rps K cl F' es xs → Q (.ref a) H'
  | some (.ex c) => ∀ H' F', Gr H F H' F' → E (.ref (cl c)) none H'
def toZ (r : Option R1) (e : DE) : Option (R D) := match r with
  | none => none
  | some (.ret d) => some (.ok d e)
  | some (.own ds) => some (.ok (.lst ds) e)
  | some (.ex c) => some (.ex c)
def toZ0 (r : Option R1) (e : DE) : Option (R D) := match r with
  | some (.ret d) => some (.ok d e)
  | some (.own ds) => some (.ok (.lst ds) e)
  | _ => none
def eCall (g : List D → Option R1) (f : AF) : ZF := fun e => bnd (f e) fun ds e1 => toZ (g ds) e1
def eCall0 (g : List D → Option R1) (f : AF) : ZF := fun e => bnd (f e) fun ds e1 => toZ0 (g ds) e1
def put (i : Nat) (s : Sl) (e : DE) : Option RS := match e[i]? with
  | none => none
  | some (.hd _) => none
  | some _ => some (.nx (e.set i s))
def toSet (i : Nat) (r : Option R1) (e : DE) : Option RS := match r with
  | none => none
  | some (.ret d) => put i (.fz d) e
  | some (.own ds) => put i (.ow ds) e
  | some (.ex c) => some (.ex c)
def toSet0 (i : Nat) (r : Option R1) (e : DE) : Option RS := match r with
  | some (.ret d) => put i (.fz d) e
  | some (.own ds) => put i (.ow ds) e
  | _ => none
def toRet (r : Option R1) : Option RS := match r with
  | none => none
  | some (.ret d) => some (.rt d)
  | some (.own ds) => some (.ro ds)
  | some (.ex c) => some (.ex c)
def toRet0 (r : Option R1) : Option RS := match r with
  | some (.ret d) => some (.rt d)
  | some (.own ds) => some (.ro ds)
  | _ => none
def sNx : SF := fun e => some (.nx e)
def sSeq (f k : SF) : SF := fun e => match f e with
  | some (.nx e1) => k e1
  | r => r
def sSet (i : Nat) (f : ZF) : SF := fun e => sbn (f e) fun d e1 => put i (.fz d) e1
def sSetN (i : Nat) (f : NF) : SF := fun e => sbn (f e) fun ds e1 => put i (.ow ds) e1
def sSetC (i : Nat) (g : List D → Option R1) (f : AF) : SF := fun e => sbn (f e) fun ds e1 => toSet i (g ds) e1
def sSetC0 (i : Nat) (g : List D → Option R1) (f : AF) : SF := fun e => sbn (f e) fun ds e1 => toSet0 i (g ds) e1
def sRet (f : ZF) : SF := fun e => sbn (f e) fun d _ => some (.rt d)
def sRetN (f : NF) : SF := fun e => sbn (f e) fun ds _ => some (.ro ds)
def sRetC (g : List D → Option R1) (f : AF) : SF := fun e => sbn (f e) fun ds _ => toRet (g ds)
def sRetC0 (g : List D → Option R1) (f : AF) : SF := fun e => sbn (f e) fun ds _ => toRet0 (g ds)
def sRetV (i : Nat) : SF := fun e => match e[i]? with
  | some (.fz d) => some (.rt d)
  | some (.ow ds) => some (.ro ds)
  | _ => none
def sRetO : SF := fun _ => some (.rt .non)
def sIf (c : BF) (f k : SF) : SF := fun e => sbn (c e) fun b e1 => if b = true then f e1 else k e1
def sEx (f : ZF) : SF := fun e => sbn (f e) fun _ e1 => some (.nx e1)
def sBk : SF := fun e => some (.bk e)
def sCt : SF := fun e => some (.ct e)
def sRaise (c : Str) (f : AF) : SF := fun e => sbn (f e) fun ds _ => if ds.length ≤ sizeLine then some (.ex c) else none
def sApp (i : Nat) (f : ZF) : SF := fun e => match look e i with
  | some (.lst _) => sbn (f e) fun d e1 => match e1[i]? with
    | some (.ow ds) => if ds.length < sizeLine then some (.nx (e1.set i (.ow (ds ++ [d])))) else none
    | _ => none
  | _ => none
def sSub (i : Nat) (k : ZF) (f : ZF) : SF := fun e => sbn (f e) fun d e1 => match look e1 i with
  | none => none
  | some _ => sbn (k e1) fun j e2 => match e2[i]?, j with
    | some (.ow ds), .int j => match ixN ds.length j with
      | some n => some (.nx (e2.set i (.ow (ds.set n d))))
      | none => none
    | _, _ => none
section
variable {K : PySem.W.Frag} {cl : Str → Addr} {E : XK} {σ : St} {H F : Hp} {env : DE}
theorem Gr.fx {H' F' : Hp} (g : Gr H F H' F') : FX σ H F env H' F' := ⟨g.fz, g.sub, fun a o h f _ => g.hid a o h f, g.dom⟩
theorem call_z {g : List D → Option R1} {ds : List D} {vs : List V} {Q : VK} (R : Rel K cl σ H F env) (p : Rps K cl F ds vs) (h : Ct K cl E (PZ K cl) (toZ (g ds) env) σ H F env Q) : spD K cl g (vs ++ []) H Q E := by
  rw [List.append_nil]
  refine ⟨ds, F, R.sub, p, ?_⟩
  unfold toZ at h
  split at h
  · exact h.elim
  · exact fun v H' F' gr r => h v H' F' (R.frm gr) (R.gr gr) r
  · rename_i es _
    intro a xs H' F' gr ha hH hF r
    have sF : Same F' (upd F' a (.lst xs)) := same_new hF _
    have gr' : Gr H F H' (upd F' a (.lst xs)) := by
      refine ⟨gr.fz.trans sF, fun b o z => ?_, fun b o hb fb => ?_⟩
      · by_cases y : b = a
        · subst y; rw [upd_same] at z; cases z; exact hH
        · rw [upd_ne y] at z; exact gr.sub _ _ z
      · obtain ⟨h1, f1⟩ := gr.hid b o hb fb
        have nb : b ≠ a := fun z => by rw [z, ha] at hb; cases hb
        exact ⟨h1, by rw [upd_ne nb]; exact f1⟩
    exact h _ H' _ (R.frm gr') (R.gr gr') (by show Rp K cl _ (.lst es) _; simp only [Rp]; exact ⟨a, xs, rfl, upd_same, r.mono sF⟩)
  · exact fun H' F' gr => h H' F' gr.fx
theorem toZ_of0 {r : Option R1} {e : DE} {P : Py D V} {Q : VK} (h : Ct K cl E P (toZ0 r e) σ H F env Q) : toZ r e = toZ0 r e ∧ ∀ c, r ≠ some (.ex c) := by
  unfold toZ0 at h
  split at h
  · exact ⟨rfl, fun c z => by cases z⟩
  · exact ⟨rfl, fun c z => by cases z⟩
  · exact h.elim
theorem rf_Call {g : List D → Option R1} {t : TA} {f : AF} (hf : RfA K cl E t f) : RfZ K cl E (tCall (spD K cl g) [] E t) (eCall g f) := by
  intro σ H Q env F R h
  refine hf σ H _ env F R ((Ct.bnd h pm_Z).mono fun vs H1 ⟨F1, e1, ds, s1, R1, p1, h1⟩ => call_z R1 p1 h1)
theorem rf_Call0 {g : List D → Option R1} {t : TA} {f : AF} (hf : RfA K cl E t f) : RfZ K cl E (tCall (spD K cl g) [] E0 t) (eCall0 g f) := by
  intro σ H Q env F R h
  refine hf σ H _ env F R ((Ct.bnd h pm_Z).mono fun vs H1 ⟨F1, e1, ds, s1, R1, p1, h1⟩ => ?_)
  refine call_z R1 p1 ?_
  obtain ⟨z, n⟩ := toZ_of0 h1
  rw [z]
  unfold Ct at h1 ⊢
  split at h1
  · exact h1
  · exact h1
  · rename_i c q
    exact absurd q (by unfold toZ0; split <;> intro y <;> cases y)
theorem rf_Nx : RfS K cl E tNext sNx := fun N σ H env F R h => h σ H F Frm.refl R
theorem rf_Seq {t u : TS} {f k : SF} (hf : RfS K cl E t f) (hk : RfS K cl E u k) : RfS K cl E (tSeq t u) (sSeq f k) := by
  intro N σ H env F R h
  refine hf _ σ H env F R ?_
  unfold sSeq at h
  split at h
  · rename_i e1 q
    rw [q]
    intro σ' H' F' fr R'
    exact hk N σ' H' e1 F' R' (h.from fr)
  · rename_i n
    unfold Cs at h ⊢
    split at h
    · exact h
    · rename_i e q; exact absurd q (n e)
    all_goals exact h
theorem putS {i : Nat} {s : Sl} {e : DE} {N : Ends} {σ0 : St} {H0 F0 : Hp} {env0 : DE} (h : Cs K cl E (put i s e) σ0 H0 F0 env0 N) : i < e.length ∧ (∀ ds, e[i]? ≠ some (.hd ds)) ∧ Cs K cl E (some (.nx (e.set i s))) σ0 H0 F0 env0 N := by
  unfold put at h
  split at h
  · exact h.elim
  · exact h.elim
  · rename_i z n q
    exact ⟨(List.getElem?_eq_some_iff.mp q).1, fun ds y => by rw [q] at y; cases y; exact n ds rfl, h⟩
theorem rf_Set {i : Nat} {t : TE} {f : ZF} (hf : RfZ K cl E t f) : RfS K cl E (tAsg t (gName i)) (sSet i f) := by
  intro N σ H env F R h
  refine hf σ H _ env F R ((Cs.bnd h).mono fun x H1 ⟨F1, e1, d, fr, R1, p1, h1⟩ => ?_)
  obtain ⟨hi, nh, h2⟩ := putS h1
  exact h2 _ H1 F1 (fr.trans (Frm.put nh)) (R1.put hi nh p1)
theorem rf_Ret {t : TE} {f : ZF} (hf : RfZ K cl E t f) : RfS K cl E (tRet t) (sRet f) := by
  intro N σ H env F R h
  exact hf σ H _ env F R ((Cs.bnd h).mono fun x H1 ⟨F1, e1, d, fr, R1, p1, h1⟩ => h1 x H1 F1 (fr.toFX R1.sub) p1)
theorem rf_RetN {t : TE} {f : NF} (hf : RfN K cl E t f) : RfS K cl E (tRet t) (sRetN f) := by
  intro N σ H env F R h
  refine hf σ H _ env F R ((Cs.bnd h).mono fun x H1 ⟨F1, e1, ds, fr, R1, p1, h1⟩ => ?_)
  obtain ⟨a, xs, rfl, hn, hH, hF, nm, r⟩ := p1
  exact h1 a xs H1 F1 (fr.toFX R1.sub) hH hF (fun o e => by rw [hn] at e; cases e) r
theorem rf_RetV {i : Nat} : RfS K cl E (tRet (tVar i)) (sRetV i) := by
  intro N σ H env F R h
  unfold sRetV at h
  split at h
  · rename_i d q
    obtain ⟨v, e, r⟩ := R.fz i d q
    exact ⟨v, e, h v H F (Frm.refl.toFX R.sub) r⟩
  · rename_i ds q
    obtain ⟨a, xs, e, hH, hF, r⟩ := R.mu i ds (.inl q)
    exact ⟨_, e, h a xs H F (Frm.refl.toFX R.sub) hH hF (fun o _ => ⟨i, ds, q, e⟩) r⟩
  · exact h.elim
theorem rf_If' {c : TT} {t u : TS} {b : BF} {f k : SF} (hc : RfB K cl E c b) (hf : RfS K cl E t f) (hk : RfS K cl E u k) : RfS K cl E (tIfS c t u) (sIf b f k) := by
  intro N σ H env F R h
  refine hc σ H _ env F R ((Cs.bnd h).mono fun x H1 ⟨F1, e1, d, fr, R1, p1, h1⟩ => ?_)
  cases (show x = d from p1)
  by_cases z : x = true
  · rw [if_pos z] at h1 ⊢; exact hf N σ H1 e1 F1 R1 (h1.from fr)
  · rw [if_neg z] at h1 ⊢; exact hk N σ H1 e1 F1 R1 (h1.from fr)
theorem rf_Raise {c : Str} {t : TA} {f : AF} (hf : RfA K cl E t f) : RfS K cl E (tRaise (cl c) E t) (sRaise c f) := by
  intro N σ H env F R h
  refine hf σ H _ env F R ((Cs.bnd h).mono fun xs H1 ⟨F1, e1, ds, fr, R1, p1, h1⟩ => ?_)
  have hl : ds.length = xs.length := Rps.length p1
  split at h1
  · rename_i z
    exact ⟨by rw [← hl]; exact z, h1 H1 F1 (fr.toFX R1.sub)⟩
  · exact h1.elim
theorem rf_SetC {i : Nat} {g : List D → Option R1} {t : TA} {f : AF} (hf : RfA K cl E t f) : RfS K cl E (tAsg (tCall (spD K cl g) [] E t) (gName i)) (sSetC i g f) := by
  intro N σ H env F R h
  refine hf σ H _ env F R ((Cs.bnd h).mono fun vs H1 ⟨F1, e1, ds, fr, R1, p1, h1⟩ => ?_)
  show spD K cl g (vs ++ []) H1 _ E
  rw [List.append_nil]
  refine ⟨ds, F1, R1.sub, p1, ?_⟩
  unfold toSet at h1
  split at h1
  · exact h1.elim
  · obtain ⟨hi, nh, h2⟩ := putS h1
    exact fun v H' F' gr r => h2 _ H' F' ((fr.trans (R1.frm gr)).trans (Frm.put nh)) ((R1.gr gr).put hi nh r)
  · obtain ⟨hi, nh, h2⟩ := putS h1
    intro a xs H' F' gr ha hH hF r
    refine h2 _ H' F' ((fr.trans (R1.frm gr)).putO (fr.dom a ha) nh) ((R1.gr gr).putO hi hH hF (fun j mj e => ?_) r)
    obtain ⟨es, q⟩ := mj
    obtain ⟨b, ys, e', hb, _⟩ := R1.mu j es q
    rw [e] at e'; cases e'
    rw [ha] at hb; cases hb
  · exact fun H' F' gr => h1 H' F' (fr.fx gr.fx)
theorem rf_SetC0 {i : Nat} {g : List D → Option R1} {t : TA} {f : AF} (hf : RfA K cl E t f) : RfS K cl E (tAsg (tCall (spD K cl g) [] E0 t) (gName i)) (sSetC0 i g f) := by
  intro N σ H env F R h
  refine hf σ H _ env F R ((Cs.bnd h).mono fun vs H1 ⟨F1, e1, ds, fr, R1, p1, h1⟩ => ?_)
  show spD K cl g (vs ++ []) H1 _ E0
  rw [List.append_nil]
  refine ⟨ds, F1, R1.sub, p1, ?_⟩
  unfold toSet0 at h1
  split at h1
  · rename_i q; rw [q]
    obtain ⟨hi, nh, h2⟩ := putS h1
    exact fun v H' F' gr r => h2 _ H' F' ((fr.trans (R1.frm gr)).trans (Frm.put nh)) ((R1.gr gr).put hi nh r)
  · rename_i q; rw [q]
    obtain ⟨hi, nh, h2⟩ := putS h1
    intro a xs H' F' gr ha hH hF r
    refine h2 _ H' F' ((fr.trans (R1.frm gr)).putO (fr.dom a ha) nh) ((R1.gr gr).putO hi hH hF (fun j mj e => ?_) r)
    obtain ⟨es, q⟩ := mj
    obtain ⟨b, ys, e', hb, _⟩ := R1.mu j es q
    rw [e] at e'; cases e'
    rw [ha] at hb; cases hb
  · exact h1.elim
theorem rf_RetC0 {g : List D → Option R1} {t : TA} {f : AF} (hf : RfA K cl E t f) : RfS K cl E (tRet (tCall (spD K cl g) [] E0 t)) (sRetC0 g f) := by
  intro N σ H env F R h
  refine hf σ H _ env F R ((Cs.bnd h).mono fun vs H1 ⟨F1, e1, ds, fr, R1, p1, h1⟩ => ?_)
  show spD K cl g (vs ++ []) H1 _ E0
  rw [List.append_nil]
  refine ⟨ds, F1, R1.sub, p1, ?_⟩
  unfold toRet0 at h1
  split at h1
  · rename_i q; rw [q]
    exact fun v H' F' gr r => h1 v H' F' (fr.fx gr.fx) r
  · rename_i q; rw [q]
    exact fun a xs H' F' gr ha hH hF r => h1 a xs H' F' (fr.fx gr.fx) hH hF (fun o e => by rw [fr.dom a ha] at e; cases e) r
  · exact h1.elim
end
end L2
set_option Elab.async false
set_option linter.all false
set_option maxRecDepth 100000
set_option maxHeartbeats 4000000
namespace L2
open PySem PySem.Spec PyProof.Rows
abbrev GF := D → DE → Option DE
def bName (i : Nat) : GF := fun d e => match e[i]? with
  | none => none
  | some (.hd _) => none
  | some _ => some (e.set i (.fz d))
def bEach : List GF → List D → DE → Option DE
  | [], [], e => some e
  | b :: bs, d :: ds, e => match b d e with
    | none => none
    | some e1 => bEach bs ds e1
  | _, _, _ => none
def bTup (bs : List GF) : GF := fun d e => match d with
  | .tup ds => bEach bs ds e
  | _ => none
section
variable (K : PySem.W.Frag) (cl : Str → Addr)
def RfG (k : Nat) (g : TG) (b : GF) : Prop := ∀ v σ H Q d env env' F, Rel K cl σ H F env → Rp K cl F d v → b d env = some env' → (∀ σ', σ'.drop k = σ.drop k → σ'.length = σ.length → Frm σ H F env σ' H F env' → Rel K cl σ' H F env' → Q σ' H) → g v σ H Q
def RfGs (k : Nat) (t : TGs) (bs : List GF) : Prop := ∀ vs σ H Q ds env env' F, Rel K cl σ H F env → Rps K cl F ds vs → bEach bs ds env = some env' → (∀ σ', σ'.drop k = σ.drop k → σ'.length = σ.length → Frm σ H F env σ' H F env' → Rel K cl σ' H F env' → Q σ' H) → t vs σ H Q
end
section
variable {K : PySem.W.Frag} {cl : Str → Addr} {E : XK} {σ : St} {H F : Hp} {env : DE} {k : Nat}
theorem drop_set {α : Type} {l : List α} {i k : Nat} {x : α} (h : i < k) : (l.set i x).drop k = l.drop k := by
  apply List.ext_getElem?
  intro j
  rw [List.getElem?_drop, List.getElem?_drop, List.getElem?_set_ne (by omega)]
theorem rf_gName {i : Nat} (hi : i < k) : RfG K cl k (gName i) (bName i) := by
  intro v σ H Q d env env' F R p h q
  unfold bName at h
  split at h
  · cases h
  · cases h
  · rename_i z n e
    cases h
    have nh : ∀ ds, env[i]? ≠ some (.hd ds) := fun ds y => by rw [e] at y; cases y; exact n ds rfl
    exact q _ (drop_set hi) List.length_set (Frm.put nh) (R.put (List.getElem?_eq_some_iff.mp e).1 nh p)
theorem rf_gNil : RfGs K cl k gNil [] := by
  intro vs σ H Q ds env env' F R p h q
  cases ds with
  | nil => cases h; exact ⟨p.inv0, q σ rfl rfl Frm.refl R⟩
  | cons _ _ => cases h
theorem rf_gCons {t : TG} {u : TGs} {b : GF} {bs : List GF} (h1 : RfG K cl k t b) (h2 : RfGs K cl k u bs) : RfGs K cl k (gCons t u) (b :: bs) := by
  intro vs σ H Q ds env env' F R p h q
  cases ds with
  | nil => cases h
  | cons d ds =>
    obtain ⟨v, r, rfl, p1, p2⟩ := p.inv
    unfold bEach at h
    split at h
    · cases h
    · rename_i e1 hb
      refine ⟨v, r, rfl, h1 v σ H _ d env e1 F R p1 hb fun σ1 d1 l1 f1 R1 => ?_⟩
      exact h2 r σ1 H _ ds e1 env' F R1 p2 h fun σ2 d2 l2 f2 R2 => q σ2 (d2.trans d1) (l2.trans l1) (f1.trans f2) R2
theorem bEach_len : ∀ {bs : List GF} {ds : List D} {e e' : DE}, bEach bs ds e = some e' → ds.length = bs.length
  | [], [], _, _, _ => rfl
  | [], _ :: _, _, _, h => by cases h
  | _ :: _, [], _, _, h => by cases h
  | b :: bs, d :: ds, e, e', h => by
    unfold bEach at h
    split at h
    · cases h
    · simp [bEach_len h]
theorem rf_gTup {t : TGs} {bs : List GF} {n : Nat} (h : RfGs K cl k t bs) (hn : bs.length = n) : RfG K cl k (gTup K n t) (bTup bs) := by
  intro v σ H Q d env env' F R p e q
  unfold bTup at e
  split at e
  · rename_i ds
    simp only [Rp] at p
    obtain ⟨a, xs, rfl, hF, r⟩ := p
    exact ⟨a, xs, rfl, .of (R.sub _ _ hF), by rw [← r.length, bEach_len e, hn], h xs σ H Q ds env env' F R r e q⟩
  · cases e
def sAsg (f : ZF) (b : GF) : SF := fun e => sbn (f e) fun d e1 => match b d e1 with
  | none => none
  | some e2 => some (.nx e2)
theorem rf_Asg {t : TE} {g : TG} {f : ZF} {b : GF} (hf : RfZ K cl E t f) (hg : RfG K cl k g b) : RfS K cl E (tAsg t g) (sAsg f b) := by
  intro N σ H env F R h
  refine hf σ H _ env F R ((Cs.bnd h).mono fun x H1 ⟨F1, e1, d, fr, R1, p1, h1⟩ => ?_)
  split at h1
  · exact h1.elim
  · rename_i e2 hb
    exact hg x σ H1 _ d e1 e2 F1 R1 p1 hb fun σ' _ _ f2 R2 => h1 σ' H1 F1 (fr.trans f2) R2
def forD (b : GF) (body : SF) : List D → DE → Option RS
  | [], e => some (.nx e)
  | d :: ds, e => match b d e with
    | none => none
    | some e1 => match body e1 with
      | some (.nx e2) => forD b body ds e2
      | some (.ct e2) => forD b body ds e2
      | some (.bk e2) => some (.nx e2)
      | r => r
theorem for_turn {b : GF} {body : SF} {g : TG} {tb : TS} {d : D} {x : V} {ds : List D} {e1 : DE} {N : Ends} {σ1 : St} {H1 F1 : Hp} {Pv : St → Hp → Prop} (hb : RfS K cl E tb body) (hg : RfG K cl k g b)
    (f1 : Frm σ H F env σ1 H1 F1 e1) (R1 : Rel K cl σ1 H1 F1 e1) (p : Rp K cl F1 d x) (h : Cs K cl E (forD b body (d :: ds) e1) σ H F env N)
    (hP : ∀ σ' H' F' e', Frm σ H F env σ' H' F' e' → Rel K cl σ' H' F' e' → Cs K cl E (forD b body ds e') σ H F env N → Pv σ' H') :
    g x σ1 H1 fun σ2 H2 => tb { N with nx := Pv, ct := Pv, bk := N.nx } σ2 H2 := by
  unfold forD at h
  split at h
  · exact h.elim
  · rename_i e2 hbd
    refine hg x σ1 H1 _ d e1 e2 F1 R1 p hbd fun σ2 _ _ f2 R2 => ?_
    refine hb _ σ2 H1 e2 F1 R2 ?_
    split at h
    · rename_i e3 q; rw [q]
      exact fun σ' H' F' f3 R3 => hP σ' H' F' e3 ((f1.trans f2).trans f3) R3 h
    · rename_i e3 q; rw [q]
      exact fun σ' H' F' f3 R3 => hP σ' H' F' e3 ((f1.trans f2).trans f3) R3 h
    · rename_i e3 q; rw [q]
      exact fun σ' H' F' f3 R3 => h σ' H' F' ((f1.trans f2).trans f3) R3
    · rename_i n1 n2 n3
      have h2 := h.from (f1.trans f2)
      unfold Cs at h2 ⊢
      split at h2
      · exact h2
      · rename_i e q; exact absurd q (n1 e)
      · rename_i e q; exact absurd q (n3 e)
      · rename_i e q; exact absurd q (n2 e)
      · exact h2
      · exact h2
      · exact h2
theorem drop_cons {α : Type} {l : List α} {i : Nat} {x : α} (h : l[i]? = some x) : l.drop i = x :: l.drop (i + 1) := by
  obtain ⟨hi, e⟩ := List.getElem?_eq_some_iff.mp h
  rw [← e]; exact List.drop_eq_getElem_cons hi
theorem forT {b : GF} {body : SF} {g : TG} {tb : TS} {ds : List D} {xs : List V} {a : Addr} {N : Ends} (hb : RfS K cl E tb body) (hg : RfG K cl k g b) (R : Rel K cl σ H F env)
    (hl : ∀ σ' H' F' e', Frm σ H F env σ' H' F' e' → Rel K cl σ' H' F' e' → SqT K H' a xs) (r : Rps K cl F ds xs) (h : Cs K cl E (forD b body ds env) σ H F env N) :
    ∃ W : Nat → Nat → St → Hp → Prop, (∃ m, W 0 m σ H) ∧ ∀ i m σ H, W i m σ H →
      ((Itt K a).stop i H ∧ N.nx σ H) ∨ ((Itt K a).go i H ∧ ∃ M : St → Hp → Prop, (∀ σ' H', M σ' H' → ∃ m', m' < m ∧ W (i + 1) m' σ' H') ∧ ∀ x H', (Itt K a).yld i H x H' → g x σ H' fun σ2 H2 => tb { N with nx := M, ct := M, bk := N.nx } σ2 H2) := by
  refine for_tup (xs := xs) (fun i σ' H' => ∃ F' e', Frm σ H F env σ' H' F' e' ∧ Rel K cl σ' H' F' e' ∧ Cs K cl E (forD b body (ds.drop i) e') σ H F env N) ⟨F, env, Frm.refl, R, h⟩ (fun i σ' H' _ ⟨F', e', f, R', _⟩ => hl σ' H' F' e' f R') (fun i x σ' H' hx ⟨F', e', f, R', h'⟩ => ?_) (fun σ' H' ⟨F', e', f, R', h'⟩ => ?_)
  · obtain ⟨d, hd, p⟩ := r.get' hx
    rw [drop_cons hd] at h'
    exact for_turn hb hg f R' (Rp.mono f.fz _ _ p) h' fun σ2 H2 F2 e2 f2 R2 h2 => ⟨F2, e2, f2, R2, h2⟩
  · rw [← r.length, List.drop_length] at h'
    exact h' σ' H' F' f R'
def seqL : D → Option (List D)
  | .lst ds => some ds
  | .scr ns => some (ns.map .int)
  | _ => none
theorem Rp.seqL {d : D} {ds : List D} {v : V} (p : Rp K cl F d v) (s : L2.seqL d = some ds) : ∃ a xs, v = .ref a ∧ Rps K cl F ds xs ∧ ∀ H', Same F H' → SqL K H' a xs := by
  unfold L2.seqL at s
  split at s
  · cases s; simp only [Rp] at p
    obtain ⟨a, xs, e, h, r⟩ := p
    exact ⟨a, xs, e, r, fun H' g => .of (g _ _ h)⟩
  · cases s; simp only [Rp] at p
    obtain ⟨a, e, h⟩ := p
    exact ⟨a, _, e, Rps.ofInts, fun H' g => (h.same g).seq⟩
  · cases s
def sFor (f : ZF) (b : GF) (body : SF) : SF := fun e => sbn (f e) fun d e1 => match seqL d with
  | none => none
  | some ds => forD b body ds e1
def sForT (f : ZF) (b : GF) (body : SF) : SF := fun e => sbn (f e) fun d e1 => match d with
  | .tup ds => forD b body ds e1
  | _ => none
theorem rf_ForT {t : TE} {g : TG} {tb : TS} {f : ZF} {b : GF} {body : SF} (hf : RfZ K cl E t f) (hg : RfG K cl k g b) (hb : RfS K cl E tb body) : RfS K cl E (tFor (iTup K t) g tb) (sForT f b body) := by
  intro N σ H env F R h
  refine hf σ H _ env F R ((Cs.bnd h).mono fun x H1 ⟨F1, e1, d, fr, R1, p1, h1⟩ => ?_)
  split at h1
  · have p1 := (show Rp K cl F1 (.tup _) x from p1)
    simp only [Rp] at p1
    obtain ⟨a, xs, rfl, hF, r⟩ := p1
    exact ⟨a, rfl, ⟨xs, .of (R1.sub _ _ hF)⟩, forT hb hg R1 (fun σ' H' F' e' f2 R2 => .of (R2.sub _ _ (f2.fz _ _ hF))) r (h1.from fr)⟩
  · exact h1.elim
def rngD (lo : Int) (n : Nat) : List D := (List.range n).map fun (i : Nat) => .int (lo + (i : Int))
def sForR (rg : List D → Option (Int × Nat)) (f : AF) (b : GF) (body : SF) : SF := fun e => sbn (f e) fun ds e1 => match rg ds with
  | none => none
  | some (lo, n) => forD b body (rngD lo n) e1
end
end L2
set_option Elab.async false
set_option linter.all false
set_option maxRecDepth 100000
set_option maxHeartbeats 4000000
namespace L2
open PySem PySem.Spec PyProof.Rows
section
variable {K : PySem.W.Frag} {cl : Str → Addr} {E : XK} {σ : St} {H F : Hp} {env : DE} {k : Nat}
def noHd (e : DE) : Bool := e.all fun s => match s with
  | .hd _ => false
  | _ => true
def sTryAs (n i : Nat) (exm : Str → Bool) (body suite : SF) : SF := fun e => match body e with
  | some (.ex c) => if (exm c && noHd e) = true then (match suite ((List.replicate n Sl.no).set i (.fz (.exc c))) with
      | some (.nx e2) => put i .no e2
      | some (.rt d) => some (.rt d)
      | some (.ro ds) => some (.ro ds)
      | _ => none) else none
  | r => r
theorem noHd_of {e : DE} (h : noHd e = true) (i : Nat) (ds : List D) : e[i]? ≠ some (.hd ds) := fun q => by
  have := List.all_eq_true.mp h _ (List.mem_of_getElem? q)
  cases this
theorem rel_one {n i : Nat} {d : D} {v : V} (sub : Same F H) (p : Rp K cl F d v) : Rel K cl ((blank n).set i (some v)) H F ((List.replicate n Sl.no).set i (.fz d)) := by
  have len : (blank n).length = n := by unfold blank; rw [List.length_replicate]
  have no : ∀ (j : Nat) (s : Sl), ((List.replicate n Sl.no).set i (.fz d))[j]? = some s → s ≠ .no → j = i ∧ i < n ∧ s = .fz d := fun j s q ns => by
    by_cases z : j = i
    · subst z
      have hj : j < n := by have := (List.getElem?_eq_some_iff.mp q).1; rwa [List.length_set, List.length_replicate] at this
      rw [List.getElem?_set_self (by rw [List.length_replicate]; exact hj)] at q
      exact ⟨rfl, hj, by cases q; rfl⟩
    · rw [List.getElem?_set_ne (Ne.symm z), List.getElem?_replicate] at q
      split at q
      · cases q; exact absurd rfl ns
      · cases q
  refine ⟨sub, by rw [List.length_set, List.length_set, len, List.length_replicate], fun j e q => ?_, fun j ds q => ?_, fun j l b ⟨ds, q⟩ _ _ _ => ?_⟩
  · obtain ⟨rfl, hj, z⟩ := no j _ q (fun z => by cases z)
    cases z
    exact ⟨v, List.getElem?_set_self (by rw [len]; exact hj), p⟩
  · rcases q with q | q
    · obtain ⟨_, _, z⟩ := no j _ q (fun z => by cases z); cases z
    · obtain ⟨_, _, z⟩ := no j _ q (fun z => by cases z); cases z
  · rcases q with q | q
    · obtain ⟨_, _, z⟩ := no j _ q (fun z => by cases z); cases z
    · obtain ⟨_, _, z⟩ := no j _ q (fun z => by cases z); cases z
theorem not_ow_one {n i : Nat} {d : D} {σ : St} {a : Addr} : ¬ Ow σ ((List.replicate n Sl.no).set i (.fz d)) a := fun ⟨j, ds, q, _⟩ => by
  by_cases z : j = i
  · subst z
    have hj : j < (List.replicate n Sl.no).length := by have := (List.getElem?_eq_some_iff.mp q).1; rwa [List.length_set] at this
    rw [List.getElem?_set_self hj] at q; cases q
  · rw [List.getElem?_set_ne (Ne.symm z), List.getElem?_replicate] at q
    split at q <;> cases q
theorem Rel.drop {i : Nat} (R : Rel K cl σ H F env) (nh : ∀ ds, env[i]? ≠ some (.hd ds)) : Rel K cl (σ.set i none) H F (env.set i .no) ∧ Frm σ H F env (σ.set i none) H F (env.set i .no) := by
  have key : ∀ (j : Nat) (s : Sl), (env.set i .no)[j]? = some s → s ≠ .no → j ≠ i ∧ env[j]? = some s := fun j s q ns => by
    by_cases z : j = i
    · subst z
      have hj : j < env.length := by have := (List.getElem?_eq_some_iff.mp q).1; rwa [List.length_set] at this
      rw [List.getElem?_set_self hj] at q; cases q; exact absurd rfl ns
    · rw [List.getElem?_set_ne (Ne.symm z)] at q; exact ⟨z, q⟩
  have muk : ∀ j, Mu (env.set i .no) j → j ≠ i ∧ Mu env j := fun j ⟨ds, q⟩ => by
    rcases q with q | q
    · obtain ⟨z, q⟩ := key j _ q (fun z => by cases z); exact ⟨z, ds, .inl q⟩
    · obtain ⟨z, q⟩ := key j _ q (fun z => by cases z); exact ⟨z, ds, .inr q⟩
  refine ⟨⟨R.sub, by rw [List.length_set, List.length_set]; exact R.len, fun j d q => ?_, fun j ds q => ?_, fun j l b hj hl e1 e2 => ?_⟩, ⟨Same.refl _, fun a o h f w => ⟨h, f, fun ⟨j, ds, q, e⟩ => ?_⟩, fun j ds q => ?_, fun _ h => h⟩⟩
  · obtain ⟨z, q⟩ := key j _ q (fun z => by cases z)
    obtain ⟨v, e, p⟩ := R.fz j d q
    exact ⟨v, by rw [List.getElem?_set_ne (Ne.symm z)]; exact e, p⟩
  · have : j ≠ i ∧ (env[j]? = some (.ow ds) ∨ env[j]? = some (.hd ds)) := by
      rcases q with q | q
      · obtain ⟨z, q⟩ := key j _ q (fun z => by cases z); exact ⟨z, .inl q⟩
      · obtain ⟨z, q⟩ := key j _ q (fun z => by cases z); exact ⟨z, .inr q⟩
    obtain ⟨z, q⟩ := this
    obtain ⟨a, xs, e, r⟩ := R.mu j ds q
    exact ⟨a, xs, by rw [List.getElem?_set_ne (Ne.symm z)]; exact e, r⟩
  · obtain ⟨zj, mj⟩ := muk j hj
    obtain ⟨zl, ml⟩ := muk l hl
    rw [List.getElem?_set_ne (Ne.symm zj)] at e1
    rw [List.getElem?_set_ne (Ne.symm zl)] at e2
    exact R.inj j l b mj ml e1 e2
  · obtain ⟨z, q⟩ := key j _ q (fun z => by cases z)
    rw [List.getElem?_set_ne (Ne.symm z)] at e
    exact w ⟨j, ds, q, e⟩
  · have z : j ≠ i := fun z => by subst z; exact nh ds q
    rw [List.getElem?_set_ne (Ne.symm z), List.getElem?_set_ne (Ne.symm z)]
    exact ⟨q, rfl⟩
theorem rf_TryAs {C : Addr} {n i : Nat} {exm : Str → Bool} {tb : XK → TS} {ts : Addr → TS} {body suite : SF} (hx : ∀ c, exm c = true → PySem.W.exmOne K (.ref (cl c)) (.ref C) = some true)
    (hb : ∀ Eh, RfS K cl Eh (tb Eh) body) (hs : ∀ a, RfS K cl (fun _ _ _ => False) (ts a) suite) :
    RfS K cl E (tTryAs K C n i tb ts) (sTryAs n i exm body suite) := by
  intro N σ H env F R h
  refine ⟨fun cls cx H' => ∃ c F', cls = .ref (cl c) ∧ cx = none ∧ body env = some (.ex c) ∧ FX σ H F env H' F', ?_, ?_⟩
  · refine hb _ N σ H env F R ?_
    unfold sTryAs at h
    split at h
    · rename_i c q; rw [q]
      exact fun H' F' x => ⟨c, F', rfl, rfl, rfl, x⟩
    · rename_i n1
      unfold Cs at h ⊢
      split at h
      · exact h
      · exact h
      · exact h
      · exact h
      · exact h
      · exact h
      · rename_i c q; exact absurd q (n1 c)
  · rintro cls cx H' ⟨c, F', rfl, rfl, q, x⟩
    unfold sTryAs at h
    rw [q] at h
    dsimp only at h
    split at h
    · rename_i hc
      rw [Bool.and_eq_true] at hc
      refine ⟨hx c hc.1, fun a ha => ?_⟩
      have gr : Gr H' F' (upd H' a (ExcO a (.ref (cl c)) none)) (upd F' a (ExcO a (.ref (cl c)) none)) := .new x.sub ha
      have p : Rp K cl (upd F' a (ExcO a (.ref (cl c)) none)) (.exc c) (.ref a) := by simp only [Rp]; exact ⟨a, none, rfl, upd_same⟩
      have R1 : Rel K cl ((blank n).set i (some (.ref a))) (upd H' a (ExcO a (.ref (cl c)) none)) (upd F' a (ExcO a (.ref (cl c)) none)) ((List.replicate n Sl.no).set i (.fz (.exc c))) := rel_one gr.sub p
      have f1 : Frm σ H F env ((blank n).set i (some (.ref a))) (upd H' a (ExcO a (.ref (cl c)) none)) (upd F' a (ExcO a (.ref (cl c)) none)) ((List.replicate n Sl.no).set i (.fz (.exc c))) :=
        ⟨x.fz.trans gr.fz, fun b o hb fb w => by obtain ⟨h1, f1⟩ := x.hid b o hb fb w; obtain ⟨h2, f2⟩ := gr.hid b o h1 f1; exact ⟨h2, f2, not_ow_one⟩, fun j ds z => absurd z (noHd_of hc.2 j ds), fun b z => x.dom b (gr.dom b z)⟩
      refine hs a _ _ _ _ _ R1 ?_
      have h2 := h.from f1
      cases r : suite ((List.replicate n Sl.no).set i (.fz (.exc c))) with
      | none => rw [r] at h2; exact h2.elim
      | some rs =>
        rw [r] at h2
        cases rs with
        | nx e2 =>
          obtain ⟨hi, nh, h3⟩ := putS h2
          intro σ2 H2 F2 f2 R2
          obtain ⟨R3, f3⟩ := R2.drop nh
          exact h3 _ H2 F2 (f2.trans f3) R3
        | bk e2 => exact h2.elim
        | ct e2 => exact h2.elim
        | rt d => exact h2
        | ro ds => exact h2
        | ex c2 => exact h2.elim
    · exact h.elim
end
end L2
set_option Elab.async false
set_option linter.all false
set_option maxRecDepth 100000
set_option maxHeartbeats 4000000
namespace L2
open PySem PySem.Spec PyProof.Rows
section
variable {K : PySem.W.Frag} {cl : Str → Addr} {E : XK} {σ : St} {H F : Hp} {env : DE} {k : Nat}
def NoOw (e : DE) : Prop := ∀ (i : Nat) (ds : List D), e[i]? ≠ some (.ow ds)
theorem NoOw.not {e : DE} (n : NoOw e) {σ : St} {a : Addr} : ¬ Ow σ e a := fun ⟨i, ds, q, _⟩ => n i ds q
theorem Frm.gr {σ' : St} {H' F' : Hp} {env' : DE} (f : Frm σ H F env σ' H' F' env') (n : NoOw env) (s : Same F' H') : Gr H F H' F' := ⟨f.fz, s, fun a o h g => by obtain ⟨h1, f1, _⟩ := f.hid a o h g n.not; exact ⟨h1, f1⟩⟩
theorem FX.gr {H' F' : Hp} (f : FX σ H F env H' F') (n : NoOw env) : Gr H F H' F' := ⟨f.fz, f.sub, fun a o h g => f.hid a o h g n.not⟩
structure Grow (K : PySem.W.Frag) (cl : Str → Addr) (σ : St) (H0 F0 : Hp) (env : DE) (B : Addr) (acc : List D) (ys : List V) (H F : Hp) : Prop where
  rel : Rel K cl σ H F env
  frm : Frm σ H0 F0 env σ H F env
  new : H0 B = none
  at_ : H B = some (.lst ys)
  un : F B = none
  far : ∀ j, Mu env j → σ[j]? ≠ some (some (.ref B))
  rps : Rps K cl F acc ys
  stay : ∀ a o, H0 a = some o → F0 a = none → H a = some o ∧ F a = none
theorem Grow.start {B : Addr} (R : Rel K cl σ H F env) (hB : H B = none) : Grow K cl σ H F env B [] [] (upd H B (.lst [])) F := by
  obtain ⟨R', f⟩ := R.newN (o := .lst []) hB
  refine ⟨R', f, hB, upd_same, R.sub.free hB, fun j ⟨ds, q⟩ e => ?_, .nil, fun a o h f => ⟨by rw [upd_ne (fun z => by rw [z, hB] at h; cases h)]; exact h, f⟩⟩
  obtain ⟨a, ys, e1, hH, _⟩ := R.mu j ds q
  rw [e] at e1; cases e1
  rw [hB] at hH; cases hH
theorem Grow.gr {B : Addr} {acc : List D} {ys : List V} {H0 F0 H' F' : Hp} (g : Grow K cl σ H0 F0 env B acc ys H F) (r : Gr H F H' F') : Grow K cl σ H0 F0 env B acc ys H' F' :=
  ⟨g.rel.gr r, g.frm.trans (g.rel.frm r), g.new, (r.hid B _ g.at_ g.un).1, (r.hid B _ g.at_ g.un).2, g.far, g.rps.mono r.fz, fun a o h f => by obtain ⟨h1, f1⟩ := g.stay a o h f; exact r.hid a o h1 f1⟩
theorem Grow.push {B : Addr} {acc : List D} {ys : List V} {H0 F0 : Hp} {d : D} {y : V} (g : Grow K cl σ H0 F0 env B acc ys H F) (p : Rp K cl F d y) : Grow K cl σ H0 F0 env B (acc ++ [d]) (ys ++ [y]) (upd H B (.lst (ys ++ [y]))) F := by
  have ne : ∀ a o, F a = some o → a ≠ B := fun a o h z => by rw [z, g.un] at h; cases h
  refine ⟨⟨fun a o h => by rw [upd_ne (ne a o h)]; exact g.rel.sub _ _ h, g.rel.len, g.rel.fz, fun j ds q => ?_, g.rel.inj⟩, ⟨g.frm.fz, fun a o h f w => ?_, g.frm.keep, fun a h => ?_⟩, g.new, upd_same, g.un, g.far, g.rps.append (.one p), fun a o h f => by rw [upd_ne (fun z => by rw [z, g.new] at h; cases h)]; exact g.stay a o h f⟩
  · obtain ⟨a, xs, e, hH, r⟩ := g.rel.mu j ds q
    have z : a ≠ B := fun z => g.far j ⟨ds, q⟩ (by rw [e, z])
    exact ⟨a, xs, e, by rw [upd_ne z]; exact hH, r⟩
  · have z : a ≠ B := fun z => by rw [z, g.new] at h; cases h
    rw [upd_ne z]; exact g.frm.hid a o h f w
  · by_cases z : a = B
    · rw [z, upd_same] at h; cases h
    · rw [upd_ne z] at h; exact g.frm.dom a h
def bTrue : BF := fun e => some (.ok true e)
end
end L2
set_option Elab.async false
set_option linter.all false
set_option maxRecDepth 100000
set_option maxHeartbeats 4000000
namespace L2
open PySem PySem.Spec PyProof.Rows
def fD (n m : Nat) (body : SF) (ds : List D) : Option R1 := if ds.length = m then (match body (ds.map .fz ++ List.replicate (n - ds.length) .no) with
  | some (.nx _) => some (.ret .non)
  | some (.rt d) => some (.ret d)
  | some (.ro es) => some (.own es)
  | some (.ex c) => some (.ex c)
  | _ => none) else none
section
variable {P : Program} {w : World} {K : PySem.W.Frag} {mg : Str → Option Value} {base : Heap} {cl : Str → Addr}
theorem start_rel {N : List Str} {vs : List V} {ds : List D} {H F : Hp} (s : Same F H) (p : Rps K cl F ds vs) : Rel K cl (start N vs) H F (ds.map .fz ++ List.replicate (N.length - ds.length) .no) ∧ NoOw (ds.map .fz ++ List.replicate (N.length - ds.length) .no) := by
  have key : ∀ (i : Nat) (t : Sl), (ds.map Sl.fz ++ List.replicate (N.length - ds.length) .no)[i]? = some t → t ≠ .no → ∃ d, ds[i]? = some d ∧ t = .fz d := fun i t q n => by
    by_cases z : i < ds.length
    · rw [List.getElem?_append_left (by rw [List.length_map]; exact z), List.getElem?_map] at q
      cases hd : ds[i]? with
      | none => rw [hd] at q; cases q
      | some d => rw [hd] at q; cases q; exact ⟨d, rfl, rfl⟩
    · rw [List.getElem?_append_right (by rw [List.length_map]; omega), List.getElem?_replicate] at q
      split at q
      · cases q; exact absurd rfl n
      · cases q
  have no : NoOw (ds.map .fz ++ List.replicate (N.length - ds.length) .no) := fun i es q => by
    obtain ⟨d, _, z⟩ := key i _ q (fun z => by cases z); cases z
  refine ⟨⟨s, ?_, fun i d q => ?_, fun i es q => ?_, fun i j b ⟨es, q⟩ _ _ _ => ?_⟩, no⟩
  · unfold start
    rw [List.length_append, List.length_append, List.length_map, List.length_map, List.length_replicate, List.length_replicate, p.length]
  · obtain ⟨d', hd, z⟩ := key i _ q (fun z => by cases z)
    cases z
    obtain ⟨v, hv, r⟩ := p.get hd
    refine ⟨v, ?_, r⟩
    unfold start
    rw [List.getElem?_append_left (by rw [List.length_map]; exact (List.getElem?_eq_some_iff.mp hv).1), List.getElem?_map, hv]; rfl
  · rcases q with q | q
    · obtain ⟨d, _, z⟩ := key i _ q (fun z => by cases z); cases z
    · obtain ⟨d, _, z⟩ := key i _ q (fun z => by cases z); cases z
  · rcases q with q | q
    · obtain ⟨d, _, z⟩ := key i _ q (fun z => by cases z); cases z
    · obtain ⟨d, _, z⟩ := key i _ q (fun z => by cases z); cases z
theorem spD_len {n m : Nat} {body : SF} {vs : List V} {H : Hp} {Q : VK} {E : XK} (h : spD K cl (fD n m body) vs H Q E) : vs.length = m := by
  obtain ⟨ds, F, s, p, h⟩ := h
  unfold fD at h
  by_cases z : ds.length = m
  · rw [← p.length]; exact z
  · rw [if_neg z] at h; exact h.elim
theorem body_reads {N : List Str} {m : Nat} {body : SF} {t : TS} {vs : List V} {H : Hp} {Q : VK} {E : XK} (hb : RfS K cl E t body) (h : spD K cl (fD N.length m body) vs H Q E) : t { nx := fun _ H' => Q .non H', rt := Q } (start N vs) H := by
  obtain ⟨ds, F, s, p, h⟩ := h
  obtain ⟨R, no⟩ := start_rel (N := N) s p
  refine hb _ _ H _ F R ?_
  unfold fD at h
  by_cases z : ds.length = m
  · rw [if_pos z] at h
    cases r : body (ds.map .fz ++ List.replicate (N.length - ds.length) .no) with
    | none => rw [r] at h; exact h.elim
    | some rs =>
      rw [r] at h
      cases rs with
      | nx e => exact fun σ' H' F' f R' => h .non H' F' (f.gr no R'.sub) (by simp only [Rp])
      | rt d => exact fun v H' F' x q => h v H' F' (x.gr no) q
      | ro es =>
        refine fun a xs H' F' x ha fa nw q => h a xs H' F' (x.gr no) ?_ ha fa q
        cases e : H a with
        | none => rfl
        | some o => exact absurd (nw o e) no.not
      | bk e => exact h.elim
      | ct e => exact h.elim
      | ex c => exact fun H' F' x => h H' F' (x.gr no)
  · rw [if_neg z] at h; exact h.elim
theorem Fun.okD {x qual : Str} {st : Stmt} {f : Addr} {fd : FuncData} {N ps : List Str} {k : Nat} {body : SF} (F : Fun K x qual st f fd) (S : FnScope N ps (defScope st))
    (hbody : ∀ (cdv : Value) (A : Around) (outer : List Env) (s : Shared) (H : Hp) (E : XK), Room k (A.deeper (envOfC qual (defScope st) s.heap.objs.size f cdv)) →
      ∃ t, PSs (cxOf (CXe P w) P w K mg base N qual (defScope st) f cdv A outer s H E) (defBody st) t ∧ RfS K cl E t body) : FnOk P w K mg base (CXe P w) (k + 1) f fd ps (spD K cl (fD N.length ps.length body)) :=
  F.okE S (fun vs H Q E h => spD_len h) fun cdv A outer s H vs Q E hr h => by
    obtain ⟨t, h1, h2⟩ := hbody cdv A outer s H E hr
    exact ⟨t, h1, body_reads h2 h⟩
theorem FunD.okD {x qual : Str} {st : Stmt} {dT f : Addr} {fd : FuncData} {N ps : List Str} {k : Nat} {body : SF} (F : FunD K x qual st dT f fd) (S : FnScope N ps (defScope st))
    (hbody : ∀ (cdv : Value) (A : Around) (outer : List Env) (s : Shared) (H : Hp) (E : XK), Room k (A.deeper (envOfC qual (defScope st) s.heap.objs.size f cdv)) →
      ∃ t, PSs (cxOf (CXe P w) P w K mg base N qual (defScope st) f cdv A outer s H E) (defBody st) t ∧ RfS K cl E t body) : FnOk P w K mg base (CXe P w) (k + 1) f fd ps (spD K cl (fD N.length ps.length body)) :=
  F.okE S (fun vs H Q E h => spD_len h) fun cdv A outer s H vs Q E hr h => by
    obtain ⟨t, h1, h2⟩ := hbody cdv A outer s H E hr
    exact ⟨t, h1, body_reads h2 h⟩
theorem spD_law {g : List D → Option R1} {vs : List V} {H : Hp} {Q : VK} {E : XK} {a : Addr} {ns : List Int} (e : vs = [.ref a]) (h : Scr K H a (ns.map V.int)) (q : ∀ H', Q (.bl true) H') (m : g [.scr ns] = some (.ret (.bl true))) : spD K cl g vs H Q E := by
  refine ⟨[.scr ns], H, Same.refl _, ?_, ?_⟩
  · rw [e]; exact .one (by simp only [Rp]; exact ⟨a, rfl, h⟩)
  · rw [m]
    intro v H' F' _ p
    have p : Rp K cl F' (.bl true) v := p
    simp only [Rp] at p
    rw [p]; exact q H'
def tyN : D → Option String
  | .non => some "NoneType"
  | .bl _ => some "bool"
  | .int _ => some "int"
  | .str _ => some "str"
  | .lst _ => some "list"
  | .tup _ => some "tuple"
  | _ => none
theorem kit_tab {K : PySem.W.Frag} (t n : String) (ht : t ∈ ["NoneType", "bool", "int", "str", "list", "tuple"]) (hn : n ∈ ["bool", "int", "str", "list", "tuple"]) : PySem.W.kitOne K (.type t) (.type n) = some (t == n || (t == "bool" && n == "int")) := by
  simp only [List.mem_cons, List.not_mem_nil, or_false] at ht hn
  rcases ht with rfl | rfl | rfl | rfl | rfl | rfl <;> rcases hn with rfl | rfl | rfl | rfl | rfl <;> first | rfl | with_unfolding_all rfl
theorem tyN_mem {d : D} {t : String} (h : tyN d = some t) : t ∈ ["NoneType", "bool", "int", "str", "list", "tuple"] := by
  cases d <;> cases h <;> decide
theorem tyN_of {F H : Hp} {d : D} {t : String} {v : V} (s : Same F H) (p : Rp K cl F d v) (h : tyN d = some t) : TyX K H v (.type t) := by
  cases d <;> cases h <;> simp only [Rp] at p
  · subst p; exact .of .non
  · subst p; exact .of (.bl _)
  · subst p; exact .of (.int _)
  · subst p; exact .of (.str _)
  · obtain ⟨a, xs, rfl, h, _⟩ := p; exact .of (.tup (s _ _ h))
  · obtain ⟨a, xs, rfl, h, _⟩ := p; exact .of (.lst (s _ _ h))
def gIsiV (n : String) (d : D) : Option D := match tyN d with
  | some t => if n ∈ ["bool", "int", "str", "list", "tuple"] then some (.bl (t == n || (t == "bool" && n == "int"))) else none
  | none => none
def eIsiV (i : Nat) (n : String) : ZF := fun e => match look e i with
  | some d => opt (gIsiV n d) e
  | none => none
theorem rf_IsiV {E : XK} {i : Nat} {n : String} {t : TE} (ht : t = tC (.ty n) := by rfl) : RfZ K cl E (tCB (rIsi K) (tCons (tVar i) (tCons t tNil))) (eIsiV i n) := by
  subst ht
  intro σ H Q env F R h
  unfold eIsiV at h
  cases q : look env i with
  | none => rw [q] at h; exact h.elim
  | some d =>
    rw [q] at h
    obtain ⟨x, e, rb⟩ := R.look q
    refine ⟨x, e, ?_⟩
    cases hz : gIsiV n d with
    | none => simp only [hz, opt_none] at h; exact h.elim
    | some z =>
      simp only [hz, opt_some] at h
      unfold gIsiV at hz
      split at hz
      · rename_i t ht
        split at hz
        · rename_i hn; cases hz
          refine ⟨x, _, _, _, _, rfl, rfl, ?_, kit_tab t n (tyN_mem ht) hn, h _ H F Frm.refl R (by show Rp K cl F (.bl _) _; simp only [Rp])⟩
          rcases rb with p | ⟨a, xs, ds, rfl, rfl, hH, _⟩
          · exact tyN_of R.sub p ht
          · cases ht; exact .of (.lst hH)
        · cases hz
      · cases hz
end
end L2
set_option Elab.async false
set_option linter.all false
set_option maxRecDepth 100000
set_option maxHeartbeats 4000000
namespace L2
open PySem PySem.Spec PyProof.Rows
section
variable {P : Program} {w : World} {mg : Str → Option Value} {base : Heap} {K : PySem.W.Frag} {cl : Str → Addr} {E : XK}
theorem rf_SetW {i : Nat} {g : List D → Option R1} {t : TA} {f : AF} (hf : RfA K cl E t f) : RfS K cl E (tAsg (tCallW (spD K cl g) t) (gName i)) (sSetC0 i g f) := by
  intro N σ H env F R h
  refine hf σ H _ env F R ((Cs.bnd h).mono fun vs H1 ⟨F1, e1, ds, fr, R1, p1, h1⟩ => ?_)
  refine ⟨ds, F1, R1.sub, p1, ?_⟩
  unfold toSet0 at h1
  split at h1
  · rename_i q; rw [q]
    obtain ⟨hi, nh, h2⟩ := putS h1
    exact fun v H' F' gr r => h2 _ H' F' ((fr.trans (R1.frm gr)).trans (Frm.put nh)) ((R1.gr gr).put hi nh r)
  · rename_i q; rw [q]
    obtain ⟨hi, nh, h2⟩ := putS h1
    intro a xs H' F' gr ha hH hF r
    refine h2 _ H' F' ((fr.trans (R1.frm gr)).putO (fr.dom a ha) nh) ((R1.gr gr).putO hi hH hF (fun j mj e => ?_) r)
    obtain ⟨es, q⟩ := mj
    obtain ⟨b, ys, e', hb, _⟩ := R1.mu j es q
    rw [e] at e'; cases e'
    rw [ha] at hb; cases hb
  · exact h1.elim
theorem Fun.okWD {x qual : Str} {st : Stmt} {f : Addr} {fd : FuncData} {N ps : List Str} {k : Nat} {body : SF} (F : Fun K x qual st f fd) (S : FnScope N ps (defScope st))
    (hbody : ∀ (cdv : Value) (A : Around) (outer : List Env) (s : Shared) (H : Hp), RoomW k (A.deeper (envOfC qual (defScope st) s.heap.objs.size f cdv)) →
      ∃ t, PSs (cxOfW P w K mg base N qual (defScope st) f cdv A outer s H) (defBody st) t ∧ RfS K cl E0 t body) : FnOkW P w K mg base (k + 1) f fd ps (spD K cl (fD N.length ps.length body)) :=
  F.okW S (fun vs H Q E h => spD_len h) fun cdv A outer s H vs Q hr h => by
    obtain ⟨t, h1, h2⟩ := hbody cdv A outer s H hr
    exact ⟨t, h1, body_reads h2 h⟩
def clsN : D → Option Str
  | .cls n => some n
  | _ => none
def gIsiT (xT : Str → List Str → Option Bool) : List D → Option D
  | [.exc c, .tup cs] => match cs.mapM clsN with
    | some ns => (xT c ns).map .bl
    | none => none
  | _ => none
def gIsiX (x1 : Str → Str → Option Bool) (x2 : Str → String → Option Bool) : List D → Option D
  | [.exc c, .cls n] => (x1 c n).map .bl
  | [.exc c, .ty n] => (x2 c n).map .bl
  | _ => none
theorem cls_vals : ∀ {cs : List D} {ns : List Str} {F : Hp} {ys : List V}, cs.mapM clsN = some ns → Rps K cl F cs ys → ys.mapM clsV = some (ns.map fun m => Value.ref (cl m))
  | [], _, _, _, h, p => by cases h; rw [p.inv0]; rfl
  | c :: cs, _, _, _, h, p => by
    obtain ⟨v, r, rfl, p1, p2⟩ := p.inv
    rw [List.mapM_cons] at h ⊢
    cases hc : clsN c with
    | none => rw [hc] at h; cases h
    | some n =>
      rw [hc] at h
      cases hcs : cs.mapM clsN with
      | none => rw [hcs] at h; cases h
      | some ns =>
        rw [hcs] at h; cases h
        have hv : v = .ref (cl n) := by
          cases c <;> cases hc
          simpa only [Rp] using p1
        rw [hv, cls_vals hcs p2]; rfl
theorem ok_isiT {xT : Str → List Str → Option Bool} (hx : ∀ c ns b, xT c ns = some b → PySem.W.ExcT K (cl c) ∧ PySem.W.kitAny K (.ref (cl c)) (ns.map fun m => .ref (cl m)) = some b) : CbOk K cl (rIsiT K) (gIsiT xT) := by
  intro xs ds z H F Q s p h q
  unfold gIsiT at h
  split at h
  · rename_i c cs
    split at h
    · rename_i ns hn
      cases hb : xT c ns with
      | none => rw [hb] at h; cases h
      | some b =>
        rw [hb] at h; cases h
        obtain ⟨v, r, rfl, p1, p2⟩ := p.inv
        obtain ⟨u, r', rfl, p3, p4⟩ := p2.inv
        rw [p4.inv0]
        simp only [Rp] at p1 p3
        obtain ⟨a, cx, rfl, ha⟩ := p1
        obtain ⟨t, ys, rfl, ht, r⟩ := p3
        obtain ⟨hT, hk⟩ := hx c ns b hb
        exact ⟨_, t, ys, _, _, b, rfl, s _ _ ht, cls_vals hn r, .exc (s _ _ ha) hT, hk, q _ H F (.refl s) (by simp only [Rp])⟩
    · cases h
  · cases h
theorem ok_isiX {x1 : Str → Str → Option Bool} {x2 : Str → String → Option Bool} (h1 : ∀ c n b, x1 c n = some b → PySem.W.ExcT K (cl c) ∧ PySem.W.kitOne K (.ref (cl c)) (.ref (cl n)) = some b)
    (h2 : ∀ c n b, x2 c n = some b → PySem.W.ExcT K (cl c) ∧ PySem.W.kitOne K (.ref (cl c)) (.type n) = some b) : CbOk K cl (rIsi K) (gIsiX x1 x2) := by
  intro xs ds z H F Q s p h q
  unfold gIsiX at h
  split at h
  · rename_i c n
    cases hb : x1 c n with
    | none => rw [hb] at h; cases h
    | some b =>
      rw [hb] at h; cases h
      obtain ⟨v, r, rfl, p1, p2⟩ := p.inv
      obtain ⟨u, r', rfl, p3, p4⟩ := p2.inv
      rw [p4.inv0]
      simp only [Rp] at p1 p3
      obtain ⟨a, cx, rfl, ha⟩ := p1
      subst p3
      obtain ⟨hT, hk⟩ := h1 c n b hb
      exact ⟨_, _, _, _, b, rfl, rfl, .exc (s _ _ ha) hT, hk, q _ H F (.refl s) (by simp only [Rp])⟩
  · rename_i c n
    cases hb : x2 c n with
    | none => rw [hb] at h; cases h
    | some b =>
      rw [hb] at h; cases h
      obtain ⟨v, r, rfl, p1, p2⟩ := p.inv
      obtain ⟨u, r', rfl, p3, p4⟩ := p2.inv
      rw [p4.inv0]
      simp only [Rp] at p1 p3
      obtain ⟨a, cx, rfl, ha⟩ := p1
      subst p3
      obtain ⟨hT, hk⟩ := h2 c n b hb
      exact ⟨_, _, _, _, b, rfl, rfl, .exc (s _ _ ha) hT, hk, q _ H F (.refl s) (by simp only [Rp])⟩
  · cases h
def eChain (g g' : D → D → Option D) (fa fb fc : ZF) : ZF := fun e => bnd (fa e) fun d e1 => bnd (fb e1) fun d' e2 => match g d d' with
  | some (.bl b) => if b = true then bnd (fc e2) fun d'' e3 => opt (g' d' d'') e3 else some (.ok (.bl false) e2)
  | _ => none
end
end L2
set_option Elab.async false
set_option linter.all false
set_option maxRecDepth 100000
set_option maxHeartbeats 4000000
namespace L2
open PySem PySem.Spec PyProof.Rows
section
variable {α β : Type}
def seqR (r : Option RS) (k : SF) : Option RS := match r with
  | some (.nx e) => k e
  | r => r
theorem sSeq_eq {f k : SF} {e : DE} : sSeq f k e = seqR (f e) k := rfl
theorem seqR_nx {e : DE} {k : SF} : seqR (some (.nx e)) k = k e := rfl
theorem seqR_rt {d : D} {k : SF} : seqR (some (.rt d)) k = some (.rt d) := rfl
theorem seqR_ro {d : List D} {k : SF} : seqR (some (.ro d)) k = some (.ro d) := rfl
theorem seqR_ex {d : Str} {k : SF} : seqR (some (.ex d)) k = some (.ex d) := rfl
theorem seqR_bk {e : DE} {k : SF} : seqR (some (.bk e)) k = some (.bk e) := rfl
theorem seqR_ct {e : DE} {k : SF} : seqR (some (.ct e)) k = some (.ct e) := rfl
theorem seqR_no {k : SF} : seqR none k = none := rfl
theorem seqR_ite {c : Prop} [Decidable c] {a b : Option RS} {k : SF} : seqR (if c then a else b) k = if c then seqR a k else seqR b k := by split <;> rfl
theorem bnd_ite {c : Prop} [Decidable c] {a b : Option (R α)} {k : α → DE → Option (R β)} : bnd (if c then a else b) k = if c then bnd a k else bnd b k := by split <;> rfl
theorem sbn_ite {c : Prop} [Decidable c] {a b : Option (R α)} {k : α → DE → Option RS} : sbn (if c then a else b) k = if c then sbn a k else sbn b k := by split <;> rfl
theorem opt_ite {c : Prop} [Decidable c] {a b : Option α} {e : DE} : opt (if c then a else b) e = if c then opt a e else opt b e := by split <;> rfl
theorem toZ_ite {c : Prop} [Decidable c] {a b : Option R1} {e : DE} : toZ (if c then a else b) e = if c then toZ a e else toZ b e := by split <;> rfl
theorem toZ0_ite {c : Prop} [Decidable c] {a b : Option R1} {e : DE} : toZ0 (if c then a else b) e = if c then toZ0 a e else toZ0 b e := by split <;> rfl
theorem toSet_ite {c : Prop} [Decidable c] {i : Nat} {a b : Option R1} {e : DE} : toSet i (if c then a else b) e = if c then toSet i a e else toSet i b e := by split <;> rfl
theorem toSet0_ite {c : Prop} [Decidable c] {i : Nat} {a b : Option R1} {e : DE} : toSet0 i (if c then a else b) e = if c then toSet0 i a e else toSet0 i b e := by split <;> rfl
theorem toRet_ite {c : Prop} [Decidable c] {a b : Option R1} : toRet (if c then a else b) = if c then toRet a else toRet b := by split <;> rfl
theorem toRet0_ite {c : Prop} [Decidable c] {a b : Option R1} : toRet0 (if c then a else b) = if c then toRet0 a else toRet0 b := by split <;> rfl
theorem toZ_ret {d : D} {e : DE} : toZ (some (.ret d)) e = some (.ok d e) := rfl
theorem toZ_own {d : List D} {e : DE} : toZ (some (.own d)) e = some (.ok (.lst d) e) := rfl
theorem toZ_ex {d : Str} {e : DE} : toZ (some (.ex d)) e = some (.ex d) := rfl
theorem toZ0_ret {d : D} {e : DE} : toZ0 (some (.ret d)) e = some (.ok d e) := rfl
theorem toZ0_own {d : List D} {e : DE} : toZ0 (some (.own d)) e = some (.ok (.lst d) e) := rfl
theorem toSet_ret {i : Nat} {d : D} {e : DE} : toSet i (some (.ret d)) e = put i (.fz d) e := rfl
theorem toSet_own {i : Nat} {d : List D} {e : DE} : toSet i (some (.own d)) e = put i (.ow d) e := rfl
theorem toSet_ex {i : Nat} {d : Str} {e : DE} : toSet i (some (.ex d)) e = some (.ex d) := rfl
theorem toSet0_ret {i : Nat} {d : D} {e : DE} : toSet0 i (some (.ret d)) e = put i (.fz d) e := rfl
theorem toSet0_own {i : Nat} {d : List D} {e : DE} : toSet0 i (some (.own d)) e = put i (.ow d) e := rfl
theorem toRet_ret {d : D} : toRet (some (.ret d)) = some (.rt d) := rfl
theorem toRet_own {d : List D} : toRet (some (.own d)) = some (.ro d) := rfl
theorem toRet_ex {d : Str} : toRet (some (.ex d)) = some (.ex d) := rfl
theorem toRet0_ret {d : D} : toRet0 (some (.ret d)) = some (.rt d) := rfl
theorem toRet0_own {d : List D} : toRet0 (some (.own d)) = some (.ro d) := rfl
def finR (r : Option RS) : Option R1 := match r with
  | some (.nx _) => some (.ret .non)
  | some (.rt d) => some (.ret d)
  | some (.ro es) => some (.own es)
  | some (.ex c) => some (.ex c)
  | _ => none
theorem fD_eq {n m : Nat} {body : SF} {ds : List D} (h : ds.length = m) : fD n m body ds = finR (body (ds.map .fz ++ List.replicate (n - m) .no)) := by
  unfold fD; rw [if_pos h, h]; rfl
theorem finR_nx {e : DE} : finR (some (.nx e)) = some (.ret .non) := rfl
theorem finR_rt {d : D} : finR (some (.rt d)) = some (.ret d) := rfl
theorem finR_ro {d : List D} : finR (some (.ro d)) = some (.own d) := rfl
theorem finR_ex {d : Str} : finR (some (.ex d)) = some (.ex d) := rfl
theorem finR_ite {c : Prop} [Decidable c] {a b : Option RS} : finR (if c then a else b) = if c then finR a else finR b := by split <;> rfl
def forK (r : Option RS) (k : SF) : Option RS := match r with
  | some (.nx e) => k e
  | some (.ct e) => k e
  | some (.bk e) => some (.nx e)
  | r => r
theorem forK_nx {e : DE} {k : SF} : forK (some (.nx e)) k = k e := rfl
theorem forK_ct {e : DE} {k : SF} : forK (some (.ct e)) k = k e := rfl
theorem forK_bk {e : DE} {k : SF} : forK (some (.bk e)) k = some (.nx e) := rfl
theorem forK_rt {d : D} {k : SF} : forK (some (.rt d)) k = some (.rt d) := rfl
theorem forK_ro {d : List D} {k : SF} : forK (some (.ro d)) k = some (.ro d) := rfl
theorem forK_ex {d : Str} {k : SF} : forK (some (.ex d)) k = some (.ex d) := rfl
theorem forK_ite {c : Prop} [Decidable c] {a b : Option RS} {k : SF} : forK (if c then a else b) k = if c then forK a k else forK b k := by split <;> rfl
theorem forD_nil {b : GF} {body : SF} {e : DE} : forD b body [] e = some (.nx e) := rfl
def optR (x : Option DE) (k : SF) : Option RS := match x with
  | none => none
  | some e => k e
theorem forD_step {b : GF} {body : SF} {d : D} {ds : List D} {e : DE} : forD b body (d :: ds) e = optR (b d e) fun e1 => forK (body e1) (forD b body ds) := by
  rw [forD]; cases b d e <;> rfl
theorem optR_some {e : DE} {k : SF} : optR (some e) k = k e := rfl
def tryR (n i : Nat) (exm : Str → Bool) (suite : SF) (e : DE) (r : Option RS) : Option RS := match r with
  | some (.ex c) => if (exm c && noHd e) = true then (match suite ((List.replicate n Sl.no).set i (.fz (.exc c))) with
      | some (.nx e2) => put i .no e2
      | some (.rt d) => some (.rt d)
      | some (.ro ds) => some (.ro ds)
      | _ => none) else none
  | r => r
theorem sTryAs_eq {n i : Nat} {exm : Str → Bool} {body suite : SF} {e : DE} : sTryAs n i exm body suite e = tryR n i exm suite e (body e) := rfl
def susR (i : Nat) (r : Option RS) : Option RS := match r with
  | some (.nx e2) => put i .no e2
  | some (.rt d) => some (.rt d)
  | some (.ro ds) => some (.ro ds)
  | _ => none
theorem susR_nx {i : Nat} {e : DE} : susR i (some (.nx e)) = put i .no e := rfl
theorem susR_rt {i : Nat} {d : D} : susR i (some (.rt d)) = some (.rt d) := rfl
theorem susR_ro {i : Nat} {d : List D} : susR i (some (.ro d)) = some (.ro d) := rfl
theorem tryR_ex {n i : Nat} {exm : Str → Bool} {suite : SF} {e : DE} {c : Str} : tryR n i exm suite e (some (.ex c)) = if (exm c && noHd e) = true then susR i (suite ((List.replicate n Sl.no).set i (.fz (.exc c)))) else none := rfl
theorem tryR_rt {n i : Nat} {exm : Str → Bool} {suite : SF} {e : DE} {d : D} : tryR n i exm suite e (some (.rt d)) = some (.rt d) := rfl
theorem tryR_ro {n i : Nat} {exm : Str → Bool} {suite : SF} {e : DE} {d : List D} : tryR n i exm suite e (some (.ro d)) = some (.ro d) := rfl
theorem tryR_nx {n i : Nat} {exm : Str → Bool} {suite : SF} {e e1 : DE} : tryR n i exm suite e (some (.nx e1)) = some (.nx e1) := rfl
theorem tryR_ite {n i : Nat} {exm : Str → Bool} {suite : SF} {e : DE} {c : Prop} [Decidable c] {a b : Option RS} : tryR n i exm suite e (if c then a else b) = if c then tryR n i exm suite e a else tryR n i exm suite e b := by split <;> rfl
theorem gAdd_eq (a b : Int) : gAdd (.int a) (.int b) = some (.int (a + b)) := rfl
theorem gSub_eq (a b : Int) : gSub' (.int a) (.int b) = some (.int (a - b)) := rfl
theorem gLt_eq (a b : Int) : gLt (.int a) (.int b) = some (.bl (decide (a < b))) := rfl
theorem gLe_eq (a b : Int) : gLe (.int a) (.int b) = some (.bl (decide (a ≤ b))) := rfl
theorem gGt_eq (a b : Int) : gGt (.int a) (.int b) = some (.bl (decide (b < a))) := rfl
theorem gGe_eq (a b : Int) : gGe (.int a) (.int b) = some (.bl (decide (b ≤ a))) := rfl
theorem gMul_eq {a b : Int} (h : IntMulOk a b) : gMul (.int a) (.int b) = some (.int (a * b)) := by show (if _ then _ else _) = _; rw [if_pos h]
theorem gDiv_eq {a b : Int} (h : 0 < b ∧ b.natAbs.log2 < 9000) : gDiv (.int a) (.int b) = some (.int (a / b)) := by show (if _ then _ else _) = _; rw [if_pos h]
theorem gMod_eq {a b : Int} (h : 0 < b) : gMod (.int a) (.int b) = some (.int (a % b)) := by show (if _ then _ else _) = _; rw [if_pos h]
theorem gPow_eq {a b : Int} (h : CPow a b) : gPow (.int a) (.int b) = some (.int (a ^ b.toNat)) := by show (if _ then _ else _) = _; rw [if_pos h]
end
end L2
set_option Elab.async false
set_option linter.all false
set_option maxRecDepth 100000
set_option maxHeartbeats 4000000
namespace L2
open PySem PySem.Spec PyProof.Rows
def Fits (i : Int) : Prop := Builtin.Int.intBits i ≤ 2 ^ 20
theorem bits_le {a b : Int} (h : a.natAbs ≤ b.natAbs) : Builtin.Int.intBits a ≤ Builtin.Int.intBits b := by
  unfold Builtin.Int.intBits
  split
  · exact Nat.zero_le _
  · rename_i ha
    have ha' : a.natAbs ≠ 0 := by
      intro z; apply ha; first | exact Int.natAbs_eq_zero.mp z | (simpa using z)
    have hb' : b.natAbs ≠ 0 := by omega
    split
    · rename_i hb
      exact absurd (by first | exact Int.natAbs_eq_zero.mpr hb | (simpa using hb)) hb'
    · have h1 : b.natAbs < 2 ^ (b.natAbs.log2 + 1) := Nat.lt_log2_self
      have h2 : a.natAbs.log2 < b.natAbs.log2 + 1 := (Nat.log2_lt ha').mpr (by omega)
      omega
theorem Fits.le {a b : Int} (h : Fits b) (l : a.natAbs ≤ b.natAbs) : Fits a := Nat.le_trans (bits_le l) h
theorem Fits.div {i : Int} {n : Int} (h : Fits i) (hn : 0 < n := by decide) : Fits (i / n) := by
  refine h.le ?_
  rcases Int.lt_or_le i 0 with z | z
  · have h1 : i / n < 0 := Int.ediv_neg_of_neg_of_pos z hn
    have h2 : i ≤ i / n := by
      have h3 : n * (i / n) ≤ i := Int.mul_ediv_self_le (by omega)
      have h4 : i < n * (i / n) + n := Int.lt_mul_ediv_self_add hn
      have : i / n * 1 ≥ i / n * n := Int.mul_le_mul_of_nonpos_left (by omega) (by omega)
      have e : n * (i / n) = i / n * n := Int.mul_comm _ _
      have h5 : i ≤ (i / n) * 1 + (n - 1) := by omega
      apply Classical.byContradiction
      intro hc
      have hc : i / n < i := by omega
      have : i / n * n ≤ (i - 1) * n := Int.mul_le_mul_of_nonneg_right (by omega) (by omega)
      have h6 : i < (i - 1) * n + n := by omega
      have h7 : (i - 1) * n + n = i * n := by rw [Int.sub_mul]; omega
      have h8 : i * n ≤ i * 1 := Int.mul_le_mul_of_nonpos_left (by omega) (by omega)
      omega
    omega
  · have h1 : 0 ≤ i / n := Int.ediv_nonneg z (by omega)
    have h2 : i / n ≤ i := Int.ediv_le_self n z
    omega
theorem Fits.mod {i n : Int} (hn : 0 < n) (h : Fits n) : Fits (i % n) := by
  refine h.le ?_
  have h1 := Int.emod_nonneg i (show n ≠ 0 by omega)
  have h2 := Int.emod_lt_of_pos i hn
  omega
theorem Fits.mul {i j : Int} (a : Fits i) (b : Fits j) : IntMulOk i j := IntMulOk.of_bits a b
theorem fits_lit {i : Int} (h : i.natAbs < 2 ^ 400 := by decide) : Fits i := by
  have e : Builtin.Int.intBits (2 ^ 400 : Int) ≤ 2 ^ 20 := by decide +kernel
  exact (show Fits (2 ^ 400) from e).le (by have : (2 ^ 400 : Int).natAbs = 2 ^ 400 := by decide +kernel
                                            omega)
theorem mul_small {a b : Int} (h : a.natAbs < 2 ^ 64) : IntMulOk a b := IntMulOk.of_left (intBits_le_64 (by omega) (by omega))
theorem mul_small' {a b : Int} (h : b.natAbs < 2 ^ 64) : IntMulOk a b := IntMulOk.of_right (intBits_le_64 (by omega) (by omega))
theorem gMul_l {a b : Int} (h : a.natAbs < 2 ^ 64) : gMul (.int a) (.int b) = some (.int (a * b)) := gMul_eq (mul_small h)
theorem gMul_r {a b : Int} (h : b.natAbs < 2 ^ 64) : gMul (.int a) (.int b) = some (.int (a * b)) := gMul_eq (mul_small' h)
section
variable {α : Type}
theorem atI_0 {a : α} {l : List α} : atI (a :: l) 0 = some a := by unfold atI ixN; simp
theorem atI_s {a : α} {l : List α} {n : Nat} : atI (a :: l) ((n : Int) + 1) = atI l n := by
  unfold atI ixN
  have h1 : (0 : Int) ≤ (n : Int) + 1 := by omega
  have h2 : (0 : Int) ≤ (n : Int) := by omega
  rw [if_pos h1, if_pos h2]
  by_cases z : (n : Int) < (l.length : Int)
  · rw [if_pos z, if_pos (by rw [List.length_cons]; push_cast; omega)]
    show (a :: l)[((n : Int) + 1).toNat]? = l[((n : Int)).toNat]?
    rw [show ((n : Int) + 1).toNat = n + 1 by omega, show ((n : Int)).toNat = n by omega]
    rfl
  · rw [if_neg z, if_neg (by rw [List.length_cons]; push_cast; omega)]
    rfl
theorem atI_1 {a b : α} {l : List α} : atI (a :: b :: l) 1 = some b := (atI_s (n := 0)).trans atI_0
theorem atI_2 {a b c : α} {l : List α} : atI (a :: b :: c :: l) 2 = some c := (atI_s (n := 1)).trans atI_1
theorem atI_3 {a b c d : α} {l : List α} : atI (a :: b :: c :: d :: l) 3 = some d := (atI_s (n := 2)).trans atI_2
theorem atI_4 {a b c d e : α} {l : List α} : atI (a :: b :: c :: d :: e :: l) 4 = some e := (atI_s (n := 3)).trans atI_3
theorem atI_5 {a b c d e f : α} {l : List α} : atI (a :: b :: c :: d :: e :: f :: l) 5 = some f := (atI_s (n := 4)).trans atI_4
theorem atI_6 {a b c d e f g : α} {l : List α} : atI (a :: b :: c :: d :: e :: f :: g :: l) 6 = some g := (atI_s (n := 5)).trans atI_5
end
def cellAt (ns : List Int) (k : Int) : Int := ns.getD k.toNat 0
theorem fits_cell {ns : List Int} (h : ∀ m ∈ ns, Builtin.Int.intBits m ≤ 2 ^ 20) (k : Int) : Fits (cellAt ns k) := by
  unfold cellAt Fits
  rw [List.getD_eq_getElem?_getD]
  cases q : ns[k.toNat]? with
  | none => show Builtin.Int.intBits 0 ≤ _; decide
  | some v => exact h v (List.mem_of_getElem? q)
theorem cell_eq {ns : List Int} {k : Int} (hk : 0 ≤ k) : (if k < (ns.length : Int) then (match atI ns k with
    | none => none
    | some n => some (R1.ret (D.int n))) else some (R1.ret (D.int 0))) = some (R1.ret (D.int (cellAt ns k))) := by
  unfold cellAt
  by_cases z : k < (ns.length : Int)
  · rw [if_pos z]
    have h : k.toNat < ns.length := by omega
    have e : atI ns k = some ns[k.toNat] := by
      unfold atI ixN
      rw [if_pos hk, if_pos z]
      exact List.getElem?_eq_getElem h
    rw [e, List.getD_eq_getElem?_getD, List.getElem?_eq_getElem h]; rfl
  · rw [if_neg z, List.getD_eq_getElem?_getD, List.getElem?_eq_none (by omega)]; rfl
end L2
namespace Law
open PySem L2 PyProof.Rows
set_option maxRecDepth 100000
set_option maxHeartbeats 4000000
def top (i : Nat) : Stmt := PySem.Challenge.pw_cratefit_k09_a_spot.main.body.getD i (.Pass ⟨0, 0, 0, 0⟩)
abbrev s_sides_of : Stmt := top 20
abbrev s_spot_of : Stmt := top 22
abbrev s_l_cell_at : Stmt := top 24
abbrev s_l_whole : Stmt := top 25
abbrev s_l_side : Stmt := top 26
abbrev s_l_ware : Stmt := top 27
abbrev s_l_far : Stmt := top 28
abbrev s_l_spot_alike : Stmt := top 29
abbrev s_l_kinds : Stmt := top 30
abbrev s_l_spot : Stmt := top 31
abbrev s_l_good : Stmt := top 32
abbrev s_law : Stmt := top 33
variable {P : Program} {w : World} {K : PySem.W.Frag} {mg : Str → Option Value} {base : Heap} {c : Str → Addr}
structure Txt (K : PySem.W.Frag) (mg : Str → Option Value) (c : Str → Addr) : Prop where
  z_ValueError : mg "ValueError" = none
  z_bool : mg "bool" = none
  z_int : mg "int" = none
  z_isinstance : mg "isinstance" = none
  z_len : mg "len" = none
  z_tuple : mg "tuple" = none
  m_BadPacking : mg "BadPacking" = some (.ref (c "BadPacking"))
  m_BadPlan : mg "BadPlan" = some (.ref (c "BadPlan"))
  m_BadSide : mg "BadSide" = some (.ref (c "BadSide"))
  m_BadTurn : mg "BadTurn" = some (.ref (c "BadTurn"))
  m_CrateError : mg "CrateError" = some (.ref (c "CrateError"))
  m_Full : mg "Full" = some (.ref (c "Full"))
  m_Hangs : mg "Hangs" = some (.ref (c "Hangs"))
  m_NoDeed : mg "NoDeed" = some (.ref (c "NoDeed"))
  m_NoDrawing : mg "NoDrawing" = some (.ref (c "NoDrawing"))
  m_NoPicker : mg "NoPicker" = some (.ref (c "NoPicker"))
  m_NoSheet : mg "NoSheet" = some (.ref (c "NoSheet"))
  m_NoText : mg "NoText" = some (.ref (c "NoText"))
  m_NoWare : mg "NoWare" = some (.ref (c "NoWare"))
  m_NoWeighing : mg "NoWeighing" = some (.ref (c "NoWeighing"))
  m_NothingDone : mg "NothingDone" = some (.ref (c "NothingDone"))
  m_Ring : mg "Ring" = some (.ref (c "Ring"))
  m_TooMany : mg "TooMany" = some (.ref (c "TooMany"))
  m_TooWide : mg "TooWide" = some (.ref (c "TooWide"))
  x_BadTurn : PySem.W.excIn K (c "BadTurn") vErr "ValueError.__new__" = true
  t_exc_BadTurn : PySem.W.ExcT K (c "BadTurn")
  t_any_BadTurn_0 : PySem.W.kitAny K (.ref (c "BadTurn")) [.ref (c "BadSide"), .ref (c "NoText"), .ref (c "TooMany"), .ref (c "Ring"), .ref (c "NoWeighing"), .ref (c "NoPicker"), .ref (c "NoSheet"), .ref (c "NoDrawing")] = some false
  t_any_BadTurn_1 : PySem.W.kitAny K (.ref (c "BadTurn")) [.ref (c "NoDeed"), .ref (c "NoWare"), .ref (c "Full"), .ref (c "NothingDone"), .ref (c "TooWide"), .ref (c "Hangs"), .ref (c "BadPlan"), .ref (c "BadPacking")] = some false
  t_one_BadTurn_CrateError : PySem.W.kitOne K (.ref (c "BadTurn")) (.ref (c "CrateError")) = some true
  t_one_BadTurn_ValueError : PySem.W.kitOne K (.ref (c "BadTurn")) (.type "ValueError") = some true
  t_exm_BadTurn_BadTurn : PySem.W.exmOne K (.ref (c "BadTurn")) (.ref (c "BadTurn")) = some true
def xT (n : Str) (ns : List Str) : Option Bool := if n = "BadTurn" ∧ ns = (["BadSide", "NoText", "TooMany", "Ring", "NoWeighing", "NoPicker", "NoSheet", "NoDrawing"] : List Str) then some false else if n = "BadTurn" ∧ ns = (["NoDeed", "NoWare", "Full", "NothingDone", "TooWide", "Hangs", "BadPlan", "BadPacking"] : List Str) then some false else none
def x1 (n m : Str) : Option Bool := if n = "BadTurn" ∧ m = "CrateError" then some true else none
def x2 (n : Str) (m : String) : Option Bool := if n = "BadTurn" ∧ m = "ValueError" then some true else none
theorem xT_ok (T : Txt K mg c) : ∀ (n : Str) (m : List Str) (b : Bool), xT n m = some b → PySem.W.ExcT K (c n) ∧ PySem.W.kitAny K (.ref (c n)) (m.map fun m => .ref (c m)) = some b := by
  intro n m b h
  unfold xT at h
  split at h
  · rename_i z; obtain ⟨rfl, rfl⟩ := z; cases h; exact ⟨T.t_exc_BadTurn, T.t_any_BadTurn_0⟩
  split at h
  · rename_i z; obtain ⟨rfl, rfl⟩ := z; cases h; exact ⟨T.t_exc_BadTurn, T.t_any_BadTurn_1⟩
  cases h
theorem x1_ok (T : Txt K mg c) : ∀ (n : Str) (m : Str) (b : Bool), x1 n m = some b → PySem.W.ExcT K (c n) ∧ PySem.W.kitOne K (.ref (c n)) (.ref (c m)) = some b := by
  intro n m b h
  unfold x1 at h
  split at h
  · rename_i z; obtain ⟨rfl, rfl⟩ := z; cases h; exact ⟨T.t_exc_BadTurn, T.t_one_BadTurn_CrateError⟩
  cases h
theorem x2_ok (T : Txt K mg c) : ∀ (n : Str) (m : String) (b : Bool), x2 n m = some b → PySem.W.ExcT K (c n) ∧ PySem.W.kitOne K (.ref (c n)) (.type m) = some b := by
  intro n m b h
  unfold x2 at h
  split at h
  · rename_i z; obtain ⟨rfl, rfl⟩ := z; cases h; exact ⟨T.t_exc_BadTurn, T.t_one_BadTurn_ValueError⟩
  cases h
def xm_BadTurn (n : Str) : Bool := decide (n = "BadTurn")
theorem xm_BadTurn_ok (T : Txt K mg c) : ∀ n, xm_BadTurn n = true → PySem.W.exmOne K (.ref (c n)) (.ref (c "BadTurn")) = some true := by
  intro n h
  unfold xm_BadTurn at h
  simp only [Bool.or_eq_true, decide_eq_true_eq] at h
  rcases h with rfl
  · exact T.t_exm_BadTurn_BadTurn
def b_sides_of : SF := (sSeq (sAsg (eV 0) (bTup [(bName 2), (bName 3), (bName 4)])) (sSeq (sIf (bNot (bZ (eV 1))) (sRet (eT (aC (eV 2) (aC (eV 3) aN)))) sNx) (sSeq (sIf (bNot (bZ (eV 4))) (sRaise "BadTurn" (aC (eC (.str "a ware that may not be turned has no sides turned")) aN)) sNx) (sRet (eT (aC (eV 3) (aC (eV 2) aN)))))))
def d_sides_of : List D → Option R1 := fD 5 2 b_sides_of
theorem sc_sides_of : FnScope ["ware", "lie", "w", "h", "turns"] ["ware", "lie"] (defScope s_sides_of) := ⟨rfl, rfl, rfl, by decide +kernel, rfl, by decide +kernel, by decide +kernel⟩
theorem ok_sides_of {f : Addr} {fd : FuncData} (F : Fun K "sides_of" "sides_of" s_sides_of f fd) (T : Txt K mg c)  : FnOk P w K mg base (CXe P w) 3 f fd ["ware", "lie"] (spD K c d_sides_of) :=
  F.okD (k := 2) sc_sides_of fun cdv A outer s H E hr => ⟨_, (pss_cons (ps_asg (pv 0) (pgK_tup (K := K) (n := 3) rfl (pgs_cons (pg_name (i := 2) sc_sides_of.nd rfl (Or.inl rfl)) (pgs_cons (pg_name (i := 3) sc_sides_of.nd rfl (Or.inl rfl)) (pgs_cons (pg_name (i := 4) sc_sides_of.nd rfl (Or.inl rfl)) pgs_nil))))) (pss_cons (ps_if (pt_not (pt_val (pv 1))) (pss_one (ps_ret (pe_tup (pa_cons (pv 2) (pa_cons (pv 3) pa_nil))))) pss_nil) (pss_cons (ps_if (pt_not (pt_val (pv 4))) (pss_one (ps_raise acc_def T.x_BadTurn rfl T.m_BadTurn (pa_cons pe_str pa_nil))) pss_nil) (pss_one (ps_ret (pe_tup (pa_cons (pv 3) (pa_cons (pv 2) pa_nil)))))))), (rf_Seq (rf_Asg rf_v (rf_gTup (rf_gCons (rf_gName (k := 5) (by decide)) (rf_gCons (rf_gName (k := 5) (by decide)) (rf_gCons (rf_gName (k := 5) (by decide)) rf_gNil))) rfl)) (rf_Seq (rf_If' (rf_bNot (rf_bZ rf_v)) (rf_Ret (rf_T (rf_aC rf_v (rf_aC rf_v rf_aN)))) rf_Nx) (rf_Seq (rf_If' (rf_bNot (rf_bZ rf_v)) (rf_Raise (rf_aC rf_c rf_aN)) rf_Nx) (rf_Ret (rf_T (rf_aC rf_v (rf_aC rf_v rf_aN)))))))⟩
def b_spot_of : SF := (sSeq (sAsg (eV 1) (bTup [(bName 2), (bName 3), (bName 4)])) (sSeq (sAsg (eCall d_sides_of (aC (eV 0) (aC (eV 4) aN))) (bTup [(bName 5), (bName 6)])) (sRet (eT (aC (eV 2) (aC (eV 3) (aC (eB gAdd (eV 2) (eV 5)) (aC (eB gAdd (eV 3) (eV 6)) aN))))))))
def d_spot_of : List D → Option R1 := fD 7 2 b_spot_of
theorem sc_spot_of : FnScope ["ware", "place", "x", "y", "lie", "w", "h"] ["ware", "place"] (defScope s_spot_of) := ⟨rfl, rfl, rfl, by decide +kernel, rfl, by decide +kernel, by decide +kernel⟩
theorem ok_spot_of {f : Addr} {fd : FuncData} (F : Fun K "spot_of" "spot_of" s_spot_of f fd) (T : Txt K mg c) (G_sides_of : Own P w K mg base 3 "sides_of" ["ware", "lie"] (spD K c d_sides_of)) : FnOk P w K mg base (CXe P w) 5 f fd ["ware", "place"] (spD K c d_spot_of) :=
  F.okD (k := 4) sc_spot_of fun cdv A outer s H E hr => ⟨_, (pss_cons (ps_asg (pv 1) (pgK_tup (K := K) (n := 3) rfl (pgs_cons (pg_name (i := 2) sc_spot_of.nd rfl (Or.inl rfl)) (pgs_cons (pg_name (i := 3) sc_spot_of.nd rfl (Or.inl rfl)) (pgs_cons (pg_name (i := 4) sc_spot_of.nd rfl (Or.inl rfl)) pgs_nil))))) (pss_cons (ps_asg (pe_own G_sides_of hr (by decide) (XAcc.passes acc_def) (pa_cons (pv 0) (pa_cons (pv 4) pa_nil))) (pgK_tup (K := K) (n := 2) rfl (pgs_cons (pg_name (i := 5) sc_spot_of.nd rfl (Or.inl rfl)) (pgs_cons (pg_name (i := 6) sc_spot_of.nd rfl (Or.inl rfl)) pgs_nil)))) (pss_one (ps_ret (pe_tup (pa_cons (pv 2) (pa_cons (pv 3) (pa_cons (pe_op op_add (pv 2) (pv 5)) (pa_cons (pe_op op_add (pv 3) (pv 6)) pa_nil))))))))), (rf_Seq (rf_Asg rf_v (rf_gTup (rf_gCons (rf_gName (k := 7) (by decide)) (rf_gCons (rf_gName (k := 7) (by decide)) (rf_gCons (rf_gName (k := 7) (by decide)) rf_gNil))) rfl)) (rf_Seq (rf_Asg (rf_Call (rf_aC rf_v (rf_aC rf_v rf_aN))) (rf_gTup (rf_gCons (rf_gName (k := 7) (by decide)) (rf_gCons (rf_gName (k := 7) (by decide)) rf_gNil)) rfl)) (rf_Ret (rf_T (rf_aC rf_v (rf_aC rf_v (rf_aC (rf_op ok_add rf_v rf_v) (rf_aC (rf_op ok_add rf_v rf_v) rf_aN))))))))⟩
def b_l_cell_at : SF := (sSeq (sIf (bZ (eB gLt (eV 1) (eCV gLen 0))) (sRet (eBV gIxL 0 (eV 1))) sNx) (sRet (eC (.int 0))))
def d_l_cell_at : List D → Option R1 := fD 2 2 b_l_cell_at
theorem sc_l_cell_at : FnScope ["_law_script", "_law_k"] ["_law_script", "_law_k"] (defScope s_l_cell_at) := ⟨rfl, rfl, rfl, by decide +kernel, rfl, by decide +kernel, by decide +kernel⟩
theorem ok_l_cell_at {f : Addr} {fd : FuncData} (F : Fun K "_law_cell_at" "_law_cell_at" s_l_cell_at f fd) (T : Txt K mg c)  : FnOk P w K mg base (CXe P w) 3 f fd ["_law_script", "_law_k"] (spD K c d_l_cell_at) :=
  F.okD (k := 2) sc_l_cell_at fun cdv A outer s H E hr => ⟨_, (pss_cons (ps_if (pt_cmpR op_lt (pv 1) (pe_callB (callK_len_seq (K := K)) rfl T.z_len bt_len (pa_cons (pv 0) pa_nil)) (nomark _)) (pss_one (ps_ret (pe_ix (ixK_list (K := K)) (pv 0) (pv 1) (fun _ _ => rfl)))) pss_nil) (pss_one (ps_ret pe_int))), (rf_Seq (rf_If' (rf_bT (rf_op ok_lt rf_v (rf_CV ok_len))) (rf_Ret (rf_opV ok_ixL rf_v)) rf_Nx) (rf_Ret rf_c))⟩
def b_l_whole : SF := (sRet (eAnd (eIsiV 0 "int") (eNot (eIsiV 0 "bool"))))
def d_l_whole : List D → Option R1 := fD 1 1 b_l_whole
theorem sc_l_whole : FnScope ["_law_found"] ["_law_found"] (defScope s_l_whole) := ⟨rfl, rfl, rfl, by decide +kernel, rfl, by decide +kernel, by decide +kernel⟩
theorem ok_l_whole {f : Addr} {fd : FuncData} (F : Fun K "_law_whole" "_law_whole" s_l_whole f fd) (T : Txt K mg c)  : FnOk P w K mg base (CXe P w) 3 f fd ["_law_found"] (spD K c d_l_whole) :=
  F.okD (k := 2) sc_l_whole fun cdv A outer s H E hr => ⟨_, (pss_one (ps_ret (pe_and (pe_callB (callK_isi (K := K)) rfl T.z_isinstance bt_isinstance (pa_cons (pv 0) (pa_cons (pe_bltn (v := .ty "int") rfl T.z_int bt_int rfl) pa_nil))) (pe_one (pe_not (pe_callB (callK_isi (K := K)) rfl T.z_isinstance bt_isinstance (pa_cons (pv 0) (pa_cons (pe_bltn (v := .ty "bool") rfl T.z_bool bt_bool rfl) pa_nil)))))))), (rf_Ret (rf_And rf_IsiV (rf_Not rf_IsiV)))⟩
def b_l_side : SF := (sSeq (sSet 1 (eB gDiv (eV 0) (eC (.int 5)))) (sSeq (sIf (bZ (eB (gEq false) (eB gMod (eV 0) (eC (.int 5))) (eC (.int 1)))) (sRet (eB gAdd (eC (.int 1)) (eB gMod (eB gMul (eV 1) (eB gPow (eC (.int 7919)) (eC (.int 11)))) (eB gPow (eC (.int 10)) (eC (.int 40)))))) sNx) (sSeq (sIf (bZ (eB (gEq false) (eB gMod (eV 0) (eC (.int 5))) (eC (.int 2)))) (sRet (eB gSub' (eB gPow (eC (.int 10)) (eC (.int 40))) (eB gMod (eV 1) (eC (.int 3))))) sNx) (sSeq (sIf (bZ (eB (gEq false) (eB gMod (eV 0) (eC (.int 5))) (eC (.int 3)))) (sRet (eB gAdd (eC (.int 1)) (eB gMod (eV 1) (eC (.int 1009))))) sNx) (sRet (eB gAdd (eC (.int 1)) (eB gMod (eV 1) (eC (.int 7)))))))))
def d_l_side : List D → Option R1 := fD 2 1 b_l_side
theorem sc_l_side : FnScope ["_law_cell", "_law_rest"] ["_law_cell"] (defScope s_l_side) := ⟨rfl, rfl, rfl, by decide +kernel, rfl, by decide +kernel, by decide +kernel⟩
theorem ok_l_side {f : Addr} {fd : FuncData} (F : Fun K "_law_side" "_law_side" s_l_side f fd) (T : Txt K mg c)  : FnOk P w K mg base (CXe P w) 3 f fd ["_law_cell"] (spD K c d_l_side) :=
  F.okD (k := 2) sc_l_side fun cdv A outer s H E hr => ⟨_, (pss_cons (ps_set (i := 1) sc_l_side.nd rfl (Or.inl rfl) (pe_op op_fdivB (pv 0) pe_int)) (pss_cons (ps_if (pt_cmpR op_eq (pe_op op_mod (pv 0) pe_int) pe_int (nomark _)) (pss_one (ps_ret (pe_op op_add pe_int (pe_op op_mod (pe_op op_mulB (pv 1) (pe_op op_pow pe_int pe_int)) (pe_op op_pow pe_int pe_int))))) pss_nil) (pss_cons (ps_if (pt_cmpR op_eq (pe_op op_mod (pv 0) pe_int) pe_int (nomark _)) (pss_one (ps_ret (pe_op op_sub (pe_op op_pow pe_int pe_int) (pe_op op_mod (pv 1) pe_int)))) pss_nil) (pss_cons (ps_if (pt_cmpR op_eq (pe_op op_mod (pv 0) pe_int) pe_int (nomark _)) (pss_one (ps_ret (pe_op op_add pe_int (pe_op op_mod (pv 1) pe_int)))) pss_nil) (pss_one (ps_ret (pe_op op_add pe_int (pe_op op_mod (pv 1) pe_int)))))))), (rf_Seq (rf_Set (rf_op ok_div rf_v rf_c)) (rf_Seq (rf_If' (rf_bT (rf_op ok_eq (rf_op ok_mod rf_v rf_c) rf_c)) (rf_Ret (rf_op ok_add rf_c (rf_op ok_mod (rf_op ok_mul rf_v (rf_op ok_pow rf_c rf_c)) (rf_op ok_pow rf_c rf_c)))) rf_Nx) (rf_Seq (rf_If' (rf_bT (rf_op ok_eq (rf_op ok_mod rf_v rf_c) rf_c)) (rf_Ret (rf_op ok_sub (rf_op ok_pow rf_c rf_c) (rf_op ok_mod rf_v rf_c))) rf_Nx) (rf_Seq (rf_If' (rf_bT (rf_op ok_eq (rf_op ok_mod rf_v rf_c) rf_c)) (rf_Ret (rf_op ok_add rf_c (rf_op ok_mod rf_v rf_c))) rf_Nx) (rf_Ret (rf_op ok_add rf_c (rf_op ok_mod rf_v rf_c)))))))⟩
def b_l_ware : SF := (sSeq (sSet 1 (eB gMod (eV 0) (eB gPow (eC (.int 10)) (eC (.int 60))))) (sSeq (sSet 2 (eB gMod (eB gAdd (eB gMul (eV 1) (eC (.int 48271))) (eC (.int 29))) (eC (.int 2147483647)))) (sSeq (sSetC0 3 d_l_side (aC (eV 1) aN)) (sSeq (sSetC0 4 d_l_side (aC (eB gDiv (eV 2) (eC (.int 12))) aN)) (sSeq (sIf (bZ (eB (gEq false) (eB gMod (eV 2) (eC (.int 4))) (eC (.int 1)))) (sSet 4 (eV 3)) sNx) (sSeq (sIf (bZ (eB (gEq false) (eB gMod (eV 2) (eC (.int 4))) (eC (.int 2)))) (sSetC0 4 d_l_side (aC (eB gAdd (eB gMul (eV 1) (eC (.int 69621))) (eC (.int 3))) aN)) sNx) (sRet (eT (aC (eV 3) (aC (eV 4) (aC (eB gGt (eB gMod (eB gDiv (eV 2) (eC (.int 4))) (eC (.int 3))) (eC (.int 0))) aN)))))))))))
def d_l_ware : List D → Option R1 := fD 5 1 b_l_ware
theorem sc_l_ware : FnScope ["_law_cell", "_law_number", "_law_mix", "_law_w", "_law_h"] ["_law_cell"] (defScope s_l_ware) := ⟨rfl, rfl, rfl, by decide +kernel, rfl, by decide +kernel, by decide +kernel⟩
theorem ok_l_ware {f : Addr} {fd : FuncData} (F : Fun K "_law_ware" "_law_ware" s_l_ware f fd) (T : Txt K mg c) (G_l_side : Own P w K mg base 3 "_law_side" ["_law_cell"] (spD K c d_l_side)) : FnOk P w K mg base (CXe P w) 5 f fd ["_law_cell"] (spD K c d_l_ware) :=
  F.okD (k := 4) sc_l_ware fun cdv A outer s H E hr => ⟨_, (pss_cons (ps_set (i := 1) sc_l_ware.nd rfl (Or.inl rfl) (pe_op op_mod (pv 0) (pe_op op_pow pe_int pe_int))) (pss_cons (ps_set (i := 2) sc_l_ware.nd rfl (Or.inl rfl) (pe_op op_mod (pe_op op_add (pe_op op_mulB (pv 1) pe_int) pe_int) pe_int)) (pss_cons (ps_set (i := 3) sc_l_ware.nd rfl (Or.inl rfl) (pe_own G_l_side hr (by decide) pass0e (pa_cons (pv 1) pa_nil))) (pss_cons (ps_set (i := 4) sc_l_ware.nd rfl (Or.inl rfl) (pe_own G_l_side hr (by decide) pass0e (pa_cons (pe_op op_fdivB (pv 2) pe_int) pa_nil))) (pss_cons (ps_if (pt_cmpR op_eq (pe_op op_mod (pv 2) pe_int) pe_int (nomark _)) (pss_one (ps_set (i := 4) sc_l_ware.nd rfl (Or.inl rfl) (pv 3))) pss_nil) (pss_cons (ps_if (pt_cmpR op_eq (pe_op op_mod (pv 2) pe_int) pe_int (nomark _)) (pss_one (ps_set (i := 4) sc_l_ware.nd rfl (Or.inl rfl) (pe_own G_l_side hr (by decide) pass0e (pa_cons (pe_op op_add (pe_op op_mulB (pv 1) pe_int) pe_int) pa_nil)))) pss_nil) (pss_one (ps_ret (pe_tup (pa_cons (pv 3) (pa_cons (pv 4) (pa_cons (pe_cmpR op_gt (pe_op op_mod (pe_op op_fdivB (pv 2) pe_int) pe_int) pe_int (nomark _)) pa_nil)))))))))))), (rf_Seq (rf_Set (rf_op ok_mod rf_v (rf_op ok_pow rf_c rf_c))) (rf_Seq (rf_Set (rf_op ok_mod (rf_op ok_add (rf_op ok_mul rf_v rf_c) rf_c) rf_c)) (rf_Seq (rf_SetC0 (rf_aC rf_v rf_aN)) (rf_Seq (rf_SetC0 (rf_aC (rf_op ok_div rf_v rf_c) rf_aN)) (rf_Seq (rf_If' (rf_bT (rf_op ok_eq (rf_op ok_mod rf_v rf_c) rf_c)) (rf_Set rf_v) rf_Nx) (rf_Seq (rf_If' (rf_bT (rf_op ok_eq (rf_op ok_mod rf_v rf_c) rf_c)) (rf_SetC0 (rf_aC (rf_op ok_add (rf_op ok_mul rf_v rf_c) rf_c) rf_aN)) rf_Nx) (rf_Ret (rf_T (rf_aC rf_v (rf_aC rf_v (rf_aC (rf_op ok_gt (rf_op ok_mod (rf_op ok_div rf_v rf_c) rf_c) rf_c) rf_aN)))))))))))⟩
def b_l_far : SF := (sSeq (sSet 1 (eB gDiv (eV 0) (eC (.int 3)))) (sSeq (sIf (bZ (eB (gEq false) (eB gMod (eV 0) (eC (.int 3))) (eC (.int 1)))) (sRet (eB gSub' (eB gMod (eB gMul (eV 1) (eB gPow (eC (.int 7919)) (eC (.int 11)))) (eB gAdd (eB gMul (eC (.int 2)) (eB gPow (eC (.int 10)) (eC (.int 42)))) (eC (.int 1)))) (eB gPow (eC (.int 10)) (eC (.int 42))))) sNx) (sSeq (sIf (bZ (eB (gEq false) (eB gMod (eV 0) (eC (.int 3))) (eC (.int 2)))) (sRet (eB gIxL (zN (eL (aC (eB gPow (eC (.int 10)) (eC (.int 42))) (aC (eU gNeg (eB gPow (eC (.int 10)) (eC (.int 42)))) (aC (eB gPow (eC (.int 10)) (eC (.int 40))) (aC (eC (.int 0)) (aC (eU gNeg (eC (.int 9))) (aC (eC (.int 10)) aN)))))))) (eB gMod (eV 1) (eC (.int 6))))) sNx) (sRet (eB gSub' (eB gMod (eV 1) (eC (.int 23))) (eC (.int 7)))))))
def d_l_far : List D → Option R1 := fD 2 1 b_l_far
theorem sc_l_far : FnScope ["_law_cell", "_law_rest"] ["_law_cell"] (defScope s_l_far) := ⟨rfl, rfl, rfl, by decide +kernel, rfl, by decide +kernel, by decide +kernel⟩
theorem ok_l_far {f : Addr} {fd : FuncData} (F : Fun K "_law_far" "_law_far" s_l_far f fd) (T : Txt K mg c)  : FnOk P w K mg base (CXe P w) 3 f fd ["_law_cell"] (spD K c d_l_far) :=
  F.okD (k := 2) sc_l_far fun cdv A outer s H E hr => ⟨_, (pss_cons (ps_set (i := 1) sc_l_far.nd rfl (Or.inl rfl) (pe_op op_fdivB (pv 0) pe_int)) (pss_cons (ps_if (pt_cmpR op_eq (pe_op op_mod (pv 0) pe_int) pe_int (nomark _)) (pss_one (ps_ret (pe_op op_sub (pe_op op_mod (pe_op op_mulB (pv 1) (pe_op op_pow pe_int pe_int)) (pe_op op_add (pe_op op_mulB pe_int (pe_op op_pow pe_int pe_int)) pe_int)) (pe_op op_pow pe_int pe_int)))) pss_nil) (pss_cons (ps_if (pt_cmpR op_eq (pe_op op_mod (pv 0) pe_int) pe_int (nomark _)) (pss_one (ps_ret (pe_ix (ixK_list (K := K)) (pe_lst (pa_cons (pe_op op_pow pe_int pe_int) (pa_cons (pe_un un_neg (pe_op op_pow pe_int pe_int)) (pa_cons (pe_op op_pow pe_int pe_int) (pa_cons pe_int (pa_cons (pe_un un_neg pe_int) (pa_cons pe_int pa_nil))))))) (pe_op op_mod (pv 1) pe_int) (fun _ _ => rfl)))) pss_nil) (pss_one (ps_ret (pe_op op_sub (pe_op op_mod (pv 1) pe_int) pe_int)))))), (rf_Seq (rf_Set (rf_op ok_div rf_v rf_c)) (rf_Seq (rf_If' (rf_bT (rf_op ok_eq (rf_op ok_mod rf_v rf_c) rf_c)) (rf_Ret (rf_op ok_sub (rf_op ok_mod (rf_op ok_mul rf_v (rf_op ok_pow rf_c rf_c)) (rf_op ok_add (rf_op ok_mul rf_c (rf_op ok_pow rf_c rf_c)) rf_c)) (rf_op ok_pow rf_c rf_c))) rf_Nx) (rf_Seq (rf_If' (rf_bT (rf_op ok_eq (rf_op ok_mod rf_v rf_c) rf_c)) (rf_Ret (rf_op ok_ixL (rf_zN (rf_L (rf_aC (rf_op ok_pow rf_c rf_c) (rf_aC (rf_U ok_neg (rf_op ok_pow rf_c rf_c)) (rf_aC (rf_op ok_pow rf_c rf_c) (rf_aC rf_c (rf_aC (rf_U ok_neg rf_c) (rf_aC rf_c rf_aN)))))))) (rf_op ok_mod rf_v rf_c))) rf_Nx) (rf_Ret (rf_op ok_sub (rf_op ok_mod rf_v rf_c) rf_c)))))⟩
def b_l_spot_alike : SF := (sSeq (sIf (bOr (bNot (bZ (eIsiV 0 "tuple"))) (bZ (eB (gEq true) (eCV gLen 0) (eC (.int 4))))) (sRet (eC (.bl false))) sNx) (sSeq (sForT (eV 0)  (bName 2) (sIf (bNot (bZ (eCall0 d_l_whole (aC (eV 2) aN)))) (sRet (eC (.bl false))) sNx)) (sRet (eB (gEqL false) (eV 0) (eV 1)))))
def d_l_spot_alike : List D → Option R1 := fD 3 2 b_l_spot_alike
theorem sc_l_spot_alike : FnScope ["_law_found", "_law_due", "_law_x"] ["_law_found", "_law_due"] (defScope s_l_spot_alike) := ⟨rfl, rfl, rfl, by decide +kernel, rfl, by decide +kernel, by decide +kernel⟩
theorem ok_l_spot_alike {f : Addr} {fd : FuncData} (F : Fun K "_law_spot_alike" "_law_spot_alike" s_l_spot_alike f fd) (T : Txt K mg c) (G_l_whole : Own P w K mg base 3 "_law_whole" ["_law_found"] (spD K c d_l_whole)) : FnOk P w K mg base (CXe P w) 5 f fd ["_law_found", "_law_due"] (spD K c d_l_spot_alike) :=
  F.okD (k := 4) sc_l_spot_alike fun cdv A outer s H E hr => ⟨_, (pss_cons (ps_if (PW.pt (pw_or (pt_not (pt_val (pe_callB (callK_isi (K := K)) rfl T.z_isinstance bt_isinstance (pa_cons (pv 0) (pa_cons (pe_bltn (v := .ty "tuple") rfl T.z_tuple bt_tuple rfl) pa_nil))))) (pw_or1 (pt_cmpR op_ne (pe_callB (callK_len_seq (K := K)) rfl T.z_len bt_len (pa_cons (pv 0) pa_nil)) pe_int (nomark _))))) (pss_one (ps_ret pe_bl)) pss_nil) (pss_cons (ps_for PassesOwn.leaving rfl (pi_tup (pv 0)) (pg_name (i := 2) sc_l_spot_alike.nd rfl (Or.inl rfl)) (pss_one (ps_if (pt_not (pt_val (pe_own G_l_whole hr (by decide) pass0e (pa_cons (pv 2) pa_nil)))) (pss_one (ps_ret pe_bl)) pss_nil))) (pss_one (ps_ret (pe_cmpR (opK_eqL (K := K) (hu_of hr)) (pv 0) (pv 1) (nomark _)))))), (rf_Seq (rf_If' (rf_bOr (rf_bNot (rf_bZ rf_IsiV)) (rf_bT (rf_op ok_ne (rf_CV ok_len) rf_c))) (rf_Ret rf_c) rf_Nx) (rf_Seq (rf_ForT rf_v (rf_gName (k := 3) (by decide)) (rf_If' (rf_bNot (rf_bZ (rf_Call0 (rf_aC rf_v rf_aN)))) (rf_Ret rf_c) rf_Nx)) (rf_Ret (rf_op ok_eqL rf_v rf_v))))⟩
def b_l_kinds : SF := (sSeq (sSet 1 (eCB (gIsiT xT) (aC (eV 0) (aC (eT (aC (eC (.cls "BadSide")) (aC (eC (.cls "NoText")) (aC (eC (.cls "TooMany")) (aC (eC (.cls "Ring")) (aC (eC (.cls "NoWeighing")) (aC (eC (.cls "NoPicker")) (aC (eC (.cls "NoSheet")) (aC (eC (.cls "NoDrawing")) aN))))))))) aN)))) (sSeq (sSet 2 (eCB (gIsiT xT) (aC (eV 0) (aC (eT (aC (eC (.cls "NoDeed")) (aC (eC (.cls "NoWare")) (aC (eC (.cls "Full")) (aC (eC (.cls "NothingDone")) (aC (eC (.cls "TooWide")) (aC (eC (.cls "Hangs")) (aC (eC (.cls "BadPlan")) (aC (eC (.cls "BadPacking")) aN))))))))) aN)))) (sRetN (eL (aC (eAnd (eCB (gIsiX x1 x2) (aC (eV 0) (aC (eC (.cls "CrateError")) aN))) (eCB (gIsiX x1 x2) (aC (eV 0) (aC (eC (.ty "ValueError")) aN)))) (aC (eOr (eV 1) (eV 2)) aN))))))
def d_l_kinds : List D → Option R1 := fD 3 1 b_l_kinds
theorem sc_l_kinds : FnScope ["_law_e", "_law_one", "_law_two"] ["_law_e"] (defScope s_l_kinds) := ⟨rfl, rfl, rfl, by decide +kernel, rfl, by decide +kernel, by decide +kernel⟩
theorem ok_l_kinds {f : Addr} {fd : FuncData} (F : Fun K "_law_kinds" "_law_kinds" s_l_kinds f fd) (T : Txt K mg c)  : FnOkW P w K mg base 3 f fd ["_law_e"] (spD K c d_l_kinds) :=
  F.okWD (k := 2) sc_l_kinds fun cdv A outer s H hr => ⟨_, (pss_cons (ps_set (i := 1) sc_l_kinds.nd rfl (Or.inl rfl) (pe_callB (callK_isiT (K := K)) rfl T.z_isinstance bt_isinstance (pa_cons (pv 0) (pa_cons (pe_tup (pa_cons (pe_glob (v := .ref (c "BadSide")) rfl T.m_BadSide rfl) (pa_cons (pe_glob (v := .ref (c "NoText")) rfl T.m_NoText rfl) (pa_cons (pe_glob (v := .ref (c "TooMany")) rfl T.m_TooMany rfl) (pa_cons (pe_glob (v := .ref (c "Ring")) rfl T.m_Ring rfl) (pa_cons (pe_glob (v := .ref (c "NoWeighing")) rfl T.m_NoWeighing rfl) (pa_cons (pe_glob (v := .ref (c "NoPicker")) rfl T.m_NoPicker rfl) (pa_cons (pe_glob (v := .ref (c "NoSheet")) rfl T.m_NoSheet rfl) (pa_cons (pe_glob (v := .ref (c "NoDrawing")) rfl T.m_NoDrawing rfl) pa_nil))))))))) pa_nil)))) (pss_cons (ps_set (i := 2) sc_l_kinds.nd rfl (Or.inl rfl) (pe_callB (callK_isiT (K := K)) rfl T.z_isinstance bt_isinstance (pa_cons (pv 0) (pa_cons (pe_tup (pa_cons (pe_glob (v := .ref (c "NoDeed")) rfl T.m_NoDeed rfl) (pa_cons (pe_glob (v := .ref (c "NoWare")) rfl T.m_NoWare rfl) (pa_cons (pe_glob (v := .ref (c "Full")) rfl T.m_Full rfl) (pa_cons (pe_glob (v := .ref (c "NothingDone")) rfl T.m_NothingDone rfl) (pa_cons (pe_glob (v := .ref (c "TooWide")) rfl T.m_TooWide rfl) (pa_cons (pe_glob (v := .ref (c "Hangs")) rfl T.m_Hangs rfl) (pa_cons (pe_glob (v := .ref (c "BadPlan")) rfl T.m_BadPlan rfl) (pa_cons (pe_glob (v := .ref (c "BadPacking")) rfl T.m_BadPacking rfl) pa_nil))))))))) pa_nil)))) (pss_one (ps_ret (pe_lst (pa_cons (pe_and (pe_callB (callK_isi (K := K)) rfl T.z_isinstance bt_isinstance (pa_cons (pv 0) (pa_cons (pe_glob (v := .ref (c "CrateError")) rfl T.m_CrateError rfl) pa_nil))) (pe_one (pe_callB (callK_isi (K := K)) rfl T.z_isinstance bt_isinstance (pa_cons (pv 0) (pa_cons (pe_bltn (v := .ty "ValueError") rfl T.z_ValueError bt_ValueError rfl) pa_nil))))) (pa_cons (pe_or (pv 1) (pe_one (pv 2))) pa_nil))))))), (rf_Seq (rf_Set (rf_CB (ok_isiT (xT_ok T)) (rf_aC rf_v (rf_aC (rf_T (rf_aC rf_c (rf_aC rf_c (rf_aC rf_c (rf_aC rf_c (rf_aC rf_c (rf_aC rf_c (rf_aC rf_c (rf_aC rf_c rf_aN))))))))) rf_aN)))) (rf_Seq (rf_Set (rf_CB (ok_isiT (xT_ok T)) (rf_aC rf_v (rf_aC (rf_T (rf_aC rf_c (rf_aC rf_c (rf_aC rf_c (rf_aC rf_c (rf_aC rf_c (rf_aC rf_c (rf_aC rf_c (rf_aC rf_c rf_aN))))))))) rf_aN)))) (rf_RetN (rf_L (rf_aC (rf_And (rf_CB (ok_isiX (x1_ok T) (x2_ok T)) (rf_aC rf_v (rf_aC rf_c rf_aN))) (rf_CB (ok_isiX (x1_ok T) (x2_ok T)) (rf_aC rf_v (rf_aC rf_c rf_aN)))) (rf_aC (rf_Or rf_v rf_v) rf_aN))))))⟩
def b_l_spot : SF := (sSeq (sTryAs 4 3 xm_BadTurn (sSetC 2 d_spot_of (aC (eV 0) (aC (eV 1) aN))) (sSetC0 2 d_l_kinds (aC (eV 3) aN))) (sRetV 2))
def d_l_spot : List D → Option R1 := fD 4 2 b_l_spot
theorem sc_l_spot : FnScope ["_law_ware_here", "_law_place", "_law_found", "_law_e"] ["_law_ware_here", "_law_place"] (defScope s_l_spot) := ⟨rfl, rfl, rfl, by decide +kernel, rfl, by decide +kernel, by decide +kernel⟩
theorem ok_l_spot {f : Addr} {fd : FuncData} (F : Fun K "_law_spot" "_law_spot" s_l_spot f fd) (T : Txt K mg c) (G_spot_of : Own P w K mg base 5 "spot_of" ["ware", "place"] (spD K c d_spot_of)) (G_l_kinds : OwnW P w K mg base 3 "_law_kinds" ["_law_e"] (spD K c d_l_kinds)) : FnOk P w K mg base (CXe P w) 7 f fd ["_law_ware_here", "_law_place"] (spD K c d_l_spot) :=
  F.okD (k := 6) sc_l_spot fun cdv A outer s H E hr => ⟨_, (pss_cons (ps_tryAs rfl T.m_BadTurn sc_l_spot.nd (i := 3) rfl (fun Eh E2 pins acc po => (pss_one (ps_set (i := 2) sc_l_spot.nd rfl (Or.inl rfl) (pe_own G_spot_of hr (by decide) (XAcc.passes acc) (pa_cons (pv 0) (pa_cons (pv 1) pa_nil)))))) (fun a => (pss_one (ps_set (i := 2) sc_l_spot.nd rfl (Or.inl rfl) (pe_ownW G_l_kinds (hr.w _) (pa_cons (pv 3) pa_nil)))))) (pss_one (ps_ret (pv 2)))), (rf_Seq (rf_TryAs (xm_BadTurn_ok T) (fun Eh => (rf_SetC (rf_aC rf_v (rf_aC rf_v rf_aN)))) (fun a => (rf_SetW (rf_aC rf_v rf_aN)))) rf_RetV)⟩
def b_l_good : SF := (sSeq (sSetC0 2 d_l_spot (aC (eV 0) (aC (eV 1) aN))) (sSeq (sIf (bAnd (bZ (eB gIxT (eV 1) (eC (.int 2)))) (bNot (bZ (eB gIxT (eV 0) (eC (.int 2)))))) (sRet (eBV (gEqL false) 2 (zN (eL (aC (eC (.bl true)) (aC (eC (.bl false)) aN)))))) sNx) (sSeq (sIf (bZ (eB gIxT (eV 1) (eC (.int 2)))) (sRetC0 d_l_spot_alike (aC (eV 2) (aC (eT (aC (eB gIxT (eV 1) (eC (.int 0))) (aC (eB gIxT (eV 1) (eC (.int 1))) (aC (eB gAdd (eB gIxT (eV 1) (eC (.int 0))) (eB gIxT (eV 0) (eC (.int 1)))) (aC (eB gAdd (eB gIxT (eV 1) (eC (.int 1))) (eB gIxT (eV 0) (eC (.int 0)))) aN))))) aN))) sNx) (sRetC0 d_l_spot_alike (aC (eV 2) (aC (eT (aC (eB gIxT (eV 1) (eC (.int 0))) (aC (eB gIxT (eV 1) (eC (.int 1))) (aC (eB gAdd (eB gIxT (eV 1) (eC (.int 0))) (eB gIxT (eV 0) (eC (.int 0)))) (aC (eB gAdd (eB gIxT (eV 1) (eC (.int 1))) (eB gIxT (eV 0) (eC (.int 1)))) aN))))) aN))))))
def d_l_good : List D → Option R1 := fD 3 2 b_l_good
theorem sc_l_good : FnScope ["_law_ware_here", "_law_place", "_law_found"] ["_law_ware_here", "_law_place"] (defScope s_l_good) := ⟨rfl, rfl, rfl, by decide +kernel, rfl, by decide +kernel, by decide +kernel⟩
theorem ok_l_good {f : Addr} {fd : FuncData} (F : Fun K "_law_good" "_law_good" s_l_good f fd) (T : Txt K mg c) (G_l_spot : Own P w K mg base 7 "_law_spot" ["_law_ware_here", "_law_place"] (spD K c d_l_spot)) (G_l_spot_alike : Own P w K mg base 5 "_law_spot_alike" ["_law_found", "_law_due"] (spD K c d_l_spot_alike)) : FnOk P w K mg base (CXe P w) 9 f fd ["_law_ware_here", "_law_place"] (spD K c d_l_good) :=
  F.okD (k := 8) sc_l_good fun cdv A outer s H E hr => ⟨_, (pss_cons (ps_set (i := 2) sc_l_good.nd rfl (Or.inl rfl) (pe_own G_l_spot hr (by decide) pass0e (pa_cons (pv 0) (pa_cons (pv 1) pa_nil)))) (pss_cons (ps_if (PW.pt (pw_and (pt_val (pe_ix (ixK_tup (K := K)) (pv 1) pe_int (fun _ _ => rfl))) (pw_and1 (pt_not (pt_val (pe_ix (ixK_tup (K := K)) (pv 0) pe_int (fun _ _ => rfl))))))) (pss_one (ps_ret (pe_cmpR (opK_eqL (K := K) (hu_of hr)) (pv 2) (pe_lst (pa_cons pe_bl (pa_cons pe_bl pa_nil))) (nomark _)))) pss_nil) (pss_cons (ps_if (pt_val (pe_ix (ixK_tup (K := K)) (pv 1) pe_int (fun _ _ => rfl))) (pss_one (ps_ret (pe_own G_l_spot_alike hr (by decide) pass0e (pa_cons (pv 2) (pa_cons (pe_tup (pa_cons (pe_ix (ixK_tup (K := K)) (pv 1) pe_int (fun _ _ => rfl)) (pa_cons (pe_ix (ixK_tup (K := K)) (pv 1) pe_int (fun _ _ => rfl)) (pa_cons (pe_op op_add (pe_ix (ixK_tup (K := K)) (pv 1) pe_int (fun _ _ => rfl)) (pe_ix (ixK_tup (K := K)) (pv 0) pe_int (fun _ _ => rfl))) (pa_cons (pe_op op_add (pe_ix (ixK_tup (K := K)) (pv 1) pe_int (fun _ _ => rfl)) (pe_ix (ixK_tup (K := K)) (pv 0) pe_int (fun _ _ => rfl))) pa_nil))))) pa_nil))))) pss_nil) (pss_one (ps_ret (pe_own G_l_spot_alike hr (by decide) pass0e (pa_cons (pv 2) (pa_cons (pe_tup (pa_cons (pe_ix (ixK_tup (K := K)) (pv 1) pe_int (fun _ _ => rfl)) (pa_cons (pe_ix (ixK_tup (K := K)) (pv 1) pe_int (fun _ _ => rfl)) (pa_cons (pe_op op_add (pe_ix (ixK_tup (K := K)) (pv 1) pe_int (fun _ _ => rfl)) (pe_ix (ixK_tup (K := K)) (pv 0) pe_int (fun _ _ => rfl))) (pa_cons (pe_op op_add (pe_ix (ixK_tup (K := K)) (pv 1) pe_int (fun _ _ => rfl)) (pe_ix (ixK_tup (K := K)) (pv 0) pe_int (fun _ _ => rfl))) pa_nil))))) pa_nil)))))))), (rf_Seq (rf_SetC0 (rf_aC rf_v (rf_aC rf_v rf_aN))) (rf_Seq (rf_If' (rf_bAnd (rf_bZ (rf_op ok_ixT rf_v rf_c)) (rf_bNot (rf_bZ (rf_op ok_ixT rf_v rf_c)))) (rf_Ret (rf_opV ok_eqL (rf_zN (rf_L (rf_aC rf_c (rf_aC rf_c rf_aN)))))) rf_Nx) (rf_Seq (rf_If' (rf_bZ (rf_op ok_ixT rf_v rf_c)) (rf_RetC0 (rf_aC rf_v (rf_aC (rf_T (rf_aC (rf_op ok_ixT rf_v rf_c) (rf_aC (rf_op ok_ixT rf_v rf_c) (rf_aC (rf_op ok_add (rf_op ok_ixT rf_v rf_c) (rf_op ok_ixT rf_v rf_c)) (rf_aC (rf_op ok_add (rf_op ok_ixT rf_v rf_c) (rf_op ok_ixT rf_v rf_c)) rf_aN))))) rf_aN))) rf_Nx) (rf_RetC0 (rf_aC rf_v (rf_aC (rf_T (rf_aC (rf_op ok_ixT rf_v rf_c) (rf_aC (rf_op ok_ixT rf_v rf_c) (rf_aC (rf_op ok_add (rf_op ok_ixT rf_v rf_c) (rf_op ok_ixT rf_v rf_c)) (rf_aC (rf_op ok_add (rf_op ok_ixT rf_v rf_c) (rf_op ok_ixT rf_v rf_c)) rf_aN))))) rf_aN))))))⟩
def b_law : SF := (sSeq (sSetC0 1 d_l_ware (aC (eCall0 d_l_cell_at (aC (eV 0) (aC (eC (.int 0)) aN))) aN)) (sSeq (sSetC0 2 d_l_far (aC (eCall0 d_l_cell_at (aC (eV 0) (aC (eC (.int 1)) aN))) aN)) (sSeq (sSetC0 3 d_l_far (aC (eCall0 d_l_cell_at (aC (eV 0) (aC (eC (.int 2)) aN))) aN)) (sSeq (sSet 4 (eB (gEq false) (eB gMod (eCall0 d_l_cell_at (aC (eV 0) (aC (eC (.int 3)) aN))) (eC (.int 2))) (eC (.int 1)))) (sSeq (sSetC0 5 d_l_ware (aC (eCall0 d_l_cell_at (aC (eV 0) (aC (eC (.int 4)) aN))) aN)) (sSeq (sSetC0 6 d_l_far (aC (eCall0 d_l_cell_at (aC (eV 0) (aC (eC (.int 5)) aN))) aN)) (sSeq (sIf (bOr (bNot (bZ (eCall0 d_l_good (aC (eV 1) (aC (eT (aC (eV 2) (aC (eV 3) (aC (eV 4) aN)))) aN))))) (bNot (bZ (eCall0 d_l_good (aC (eV 5) (aC (eT (aC (eV 6) (aC (eV 2) (aC (eNot (eV 4)) aN)))) aN)))))) (sRet (eC (.bl false))) sNx) (sSeq (sIf (bOr (bNot (bZ (eCall0 d_l_good (aC (eT (aC (eB gIxT (eV 5) (eC (.int 0))) (aC (eB gIxT (eV 1) (eC (.int 1))) (aC (eC (.bl false)) aN)))) (aC (eT (aC (eV 3) (aC (eV 6) (aC (eC (.bl true)) aN)))) aN))))) (bNot (bZ (eCall0 d_l_good (aC (eV 1) (aC (eT (aC (eV 2) (aC (eV 3) (aC (eNot (eV 4)) aN)))) aN)))))) (sRet (eC (.bl false))) sNx) (sRetC0 d_l_good (aC (eV 1) (aC (eT (aC (eV 2) (aC (eV 3) (aC (eV 4) aN)))) aN)))))))))))
def d_law : List D → Option R1 := fD 7 1 b_law
theorem sc_law : FnScope ["_law_script", "_law_ware_here", "_law_x", "_law_y", "_law_lie", "_law_other", "_law_z"] ["_law_script"] (defScope s_law) := ⟨rfl, rfl, rfl, by decide +kernel, rfl, by decide +kernel, by decide +kernel⟩
theorem ok_law0 {f : Addr} {fd : FuncData} (F : Fun K "law" "law" s_law f fd) (T : Txt K mg c) (G_l_ware : Own P w K mg base 5 "_law_ware" ["_law_cell"] (spD K c d_l_ware)) (G_l_cell_at : Own P w K mg base 3 "_law_cell_at" ["_law_script", "_law_k"] (spD K c d_l_cell_at)) (G_l_far : Own P w K mg base 3 "_law_far" ["_law_cell"] (spD K c d_l_far)) (G_l_good : Own P w K mg base 9 "_law_good" ["_law_ware_here", "_law_place"] (spD K c d_l_good)) : FnOk P w K mg base (CXe P w) 11 f fd ["_law_script"] (spD K c d_law) :=
  F.okD (k := 10) sc_law fun cdv A outer s H E hr => ⟨_, (pss_cons (ps_set (i := 1) sc_law.nd rfl (Or.inl rfl) (pe_own G_l_ware hr (by decide) pass0e (pa_cons (pe_own G_l_cell_at hr (by decide) pass0e (pa_cons (pv 0) (pa_cons pe_int pa_nil))) pa_nil))) (pss_cons (ps_set (i := 2) sc_law.nd rfl (Or.inl rfl) (pe_own G_l_far hr (by decide) pass0e (pa_cons (pe_own G_l_cell_at hr (by decide) pass0e (pa_cons (pv 0) (pa_cons pe_int pa_nil))) pa_nil))) (pss_cons (ps_set (i := 3) sc_law.nd rfl (Or.inl rfl) (pe_own G_l_far hr (by decide) pass0e (pa_cons (pe_own G_l_cell_at hr (by decide) pass0e (pa_cons (pv 0) (pa_cons pe_int pa_nil))) pa_nil))) (pss_cons (ps_set (i := 4) sc_law.nd rfl (Or.inl rfl) (pe_cmpR op_eq (pe_op op_mod (pe_own G_l_cell_at hr (by decide) pass0e (pa_cons (pv 0) (pa_cons pe_int pa_nil))) pe_int) pe_int (nomark _))) (pss_cons (ps_set (i := 5) sc_law.nd rfl (Or.inl rfl) (pe_own G_l_ware hr (by decide) pass0e (pa_cons (pe_own G_l_cell_at hr (by decide) pass0e (pa_cons (pv 0) (pa_cons pe_int pa_nil))) pa_nil))) (pss_cons (ps_set (i := 6) sc_law.nd rfl (Or.inl rfl) (pe_own G_l_far hr (by decide) pass0e (pa_cons (pe_own G_l_cell_at hr (by decide) pass0e (pa_cons (pv 0) (pa_cons pe_int pa_nil))) pa_nil))) (pss_cons (ps_if (PW.pt (pw_or (pt_not (pt_val (pe_own G_l_good hr (by decide) pass0e (pa_cons (pv 1) (pa_cons (pe_tup (pa_cons (pv 2) (pa_cons (pv 3) (pa_cons (pv 4) pa_nil)))) pa_nil))))) (pw_or1 (pt_not (pt_val (pe_own G_l_good hr (by decide) pass0e (pa_cons (pv 5) (pa_cons (pe_tup (pa_cons (pv 6) (pa_cons (pv 2) (pa_cons (pe_not (pv 4)) pa_nil)))) pa_nil)))))))) (pss_one (ps_ret pe_bl)) pss_nil) (pss_cons (ps_if (PW.pt (pw_or (pt_not (pt_val (pe_own G_l_good hr (by decide) pass0e (pa_cons (pe_tup (pa_cons (pe_ix (ixK_tup (K := K)) (pv 5) pe_int (fun _ _ => rfl)) (pa_cons (pe_ix (ixK_tup (K := K)) (pv 1) pe_int (fun _ _ => rfl)) (pa_cons pe_bl pa_nil)))) (pa_cons (pe_tup (pa_cons (pv 3) (pa_cons (pv 6) (pa_cons pe_bl pa_nil)))) pa_nil))))) (pw_or1 (pt_not (pt_val (pe_own G_l_good hr (by decide) pass0e (pa_cons (pv 1) (pa_cons (pe_tup (pa_cons (pv 2) (pa_cons (pv 3) (pa_cons (pe_not (pv 4)) pa_nil)))) pa_nil)))))))) (pss_one (ps_ret pe_bl)) pss_nil) (pss_one (ps_ret (pe_own G_l_good hr (by decide) pass0e (pa_cons (pv 1) (pa_cons (pe_tup (pa_cons (pv 2) (pa_cons (pv 3) (pa_cons (pv 4) pa_nil)))) pa_nil))))))))))))), (rf_Seq (rf_SetC0 (rf_aC (rf_Call0 (rf_aC rf_v (rf_aC rf_c rf_aN))) rf_aN)) (rf_Seq (rf_SetC0 (rf_aC (rf_Call0 (rf_aC rf_v (rf_aC rf_c rf_aN))) rf_aN)) (rf_Seq (rf_SetC0 (rf_aC (rf_Call0 (rf_aC rf_v (rf_aC rf_c rf_aN))) rf_aN)) (rf_Seq (rf_Set (rf_op ok_eq (rf_op ok_mod (rf_Call0 (rf_aC rf_v (rf_aC rf_c rf_aN))) rf_c) rf_c)) (rf_Seq (rf_SetC0 (rf_aC (rf_Call0 (rf_aC rf_v (rf_aC rf_c rf_aN))) rf_aN)) (rf_Seq (rf_SetC0 (rf_aC (rf_Call0 (rf_aC rf_v (rf_aC rf_c rf_aN))) rf_aN)) (rf_Seq (rf_If' (rf_bOr (rf_bNot (rf_bZ (rf_Call0 (rf_aC rf_v (rf_aC (rf_T (rf_aC rf_v (rf_aC rf_v (rf_aC rf_v rf_aN)))) rf_aN))))) (rf_bNot (rf_bZ (rf_Call0 (rf_aC rf_v (rf_aC (rf_T (rf_aC rf_v (rf_aC rf_v (rf_aC (rf_Not rf_v) rf_aN)))) rf_aN)))))) (rf_Ret rf_c) rf_Nx) (rf_Seq (rf_If' (rf_bOr (rf_bNot (rf_bZ (rf_Call0 (rf_aC (rf_T (rf_aC (rf_op ok_ixT rf_v rf_c) (rf_aC (rf_op ok_ixT rf_v rf_c) (rf_aC rf_c rf_aN)))) (rf_aC (rf_T (rf_aC rf_v (rf_aC rf_v (rf_aC rf_c rf_aN)))) rf_aN))))) (rf_bNot (rf_bZ (rf_Call0 (rf_aC rf_v (rf_aC (rf_T (rf_aC rf_v (rf_aC rf_v (rf_aC (rf_Not rf_v) rf_aN)))) rf_aN)))))) (rf_Ret rf_c) rf_Nx) (rf_RetC0 (rf_aC rf_v (rf_aC (rf_T (rf_aC rf_v (rf_aC rf_v (rf_aC rf_v rf_aN)))) rf_aN)))))))))))⟩
end Law
namespace Law
open PySem L2 PyProof.Rows
set_option maxRecDepth 100000
set_option maxHeartbeats 4000000
variable {P : Program} {w : World} {K : PySem.W.Frag} {mg : Str → Option Value} {base : Heap} {c : Str → Addr}
local macro_rules | `(tactic| walk_at "ev") => `(tactic| simp (decide := true) only [fD_eq, sSeq_eq, seqR_nx, seqR_rt, seqR_ro, seqR_ex, seqR_bk, seqR_ct, seqR_no, seqR_ite, bnd_ite, sbn_ite, opt_ite, toZ_ite, toZ0_ite, toSet_ite, toSet0_ite, toRet_ite, toRet0_ite, toZ_ret, toZ_own, toZ_ex, toZ0_ret, toZ0_own, toSet_ret, toSet_own, toSet_ex, toSet0_ret, toSet0_own, toRet_ret, toRet_own, toRet_ex, toRet0_ret, toRet0_own, finR_nx, finR_rt, finR_ro, finR_ex, finR_ite, forK_nx, forK_ct, forK_bk, forK_rt, forK_ro, forK_ex, forK_ite, forD_nil, forD_step, optR_some, sTryAs_eq, tryR_nx, tryR_ex, tryR_rt, tryR_ro, tryR_ite, susR_nx, susR_rt, susR_ro, gEqL, eqDs, eqD, flatD, List.all_cons, List.all_nil, Bool.and_self, Bool.and_true, Bool.true_and, beq_self_eq_true, gAdd_eq, gSub_eq, gLt_eq, gLe_eq, gGt_eq, gGe_eq, gMul_l, gMul_r, gDiv_eq, gMod_eq, gPow_eq, sIf, sSet, sSetN, sSetC, sSetC0, sRet, sRetN, sRetC, sRetC0, sRetV, sRetO, sNx, sBk, sCt, sAsg, sRaise, sEx, sApp, sSub, sForT, sFor, sForR, put, noHd, eC, eV, eB, eBV, eBW, eBVV, eT, eL, zN, aN, aC, eCall, eCall0, eNot, eAnd, eOr, eIf, nIf, eU, gNeg, eCB, eCV, nCB, nCV, nB, gCat, g1, gLen, gAbs, gList, bZ, bNot, bAnd, bOr, bTrue, bName, bTup, bEach, bnd_ok, bnd_ex, bnd_no, sbn_ok, sbn_ex, sbn_no, opt_some, opt_none, look, gIxT, gIxL, gEq_int, gEq_bl, gEq_str, gIsN, eIsiV, gIsiV, tyN, eChain, seqL, atI_0, atI_1, atI_2, atI_3, atI_4, atI_5, atI_6, List.map_cons, List.map_nil, List.length_cons, List.length_nil, List.cons_append, List.nil_append, List.replicate_succ, List.replicate_zero, List.getElem?_cons_zero, List.getElem?_cons_succ, List.set_cons_zero, List.set_cons_succ, Nat.reduceAdd, Nat.reduceSub, if_true, if_false, Bool.not_true, Bool.not_false, Nat.zero_add, Bool.false_eq_true, decide_eq_true_eq, Bool.not_eq_true', decide_eq_false_iff_not, Option.map_some, Option.map_none, ite_self, xm_BadTurn])
local macro_rules | `(tactic| walk_at "eh") => `(tactic| simp (decide := true) only [fD_eq, sSeq_eq, seqR_nx, seqR_rt, seqR_ro, seqR_ex, seqR_bk, seqR_ct, seqR_no, seqR_ite, bnd_ite, sbn_ite, opt_ite, toZ_ite, toZ0_ite, toSet_ite, toSet0_ite, toRet_ite, toRet0_ite, toZ_ret, toZ_own, toZ_ex, toZ0_ret, toZ0_own, toSet_ret, toSet_own, toSet_ex, toSet0_ret, toSet0_own, toRet_ret, toRet_own, toRet_ex, toRet0_ret, toRet0_own, finR_nx, finR_rt, finR_ro, finR_ex, finR_ite, forK_nx, forK_ct, forK_bk, forK_rt, forK_ro, forK_ex, forK_ite, forD_nil, forD_step, optR_some, sTryAs_eq, tryR_nx, tryR_ex, tryR_rt, tryR_ro, tryR_ite, susR_nx, susR_rt, susR_ro, gEqL, eqDs, eqD, flatD, List.all_cons, List.all_nil, Bool.and_self, Bool.and_true, Bool.true_and, beq_self_eq_true, gAdd_eq, gSub_eq, gLt_eq, gLe_eq, gGt_eq, gGe_eq, gMul_l, gMul_r, gDiv_eq, gMod_eq, gPow_eq, sIf, sSet, sSetN, sSetC, sSetC0, sRet, sRetN, sRetC, sRetC0, sRetV, sRetO, sNx, sBk, sCt, sAsg, sRaise, sEx, sApp, sSub, sForT, sFor, sForR, put, noHd, eC, eV, eB, eBV, eBW, eBVV, eT, eL, zN, aN, aC, eCall, eCall0, eNot, eAnd, eOr, eIf, nIf, eU, gNeg, eCB, eCV, nCB, nCV, nB, gCat, g1, gLen, gAbs, gList, bZ, bNot, bAnd, bOr, bTrue, bName, bTup, bEach, bnd_ok, bnd_ex, bnd_no, sbn_ok, sbn_ex, sbn_no, opt_some, opt_none, look, gIxT, gIxL, gEq_int, gEq_bl, gEq_str, gIsN, eIsiV, gIsiV, tyN, eChain, seqL, atI_0, atI_1, atI_2, atI_3, atI_4, atI_5, atI_6, List.map_cons, List.map_nil, List.length_cons, List.length_nil, List.cons_append, List.nil_append, List.replicate_succ, List.replicate_zero, List.getElem?_cons_zero, List.getElem?_cons_succ, List.set_cons_zero, List.set_cons_succ, Nat.reduceAdd, Nat.reduceSub, if_true, if_false, Bool.not_true, Bool.not_false, Nat.zero_add, Bool.false_eq_true, decide_eq_true_eq, Bool.not_eq_true', decide_eq_false_iff_not, Option.map_some, Option.map_none, ite_self, xm_BadTurn, *])
theorem cell_ok {ns : List Int} {k : Int} (hk : 0 ≤ k) : d_l_cell_at [.scr ns, .int k] = some (.ret (.int (cellAt ns k))) := by
  rw [← cell_eq hk]
  unfold d_l_cell_at b_l_cell_at
  walk_at "ev"
  split
  · cases atI ns k <;> rfl
  · rfl
theorem side_ok {i : Int} (h : Fits i) : ∃ v, d_l_side [.int i] = some (.ret (.int v)) := by
  have hm : gMul (.int (i / 5)) (.int (7919 ^ Int.toNat 11)) = some (.int (i / 5 * 7919 ^ Int.toNat 11)) := gMul_eq (h.div.mul (fits_lit (by decide +kernel)))
  unfold d_l_side b_l_side
  walk_at "ev"
  rw [hm]
  walk_at "ev"
  split
  · exact ⟨_, rfl⟩
  split
  · exact ⟨_, rfl⟩
  split
  · exact ⟨_, rfl⟩
  exact ⟨_, rfl⟩
theorem ware_ok (i : Int) : ∃ w h t, d_l_ware [.int i] = some (.ret (.tup [.int w, .int h, .bl t])) := by
  have f1 : Fits (i % 10 ^ 60) := .mod (by decide) fits_lit
  obtain ⟨a, ha⟩ := side_ok (i := i % 10 ^ Int.toNat 60) f1
  have f2 : Fits ((i % 10 ^ Int.toNat 60 * 48271 + 29) % 2147483647 / 12) := (Fits.mod (by decide) fits_lit).div
  obtain ⟨b, hb⟩ := side_ok f2
  have f3 : Fits (i % 10 ^ 60 * 69621 + 3) := (fits_lit (i := 10 ^ 60 * 69622)).le (by
    have h1 := Int.emod_nonneg i (show (10 ^ 60 : Int) ≠ 0 by decide)
    have h2 := Int.emod_lt_of_pos i (show (0 : Int) < 10 ^ 60 by decide)
    omega)
  obtain ⟨c', hc⟩ := side_ok (i := i % 10 ^ Int.toNat 60 * 69621 + 3) f3
  unfold d_l_ware b_l_ware
  walk_at "eh"
  split
  · split
    · exact ⟨_, _, _, rfl⟩
    · exact ⟨_, _, _, rfl⟩
  · split
    · exact ⟨_, _, _, rfl⟩
    · exact ⟨_, _, _, rfl⟩
theorem far_ok {i : Int} (h : Fits i) : ∃ v, d_l_far [.int i] = some (.ret (.int v)) := by
  have hm : gMul (.int (i / 3)) (.int (7919 ^ Int.toNat 11)) = some (.int (i / 3 * 7919 ^ Int.toNat 11)) := gMul_eq (h.div.mul (fits_lit (by decide +kernel)))
  have h1 := Int.emod_nonneg (i / 3) (show (6 : Int) ≠ 0 by decide)
  have h2 := Int.emod_lt_of_pos (i / 3) (show (0 : Int) < 6 by decide)
  unfold d_l_far b_l_far
  walk_at "ev"
  rw [hm]
  walk_at "ev"
  split
  · exact ⟨_, rfl⟩
  split
  · rcases (show i / 3 % 6 = 0 ∨ i / 3 % 6 = 1 ∨ i / 3 % 6 = 2 ∨ i / 3 % 6 = 3 ∨ i / 3 % 6 = 4 ∨ i / 3 % 6 = 5 by omega) with e | e | e | e | e | e <;> (rw [e]; walk_at "ev"; exact ⟨_, rfl⟩)
  · exact ⟨_, rfl⟩
theorem sides_eq (w h : Int) (t l : Bool) : d_sides_of [.tup [.int w, .int h, .bl t], .bl l] = if l = true then (if t = true then some (.ret (.tup [.int h, .int w])) else some (.ex "BadTurn")) else some (.ret (.tup [.int w, .int h])) := by
  unfold d_sides_of b_sides_of
  cases l <;> cases t <;> rfl
theorem spot_eq (w h x y : Int) (t l : Bool) : d_spot_of [.tup [.int w, .int h, .bl t], .tup [.int x, .int y, .bl l]] = if l = true then (if t = true then some (.ret (.tup [.int x, .int y, .int (x + h), .int (y + w)])) else some (.ex "BadTurn")) else some (.ret (.tup [.int x, .int y, .int (x + w), .int (y + h)])) := by
  have e := sides_eq w h t l
  unfold d_spot_of b_spot_of
  cases l <;> cases t <;> (simp only [if_true, if_false, Bool.false_eq_true] at e; walk_at "eh")
theorem kinds_eq : d_l_kinds [.exc "BadTurn"] = some (.own [.bl true, .bl false]) := by
  unfold d_l_kinds b_l_kinds
  rfl
theorem lspot_eq (w h x y : Int) (t l : Bool) : d_l_spot [.tup [.int w, .int h, .bl t], .tup [.int x, .int y, .bl l]] = if l = true then (if t = true then some (.ret (.tup [.int x, .int y, .int (x + h), .int (y + w)])) else some (.own [.bl true, .bl false])) else some (.ret (.tup [.int x, .int y, .int (x + w), .int (y + h)])) := by
  have e := spot_eq w h x y t l
  have k := kinds_eq
  unfold d_l_spot b_l_spot
  cases l <;> cases t <;> (simp only [if_true, if_false, Bool.false_eq_true] at e; walk_at "eh")
theorem alike_ok (a b x y : Int) : d_l_spot_alike [.tup [.int a, .int b, .int x, .int y], .tup [.int a, .int b, .int x, .int y]] = some (.ret (.bl true)) := by
  have k : ∀ i : Int, d_l_whole [.int i] = some (.ret (.bl true)) := fun i => rfl
  unfold d_l_spot_alike b_l_spot_alike
  walk_at "eh"
theorem good_ok (w h x y : Int) (t l : Bool) : d_l_good [.tup [.int w, .int h, .bl t], .tup [.int x, .int y, .bl l]] = some (.ret (.bl true)) := by
  have e := lspot_eq w h x y t l
  have k := alike_ok
  unfold d_l_good b_l_good
  cases l <;> cases t <;> (simp only [if_true, if_false, Bool.false_eq_true] at e; walk_at "eh")
theorem main (ns : List Int) (hl : ns.length ≤ 63) (hb : ∀ m ∈ ns, Builtin.Int.intBits m ≤ 2 ^ 20) : d_law [.scr ns] = some (.ret (.bl true)) := by
  obtain ⟨w, h, t, e1⟩ := ware_ok (cellAt ns 0)
  obtain ⟨x, e2⟩ := far_ok (fits_cell hb 1)
  obtain ⟨y, e3⟩ := far_ok (fits_cell hb 2)
  obtain ⟨w', h', t', e4⟩ := ware_ok (cellAt ns 4)
  obtain ⟨z, e5⟩ := far_ok (fits_cell hb 5)
  have c := fun (k : Int) (hk : 0 ≤ k) => cell_ok (ns := ns) hk
  have g := good_ok
  unfold d_law b_law
  walk_at "eh"
def sp_law (K : PySem.W.Frag) (c : Str → Addr) : Sp := fun vs H Q _ => ∃ a, ∃ ns : List Int, vs = [.ref a] ∧ Scr K H a (ns.map V.int) ∧ (∀ m ∈ ns, Builtin.Int.intBits m ≤ 2 ^ 20) ∧ ns.length ≤ 63 ∧ ∀ H', Q (.bl true) H'
theorem ok_law {f : Addr} {fd : FuncData} (F : Fun K "law" "law" s_law f fd) (T : Txt K mg c) (G_l_ware : Own P w K mg base 5 "_law_ware" ["_law_cell"] (spD K c d_l_ware)) (G_l_cell_at : Own P w K mg base 3 "_law_cell_at" ["_law_script", "_law_k"] (spD K c d_l_cell_at)) (G_l_far : Own P w K mg base 3 "_law_far" ["_law_cell"] (spD K c d_l_far)) (G_l_good : Own P w K mg base 9 "_law_good" ["_law_ware_here", "_law_place"] (spD K c d_l_good)) : FnOk P w K mg base (CXe P w) 11 f fd ["_law_script"] (sp_law K c) :=
  (ok_law0 F T G_l_ware G_l_cell_at G_l_far G_l_good).imp fun vs H Q E ⟨a, ns, e, h, hb, hl, q⟩ => spD_law e h q (main ns hl hb)
def cOf (l : List (Str × Addr)) (x : Str) : Addr := (l.lookup x).getD 0
theorem all_mk {w : World} {K : PySem.W.Frag} {h : Heap} {mg : Str → Option Value} {fa : Addr} (X : K.In h) (G : h.Ns mainGlobals mg) (hfa : mg "law" = some (.ref fa))
    {c_BadPacking c_BadPlan c_BadSide c_BadTurn c_CrateError c_Full c_Hangs c_NoDeed c_NoDrawing c_NoPicker c_NoSheet c_NoText c_NoWare c_NoWeighing c_NothingDone c_Ring c_TooMany c_TooWide : Addr} {f_sides_of : Addr} {oc_sides_of kV_sides_of dc_sides_of pm_sides_of cd_sides_of ct_sides_of : Value} {od_sides_of an_sides_of : Option Addr} {sl_sides_of : Array (Option Value)} {f_spot_of : Addr} {oc_spot_of kV_spot_of dc_spot_of pm_spot_of cd_spot_of ct_spot_of : Value} {od_spot_of an_spot_of : Option Addr} {sl_spot_of : Array (Option Value)} {f_l_cell_at : Addr} {oc_l_cell_at kV_l_cell_at dc_l_cell_at pm_l_cell_at cd_l_cell_at ct_l_cell_at : Value} {od_l_cell_at an_l_cell_at : Option Addr} {sl_l_cell_at : Array (Option Value)} {f_l_whole : Addr} {oc_l_whole kV_l_whole dc_l_whole pm_l_whole cd_l_whole ct_l_whole : Value} {od_l_whole an_l_whole : Option Addr} {sl_l_whole : Array (Option Value)} {f_l_side : Addr} {oc_l_side kV_l_side dc_l_side pm_l_side cd_l_side ct_l_side : Value} {od_l_side an_l_side : Option Addr} {sl_l_side : Array (Option Value)} {f_l_ware : Addr} {oc_l_ware kV_l_ware dc_l_ware pm_l_ware cd_l_ware ct_l_ware : Value} {od_l_ware an_l_ware : Option Addr} {sl_l_ware : Array (Option Value)} {f_l_far : Addr} {oc_l_far kV_l_far dc_l_far pm_l_far cd_l_far ct_l_far : Value} {od_l_far an_l_far : Option Addr} {sl_l_far : Array (Option Value)} {f_l_spot_alike : Addr} {oc_l_spot_alike kV_l_spot_alike dc_l_spot_alike pm_l_spot_alike cd_l_spot_alike ct_l_spot_alike : Value} {od_l_spot_alike an_l_spot_alike : Option Addr} {sl_l_spot_alike : Array (Option Value)} {f_l_kinds : Addr} {oc_l_kinds kV_l_kinds dc_l_kinds pm_l_kinds cd_l_kinds ct_l_kinds : Value} {od_l_kinds an_l_kinds : Option Addr} {sl_l_kinds : Array (Option Value)} {f_l_spot : Addr} {oc_l_spot kV_l_spot dc_l_spot pm_l_spot cd_l_spot ct_l_spot : Value} {od_l_spot an_l_spot : Option Addr} {sl_l_spot : Array (Option Value)} {f_l_good : Addr} {oc_l_good kV_l_good dc_l_good pm_l_good cd_l_good ct_l_good : Value} {od_l_good an_l_good : Option Addr} {sl_l_good : Array (Option Value)} {f_law : Addr} {oc_law kV_law dc_law pm_law cd_law ct_law : Value} {od_law an_law : Option Addr} {sl_law : Array (Option Value)}
    (a_sides_of : PySem.W.nsIn K mainGlobals "sides_of" = some (some (.ref f_sides_of)))
    (l_sides_of : K.lookup f_sides_of = some ⟨oc_sides_of, od_sides_of, .func (PySem.W.fnOf "sides_of" "sides_of" (defArgs s_sides_of) (defBody s_sides_of) (defScope s_sides_of) .none kV_sides_of dc_sides_of pm_sides_of an_sides_of cd_sides_of ct_sides_of), sl_sides_of⟩)
    (c_sides_of : PySem.W.codeIn K cd_sides_of "sides_of" = true)
    (k_sides_of : PySem.W.keepIn K (.ref f_sides_of) = true)
    (a_spot_of : PySem.W.nsIn K mainGlobals "spot_of" = some (some (.ref f_spot_of)))
    (l_spot_of : K.lookup f_spot_of = some ⟨oc_spot_of, od_spot_of, .func (PySem.W.fnOf "spot_of" "spot_of" (defArgs s_spot_of) (defBody s_spot_of) (defScope s_spot_of) .none kV_spot_of dc_spot_of pm_spot_of an_spot_of cd_spot_of ct_spot_of), sl_spot_of⟩)
    (c_spot_of : PySem.W.codeIn K cd_spot_of "spot_of" = true)
    (k_spot_of : PySem.W.keepIn K (.ref f_spot_of) = true)
    (a_l_cell_at : PySem.W.nsIn K mainGlobals "_law_cell_at" = some (some (.ref f_l_cell_at)))
    (l_l_cell_at : K.lookup f_l_cell_at = some ⟨oc_l_cell_at, od_l_cell_at, .func (PySem.W.fnOf "_law_cell_at" "_law_cell_at" (defArgs s_l_cell_at) (defBody s_l_cell_at) (defScope s_l_cell_at) .none kV_l_cell_at dc_l_cell_at pm_l_cell_at an_l_cell_at cd_l_cell_at ct_l_cell_at), sl_l_cell_at⟩)
    (c_l_cell_at : PySem.W.codeIn K cd_l_cell_at "_law_cell_at" = true)
    (k_l_cell_at : PySem.W.keepIn K (.ref f_l_cell_at) = true)
    (a_l_whole : PySem.W.nsIn K mainGlobals "_law_whole" = some (some (.ref f_l_whole)))
    (l_l_whole : K.lookup f_l_whole = some ⟨oc_l_whole, od_l_whole, .func (PySem.W.fnOf "_law_whole" "_law_whole" (defArgs s_l_whole) (defBody s_l_whole) (defScope s_l_whole) .none kV_l_whole dc_l_whole pm_l_whole an_l_whole cd_l_whole ct_l_whole), sl_l_whole⟩)
    (c_l_whole : PySem.W.codeIn K cd_l_whole "_law_whole" = true)
    (k_l_whole : PySem.W.keepIn K (.ref f_l_whole) = true)
    (a_l_side : PySem.W.nsIn K mainGlobals "_law_side" = some (some (.ref f_l_side)))
    (l_l_side : K.lookup f_l_side = some ⟨oc_l_side, od_l_side, .func (PySem.W.fnOf "_law_side" "_law_side" (defArgs s_l_side) (defBody s_l_side) (defScope s_l_side) .none kV_l_side dc_l_side pm_l_side an_l_side cd_l_side ct_l_side), sl_l_side⟩)
    (c_l_side : PySem.W.codeIn K cd_l_side "_law_side" = true)
    (k_l_side : PySem.W.keepIn K (.ref f_l_side) = true)
    (a_l_ware : PySem.W.nsIn K mainGlobals "_law_ware" = some (some (.ref f_l_ware)))
    (l_l_ware : K.lookup f_l_ware = some ⟨oc_l_ware, od_l_ware, .func (PySem.W.fnOf "_law_ware" "_law_ware" (defArgs s_l_ware) (defBody s_l_ware) (defScope s_l_ware) .none kV_l_ware dc_l_ware pm_l_ware an_l_ware cd_l_ware ct_l_ware), sl_l_ware⟩)
    (c_l_ware : PySem.W.codeIn K cd_l_ware "_law_ware" = true)
    (k_l_ware : PySem.W.keepIn K (.ref f_l_ware) = true)
    (a_l_far : PySem.W.nsIn K mainGlobals "_law_far" = some (some (.ref f_l_far)))
    (l_l_far : K.lookup f_l_far = some ⟨oc_l_far, od_l_far, .func (PySem.W.fnOf "_law_far" "_law_far" (defArgs s_l_far) (defBody s_l_far) (defScope s_l_far) .none kV_l_far dc_l_far pm_l_far an_l_far cd_l_far ct_l_far), sl_l_far⟩)
    (c_l_far : PySem.W.codeIn K cd_l_far "_law_far" = true)
    (k_l_far : PySem.W.keepIn K (.ref f_l_far) = true)
    (a_l_spot_alike : PySem.W.nsIn K mainGlobals "_law_spot_alike" = some (some (.ref f_l_spot_alike)))
    (l_l_spot_alike : K.lookup f_l_spot_alike = some ⟨oc_l_spot_alike, od_l_spot_alike, .func (PySem.W.fnOf "_law_spot_alike" "_law_spot_alike" (defArgs s_l_spot_alike) (defBody s_l_spot_alike) (defScope s_l_spot_alike) .none kV_l_spot_alike dc_l_spot_alike pm_l_spot_alike an_l_spot_alike cd_l_spot_alike ct_l_spot_alike), sl_l_spot_alike⟩)
    (c_l_spot_alike : PySem.W.codeIn K cd_l_spot_alike "_law_spot_alike" = true)
    (k_l_spot_alike : PySem.W.keepIn K (.ref f_l_spot_alike) = true)
    (a_l_kinds : PySem.W.nsIn K mainGlobals "_law_kinds" = some (some (.ref f_l_kinds)))
    (l_l_kinds : K.lookup f_l_kinds = some ⟨oc_l_kinds, od_l_kinds, .func (PySem.W.fnOf "_law_kinds" "_law_kinds" (defArgs s_l_kinds) (defBody s_l_kinds) (defScope s_l_kinds) .none kV_l_kinds dc_l_kinds pm_l_kinds an_l_kinds cd_l_kinds ct_l_kinds), sl_l_kinds⟩)
    (c_l_kinds : PySem.W.codeIn K cd_l_kinds "_law_kinds" = true)
    (k_l_kinds : PySem.W.keepIn K (.ref f_l_kinds) = true)
    (a_l_spot : PySem.W.nsIn K mainGlobals "_law_spot" = some (some (.ref f_l_spot)))
    (l_l_spot : K.lookup f_l_spot = some ⟨oc_l_spot, od_l_spot, .func (PySem.W.fnOf "_law_spot" "_law_spot" (defArgs s_l_spot) (defBody s_l_spot) (defScope s_l_spot) .none kV_l_spot dc_l_spot pm_l_spot an_l_spot cd_l_spot ct_l_spot), sl_l_spot⟩)
    (c_l_spot : PySem.W.codeIn K cd_l_spot "_law_spot" = true)
    (k_l_spot : PySem.W.keepIn K (.ref f_l_spot) = true)
    (a_l_good : PySem.W.nsIn K mainGlobals "_law_good" = some (some (.ref f_l_good)))
    (l_l_good : K.lookup f_l_good = some ⟨oc_l_good, od_l_good, .func (PySem.W.fnOf "_law_good" "_law_good" (defArgs s_l_good) (defBody s_l_good) (defScope s_l_good) .none kV_l_good dc_l_good pm_l_good an_l_good cd_l_good ct_l_good), sl_l_good⟩)
    (c_l_good : PySem.W.codeIn K cd_l_good "_law_good" = true)
    (k_l_good : PySem.W.keepIn K (.ref f_l_good) = true)
    (a_law : PySem.W.nsIn K mainGlobals "law" = some (some (.ref f_law)))
    (l_law : K.lookup f_law = some ⟨oc_law, od_law, .func (PySem.W.fnOf "law" "law" (defArgs s_law) (defBody s_law) (defScope s_law) .none kV_law dc_law pm_law an_law cd_law ct_law), sl_law⟩)
    (c_law : PySem.W.codeIn K cd_law "law" = true)
    (k_law : PySem.W.keepIn K (.ref f_law) = true)
    (z_ValueError : PySem.W.nsIn K mainGlobals "ValueError" = some none)
    (z_bool : PySem.W.nsIn K mainGlobals "bool" = some none)
    (z_int : PySem.W.nsIn K mainGlobals "int" = some none)
    (z_isinstance : PySem.W.nsIn K mainGlobals "isinstance" = some none)
    (z_len : PySem.W.nsIn K mainGlobals "len" = some none)
    (z_tuple : PySem.W.nsIn K mainGlobals "tuple" = some none)
    (m_BadPacking : PySem.W.nsIn K mainGlobals "BadPacking" = some (some (.ref c_BadPacking)))
    (m_BadPlan : PySem.W.nsIn K mainGlobals "BadPlan" = some (some (.ref c_BadPlan)))
    (m_BadSide : PySem.W.nsIn K mainGlobals "BadSide" = some (some (.ref c_BadSide)))
    (m_BadTurn : PySem.W.nsIn K mainGlobals "BadTurn" = some (some (.ref c_BadTurn)))
    (m_CrateError : PySem.W.nsIn K mainGlobals "CrateError" = some (some (.ref c_CrateError)))
    (m_Full : PySem.W.nsIn K mainGlobals "Full" = some (some (.ref c_Full)))
    (m_Hangs : PySem.W.nsIn K mainGlobals "Hangs" = some (some (.ref c_Hangs)))
    (m_NoDeed : PySem.W.nsIn K mainGlobals "NoDeed" = some (some (.ref c_NoDeed)))
    (m_NoDrawing : PySem.W.nsIn K mainGlobals "NoDrawing" = some (some (.ref c_NoDrawing)))
    (m_NoPicker : PySem.W.nsIn K mainGlobals "NoPicker" = some (some (.ref c_NoPicker)))
    (m_NoSheet : PySem.W.nsIn K mainGlobals "NoSheet" = some (some (.ref c_NoSheet)))
    (m_NoText : PySem.W.nsIn K mainGlobals "NoText" = some (some (.ref c_NoText)))
    (m_NoWare : PySem.W.nsIn K mainGlobals "NoWare" = some (some (.ref c_NoWare)))
    (m_NoWeighing : PySem.W.nsIn K mainGlobals "NoWeighing" = some (some (.ref c_NoWeighing)))
    (m_NothingDone : PySem.W.nsIn K mainGlobals "NothingDone" = some (some (.ref c_NothingDone)))
    (m_Ring : PySem.W.nsIn K mainGlobals "Ring" = some (some (.ref c_Ring)))
    (m_TooMany : PySem.W.nsIn K mainGlobals "TooMany" = some (some (.ref c_TooMany)))
    (m_TooWide : PySem.W.nsIn K mainGlobals "TooWide" = some (some (.ref c_TooWide)))
    (x_BadTurn : PySem.W.excIn K c_BadTurn vErr "ValueError.__new__" = true)
    (t_exc_BadTurn1 : PySem.W.findIn K (.ref c_BadTurn) "__getattribute__" = some (some (.builtin "BaseException.__getattribute__")))
    (t_exc_BadTurn2 : PySem.W.findIn K (.ref c_BadTurn) "__getattr__" = some none)
    (t_exc_BadTurn3 : PySem.W.findIn K (.ref c_BadTurn) "__class__" = some (some (.builtin "object.__class__")))
    (t_exc_BadTurn4 : PySem.W.mroIn K c_BadTurn (.type "object") = some true)
    (t_exc_BadTurn5 : PySem.W.subIn K (.ref c_BadTurn) (.type "BaseException") = some true)
    (t_any_BadTurn_0 : PySem.W.kitAny K (.ref c_BadTurn) [.ref c_BadSide, .ref c_NoText, .ref c_TooMany, .ref c_Ring, .ref c_NoWeighing, .ref c_NoPicker, .ref c_NoSheet, .ref c_NoDrawing] = some false)
    (t_any_BadTurn_1 : PySem.W.kitAny K (.ref c_BadTurn) [.ref c_NoDeed, .ref c_NoWare, .ref c_Full, .ref c_NothingDone, .ref c_TooWide, .ref c_Hangs, .ref c_BadPlan, .ref c_BadPacking] = some false)
    (t_one_BadTurn_CrateError : PySem.W.kitOne K (.ref c_BadTurn) (.ref c_CrateError) = some true)
    (t_one_BadTurn_ValueError : PySem.W.kitOne K (.ref c_BadTurn) (.type "ValueError") = some true)
    (t_exm_BadTurn_BadTurn : PySem.W.exmOne K (.ref c_BadTurn) (.ref c_BadTurn) = some true)
    : ∃ fd : FuncData, (∀ (s : Shared) (v : Value), BindsTo s fd ⟨[v], []⟩ [("_law_script", v)]) ∧ ∃ c : Str → Addr, ∀ base : Heap, K.In base → base.Ns mainGlobals mg → FnOk (PySem.Challenge.rw_cratefit_k09_a_spot).prog w K mg base (CXe (PySem.Challenge.rw_cratefit_k09_a_spot).prog w) 11 fa fd ["_law_script"] (sp_law K c) := by
  have e := hfa.symm.trans (PySem.W.mg_of X G a_law)
  cases e
  have T : Txt K mg (cOf [("BadPacking", c_BadPacking), ("BadPlan", c_BadPlan), ("BadSide", c_BadSide), ("BadTurn", c_BadTurn), ("CrateError", c_CrateError), ("Full", c_Full), ("Hangs", c_Hangs), ("NoDeed", c_NoDeed), ("NoDrawing", c_NoDrawing), ("NoPicker", c_NoPicker), ("NoSheet", c_NoSheet), ("NoText", c_NoText), ("NoWare", c_NoWare), ("NoWeighing", c_NoWeighing), ("NothingDone", c_NothingDone), ("Ring", c_Ring), ("TooMany", c_TooMany), ("TooWide", c_TooWide)]) := ⟨PySem.W.mg_none_of X G z_ValueError, PySem.W.mg_none_of X G z_bool, PySem.W.mg_none_of X G z_int, PySem.W.mg_none_of X G z_isinstance, PySem.W.mg_none_of X G z_len, PySem.W.mg_none_of X G z_tuple, PySem.W.mg_of X G m_BadPacking, PySem.W.mg_of X G m_BadPlan, PySem.W.mg_of X G m_BadSide, PySem.W.mg_of X G m_BadTurn, PySem.W.mg_of X G m_CrateError, PySem.W.mg_of X G m_Full, PySem.W.mg_of X G m_Hangs, PySem.W.mg_of X G m_NoDeed, PySem.W.mg_of X G m_NoDrawing, PySem.W.mg_of X G m_NoPicker, PySem.W.mg_of X G m_NoSheet, PySem.W.mg_of X G m_NoText, PySem.W.mg_of X G m_NoWare, PySem.W.mg_of X G m_NoWeighing, PySem.W.mg_of X G m_NothingDone, PySem.W.mg_of X G m_Ring, PySem.W.mg_of X G m_TooMany, PySem.W.mg_of X G m_TooWide, x_BadTurn, ⟨t_exc_BadTurn1, t_exc_BadTurn2, t_exc_BadTurn3, t_exc_BadTurn4, t_exc_BadTurn5⟩, t_any_BadTurn_0, t_any_BadTurn_1, t_one_BadTurn_CrateError, t_one_BadTurn_ValueError, t_exm_BadTurn_BadTurn⟩
  refine ⟨PySem.W.fnOf "law" "law" (defArgs s_law) (defBody s_law) (defScope s_law) .none kV_law dc_law pm_law an_law cd_law ct_law, fun s v => .of_eq rfl, cOf [("BadPacking", c_BadPacking), ("BadPlan", c_BadPlan), ("BadSide", c_BadSide), ("BadTurn", c_BadTurn), ("CrateError", c_CrateError), ("Full", c_Full), ("Hangs", c_Hangs), ("NoDeed", c_NoDeed), ("NoDrawing", c_NoDrawing), ("NoPicker", c_NoPicker), ("NoSheet", c_NoSheet), ("NoText", c_NoText), ("NoWare", c_NoWare), ("NoWeighing", c_NoWeighing), ("NothingDone", c_NothingDone), ("Ring", c_Ring), ("TooMany", c_TooMany), ("TooWide", c_TooWide)], fun base _ _ => ?_⟩
  have F_sides_of := fun_mk (st := s_sides_of) l_sides_of c_sides_of k_sides_of
  have B_sides_of := F_sides_of.binds (ps := ["ware", "lie"]) fun _ _ _ _ _ _ us hl => match us, hl with | [_, _], _ => rfl
  have O_sides_of : Own (PySem.Challenge.rw_cratefit_k09_a_spot).prog w K mg base 3 "sides_of" ["ware", "lie"] (spD K (cOf [("BadPacking", c_BadPacking), ("BadPlan", c_BadPlan), ("BadSide", c_BadSide), ("BadTurn", c_BadTurn), ("CrateError", c_CrateError), ("Full", c_Full), ("Hangs", c_Hangs), ("NoDeed", c_NoDeed), ("NoDrawing", c_NoDrawing), ("NoPicker", c_NoPicker), ("NoSheet", c_NoSheet), ("NoText", c_NoText), ("NoWare", c_NoWare), ("NoWeighing", c_NoWeighing), ("NothingDone", c_NothingDone), ("Ring", c_Ring), ("TooMany", c_TooMany), ("TooWide", c_TooWide)]) d_sides_of) := ⟨_, _, ok_sides_of F_sides_of T , B_sides_of, k_sides_of, PySem.W.mg_of X G a_sides_of⟩
  have F_spot_of := fun_mk (st := s_spot_of) l_spot_of c_spot_of k_spot_of
  have B_spot_of := F_spot_of.binds (ps := ["ware", "place"]) fun _ _ _ _ _ _ us hl => match us, hl with | [_, _], _ => rfl
  have O_spot_of : Own (PySem.Challenge.rw_cratefit_k09_a_spot).prog w K mg base 5 "spot_of" ["ware", "place"] (spD K (cOf [("BadPacking", c_BadPacking), ("BadPlan", c_BadPlan), ("BadSide", c_BadSide), ("BadTurn", c_BadTurn), ("CrateError", c_CrateError), ("Full", c_Full), ("Hangs", c_Hangs), ("NoDeed", c_NoDeed), ("NoDrawing", c_NoDrawing), ("NoPicker", c_NoPicker), ("NoSheet", c_NoSheet), ("NoText", c_NoText), ("NoWare", c_NoWare), ("NoWeighing", c_NoWeighing), ("NothingDone", c_NothingDone), ("Ring", c_Ring), ("TooMany", c_TooMany), ("TooWide", c_TooWide)]) d_spot_of) := ⟨_, _, ok_spot_of F_spot_of T O_sides_of, B_spot_of, k_spot_of, PySem.W.mg_of X G a_spot_of⟩
  have F_l_cell_at := fun_mk (st := s_l_cell_at) l_l_cell_at c_l_cell_at k_l_cell_at
  have B_l_cell_at := F_l_cell_at.binds (ps := ["_law_script", "_law_k"]) fun _ _ _ _ _ _ us hl => match us, hl with | [_, _], _ => rfl
  have O_l_cell_at : Own (PySem.Challenge.rw_cratefit_k09_a_spot).prog w K mg base 3 "_law_cell_at" ["_law_script", "_law_k"] (spD K (cOf [("BadPacking", c_BadPacking), ("BadPlan", c_BadPlan), ("BadSide", c_BadSide), ("BadTurn", c_BadTurn), ("CrateError", c_CrateError), ("Full", c_Full), ("Hangs", c_Hangs), ("NoDeed", c_NoDeed), ("NoDrawing", c_NoDrawing), ("NoPicker", c_NoPicker), ("NoSheet", c_NoSheet), ("NoText", c_NoText), ("NoWare", c_NoWare), ("NoWeighing", c_NoWeighing), ("NothingDone", c_NothingDone), ("Ring", c_Ring), ("TooMany", c_TooMany), ("TooWide", c_TooWide)]) d_l_cell_at) := ⟨_, _, ok_l_cell_at F_l_cell_at T , B_l_cell_at, k_l_cell_at, PySem.W.mg_of X G a_l_cell_at⟩
  have F_l_whole := fun_mk (st := s_l_whole) l_l_whole c_l_whole k_l_whole
  have B_l_whole := F_l_whole.binds (ps := ["_law_found"]) fun _ _ _ _ _ _ us hl => match us, hl with | [_], _ => rfl
  have O_l_whole : Own (PySem.Challenge.rw_cratefit_k09_a_spot).prog w K mg base 3 "_law_whole" ["_law_found"] (spD K (cOf [("BadPacking", c_BadPacking), ("BadPlan", c_BadPlan), ("BadSide", c_BadSide), ("BadTurn", c_BadTurn), ("CrateError", c_CrateError), ("Full", c_Full), ("Hangs", c_Hangs), ("NoDeed", c_NoDeed), ("NoDrawing", c_NoDrawing), ("NoPicker", c_NoPicker), ("NoSheet", c_NoSheet), ("NoText", c_NoText), ("NoWare", c_NoWare), ("NoWeighing", c_NoWeighing), ("NothingDone", c_NothingDone), ("Ring", c_Ring), ("TooMany", c_TooMany), ("TooWide", c_TooWide)]) d_l_whole) := ⟨_, _, ok_l_whole F_l_whole T , B_l_whole, k_l_whole, PySem.W.mg_of X G a_l_whole⟩
  have F_l_side := fun_mk (st := s_l_side) l_l_side c_l_side k_l_side
  have B_l_side := F_l_side.binds (ps := ["_law_cell"]) fun _ _ _ _ _ _ us hl => match us, hl with | [_], _ => rfl
  have O_l_side : Own (PySem.Challenge.rw_cratefit_k09_a_spot).prog w K mg base 3 "_law_side" ["_law_cell"] (spD K (cOf [("BadPacking", c_BadPacking), ("BadPlan", c_BadPlan), ("BadSide", c_BadSide), ("BadTurn", c_BadTurn), ("CrateError", c_CrateError), ("Full", c_Full), ("Hangs", c_Hangs), ("NoDeed", c_NoDeed), ("NoDrawing", c_NoDrawing), ("NoPicker", c_NoPicker), ("NoSheet", c_NoSheet), ("NoText", c_NoText), ("NoWare", c_NoWare), ("NoWeighing", c_NoWeighing), ("NothingDone", c_NothingDone), ("Ring", c_Ring), ("TooMany", c_TooMany), ("TooWide", c_TooWide)]) d_l_side) := ⟨_, _, ok_l_side F_l_side T , B_l_side, k_l_side, PySem.W.mg_of X G a_l_side⟩
  have F_l_ware := fun_mk (st := s_l_ware) l_l_ware c_l_ware k_l_ware
  have B_l_ware := F_l_ware.binds (ps := ["_law_cell"]) fun _ _ _ _ _ _ us hl => match us, hl with | [_], _ => rfl
  have O_l_ware : Own (PySem.Challenge.rw_cratefit_k09_a_spot).prog w K mg base 5 "_law_ware" ["_law_cell"] (spD K (cOf [("BadPacking", c_BadPacking), ("BadPlan", c_BadPlan), ("BadSide", c_BadSide), ("BadTurn", c_BadTurn), ("CrateError", c_CrateError), ("Full", c_Full), ("Hangs", c_Hangs), ("NoDeed", c_NoDeed), ("NoDrawing", c_NoDrawing), ("NoPicker", c_NoPicker), ("NoSheet", c_NoSheet), ("NoText", c_NoText), ("NoWare", c_NoWare), ("NoWeighing", c_NoWeighing), ("NothingDone", c_NothingDone), ("Ring", c_Ring), ("TooMany", c_TooMany), ("TooWide", c_TooWide)]) d_l_ware) := ⟨_, _, ok_l_ware F_l_ware T O_l_side, B_l_ware, k_l_ware, PySem.W.mg_of X G a_l_ware⟩
  have F_l_far := fun_mk (st := s_l_far) l_l_far c_l_far k_l_far
  have B_l_far := F_l_far.binds (ps := ["_law_cell"]) fun _ _ _ _ _ _ us hl => match us, hl with | [_], _ => rfl
  have O_l_far : Own (PySem.Challenge.rw_cratefit_k09_a_spot).prog w K mg base 3 "_law_far" ["_law_cell"] (spD K (cOf [("BadPacking", c_BadPacking), ("BadPlan", c_BadPlan), ("BadSide", c_BadSide), ("BadTurn", c_BadTurn), ("CrateError", c_CrateError), ("Full", c_Full), ("Hangs", c_Hangs), ("NoDeed", c_NoDeed), ("NoDrawing", c_NoDrawing), ("NoPicker", c_NoPicker), ("NoSheet", c_NoSheet), ("NoText", c_NoText), ("NoWare", c_NoWare), ("NoWeighing", c_NoWeighing), ("NothingDone", c_NothingDone), ("Ring", c_Ring), ("TooMany", c_TooMany), ("TooWide", c_TooWide)]) d_l_far) := ⟨_, _, ok_l_far F_l_far T , B_l_far, k_l_far, PySem.W.mg_of X G a_l_far⟩
  have F_l_spot_alike := fun_mk (st := s_l_spot_alike) l_l_spot_alike c_l_spot_alike k_l_spot_alike
  have B_l_spot_alike := F_l_spot_alike.binds (ps := ["_law_found", "_law_due"]) fun _ _ _ _ _ _ us hl => match us, hl with | [_, _], _ => rfl
  have O_l_spot_alike : Own (PySem.Challenge.rw_cratefit_k09_a_spot).prog w K mg base 5 "_law_spot_alike" ["_law_found", "_law_due"] (spD K (cOf [("BadPacking", c_BadPacking), ("BadPlan", c_BadPlan), ("BadSide", c_BadSide), ("BadTurn", c_BadTurn), ("CrateError", c_CrateError), ("Full", c_Full), ("Hangs", c_Hangs), ("NoDeed", c_NoDeed), ("NoDrawing", c_NoDrawing), ("NoPicker", c_NoPicker), ("NoSheet", c_NoSheet), ("NoText", c_NoText), ("NoWare", c_NoWare), ("NoWeighing", c_NoWeighing), ("NothingDone", c_NothingDone), ("Ring", c_Ring), ("TooMany", c_TooMany), ("TooWide", c_TooWide)]) d_l_spot_alike) := ⟨_, _, ok_l_spot_alike F_l_spot_alike T O_l_whole, B_l_spot_alike, k_l_spot_alike, PySem.W.mg_of X G a_l_spot_alike⟩
  have F_l_kinds := fun_mk (st := s_l_kinds) l_l_kinds c_l_kinds k_l_kinds
  have B_l_kinds := F_l_kinds.binds (ps := ["_law_e"]) fun _ _ _ _ _ _ us hl => match us, hl with | [_], _ => rfl
  have O_l_kinds : OwnW (PySem.Challenge.rw_cratefit_k09_a_spot).prog w K mg base 3 "_law_kinds" ["_law_e"] (spD K (cOf [("BadPacking", c_BadPacking), ("BadPlan", c_BadPlan), ("BadSide", c_BadSide), ("BadTurn", c_BadTurn), ("CrateError", c_CrateError), ("Full", c_Full), ("Hangs", c_Hangs), ("NoDeed", c_NoDeed), ("NoDrawing", c_NoDrawing), ("NoPicker", c_NoPicker), ("NoSheet", c_NoSheet), ("NoText", c_NoText), ("NoWare", c_NoWare), ("NoWeighing", c_NoWeighing), ("NothingDone", c_NothingDone), ("Ring", c_Ring), ("TooMany", c_TooMany), ("TooWide", c_TooWide)]) d_l_kinds) := ⟨_, _, ok_l_kinds F_l_kinds T , B_l_kinds, k_l_kinds, PySem.W.mg_of X G a_l_kinds⟩
  have F_l_spot := fun_mk (st := s_l_spot) l_l_spot c_l_spot k_l_spot
  have B_l_spot := F_l_spot.binds (ps := ["_law_ware_here", "_law_place"]) fun _ _ _ _ _ _ us hl => match us, hl with | [_, _], _ => rfl
  have O_l_spot : Own (PySem.Challenge.rw_cratefit_k09_a_spot).prog w K mg base 7 "_law_spot" ["_law_ware_here", "_law_place"] (spD K (cOf [("BadPacking", c_BadPacking), ("BadPlan", c_BadPlan), ("BadSide", c_BadSide), ("BadTurn", c_BadTurn), ("CrateError", c_CrateError), ("Full", c_Full), ("Hangs", c_Hangs), ("NoDeed", c_NoDeed), ("NoDrawing", c_NoDrawing), ("NoPicker", c_NoPicker), ("NoSheet", c_NoSheet), ("NoText", c_NoText), ("NoWare", c_NoWare), ("NoWeighing", c_NoWeighing), ("NothingDone", c_NothingDone), ("Ring", c_Ring), ("TooMany", c_TooMany), ("TooWide", c_TooWide)]) d_l_spot) := ⟨_, _, ok_l_spot F_l_spot T O_spot_of O_l_kinds, B_l_spot, k_l_spot, PySem.W.mg_of X G a_l_spot⟩
  have F_l_good := fun_mk (st := s_l_good) l_l_good c_l_good k_l_good
  have B_l_good := F_l_good.binds (ps := ["_law_ware_here", "_law_place"]) fun _ _ _ _ _ _ us hl => match us, hl with | [_, _], _ => rfl
  have O_l_good : Own (PySem.Challenge.rw_cratefit_k09_a_spot).prog w K mg base 9 "_law_good" ["_law_ware_here", "_law_place"] (spD K (cOf [("BadPacking", c_BadPacking), ("BadPlan", c_BadPlan), ("BadSide", c_BadSide), ("BadTurn", c_BadTurn), ("CrateError", c_CrateError), ("Full", c_Full), ("Hangs", c_Hangs), ("NoDeed", c_NoDeed), ("NoDrawing", c_NoDrawing), ("NoPicker", c_NoPicker), ("NoSheet", c_NoSheet), ("NoText", c_NoText), ("NoWare", c_NoWare), ("NoWeighing", c_NoWeighing), ("NothingDone", c_NothingDone), ("Ring", c_Ring), ("TooMany", c_TooMany), ("TooWide", c_TooWide)]) d_l_good) := ⟨_, _, ok_l_good F_l_good T O_l_spot O_l_spot_alike, B_l_good, k_l_good, PySem.W.mg_of X G a_l_good⟩
  have F_law := fun_mk (st := s_law) l_law c_law k_law
  exact ok_law F_law T O_l_ware O_l_cell_at O_l_far O_l_good
end Law
namespace Law
open PySem L2 PyProof.Rows
theorem walk {q : Program} {loose : List Str} {XP : (Str → Option Value) → Heap → Prop} {YP : World → Heap → Prop} {d : DefRec} {K : Params → PySem.W.Frag} (hdf : d.params.defaults = []) (hY : ∀ (w : World) (h : Heap), YP w h → (K w.params).In h)
    (F : ∀ (w : World) (mg : Str → Option Value) (fa : Addr) (h : Heap), (K w.params).In h → h.Ns mainGlobals mg → mg d.name = some (.ref fa) →
      ∃ fd : FuncData, (∀ (s : Shared) (u : Value), BindsTo s fd ⟨[u], []⟩ [("_law_script", u)]) ∧ ∃ c : Str → Addr, ∀ base : Heap, (K w.params).In base → base.Ns mainGlobals mg → FnOk (PySem.Challenge.rw_cratefit_k09_a_spot).prog w (K w.params) mg base (CXe (PySem.Challenge.rw_cratefit_k09_a_spot).prog w) 11 fa fd ["_law_script"] (sp_law (K w.params) c)) :
    PySem.W.WalkO q loose XP YP (PySem.Challenge.rw_cratefit_k09_a_spot).row.toRowW d [] (fun f vs => PySem.call f vs) := by
  refine L2.walk_ofB (l := PySem.Challenge.rw_cratefit_k09_a_spot) (n := 63) (k := 11) (x := "_law_script") (K := K) (CX := fun w => CXe (PySem.Challenge.rw_cratefit_k09_a_spot).prog w) (sp := fun w vs H Q E => ∀ c, sp_law (K w.params) c vs H Q E) rfl (by decide) hdf ⟨rfl, by decide, by decide⟩ hY (fun w mg fa h KX G hm => ?_) (fun w H a ns h1 h2 h3 h4 c => ⟨a, ns, rfl, .of h4 h3, h2, h1, fun _ => rfl⟩) fun w H s e s' z => noCXe H s e s' z
  obtain ⟨fd, hb, c, hF⟩ := F w mg fa h KX G hm
  exact ⟨fd, hb, fun base kb nb => (hF base kb nb).imp fun vs H Q E z => z c⟩
end Law
open PySem PySem.W PyProof.Rows
set_option maxRecDepth 100000 in
set_option maxHeartbeats 0 in
theorem PySem.Challenge.cw_cratefit_k09_a_spot_holds : PySem.Challenge.rw_cratefit_k09_a_spot.Holds := by
  w_on; o_law; k_head; (case hw => w_witness2)
  k_fill
  refine Law.walk rfl (fun w h Y => PySem.W.kIn_of Y) ?F
  case F =>
    intro w mg fa h KX G hmg
    refine' Law.all_mk KX G hmg ?a_sides_of ?l_sides_of ?c_sides_of ?k_sides_of ?a_spot_of ?l_spot_of ?c_spot_of ?k_spot_of ?a_l_cell_at ?l_l_cell_at ?c_l_cell_at ?k_l_cell_at ?a_l_whole ?l_l_whole ?c_l_whole ?k_l_whole ?a_l_side ?l_l_side ?c_l_side ?k_l_side ?a_l_ware ?l_l_ware ?c_l_ware ?k_l_ware ?a_l_far ?l_l_far ?c_l_far ?k_l_far ?a_l_spot_alike ?l_l_spot_alike ?c_l_spot_alike ?k_l_spot_alike ?a_l_kinds ?l_l_kinds ?c_l_kinds ?k_l_kinds ?a_l_spot ?l_l_spot ?c_l_spot ?k_l_spot ?a_l_good ?l_l_good ?c_l_good ?k_l_good ?a_law ?l_law ?c_law ?k_law ?z_ValueError ?z_bool ?z_int ?z_isinstance ?z_len ?z_tuple ?m_BadPacking ?m_BadPlan ?m_BadSide ?m_BadTurn ?m_CrateError ?m_Full ?m_Hangs ?m_NoDeed ?m_NoDrawing ?m_NoPicker ?m_NoSheet ?m_NoText ?m_NoWare ?m_NoWeighing ?m_NothingDone ?m_Ring ?m_TooMany ?m_TooWide ?x_BadTurn ?t_exc_BadTurn1 ?t_exc_BadTurn2 ?t_exc_BadTurn3 ?t_exc_BadTurn4 ?t_exc_BadTurn5 ?t_any_BadTurn_0 ?t_any_BadTurn_1 ?t_one_BadTurn_CrateError ?t_one_BadTurn_ValueError ?t_exm_BadTurn_BadTurn
    (case a_sides_of => k_is)
    (case l_sides_of => k_is)
    (case c_sides_of => k_is)
    (case k_sides_of => k_is)
    (case a_spot_of => k_is)
    (case l_spot_of => k_is)
    (case c_spot_of => k_is)
    (case k_spot_of => k_is)
    (case a_l_cell_at => k_is)
    (case l_l_cell_at => k_is)
    (case c_l_cell_at => k_is)
    (case k_l_cell_at => k_is)
    (case a_l_whole => k_is)
    (case l_l_whole => k_is)
    (case c_l_whole => k_is)
    (case k_l_whole => k_is)
    (case a_l_side => k_is)
    (case l_l_side => k_is)
    (case c_l_side => k_is)
    (case k_l_side => k_is)
    (case a_l_ware => k_is)
    (case l_l_ware => k_is)
    (case c_l_ware => k_is)
    (case k_l_ware => k_is)
    (case a_l_far => k_is)
    (case l_l_far => k_is)
    (case c_l_far => k_is)
    (case k_l_far => k_is)
    (case a_l_spot_alike => k_is)
    (case l_l_spot_alike => k_is)
    (case c_l_spot_alike => k_is)
    (case k_l_spot_alike => k_is)
    (case a_l_kinds => k_is)
    (case l_l_kinds => k_is)
    (case c_l_kinds => k_is)
    (case k_l_kinds => k_is)
    (case a_l_spot => k_is)
    (case l_l_spot => k_is)
    (case c_l_spot => k_is)
    (case k_l_spot => k_is)
    (case a_l_good => k_is)
    (case l_l_good => k_is)
    (case c_l_good => k_is)
    (case k_l_good => k_is)
    (case a_law => k_is)
    (case l_law => k_is)
    (case c_law => k_is)
    (case k_law => k_is)
    (case z_ValueError => k_is)
    (case z_bool => k_is)
    (case z_int => k_is)
    (case z_isinstance => k_is)
    (case z_len => k_is)
    (case z_tuple => k_is)
    (case m_BadPacking => k_is)
    (case m_BadPlan => k_is)
    (case m_BadSide => k_is)
    (case m_BadTurn => k_is)
    (case m_CrateError => k_is)
    (case m_Full => k_is)
    (case m_Hangs => k_is)
    (case m_NoDeed => k_is)
    (case m_NoDrawing => k_is)
    (case m_NoPicker => k_is)
    (case m_NoSheet => k_is)
    (case m_NoText => k_is)
    (case m_NoWare => k_is)
    (case m_NoWeighing => k_is)
    (case m_NothingDone => k_is)
    (case m_Ring => k_is)
    (case m_TooMany => k_is)
    (case m_TooWide => k_is)
    (case x_BadTurn => kernel_rfl)
    (case t_exc_BadTurn1 => k_is)
    (case t_exc_BadTurn2 => k_is)
    (case t_exc_BadTurn3 => k_is)
    (case t_exc_BadTurn4 => k_is)
    (case t_exc_BadTurn5 => k_is)
    (case t_any_BadTurn_0 => kit_is)
    (case t_any_BadTurn_1 => kit_is)
    (case t_one_BadTurn_CrateError => kit_is)
    (case t_one_BadTurn_ValueError => kit_is)
    (case t_exm_BadTurn_BadTurn => kts_exm)
