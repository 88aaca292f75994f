import PyProof.Rows.All
import Wide.All
import OpenK.AllK
import Wide.FinOn
import Lean
import PyProof.EqAt
import PyProof.EqKinds
import PyProof.TupleCall
import KE.KLam
import KE.KSortKey
import PyProof.ListRange
import PyProof.CollectIter
import PyProof.Rows.RuleB_bool
import PySem.Challenge.RW_cratefit_k59_pieces_of_a_plan
set_option Elab.async false
set_option linter.all false
set_option maxRecDepth 100000
set_option hygiene false
namespace L2
open PySem PySem.Spec PyProof.Rows
abbrev N3:=Sum Int Str
def a7F:N3→Value→Bool
 | .inl k,v=>Value.isInt k v
 | .inr x,v=>Value.isStrOf x v
def b1A(w:World):N3→Int
 | .inl k=>hashInt k
 | .inr x=>hashStr w x
theorem y8:∀{k:N3} {v:Value},a7F k v=true→(∃i t,k=Sum.inl i∧v=Value.int i t)∨(∃x t,k=Sum.inr x∧v=Value.str x t)
 | .inl i,v,h=>by
  obtain⟨t,e⟩:=Value.isInt_shape (k:=i) (v:=v) h
  exact .inl ⟨i,t,rfl,e⟩
 | .inr x,v,h=>by
  obtain⟨t,e⟩:=Value.isStrOf_shape (x:=x) (v:=v) h
  exact .inr ⟨x,t,rfl,e⟩
theorem a9F(a b:Int):decide ((Sum.inl a:N3)=Sum.inl b)=(a == b):=by
 by_cases e:a=b
 ·subst e;simp
 ·have h:¬(Sum.inl a:N3)=Sum.inl b:=fun q=>e (Sum.inl.inj q)
  rw[decide_eq_false h]
  exact(beq_eq_false_iff_ne.mpr e).symm
theorem a9G(a b:Str):decide ((Sum.inr a:N3)=Sum.inr b)=decide (a=b):=by
 by_cases e:a=b
 ·subst e;simp
 ·have h:¬(Sum.inr a:N3)=Sum.inr b:=fun q=>e (Sum.inr.inj q)
  rw[decide_eq_false h,decide_eq_false e]
theorem a9H(a:Int)(b:Str):decide ((Sum.inl a:N3)=Sum.inr b)=false:=decide_eq_false (fun q=>nomatch q)
theorem a9I(a:Str)(b:Int):decide ((Sum.inr a:N3)=Sum.inl b)=false:=decide_eq_false (fun q=>nomatch q)
def a3R(prog:Program)(w:World):PySem.KeyKind prog w N3 where
 is:=a7F
 hash:=b1A w
 inj:=fun v a b ha hb=>by
  rcases y8 ha with⟨i,t,rfl,rfl⟩ | ⟨x,t,rfl,rfl⟩
  ·rcases y8 hb with⟨j,u,rfl,e⟩ | ⟨y,u,rfl,e⟩
   ·injection e with e1 _;rw[e1]
   ·exact nomatch e
  ·rcases y8 hb with⟨j,u,rfl,e⟩ | ⟨y,u,rfl,e⟩
   ·exact nomatch e
   ·injection e with e1 _;rw[e1]
 byValue:=fun k v h=>by
  rcases y8 h with⟨i,t,rfl,rfl⟩ | ⟨x,t,rfl,rfl⟩<;>rfl
 pyHash:=fun hv h=>by
  rcases y8 hv with⟨i,t,rfl,rfl⟩ | ⟨x,t,rfl,rfl⟩
  ·exact wpAny_pyHash_int h
  ·exact wpAny_pyHash_str h
 eqBool:=fun hu hv h=>by
  rcases y8 hu with⟨i,t,rfl,rfl⟩ | ⟨x,t,rfl,rfl⟩
  ·rcases y8 hv with⟨j,u,rfl,rfl⟩ | ⟨y,u,rfl,rfl⟩
   ·rw[a9F]at h;exact wpAny_eqBool_int h
   ·rw[a9H]at h;exact SeqAt.EqAt.int_str i t y u _ _ _ _ h
  ·rcases y8 hv with⟨j,u,rfl,rfl⟩ | ⟨y,u,rfl,rfl⟩
   ·rw[a9I]at h;exact SeqAt.EqAt.str_int x t j u _ _ _ _ h
   ·rw[a9G]at h;exact wpAny_eqBool_str h
 «strs» := fun k x t v h=>by
  rcases y8 h with⟨i,u,rfl,e⟩ | ⟨y,u,rfl,e⟩
  ·exact nomatch e
  ·injection e with e1 _
   subst e1
   cases v<;>rfl
inductive V where
 | non | bl (b:Bool) | int (i:Int) | str (x:Str) | byt (b:Array UInt8) | flt (b:UInt64) | ref (a:Addr) | ty (n:String)
 deriving DecidableEq
def RelV:V→Value→Prop
 | .non,u=>u=Value.none
 | .bl b,u=>u=Value.bool b
 | .int i,u=>∃t,u=Value.int i t
 | .str x,u=>∃t,u=Value.str x t
 | .byt b,u=>∃t,u=Value.bytes b t
 | .flt b,u=>∃t,u=Value.float b t
 | .ref a,u=>u=Value.ref a
 | .ty n,u=>u=Value.type n
abbrev Vals:List V→List Value→Prop:=Paired RelV
theorem Vals.length{xs:List V}{us:List Value}(r:Vals xs us):xs.length=us.length:=Paired.length r
theorem Vals.get:∀{xs:List V} {us:List Value} {i:Nat} {x:V},Vals xs us→xs[i]? = some x→∃u,us[i]? = some u∧RelV x u
 | _,_,_,_,.nil,e=>by simp at e
 | _,_,0,_,.cons r _,e=>by simp at e;subst e;exact⟨_,rfl,r⟩
 | _,_,i+1,x,.cons _ t,e=>by
  obtain⟨u,h1,h2⟩:=Vals.get (i:=i) (x:=x) t (by simpa using e)
  exact⟨u,by simpa using h1,h2⟩
theorem Vals.set{x:V}{u:Value}(r:RelV x u):∀{xs:List V} {us:List Value} (i:Nat),Vals xs us→Vals (xs.set i x) (us.set i u)
 | _,_,_,.nil=>.nil
 | _,_,0,.cons _ t=>.cons r t
 | _,_,i+1,.cons q t=>.cons q (Vals.set r i t)
theorem Vals.append:∀{xs ys:List V} {us ws:List Value},Vals xs us→Vals ys ws→Vals (xs++ys) (us++ws)
 | _,_,_,_,.nil,s=>s
 | _,_,_,_,.cons r t,s=>.cons r (Vals.append t s)
theorem Vals.take:∀{xs:List V} {us:List Value} (n:Nat),Vals xs us→Vals (xs.take n) (us.take n)
 | _,_,0,_=>.nil
 | _,_,_+1,.nil=>.nil
 | _,_,n+1,.cons r t=>.cons r (Vals.take n t)
theorem Vals.drop:∀{xs:List V} {us:List Value} (n:Nat),Vals xs us→Vals (xs.drop n) (us.drop n)
 | _,_,0,r=>r
 | _,_,_+1,.nil=>.nil
 | _,_,n+1,.cons _ t=>Vals.drop n t
def a6y:Option V→Option Value→Prop
 | some v,some u=>RelV v u
 | none,none=>True
 | _,_=>False
def KV{κ:Type}:List (κ×V)→List (κ×Value)→Prop:=Paired fun(p:κ×V) (q:κ×Value)=>p.1=q.1∧RelV p.2 q.2
def kV:N3→V
 | .inl i=>.int i
 | .inr x=>.str x
inductive HO where
 /-- a list -/
 | lst (xs:List V)
 /-- a tuple (never changes) -/
 | tup (xs:List V)
 /-- a dict whose keys are ints and texts; one whose keys are tuples of ints and texts (the empty one is both) -/
 | dK (kvs:List (N3×V)) | dT (kvs:List (List N3×V))
 /-- a set of ints: its members, its size -/
 | set (S:Int→Bool) (n:Nat)
 /-- an instance of the class at C, its dict at dx, its attributes -/
 | ins (C dx:Addr) (fs:List (Str×V))
 /-- the dict of the instance at x -/
 | own (x:Addr)
 /-- the dict of an exception -/
 | xd (fs:List (Str×V))
 /-- a bound method, f of x -/
 | met (f x:Addr)
 /-- a range object lo, lo + 1, .. below hi -/
 | rng (lo hi:Int)
 /-- a thing that is known to the object (the script; a dict while a loop walks it): read, never written while it is so -/
 | frz (o:Obj) (u:HO)
 /-- a code object's table -/
 | tbl (ps:Array Value)
 /-- any other thing, by what is true of its one object (a def of one's own: SetO a S n := HO.ext fun h => ..) -/
 | ext (φ:Heap→Prop)
abbrev Hp:=Addr→Option HO
def upd(H:Hp)(a:Addr)(o:HO):Hp:=fun b=>if b=a then some o else H b
theorem i5{H:Hp}{a:Addr}{o:HO}:upd H a o a=some o:=by unfold upd;rw[if_pos rfl]
theorem g7{H:Hp}{a b:Addr}{o:HO}(h:b≠a):upd H a o b=H b:=by unfold upd;rw[if_neg h]
theorem b07{H:Hp}{a b:Addr}{o u:HO}(h:H a=some o)(h':H b=some u)(d:o≠u):a≠b:=by
 intro e;subst e;rw[h]at h';exact d (Option.some.inj h')
theorem i3{H:Hp}{a b:Addr}{o:HO}(h:H a=some o)(h':H b=none):a≠b:=by
 intro e;subst e;rw[h]at h';cases h'
section
variable (P:Program)(w:World)
def ObjOk(H:Hp)(h:Heap)(a:Addr):HO→Prop
 | .lst xs=>xs.length≤sizeLine∧∃(its:List Value) (n:Nat),Vals xs its∧h.get? a=some { cls:=.type "list",data:=.seq its.toArray n }
 | .tup xs=>xs.length≤sizeLine∧∃its:List Value,Vals xs its∧IsTup h a its.toArray
 | .dK kvs=>kvs.length≤sizeLine∧(a == sysModules)=false∧∃vs,KV kvs vs∧h.DictOf (a3R P w) a vs
 | .dT kvs=>kvs.length≤sizeLine∧(a == sysModules)=false∧∃xs:List (List N3×Addr×Value),
   Paired (fun(p:List N3×V) (q:List N3×Addr×Value)=>p.1=q.1∧H q.2.1=some (.tup (p.1.map kV))∧RelV p.2 q.2.2) kvs xs ∧
   ∃o es ep,h.get? a=some o∧o.ExactDict∧o.data=.dict es ep∧es.toList=xs.map (entryOfKey (tupleKind (a3R P w)))∧(xs.map (·.1)).Nodup
 | .set S n=>h.SetOf (intKind P w) a S n
 | .ins C dx fs=>H dx=some (.own a)∧fs.length≤1000∧dx≠a∧h.get? a=some (W.instObj C dx) ∧
   ∃mA,h.Ns1 dx mA∧(∀f,a6y (fs.lookup f) (mA f))∧PySem.Within mA (fs.map (·.1))
 | .own _=>∃o,h.get? a=some o
 | .xd fs=>∃mA,h.Ns1 a mA∧∀f,a6y (fs.lookup f) (mA f)
 | .rng lo hi=>∃t u v,h.get? a=some { cls:=.type "range",data:=.fields #[.int lo t,.int hi u,.int 1 v] }
 | .frz o u=>h.get? a=some o∧ObjOk H h a u
 | .tbl qs=>∃ps:Array Value,h.get? a=some { cls:=.none,data:=.fields ps }∧TriplesOk ps.toList∧∀pos cv,codeAmong pos ps.toList=some cv→∃c oc u,cv=Value.ref c∧H c=some (.frz oc u)∧∃vs q t t2,oc.data=.fields vs∧vs[1]? = some (Value.str q t2)∧qs[0]? = some (Value.str q t)
 | .met f x=>h.get? a=some (W.methodObj (.ref f) (.ref x))
 | .ext φ=>φ h∧(∃o,h.get? a=some o)∧∀h1 h2:Heap,φ h1→(∀o,h1.get? a=some o→h2.get? a=some o)→φ h2
def HOk(H:Hp)(h:Heap):Prop:=∀a o,H a=some o→ObjOk P w H h a o
end
section
variable {P:Program}{w:World}{H H':Hp}{h h':Heap}{a:Addr}{o:HO}
theorem ObjOk.lt(x:ObjOk P w H h a o):a<h.objs.size:=by
 cases o with
 | lst xs=>obtain⟨_,_,_,_,e⟩:=x;exact Heap.lt_size e
 | tup xs=>obtain⟨_,_,_,p⟩:=x;exact p.lt
 | dK kvs=>obtain⟨_,_,_,_,o,_,_,e,_⟩:=x;exact Heap.lt_size e
 | dT kvs=>obtain⟨_,_,_,_,o,_,_,e,_⟩:=x;exact Heap.lt_size e
 | set S n=>obtain⟨o,_,_,_,e,_⟩:=x;exact Heap.lt_size e
 | ins C dx fs=>obtain⟨_,_,_,e,_⟩:=x;exact Heap.lt_size e
 | own y=>obtain⟨_,e⟩:=x;exact Heap.lt_size e
 | xd fs=>obtain⟨_,⟨_,_,_,e,_⟩,_⟩:=x;exact Heap.lt_size e
 | rng lo hi=>obtain⟨_,_,_,e⟩:=x;exact Heap.lt_size e
 | frz ob u=>obtain⟨e,_⟩:=x;exact Heap.lt_size e
 | tbl ps=>obtain⟨_,e,_⟩:=x;exact Heap.lt_size e
 | met f y=>exact Heap.lt_size (show h.get? a=some _ from x)
 | ext φ=>obtain⟨_,⟨_,e⟩,_⟩:=x;exact Heap.lt_size e
theorem Paired.mapP{α β:Type}{F G:α→β→Prop}:∀{l₁:List α} {l₂:List β},Paired F l₁ l₂→(∀a b,F a b→G a b)→Paired G l₁ l₂
 | _,_,.nil,_=>.nil
 | _,_,.cons r t,f=>.cons (f _ _ r) (Paired.mapP t f)
theorem ObjOk.stay(x:ObjOk P w H h a o)(k:∀b u,(b=a∨H b=some (.own a))→h.get? b=some u→h'.get? b=some u)
  (ho:∀b,H b=some (.own a)→H' b=some (.own a)) (ht:∀b xs,H b=some (.tup xs)→H' b=some (.tup xs)) (hz:∀b ob u,H b=some (.frz ob u)→H' b=some (.frz ob u)):ObjOk P w H' h' a o:=by
 induction o with
 | lst xs=>obtain⟨z,its,n,r,e⟩:=x;exact⟨z,its,n,r,k _ _ (.inl rfl) e⟩
 | tup xs=>obtain⟨z,its,r,ob,e,c⟩:=x;exact⟨z,its,r,ob,k _ _ (.inl rfl) e,c⟩
 | dK kvs=>obtain⟨z,y,vs,r,ob,es,ep,e,c⟩:=x;exact⟨z,y,vs,r,ob,es,ep,k _ _ (.inl rfl) e,c⟩
 | dT kvs =>
  obtain⟨z,y,xs,r,ob,es,ep,e,c⟩:=x
  exact⟨z,y,xs,Paired.mapP r fun p q z=>⟨z.1,ht _ _ z.2.1,z.2.2⟩,ob,es,ep,k _ _ (.inl rfl) e,c⟩
 | set S n=>obtain⟨ob,es,ep,t,e,c⟩:=x;exact⟨ob,es,ep,t,k _ _ (.inl rfl) e,c⟩
 | ins C dx fs =>
  obtain⟨d,z,ne,e,mA,⟨od,es,ep,e2,c⟩,r⟩:=x
  exact⟨ho _ d,z,ne,k _ _ (.inl rfl) e,mA,⟨od,es,ep,k _ _ (.inr d) e2,c⟩,r⟩
 | own y=>obtain⟨ob,e⟩:=x;exact⟨ob,k _ _ (.inl rfl) e⟩
 | xd fs=>obtain⟨mA,⟨od,es,ep,e,c⟩,r⟩:=x;exact⟨mA,⟨od,es,ep,k _ _ (.inl rfl) e,c⟩,r⟩
 | rng lo hi=>obtain⟨t,u,v,e⟩:=x;exact⟨t,u,v,k _ _ (.inl rfl) e⟩
 | frz ob u ih=>obtain⟨e,q⟩:=x;exact⟨k _ _ (.inl rfl) e,ih q⟩
 | tbl qs =>
  obtain⟨ps,e,tr,al⟩:=x
  refine⟨ps,k a _ (.inl rfl) e,tr,fun pos cv q=>?_⟩
  obtain⟨c,oc,u,e1,e3,r⟩:=al pos cv q
  exact⟨c,oc,u,e1,hz _ _ _ e3,r⟩
 | met f y =>
  have e:h.get? a=some (W.methodObj (.ref f) (.ref y)):=x
  show h'.get? a=some (W.methodObj (.ref f) (.ref y))
  exact k a _ (.inl rfl) e
 | ext φ=>obtain⟨p,⟨o,e⟩,st⟩:=x;exact⟨st _ _ p fun o q=>k _ _ (.inl rfl) q,⟨o,k _ _ (.inl rfl) e⟩,st⟩
theorem HOk.lt(x:HOk P w H h)(e:H a=some o):a<h.objs.size:=(x a o e).lt
theorem HOk.fresh(x:HOk P w H h)(e:h.objs.size≤a):H a=none:=by
 cases q:H a with
 | none=>rfl
 | some u=>exact absurd (Nat.lt_of_lt_of_le (x.lt q) e) (Nat.lt_irrefl _)
theorem HOk.kept(x:HOk P w H h)(k:∀b u,h.get? b=some u→h'.get? b=some u):HOk P w H h':=fun a o e =>
 (x a o e).stay (fun b u _ q=>k b u q) (fun _ q=>q) (fun _ _ q=>q) fun _ _ _ q=>q
theorem HOk.laid(x:HOk P w H h)(k:∀b u,h.get? b=some u→h'.get? b=some u)(hp:h.objs.size≤a)(new:ObjOk P w (upd H a o) h' a o):HOk P w (upd H a o) h':=fun b u e=>by
 have hn:=x.fresh hp
 by_cases hb:b=a
 ·subst hb;rw[i5]at e;cases e;exact new
 ·rw[g7 hb]at e
  exact(x b u e).stay (fun c v _ q=>k c v q) (fun c q=>by rw[g7 (i3 q hn)];exact q) (fun c xs q=>by rw[g7 (i3 q hn)];exact q) fun c ob u q=>by rw[g7 (i3 q hn)];exact q
end
def Rd(H:Hp)(a:Addr)(u:HO):Prop:=H a=some u∨∃o,H a=some (.frz o u)
theorem Rd.of{H:Hp}{a:Addr}{u:HO}(h:H a=some u):Rd H a u:=.inl h
theorem Rd.ok{P:Program}{w:World}{H:Hp}{h:Heap}{a:Addr}{u:HO}(r:Rd H a u)(x:HOk P w H h):ObjOk P w H h a u:=by
 rcases r with r | ⟨o,r⟩
 ·exact x a u r
 ·obtain⟨_,q⟩:=x a _ r
  exact q
def Mut:Option HO→Prop
 | some (.lst _)=>True
 | some (.dK _)=>True
 | some (.dT _)=>True
 | some (.set _ _)=>True
 | some (.ins _ _ _)=>True
 | some (.ext _)=>True
 | _=>False
section
variable {P:Program}{w:World}{H:Hp}{h h':Heap}{x e:Addr}{o':HO}
theorem HOk.write(ok:HOk P w H h)(mu:Mut (H x))(he:e=x∨H e=some (.own x))(k:∀b u,b≠e→h.get? b=some u→h'.get? b=some u)(heo:∃u,h'.get? e=some u)
  (new:ObjOk P w (upd H x o') h' x o'):HOk P w (upd H x o') h':=fun b u q=>by
 have nown:∀c y,H c=some (.own y)→c≠x:=fun c y r z=>by subst z;rw[r]at mu;exact mu
 have ntup:∀c xs,H c=some (.tup xs)→c≠x:=fun c xs r z=>by subst z;rw[r]at mu;exact mu
 by_cases hb:b=x
 ·subst hb;rw[i5]at q;cases q;exact new
 ·rw[g7 hb]at q
  by_cases hbe:b=e
  ·have q':H b=some (.own x):=by
    rcases he with z | z
    ·exact absurd (hbe.trans z) hb
    ·rw[hbe];exact z
   rw[q]at q';cases q'
   obtain⟨v,hv⟩:=heo
   exact⟨v,by rw[hbe];exact hv⟩
  ·refine(ok b u q).stay (fun c v hc r=>k c v ?_ r) (fun c r=>by rw[g7 (nown c b r)];exact r) (fun c xs r=>by rw[g7 (ntup c xs r)];exact r) fun c ob u r=>by rw[g7 (fun z=>by subst z;rw[r]at mu;exact mu)];exact r
   rcases hc with rfl | hc
   ·exact hbe
   ·rintro rfl
    rcases he with z | z
    ·exact nown c b hc z
    ·rw[hc]at z;cases z;exact hb rfl
end
structure Un(fs ex:List Addr)(H H':Hp)(h h':Heap):Prop where
 keep:∀b o,h.get? b=some o→H b=none→b ∉ fs→b ∉ ex→h'.get? b=some o
 slot:∀b o,h.get? b=some o→H b=none→b∈fs→b ∉ ex→∃sl,h'.get? b=some { o with slots:=sl }
 free:∀b o,h.get? b=some o→H b=none→b ∉ ex→H' b=none
 there:∀b o,h.get? b=some o→b ∉ ex→∃o',h'.get? b=some o'
 tups:∀b xs,H b=some (.tup xs)→H' b=some (.tup xs)
 frzs:∀b o u,H b=some (.frz o u)→H' b=some (.frz o u)
 tbls:∀b ps,H b=some (.tbl ps)→∃more,H' b=some (.tbl (ps++more))
section
variable {fs fs' ex ex':List Addr}{H H1 H2:Hp}{h h1 h2 h':Heap}{a x e:Addr}{o:HO}
theorem Un.any(u:Un fs ex H H1 h h1){b:Addr}{ob:Obj}(q:h.get? b=some ob)(n:H b=none)(hx:b ∉ ex):∃sl,h1.get? b=some { ob with slots:=sl }:=by
 by_cases hb:b∈fs
 ·exact u.slot b ob q n hb hx
 ·exact⟨ob.slots,u.keep b ob q n hb hx⟩
theorem Un.trans(a:Un fs ex H H1 h h1)(b:Un fs ex H1 H2 h1 h2):Un fs ex H H2 h h2 where
 keep:=fun c ob q n hc hx=>b.keep c ob (a.keep c ob q n hc hx) (a.free c ob q n hx) hc hx
 slot:=fun c ob q n hc hx=>by
  obtain⟨sl,e1⟩:=a.slot c ob q n hc hx
  obtain⟨sl',e2⟩:=b.slot c _ e1 (a.free c ob q n hx) hc hx
  exact⟨sl',e2⟩
 free:=fun c ob q n hx=>by
  obtain⟨o',e1⟩:=a.there c ob q hx
  exact b.free c o' e1 (a.free c ob q n hx) hx
 there:=fun c ob q hx=>by
  obtain⟨o',e1⟩:=a.there c ob q hx
  exact b.there c o' e1 hx
 tups:=fun c xs q=>b.tups c xs (a.tups c xs q)
 frzs:=fun c ob xs q=>b.frzs c ob xs (a.frzs c ob xs q)
 tbls:=fun c ps q=>by
  obtain⟨m1,e1⟩:=a.tbls c ps q
  obtain⟨m2,e2⟩:=b.tbls c _ e1
  exact⟨m1++m2,by rw[e2,Array.append_assoc]⟩
theorem Un.kept(k:∀b u,h.get? b=some u→h'.get? b=some u):Un fs ex H H h h' :=
 ⟨fun b ob q _ _ _=>k b ob q,fun b ob q _ _ _=>⟨ob.slots,k b ob q⟩,fun _ _ _ n _=>n,fun b ob q _=>⟨ob,k b ob q⟩,fun _ _ q=>q,fun _ _ _ q=>q,fun _ ps q=>⟨#[],by rw[q];simp⟩⟩
theorem Un.refl:Un fs ex H H h h:=Un.kept fun _ _ q=>q
theorem Un.laid(k:∀b u,h.get? b=some u→h'.get? b=some u)(hp:h.objs.size≤a)(hn:H a=none):Un fs ex H (upd H a o) h h' where
 keep:=fun b u q _ _ _=>k b u q
 slot:=fun b u q _ _ _=>⟨u.slots,k b u q⟩
 free:=fun b u q n _=>by rw[g7 (Nat.ne_of_lt (Nat.lt_of_lt_of_le (Heap.lt_size q) hp))];exact n
 there:=fun b u q _=>⟨u,k b u q⟩
 tups:=fun b xs q=>by rw[g7 (i3 q hn)];exact q
 frzs:=fun b u xs q=>by rw[g7 (i3 q hn)];exact q
 tbls:=fun b ps q=>⟨#[],by rw[g7 (i3 q hn),q];simp⟩
theorem Un.write(mu:Mut (H x))(he:e=x∨H e=some (.own x))(k:∀b u,b≠e→h.get? b=some u→h'.get? b=some u)(heo:∃u,h'.get? e=some u):Un fs ex H (upd H x o) h h':=by
 have hx:∀b,H b=none→b≠x:=fun b n z=>by subst z;rw[n]at mu;exact mu
 have hb:∀b,H b=none→b≠e:=fun b n z=>by
  subst z
  rcases he with r | r
  ·exact hx b n r
  ·rw[n]at r;cases r
 have hm:∀b u,H b=some u→¬Mut (some u)→b≠x:=fun b u q nm z=>by subst z;rw[q]at mu;exact nm mu
 refine⟨fun b u q n _ _=>k b u (hb b n) q,fun b u q n _ _=>⟨u.slots,k b u (hb b n) q⟩,fun b u q n _=>by rw[g7 (hx b n)];exact n,fun b u q _=>?_,
  fun b xs q=>by rw[g7 (hm b _ q fun z=>z)];exact q,fun b u xs q=>by rw[g7 (hm b _ q fun z=>z)];exact q,fun b ps q=>⟨#[],by rw[g7 (hm b _ q fun z=>z),q];simp⟩⟩
 by_cases hbe:b=e
 ·subst hbe;exact heo
 ·exact⟨u,k b u hbe q⟩
theorem Un.mono(u:Un fs ex H H1 h h1)(hs:∀b∈fs,b∈fs')(hx:∀b∈ex,b∈ex'):Un fs' ex' H H1 h h1 :=
 ⟨fun b ob q n hb he=>u.keep b ob q n (fun z=>hb (hs b z)) fun z=>he (hx b z),fun _ _ q n _ he=>u.any q n fun z=>he (hx _ z),fun b ob q n he=>u.free b ob q n fun z=>he (hx b z),fun b ob q he=>u.there b ob q fun z=>he (hx b z),u.tups,u.frzs,u.tbls⟩
end
def trk(h:Heap)(H:Hp):List Addr:=(List.range h.objs.size).filter fun a=>(H a).isSome
def V5(h:Heap)(H:Hp):Heap:=W.hideAll h (trk h H)
theorem a5e(h:Heap)(H:Hp):(V5 h H).objs.size=h.objs.size:=W.hideAll_size _ _
theorem a6z{h:Heap}{H:Hp}{b:Addr}{o:Obj}(e:h.get? b=some o)(n:H b=none):(V5 h H).get? b=some o :=
 W.hideAll_get _ e fun hm=>by
  have q:(H b).isSome=true:=(List.mem_filter.mp hm).2
  rw[n]at q;simp at q
theorem a8f{h:Heap}{H:Hp}{b:Addr}{o:Obj}(e:(V5 h H).get? b=some o):h.get? b=some o∧H b=none:=by
 have e':h.get? b=some o:=W.of_hideAll (trk h H) e
 refine⟨e',?_⟩
 cases q:H b with
 | none=>rfl
 | some x =>
  have hm:b∈trk h H:=List.mem_filter.mpr ⟨List.mem_range.mpr (Heap.lt_size e'),by simp[q]⟩
  have z:(V5 h H).get? b=none:=W.hideAll_none (trk h H) hm
  rw[z]at e;cases e
def a8g(g h:Heap)(L:Addr):List (Addr×Obj):=(List.range h.objs.size).filterMap fun a=>if a=L∨(g.get? a).isSome=true then none else(h.get? a).map fun o=>(a,o)
def l5(g h:Heap)(L d:Addr):List (Addr×Obj):=(a8g g h L).filter fun p=>decide (p.1≠d)
structure Mod(K:W.Frag)(mg:Str→Option Value)(base:Heap):Prop where
 kin:K.In base
 glob:base.Ns mainGlobals mg
 blt:∃mb,base.Ns builtinsNs mb∧∀x:Str,x≠"__name__"→mb x=bootBuiltins x
 nolimit:base.NoLimit
structure Cx where
 prog:Program
 w:World
 K:W.Frag
 mg:Str→Option Value
 base:Heap
 A:Around
 N:List Str
 s₀:Shared
 H₀:Hp
 env:Env
 outer:List Env
 stack:List Env
 ex:List Addr
 fn:Str→Bool
 calm:Bool
 pn:List (Addr×Obj)
 xe:Value→Shared→Prop
def E5(l:List Env):List Addr:=l.filterMap (·.frame)
abbrev Cx.fs(X:Cx):List Addr:=E5 X.outer
def Vis(sc:Scope)(x:Str):Prop:=sc.names.lookup x=some .local∨sc.names.lookup x=some .cell∨sc.names.lookup x=some .free
def Loc(sc:Scope)(x:Str):Prop:=sc.names.lookup x=some .local∨sc.names.lookup x=some .cell
def b1B(env:Env)(h:Heap)(m:Str→Option Value)(x:Str)(u:Value):Prop :=
 (env.kindOf x=some .local∧m x=some u)∨((env.kindOf x=some .cell∨env.kindOf x=some .free)∧∃c,env.cells.lookup x=some c∧h.IsCell c (some u))
structure Cx.Ok(X:Cx):Prop where
 mod:Mod X.K X.mg X.base
 kind:X.env.scope.kind=.function
 glob:X.env.globals=mainGlobals
 blt:X.env.builtins=builtinsNs
 above:X.s₀.heap.objs.size≤X.env.locals
 inj:∀x y c,X.env.cells.lookup x=some c→X.env.cells.lookup y=some c→x=y
 has:∀x,(X.env.kindOf x=some .cell∨X.env.kindOf x=some .free)→∃c,X.env.cells.lookup x=some c
 cab:∀x c,X.fn x=true→X.env.cells.lookup x=some c→X.s₀.heap.objs.size≤c
 hd:X.calm=true→X.A.handled=none
 frames:X.A.frames=some X.stack
 stk:X.stack=X.outer∨(X.stack=X.env::X.outer∧X.env.frame=some X.env.locals)
 exf:∀b∈X.ex,b≠X.env.locals∧∀x c,X.env.cells.lookup x=some c→c≠b
 bs:∀b o,X.base.get? b=some o→X.s₀.heap.get? b=some o∧X.H₀ b=none
 bsz:X.base.objs.size≤X.s₀.heap.objs.size
 noex:∀b o,X.base.get? b=some o→b ∉ X.ex
 exfs:∀b∈X.ex,b ∉ X.fs
 funs:X.s₀.heap.FunFrames X.base X.outer
 frf:∀b∈X.fs,X.H₀ b=none
structure Inv(X:Cx)(pins:List (Addr×Obj))(σ:List (Option V))(H:Hp)(s:Shared):Prop where
 ok:X.Ok
 os:s.os=X.s₀.os
 bare:AllBare s.gens
 base:Un X.fs X.ex X.H₀ H X.s₀.heap s.heap
 loc:∃m,s.heap.Ns X.env.locals m∧∀(i:Nat) (x:Str) (v:V),X.N[i]? = some x→σ[i]? = some (some v)→Vis X.env.scope x→∃u,RelV v u∧b1B X.env s.heap m x u
 cell:∀x c,X.env.cells.lookup x=some c→∃v,s.heap.IsCell c v
 free:H X.env.locals=none
 freeC:∀x c,X.env.cells.lookup x=some c→H c=none
 pin:∀p∈X.pn++pins,s.heap.get? p.1=some p.2∧H p.1=none∧p.1≠X.env.locals∧p.1 ∉ X.fs∧∀v,p.2.data≠.cell v
 hok:HOk X.prog X.w H s.heap
 len:σ.length=X.N.length
section
variable {X:Cx}{pins:List (Addr×Obj)}{σ:List (Option V)}{H H':Hp}{s:Shared}{h':Heap}
theorem Cx.Ok.nofr(ok:X.Ok){b:Addr}{o:Obj}(e:X.base.get? b=some o):b ∉ X.fs:=fun hb=>by
 have:=(ok.funs.mem hb).1
 rw[e]at this;cases this
theorem Inv.bs(I:Inv X pins σ H s):∀b o,X.base.get? b=some o→s.heap.get? b=some o∧H b=none:=fun b o e =>
 ⟨I.base.keep b o (I.ok.bs b o e).1 (I.ok.bs b o e).2 (I.ok.nofr e) (I.ok.noex b o e),I.base.free b o (I.ok.bs b o e).1 (I.ok.bs b o e).2 (I.ok.noex b o e)⟩
theorem Inv.bk(I:Inv X pins σ H s):∀b o,X.base.get? b=some o→s.heap.get? b=some o:=fun b o e=>(I.bs b o e).1
theorem Inv.mod(I:Inv X pins σ H s):Mod X.K X.mg X.base:=I.ok.mod
theorem Inv.kIn(I:Inv X pins σ H s):X.K.In s.heap:=I.ok.mod.kin.keeps I.bk
theorem Inv.nolimit(I:Inv X pins σ H s):s.heap.NoLimit:=I.ok.mod.nolimit.keeps I.bk
theorem Inv.fr(I:Inv X pins σ H s):∃m,Fr X.base X.env.locals s.heap m :=
 let ⟨m,hn,_⟩:=I.loc
 ⟨m,hn,I.bk,Nat.le_trans I.ok.bsz I.ok.above⟩
theorem Inv.lt(I:Inv X pins σ H s):X.env.locals<s.heap.objs.size:=let ⟨_,hn,_⟩:=I.loc;hn.lt
theorem Inv.sz(I:Inv X pins σ H s):X.s₀.heap.objs.size≤s.heap.objs.size:=Nat.le_trans I.ok.above (Nat.le_of_lt I.lt)
theorem Inv.nofs(I:Inv X pins σ H s){a:Addr}(h:s.heap.objs.size≤a):a ∉ X.fs:=fun hb=>by
 obtain⟨_,o,ho,_⟩:=I.ok.funs.mem hb
 exact absurd (Nat.lt_of_lt_of_le (Heap.lt_size ho) (Nat.le_trans I.sz h)) (Nat.lt_irrefl _)
theorem Inv.cne(I:Inv X pins σ H s):∀x c,X.env.cells.lookup x=some c→c≠X.env.locals:=fun x c e z=>by
 obtain⟨v,o,ho,hd⟩:=I.cell x c e
 obtain⟨m,⟨o',es,ep,ho',hd',_⟩,_⟩:=I.loc
 rw[z,ho']at ho;cases ho;rw[hd']at hd;cases hd
theorem Inv.funs(I:Inv X pins σ H s):s.heap.FunFrames X.base X.outer:=by
 have all:∀(l:List Env),(∀b∈E5 l,b∈X.fs)→X.s₀.heap.FunFrames X.base l→s.heap.FunFrames X.base l:=by
  intro l
  induction l with
  | nil=>intro _ _;trivial
  | cons env r ih =>
   intro hs hl
   obtain⟨hk,⟨L,o,hf,hn,ho,hd⟩,hr⟩:=hl
   have hL:L∈X.fs:=hs L (by unfold E5;rw[List.filterMap_cons,hf];exact List.mem_cons_self)
   obtain⟨sl,e⟩:=I.base.slot L o ho (I.ok.frf L hL) hL fun z=>I.ok.exfs L z hL
   exact⟨hk,⟨L,_,hf,hn,e,hd⟩,ih (fun b hb=>hs b (by unfold E5;rw[List.filterMap_cons,hf];exact List.mem_cons_of_mem _ hb)) hr⟩
 exact all X.outer (fun _ hb=>hb) I.ok.funs
theorem Inv.stack(I:Inv X pins σ H s):s.heap.FunFrames X.base X.stack:=by
 rcases I.ok.stk with e | ⟨e,hf⟩
 ·rw[e];exact I.funs
 ·rw[e]
  obtain⟨m,hn,_⟩:=I.loc
  refine .cons (by rw[I.ok.kind];decide) hf hn ?_ I.funs
  exact Heap.get?_none_of_le (Nat.le_trans I.ok.bsz I.ok.above)
theorem Inv.stkSub(I:Inv X pins σ H s):∀b∈E5 X.stack,b∈X.env.locals::X.fs:=fun b hb=>by
 rcases I.ok.stk with e | ⟨e,hf⟩
 ·rw[e]at hb;exact List.mem_cons_of_mem _ hb
 ·rw[e]at hb
  unfold E5 at hb
  rw[List.filterMap_cons,hf]at hb
  exact hb
theorem Inv.stkFree(I:Inv X pins σ H s):∀b∈E5 X.stack,H b=none:=fun b hb=>by
 rcases List.mem_cons.mp (I.stkSub b hb)with e | hb
 ·rw[e];exact I.free
 ·obtain⟨_,o,ho,_⟩:=I.ok.funs.mem hb
  exact I.base.free b o ho (I.ok.frf b hb) fun z=>I.ok.exfs b z hb
theorem Inv.step{g':Array GenState}{t':Nat}{d':Drawn}{ch:List Addr}(I:Inv X pins σ H s)
  (hch:∀b∈ch,(b∈X.ex∨X.s₀.heap.objs.size≤b)∧b≠X.env.locals∧(∀x c,X.env.cells.lookup x=some c→c≠b)∧∀p∈X.pn++pins,p.1≠b)
  (keep:∀b o,b≠X.env.locals→b ∉ X.fs→b ∉ ch→s.heap.get? b=some o→H b=none→h'.get? b=some o)
  (slot:∀b o,b≠X.env.locals→b∈X.fs→b ∉ ch→s.heap.get? b=some o→H b=none→∃sl,h'.get? b=some { o with slots:=sl }) (free:∀b o,b ∉ ch→s.heap.get? b=some o→H b=none→H' b=none)
  (there:∀b o,b ∉ ch→s.heap.get? b=some o→∃o',h'.get? b=some o')
  (tups:∀b xs,H b=some (.tup xs)→H' b=some (.tup xs)) (frzs:∀b o u,H b=some (.frz o u)→H' b=some (.frz o u)) (tbls:∀b ps,H b=some (.tbl ps)→∃more,H' b=some (.tbl (ps++more)))
  (ns:∀m,s.heap.Ns X.env.locals m→h'.Ns X.env.locals m) (hok:HOk X.prog X.w H' h') (hg:AllBare g') :
  Inv X pins σ H' { s with heap:=h',gens:=g',drawn:=d',toks:=t' }:=by
 have neL:∀b o,X.s₀.heap.get? b=some o→b≠X.env.locals:=fun b o e=>Nat.ne_of_lt (Nat.lt_of_lt_of_le (Heap.lt_size e) I.ok.above)
 have neC:∀b o,X.s₀.heap.get? b=some o→b ∉ X.ex→b ∉ ch:=fun b o e hx hb=>by
  rcases(hch b hb).1 with z | z
  ·exact hx z
  ·exact absurd (Nat.lt_of_lt_of_le (Heap.lt_size e) z) (Nat.lt_irrefl _)
 have cellK:∀x c,X.env.cells.lookup x=some c→∀v,s.heap.IsCell c v→h'.IsCell c v:=fun x c e v ⟨o,ho,hd⟩=>by
  have nch:c ∉ ch:=fun z=>(hch c z).2.2.1 x c e rfl
  by_cases hc:c∈X.fs
  ·obtain⟨sl,q⟩:=slot c o (I.cne x c e) hc nch ho (I.freeC x c e)
   exact⟨_,q,hd⟩
  ·exact⟨o,keep c o (I.cne x c e) hc nch ho (I.freeC x c e),hd⟩
 refine⟨I.ok,I.os,hg,⟨fun b o e n hb hx=>?_,fun b o e n hb hx=>?_,fun b o e n hx=>?_,fun b o e hx=>?_,fun b xs e=>tups b xs (I.base.tups b xs e),fun b o xs e=>frzs b o xs (I.base.frzs b o xs e),fun b ps e=>?_⟩,?_,fun x c e=>?_,?_,fun x c e=>?_,fun p hp=>?_,hok,I.len⟩
 ·exact keep b o (neL b o e) hb (neC b o e hx) (I.base.keep b o e n hb hx) (I.base.free b o e n hx)
 ·obtain⟨sl,e1⟩:=I.base.slot b o e n hb hx
  obtain⟨sl',e2⟩:=slot b _ (neL b o e) hb (neC b o e hx) e1 (I.base.free b o e n hx)
  exact⟨sl',e2⟩
 ·obtain⟨o',e1⟩:=I.base.there b o e hx
  exact free b o' (neC b o e hx) e1 (I.base.free b o e n hx)
 ·obtain⟨o',e1⟩:=I.base.there b o e hx
  exact there b o' (neC b o e hx) e1
 ·obtain⟨m1,e1⟩:=I.base.tbls b ps e
  obtain⟨m2,e2⟩:=tbls b _ e1
  exact⟨m1++m2,by rw[e2,Array.append_assoc]⟩
 ·obtain⟨m,hn,hl⟩:=I.loc
  refine⟨m,ns m hn,fun i x v e1 e2 e3=>?_⟩
  obtain⟨u,r,l⟩:=hl i x v e1 e2 e3
  refine⟨u,r,?_⟩
  rcases l with l | ⟨k,c,e,z⟩
  ·exact .inl l
  ·exact .inr ⟨k,c,e,cellK x c e _ z⟩
 ·obtain⟨v,z⟩:=I.cell x c e
  exact⟨v,cellK x c e v z⟩
 ·obtain⟨m,⟨o,_,_,ho,_⟩,_⟩:=I.loc
  exact free _ o (fun z=>(hch _ z).2.1 rfl) ho I.free
 ·obtain⟨v,o,ho,hd⟩:=I.cell x c e
  exact free c o (fun z=>(hch c z).2.2.1 x c e rfl) ho (I.freeC x c e)
 ·obtain⟨e,n,ne,nf,d⟩:=I.pin p hp
  have nch:p.1 ∉ ch:=fun z=>(hch p.1 z).2.2.2 p hp rfl
  exact⟨keep p.1 p.2 ne nf nch e n,free p.1 p.2 nch e n,ne,nf,d⟩
theorem Inv.un{t':Nat}(I:Inv X pins σ H s)(u:Un X.fs [] H H' s.heap h')(hok:HOk X.prog X.w H' h'):Inv X pins σ H' { s with heap:=h',toks:=t' }:=by
 obtain⟨m,⟨o,es,ep,ho,r⟩,_⟩:=id I.loc
 obtain⟨sl,hL⟩:=u.any ho I.free (by simp)
 exact I.step (g':=s.gens) (d':=s.drawn) (ch:=[]) (fun _ z=>nomatch z) (fun b o _ hb _ e n=>u.keep b o e n hb (by simp)) (fun b o _ hb _ e n=>u.slot b o e n hb (by simp)) (fun b o _ e n=>u.free b o e n (by simp)) (fun b o _ e=>u.there b o e (by simp)) u.tups u.frzs u.tbls (fun m' hm=>by
  obtain⟨o',es',ep',ho',r'⟩:=hm
  rw[ho]at ho';cases ho'
  exact⟨_,es',ep',hL,r'⟩) hok I.bare
theorem Inv.call{g':Array GenState}{t':Nat}{d':Drawn}{ch:List Addr}(I:Inv X pins σ H s)(u:Un (E5 X.stack) ch H H' s.heap h')(hok:HOk X.prog X.w H' h')(hg:AllBare g')
  (hch:∀b∈ch,(b∈X.ex∨X.s₀.heap.objs.size≤b)∧b≠X.env.locals∧(∀x c,X.env.cells.lookup x=some c→c≠b)∧∀p∈X.pn++pins,p.1≠b) :
  Inv X pins σ H' { s with heap:=h',gens:=g',drawn:=d',toks:=t' }:=by
 obtain⟨m,⟨o,es,ep,ho,r⟩,_⟩:=id I.loc
 obtain⟨sl,hL⟩:=u.any ho I.free fun z=>(hch _ z).2.1 rfl
 exact I.step (ch:=ch) hch (fun b o hL hb hc e n=>u.keep b o e n (fun z=>(List.mem_cons.mp (I.stkSub b z)).elim hL hb) hc) (fun b o _ _ hc e n=>u.any e n hc) (fun b o hc e n=>u.free b o e n hc) (fun b o hc e=>u.there b o e hc) u.tups u.frzs u.tbls (fun m' hm=>by
  obtain⟨o',es',ep',ho',r'⟩:=hm
  rw[ho]at ho';cases ho'
  exact⟨_,es',ep',hL,r'⟩) hok hg
theorem Inv.turned{t':Nat}{it:Addr}(I:Inv X pins σ H s)(k:∀b o,b≠it→s.heap.get? b=some o→h'.get? b=some o)(hn:H it=none)(hL:it≠X.env.locals)
  (h1:it∈X.ex∨X.s₀.heap.objs.size≤it) (h2:∀x c,X.env.cells.lookup x=some c→c≠it) (h3:∀p∈X.pn++pins,p.1≠it):Inv X pins σ H { s with heap:=h',toks:=t' }:=by
 have nit:∀b u,H b=some u→b≠it:=fun b u e z=>by rw[z,hn]at e;cases e
 refine I.step (g':=s.gens) (d':=s.drawn) (ch:=[it]) (fun b hb=>?_) (fun b o _ _ hc e _=>k b o (fun z=>hc (by simp[z])) e) (fun b o _ _ hc e _=>⟨o.slots,k b o (fun z=>hc (by simp[z])) e⟩) (fun _ _ _ _ n=>n)
  (fun b o hc e=>⟨o,k b o (fun z=>hc (by simp[z])) e⟩) (fun _ _ e=>e) (fun _ _ _ e=>e) (fun b ps e=>⟨#[],by rw[e];simp⟩) (fun m hm=>?_) (fun b u e=>?_) I.bare
 ·have e:b=it:=by simpa using hb
  subst e
  exact⟨h1,hL,h2,h3⟩
 ·obtain⟨o,es,ep,ho,r⟩:=hm
  exact⟨o,es,ep,k _ o (Ne.symm hL) ho,r⟩
 ·refine(I.hok b u e).stay (fun c v hc q=>k c v ?_ q) (fun _ q=>q) (fun _ _ q=>q) fun _ _ _ q=>q
  rcases hc with z | z
  ·rw[z];exact nit b u e
  ·exact nit c _ z
theorem Inv.tok(I:Inv X pins σ H s)(t:Nat):Inv X pins σ H { s with toks:=t }:=I.un (h':=s.heap) (t':=t) Un.refl I.hok
theorem Inv.kept{t':Nat}(I:Inv X pins σ H s)(k:∀b u,s.heap.get? b=some u→h'.get? b=some u):Inv X pins σ H { s with heap:=h',toks:=t' }:=I.un (Un.kept k) (I.hok.kept k)
theorem Inv.laid{a:Addr}{o:HO}{t':Nat}(I:Inv X pins σ H s)(k:∀b u,s.heap.get? b=some u→h'.get? b=some u)(hp:s.heap.objs.size≤a)(new:ObjOk X.prog X.w (upd H a o) h' a o) :
  Inv X pins σ (upd H a o) { s with heap:=h',toks:=t' }:=I.un (Un.laid k hp (I.hok.fresh hp)) (I.hok.laid k hp new)
theorem Inv.write{x e:Addr}{o:HO}{t':Nat}(I:Inv X pins σ H s)(mu:Mut (H x))(he:e=x∨H e=some (.own x))(k:∀b u,b≠e→s.heap.get? b=some u→h'.get? b=some u)(heo:∃u,h'.get? e=some u)
  (new:ObjOk X.prog X.w (upd H x o) h' x o):Inv X pins σ (upd H x o) { s with heap:=h',toks:=t' }:=I.un (Un.write mu he k heo) (I.hok.write mu he k heo new)
theorem Inv.weak{σ':List (Option V)}(I:Inv X pins σ H s)(hl:σ'.length=σ.length)(w:∀(i:Nat) v,σ'[i]? = some (some v)→σ[i]? = some (some v)):Inv X pins σ' H s :=
 ⟨I.ok,I.os,I.bare,I.base,let ⟨m,hn,hl'⟩:=I.loc; ⟨m,hn,fun i x v e1 e2 e3=>hl' i x v e1 (w i v e2) e3⟩,I.cell,I.free,I.freeC,I.pin,I.hok,hl.trans I.len⟩
theorem Inv.pins_of{pins':List (Addr×Obj)}(I:Inv X pins σ H s)(h:∀p∈pins',s.heap.get? p.1=some p.2∧H p.1=none∧p.1≠X.env.locals∧p.1 ∉ X.fs∧∀v,p.2.data≠.cell v):Inv X pins' σ H s :=
 ⟨I.ok,I.os,I.bare,I.base,I.loc,I.cell,I.free,I.freeC,fun p hp=>(List.mem_append.mp hp).elim (fun z=>I.pin p (List.mem_append_left _ z)) (h p),I.hok,I.len⟩
theorem a2I{N:List Str}(hN:N.Nodup){i j:Nat}{x:Str}(a:N[i]? = some x)(b:N[j]? = some x):i=j:=by
 obtain⟨h1,e1⟩:=List.getElem?_eq_some_iff.mp a
 obtain⟨h2,e2⟩:=List.getElem?_eq_some_iff.mp b
 exact(List.getElem_inj hN).mp (e1.trans e2.symm)
theorem a19{M:Model}{A:Around}{E:Value→Shared→Prop}{i:Nat}{x:Str}{v:V}{u:Value}{Q:Unit→Shared→Prop}(I:Inv X pins σ H s)(hN:X.N.Nodup)(hi:X.N[i]? = some x)(hx:Loc X.env.scope x)(r:RelV v u)
  (h:∀s',Inv X pins (σ.set i (some v)) H s'→(∃a,Heap.SameBut a s.heap s'.heap∧(a=X.env.locals∨X.env.cells.lookup x=some a))→Q () s') (hf:X.fn x=true∨X.env.scope.names.lookup x=some .local:=by first | exact .inl rfl | exact .inr rfl | assumption):wpAny M A (storeName X.env x u) Q E s:=by
 obtain⟨m,hn,hl⟩:=id I.loc
 have hcls:(X.env.scope.kind == .class || (X.env.scope.kind == .module && X.env.locals != X.env.globals))=false:=by rw[I.ok.kind];rfl
 have hiσ:i<σ.length:=by rw[I.len];exact(List.getElem?_eq_some_iff.mp hi).1
 have cne:=I.cne
 have tracked:∀{a:Addr} {h':Heap},(∃o,s.heap.get? a=some o∧H a=none)→Heap.SameBut a s.heap h'→HOk X.prog X.w H h':=fun{a h'} ha hs b ob e=>by
  obtain⟨_,_,hfree⟩:=ha
  refine(I.hok b ob e).stay (fun c w' hc q=>(hs.2 c ?_).trans q) (fun _ q=>q) (fun _ _ q=>q) fun _ _ _ q=>q
  rintro rfl
  rcases hc with rfl | hc
  ·rw[hfree]at e;cases e
  ·rw[hfree]at hc;cases hc
 rcases hx with hk | hk
 ·refine wpAny_storeName_local hk hn (fun h' hn' hs=>?_) hcls
  obtain⟨oL,_,_,hoL,_⟩:=id hn
  refine h _ ⟨I.ok,I.os,I.bare,⟨fun b o e n hb hx=>?_,fun b o e n hb hx=>?_,I.base.free,fun b o e hx=>?_,I.base.tups,I.base.frzs,I.base.tbls⟩,⟨_,hn',fun j y v' e1 e2 e3=>?_⟩,fun y c e=>?_,I.free,I.freeC,fun p hp=>?_,tracked ⟨oL,hoL,I.free⟩ hs,by simpa using I.len⟩ ⟨_,hs,.inl rfl⟩
  ·exact(hs.2 b (Nat.ne_of_lt (Nat.lt_of_lt_of_le (Heap.lt_size e) I.ok.above))).trans (I.base.keep b o e n hb hx)
  ·obtain⟨sl,e1⟩:=I.base.slot b o e n hb hx
   exact⟨sl,(hs.2 b (Nat.ne_of_lt (Nat.lt_of_lt_of_le (Heap.lt_size e) I.ok.above))).trans e1⟩
  ·obtain⟨o',e1⟩:=I.base.there b o e hx
   exact⟨o',(hs.2 b (Nat.ne_of_lt (Nat.lt_of_lt_of_le (Heap.lt_size e) I.ok.above))).trans e1⟩
  ·by_cases hj:j=i
   ·subst hj
    rw[hi]at e1;cases e1
    rw[List.getElem?_set_self hiσ]at e2
    cases e2
    exact⟨u,r,.inl ⟨hk,by simp⟩⟩
   ·rw[List.getElem?_set_ne (Ne.symm hj)]at e2
    obtain⟨u',r',q⟩:=hl j y v' e1 e2 e3
    refine⟨u',r',?_⟩
    rcases q with⟨k,e⟩ | ⟨k,c,e,z⟩
    ·refine .inl ⟨k,?_⟩
     have:y≠x:=fun e=>hj (a2I hN e1 (e▸hi))
     simp[this,e]
    ·exact .inr ⟨k,c,e,z.sameBut hs (cne y c e)⟩
  ·obtain⟨w',z⟩:=I.cell y c e
   exact⟨w',z.sameBut hs (cne y c e)⟩
  ·obtain⟨e,n,ne,nf,d⟩:=I.pin p hp
   exact⟨(hs.2 p.1 ne).trans e,n,ne,nf,d⟩
 ·have hfn:X.fn x=true:=by
   rcases hf with z | z
   ·exact z
   ·rw[z]at hk;cases hk
  obtain⟨c,hc⟩:=I.ok.has x (.inl hk)
  obtain⟨w',z⟩:=I.cell x c hc
  refine wpAny_storeName_cell I.ok.kind hk hc z (fun h' hc' hs=>?_)
  obtain⟨oc,hoc,hocd⟩:=id z
  refine h { s with heap:=h' } ⟨I.ok,I.os,I.bare,⟨fun b o e n hb hx=>?_,fun b o e n hb hx=>?_,I.base.free,fun b o e hx=>?_,I.base.tups,I.base.frzs,I.base.tbls⟩,⟨m,hn.sameBut hs (Ne.symm (cne x c hc)),fun j y v' e1 e2 e3=>?_⟩,fun y c' e=>?_,I.free,I.freeC,fun p hp=>?_,tracked ⟨oc,hoc,I.freeC x c hc⟩ hs,by simpa using I.len⟩ ⟨c,hs,.inr hc⟩
  ·exact(hs.2 b (Nat.ne_of_lt (Nat.lt_of_lt_of_le (Heap.lt_size e) (I.ok.cab x c hfn hc)))).trans (I.base.keep b o e n hb hx)
  ·obtain⟨sl,e1⟩:=I.base.slot b o e n hb hx
   exact⟨sl,(hs.2 b (Nat.ne_of_lt (Nat.lt_of_lt_of_le (Heap.lt_size e) (I.ok.cab x c hfn hc)))).trans e1⟩
  ·obtain⟨o',e1⟩:=I.base.there b o e hx
   exact⟨o',(hs.2 b (Nat.ne_of_lt (Nat.lt_of_lt_of_le (Heap.lt_size e) (I.ok.cab x c hfn hc)))).trans e1⟩
  ·by_cases hj:j=i
   ·subst hj
    rw[hi]at e1;cases e1
    rw[List.getElem?_set_self hiσ]at e2
    cases e2
    exact⟨u,r,.inr ⟨.inl hk,c,hc,hc'⟩⟩
   ·rw[List.getElem?_set_ne (Ne.symm hj)]at e2
    obtain⟨u',r',q⟩:=hl j y v' e1 e2 e3
    refine⟨u',r',?_⟩
    rcases q with q | ⟨k,c',e,z'⟩
    ·exact .inl q
    ·refine .inr ⟨k,c',e,z'.sameBut hs ?_⟩
     rintro rfl
     exact hj (a2I hN e1 (I.ok.inj _ _ _ e hc▸hi))
  ·by_cases hcc:c'=c
   ·subst hcc;exact⟨_,hc'⟩
   ·obtain⟨w2,z2⟩:=I.cell y c' e
    exact⟨w2,z2.sameBut hs hcc⟩
  ·obtain⟨e,n,ne,nf,d⟩:=I.pin p hp
   refine⟨(hs.2 p.1 ?_).trans e,n,ne,nf,d⟩
   intro q
   rw[q,hoc]at e
   have q':oc=p.2:=Option.some.inj e
   exact d w' (by rw[← q'];exact hocd)
theorem a2J{M:Model}{A:Around}{E:Value→Shared→Prop}{i:Nat}{x:Str}{v:V}{u:Value}{Q:Unit→Shared→Prop}(I:Inv X pins σ H s)(hN:X.N.Nodup)(hi:X.N[i]? = some x)(hx:Loc X.env.scope x)(r:RelV v u)
  (h:∀s',Inv X pins (σ.set i (some v)) H s'→Q () s') (hf:X.fn x=true∨X.env.scope.names.lookup x=some .local:=by first | exact .inl rfl | exact .inr rfl | assumption):wpAny M A (storeName X.env x u) Q E s :=
 a19 I hN hi hx r (fun s' I' _=>h s' I') hf
theorem Inv.call'{s':Shared}{ch:List Addr}(I:Inv X pins σ H s)(ho:s'.os=s.os)(u:Un (E5 X.stack) ch H H' s.heap s'.heap)(hok:HOk X.prog X.w H' s'.heap)(hg:AllBare s'.gens)
  (hch:∀b∈ch,(b∈X.ex∨X.s₀.heap.objs.size≤b)∧b≠X.env.locals∧(∀x c,X.env.cells.lookup x=some c→c≠b)∧∀p∈X.pn++pins,p.1≠b):Inv X pins σ H' s':=by
 obtain⟨h',g',d',t',o'⟩:=s'
 have e:o'=s.os:=ho
 subst e
 exact I.call (g':=g') (t':=t') (d':=d') u hok hg hch
end
abbrev XK:=Value→Option Addr→Hp→Prop
abbrev St:=List (Option V)
abbrev VK:=V→Hp→Prop
abbrev TE:=St→Hp→VK→Prop
abbrev TT:=St→Hp→(Bool→Hp→Prop)→Prop
abbrev TA:=St→Hp→(List V→Hp→Prop)→Prop
structure Ends where
 nx:St→Hp→Prop
 rt:VK
 bk:St→Hp→Prop:=fun _ _=>False
 ct:St→Hp→Prop:=fun _ _=>False
abbrev TS:=Ends→St→Hp→Prop
def EP(X:Cx)(pins:List (Addr×Obj))(σ:St)(Q:VK)(u:Value)(s':Shared):Prop:=∃v H',Inv X pins σ H' s'∧RelV v u∧Q v H'
def TP(X:Cx)(pins:List (Addr×Obj))(σ:St)(Q:Bool→Hp→Prop)(b:Bool)(s':Shared):Prop:=∃H',Inv X pins σ H' s'∧Q b H'
def AP(X:Cx)(pins:List (Addr×Obj))(σ:St)(Q:List V→Hp→Prop)(us:List Value)(s':Shared):Prop:=∃vs H',Inv X pins σ H' s'∧Vals vs us∧Q vs H'
def SP(X:Cx)(pins:List (Addr×Obj))(D:Ends)(f:Flow)(s':Shared):Prop :=
 match f with
 | .next=>∃σ' H',Inv X pins σ' H' s'∧D.nx σ' H'
 | .brk=>∃σ' H',Inv X pins σ' H' s'∧D.bk σ' H'
 | .cont=>∃σ' H',Inv X pins σ' H' s'∧D.ct σ' H'
 | .ret u=>∃v σ' H',Inv X pins σ' H' s'∧RelV v u∧D.rt v H'
def PE(X:Cx)(e:Expr)(t:TE):Prop :=
 ∀(pins:List (Addr×Obj)) (s:Shared) (σ:St) (H:Hp) (Q:VK),Inv X pins σ H s→t σ H Q→wpAny (model X.prog X.w) X.A (eval e X.env) (EP X pins σ Q) X.xe s
def PT(X:Cx)(e:Expr)(t:TT):Prop :=
 ∀(pins:List (Addr×Obj)) (s:Shared) (σ:St) (H:Hp) (Q:Bool→Hp→Prop),Inv X pins σ H s→t σ H Q→wpAny (model X.prog X.w) X.A (isTrue e X.env (eval e X.env)) (TP X pins σ Q) X.xe s
def PW(X:Cx)(e:Expr)(t:TT):Prop :=
 ∀(whole:Sem Value) (pins:List (Addr×Obj)) (s:Shared) (σ:St) (H:Hp) (Q:Bool→Hp→Prop),Inv X pins σ H s→t σ H Q→wpAny (model X.prog X.w) X.A (isTrue e X.env whole) (TP X pins σ Q) X.xe s
theorem PW.pt{X:Cx}{e:Expr}{t:TT}(h:PW X e t):PT X e t:=h _
def PA(X:Cx)(es:List Expr)(t:TA):Prop :=
 ∀(pos:Pos) (pins:List (Addr×Obj)) (s:Shared) (σ:St) (H:Hp) (Q:List V→Hp→Prop),Inv X pins σ H s→t σ H Q→wpAny (model X.prog X.w) X.A (spliced (backTo pos (starEach es X.env))) (AP X pins σ Q) X.xe s
def PS(X:Cx)(st:Stmt)(t:TS):Prop :=
 ∀(pins:List (Addr×Obj)) (s:Shared) (σ:St) (H:Hp) (D:Ends),Inv X pins σ H s→t D σ H→wpAny (model X.prog X.w) X.A (exec st X.env) (SP X pins D) X.xe s
def PSs(X:Cx)(st:List Stmt)(t:TS):Prop :=
 ∀(pins:List (Addr×Obj)) (s:Shared) (σ:St) (H:Hp) (D:Ends),Inv X pins σ H s→t D σ H→wpAny (model X.prog X.w) X.A (execs st X.env) (SP X pins D) X.xe s
theorem j4{α:Type}{t:Sem α}{Q Q':α→Shared→Prop}{M:Model}{A:Around}{E:Value→Shared→Prop}{s:Shared}(h:wpAny M A t Q E s)(hQ:∀a s,Q a s→Q' a s):wpAny M A t Q' E s:=wpAny_mono h hQ fun _ _ x=>x
section
variable {X:Cx}
def D2(i:Nat):TE:=fun σ H Q=>∃v,σ[i]? = some (some v)∧Q v H
def tC(v:V):TE:=fun _ H Q=>Q v H
theorem a9K{i:Nat}{x:Str}{pos:Pos}(hN:X.N[i]? = some x)(hv:Vis X.env.scope x)(hd:(x == ("__debug__" : Str))=false:=by decide)(hcd:(x == ("__classdict__" : Str))=false:=by decide):PE X (.Name x pos) (D2 i):=by
 intro pins s σ H Q I h
 obtain⟨v,e,h⟩:=h
 obtain⟨m,hn,hl⟩:=I.loc
 obtain⟨u,r,l⟩:=hl i x v hN e hv
 have fin:EP X pins σ Q u s:=⟨v,H,I,r,h⟩
 rcases l with⟨hk,hm⟩ | ⟨hk,c,hc,hcell⟩
 ·exact wpAny_Name (wpAny_loadName_local I.ok.kind hk hn hm fin) hd
 ·rcases hk with hk | hk
  ·exact wpAny_Name (wpAny_loadName_cell I.ok.kind hk hc hcell fin) hd
  ·exact wpAny_Name (wpAny_loadName_free I.ok.kind hk hc hcell fin hcd) hd
theorem a9{i j pos}:PE X (.Constant (.int i) j pos) (tC (.int i)):=fun _ _ _ H _ I h=>wpAny_Constant_int ⟨.int i,H,I.tok _,⟨_,rfl⟩,h⟩
theorem U1{b j pos}:PE X (.Constant (.bool b) j pos) (tC (.bl b)):=fun _ _ _ H _ I h=>Constant_bool ⟨.bl b,H,I,rfl,h⟩
theorem W3{j pos}:PE X (.Constant .none j pos) (tC .non):=fun _ _ _ H _ I h=>Constant_none ⟨.non,H,I,rfl,h⟩
theorem K9{x j pos}:PE X (.Constant (.str x) j pos) (tC (.str x)):=fun _ _ _ H _ I h=>Calls.Constant_str ⟨.str x,H,I.tok _,⟨_,rfl⟩,h⟩
def Gl(X:Cx)(x:Str):Prop:=X.env.kindOf x=some .globalImplicit
theorem a8h{E:Value→Shared→Prop}{pins:List (Addr×Obj)}{s:Shared}{σ:St}{H:Hp}{x:Str}{u:Value}{pos:Pos}{Q:Value→Shared→Prop}(I:Inv X pins σ H s)(hg:Gl X x)(hm:X.mg x=some u)(h:Q u s)
  (hd:(x == ("__debug__" : Str))=false:=by decide):wpAny (model X.prog X.w) X.A (eval (.Name x pos) X.env) Q E s :=
 Calls.Name_function_global I.ok.kind hg (Calls.loadGlobal_global (by rw[I.ok.glob];exact I.mod.glob.keeps I.bk) hm h) hd
theorem Z5{E:Value→Shared→Prop}{pins:List (Addr×Obj)}{s:Shared}{σ:St}{H:Hp}{x:Str}{u:Value}{pos:Pos}{Q:Value→Shared→Prop}(I:Inv X pins σ H s)(hg:Gl X x)(hm:X.mg x=none)(hv:bootBuiltins x=some u)(h:Q u s)
  (hn:x≠"__name__" := by decide) (hd:(x == ("__debug__" : Str))=false:=by decide):wpAny (model X.prog X.w) X.A (eval (.Name x pos) X.env) Q E s:=by
 obtain⟨mb,h1,h2⟩:=I.mod.blt
 exact Calls.Name_function_global I.ok.kind hg (Calls.loadGlobal_builtin (by rw[I.ok.glob];exact I.mod.glob.keeps I.bk) hm (by rw[I.ok.blt];exact h1.keeps I.bk) ((h2 x hn).trans hv) h) hd
theorem N5{x:Str}{v:V}{u:Value}{pos:Pos}(hg:Gl X x)(hm:X.mg x=none)(hv:bootBuiltins x=some u)(r:RelV v u)(hn:x≠"__name__" := by decide)(hd:(x == ("__debug__" : Str))=false:=by decide):PE X (.Name x pos) (tC v) :=
 fun _ _ _ H _ I h=>Z5 I hg hm hv ⟨v,H,I,r,h⟩ hn hd
variable {a b:Expr}{ta tb:TE}{pos:Pos}
def tB(t:TE):TT:=fun σ H Q=>t σ H fun x H1=>∃c,x=.bl c∧Q c H1
theorem J1{e:Expr}{t:TE}(h:PE X e t)(he:∀whole,isTrue e X.env whole=(do let v ← whole;standAt e.pos;holding [v] (truthy v)):=by intro _;rfl):PT X e (tB t):=by
 intro pins s σ H Q I hw
 refine isTrue_plain (j4 (h pins s σ H _ I hw) fun v s1 ⟨x,H1,I1,r1,q1⟩=>?_) (he _)
 obtain⟨d,rfl,q⟩:=q1
 cases r1
 exact wpAny_truthy_bool ⟨H1,I1,q⟩
variable {tA tB':TT}{l5:List Expr}
def a9L(t u:TT):TT:=fun σ H Q=>t σ H fun c H1=>if c=true then u σ H1 Q else Q false H1
def tOr(t u:TT):TT:=fun σ H Q=>t σ H fun c H1=>if c=true then Q true H1 else u σ H1 Q
def a9M(t:TT):TT:=fun σ H Q=>t σ H fun c H1=>Q (!c) H1
theorem a8i(ha:PT X a tA):PW X (.BoolOp .And [a] pos) tA:=by
 intro wh pins s σ H Q I h
 refine isTrue_and (j4 (ha pins s σ H Q I h) fun c s1 e=>?_)
 cases c with
 | true=>exact isTrue_and_nil e
 | false=>exact e
theorem Z6(ha:PT X a tA):PW X (.BoolOp .Or [a] pos) tA:=by
 intro wh pins s σ H Q I h
 refine isTrue_or (j4 (ha pins s σ H Q I h) fun c s1 e=>?_)
 cases c with
 | false=>exact isTrue_or_nil e
 | true=>exact e
theorem a5f(ha:PT X a tA)(hb:PW X (.BoolOp .And (b::l5) pos) tB'):PW X (.BoolOp .And (a::b::l5) pos) (a9L tA tB'):=by
 intro wh pins s σ H Q I h
 refine isTrue_and (j4 (ha pins s σ H _ I h) fun c s1 ⟨H1,I1,q1⟩=>?_)
 cases c with
 | true=>exact hb wh pins s1 σ H1 Q I1 q1
 | false=>exact⟨H1,I1,q1⟩
theorem W8(ha:PT X a tA)(hb:PW X (.BoolOp .Or (b::l5) pos) tB'):PW X (.BoolOp .Or (a::b::l5) pos) (tOr tA tB'):=by
 intro wh pins s σ H Q I h
 refine isTrue_or (j4 (ha pins s σ H _ I h) fun c s1 ⟨H1,I1,q1⟩=>?_)
 cases c with
 | true=>exact⟨H1,I1,q1⟩
 | false=>exact hb wh pins s1 σ H1 Q I1 q1
theorem P6(ha:PT X a tA):PT X (.UnaryOp .Not a pos) (a9M tA):=by
 intro pins s σ H Q I h
 exact isTrue_not (ha pins s σ H (fun c H1=>Q (!c) H1) I h)
def a7J(ta tb:TE):TE:=fun σ H Q=>ta σ H fun x H1=>∃c,x=.bl c∧if c=true then tb σ H1 Q else Q (.bl false) H1
def a7K(ta:TE):TE:=fun σ H Q=>ta σ H fun x H1=>∃c,x=.bl c∧Q (.bl (!c)) H1
theorem a2K{op}{t:TE}(h:PE X a t):PE X (.BoolOp op [a] pos) t:=fun pins s σ H Q I hw=>BoolOp_one (h pins s σ H Q I hw)
theorem a2L(ha:PE X a ta)(hb:PE X (.BoolOp .And (b::l5) pos) tb):PE X (.BoolOp .And (a::b::l5) pos) (a7J ta tb):=by
 intro pins s σ H Q I h
 refine BoolOp_and (j4 (ha pins s σ H _ I h) fun v s1 ⟨x,H1,I1,r1,q1⟩=>?_)
 obtain⟨c,rfl,q1⟩:=q1
 cases r1
 refine wpAny_truthy_bool ?_
 cases c with
 | true=>exact hb pins s1 σ H1 Q I1 q1
 | false=>exact⟨.bl false,H1,I1,rfl,q1⟩
theorem a9N(ha:PE X a ta):PE X (.UnaryOp .Not a pos) (a7K ta):=by
 intro pins s σ H Q I h
 refine UnaryOp_ (j4 (ha pins s σ H _ I h) fun v s1 ⟨x,H1,I1,r1,q1⟩=>?_)
 obtain⟨c,rfl,q1⟩:=q1
 cases r1
 exact not_of (wpAny_truthy_bool ⟨.bl (!c),H1,I1,rfl,q1⟩)
end
def SqL(K:W.Frag)(H:Hp)(a:Addr)(xs:List V):Prop :=
 Rd H a (.lst xs) ∨
  ∃(o:Obj) (its:Array Value) (n:Nat),K.lookup a=some o∧o.cls=.type "list"∧o.dict=none∧o.data=.seq its n∧its.size≤sizeLine∧Vals xs its.toList
def SqT(K:W.Frag)(H:Hp)(a:Addr)(xs:List V):Prop :=
 Rd H a (.tup xs) ∨
  ∃(o:Obj) (its:Array Value) (n:Nat),K.lookup a=some o∧o.cls=.type "tuple"∧o.data=.seq its n∧its.size≤sizeLine∧Vals xs its.toList
def b1C:Value→Option V
 | .none=>some .non
 | .bool b=>some (.bl b)
 | .int i _=>some (.int i)
 | .str x _=>some (.str x)
 | .bytes b _=>some (.byt b)
 | .float b _=>some (.flt b)
 | .ref a=>some (.ref a)
 | .type n=>some (.ty n)
 | _=>none
theorem RelV.abs{x:V}{u:Value}(r:RelV x u):b1C u=some x:=by
 cases x with
 | non=>cases r;rfl
 | bl _=>cases r;rfl
 | int _=>obtain⟨t,rfl⟩:=r;rfl
 | str _=>obtain⟨t,rfl⟩:=r;rfl
 | byt _=>obtain⟨t,rfl⟩:=r;rfl
 | flt _=>obtain⟨t,rfl⟩:=r;rfl
 | ref _=>cases r;rfl
 | ty _=>cases r;rfl
theorem RelV.inj{x y:V}{u:Value}(r:RelV x u)(q:RelV y u):x=y:=Option.some.inj (r.abs.symm.trans q.abs)
theorem Vals.inj:∀{xs ys:List V} {us:List Value},Vals xs us→Vals ys us→xs=ys
 | _,_,_,.nil,.nil=>rfl
 | _,_,_,.cons r t,.cons r' t'=>by rw[r.inj r',Vals.inj t t']
section
variable {X:Cx}{pins:List (Addr×Obj)}{σ:St}{H:Hp}{s:Shared}{a:Addr}{xs ys:List V}
theorem SqL.of{K:W.Frag}(h:H a=some (.lst xs)):SqL K H a xs:=.inl (.inl h)
theorem SqT.of{K:W.Frag}(h:H a=some (.tup xs)):SqT K H a xs:=.inl (.inl h)
theorem Inv.list(I:Inv X pins σ H s)(h:SqL X.K H a xs):∃its:List Value,Vals xs its∧PlainL s.heap a its.toArray∧xs.length≤sizeLine:=by
 rcases h with h | ⟨o,its,n,hk,hc,hd,hs,hz,r⟩
 ·obtain⟨z,its,n,r,e⟩:=h.ok I.hok
  exact⟨its,r,⟨_,n,e,rfl,rfl,rfl⟩,z⟩
 ·refine⟨its.toList,r,⟨o,n,I.kIn a o hk,hc,hd,by simpa using hs⟩,?_⟩
  have e:=r.length
  simp only[Array.length_toList]at e
  omega
theorem Inv.tuple(I:Inv X pins σ H s)(h:SqT X.K H a xs):∃its:List Value,Vals xs its∧IsTup s.heap a its.toArray∧xs.length≤sizeLine:=by
 rcases h with h | ⟨o,its,n,hk,hc,hs,hz,r⟩
 ·obtain⟨z,its,r,p⟩:=h.ok I.hok
  exact⟨its,r,p,z⟩
 ·refine⟨its.toList,r,⟨o,I.kIn a o hk,hc,n,by simpa using hs⟩,?_⟩
  have e:=r.length
  simp only[Array.length_toList]at e
  omega
theorem Inv.list_inj(I:Inv X pins σ H s)(h:SqL X.K H a xs)(h':SqL X.K H a ys):xs=ys:=by
 obtain⟨its,r,⟨o,n,e,_,_,d⟩,_⟩:=I.list h
 obtain⟨its',r',⟨o',n',e',_,_,d'⟩,_⟩:=I.list h'
 rw[e]at e';cases e'
 rw[d]at d'
 injection d' with d1 _
 have:its=its':=by simpa using congrArg Array.toList d1
 subst this
 exact r.inj r'
theorem Inv.tuple_inj(I:Inv X pins σ H s)(h:SqT X.K H a xs)(h':SqT X.K H a ys):xs=ys:=by
 obtain⟨its,r,⟨o,e,_,n,d⟩,_⟩:=I.tuple h
 obtain⟨its',r',⟨o',e',_,n',d'⟩,_⟩:=I.tuple h'
 rw[e]at e';cases e'
 rw[d]at d'
 injection d' with d1 _
 have:its=its':=by simpa using congrArg Array.toList d1
 subst this
 exact r.inj r'
end
abbrev Cx.wish(X:Cx)(E:Value→Shared→Prop):Cx:={ X with xe:=E }
abbrev Cx.nox(X:Cx):Cx:=X.wish fun _ _=>False
theorem Cx.Ok.wish{X:Cx}(ok:X.Ok)(E:Value→Shared→Prop):(X.wish E).Ok :=
 ⟨ok.mod,ok.kind,ok.glob,ok.blt,ok.above,ok.inj,ok.has,ok.cab,ok.hd,ok.frames,ok.stk,ok.exf,ok.bs,ok.bsz,ok.noex,ok.exfs,ok.funs,ok.frf⟩
theorem Cx.Ok.unwish{X:Cx}{E:Value→Shared→Prop}(ok:(X.wish E).Ok):X.Ok :=
 ⟨ok.mod,ok.kind,ok.glob,ok.blt,ok.above,ok.inj,ok.has,ok.cab,ok.hd,ok.frames,ok.stk,ok.exf,ok.bs,ok.bsz,ok.noex,ok.exfs,ok.funs,ok.frf⟩
section
variable {X:Cx}{pins:List (Addr×Obj)}{σ:St}{H:Hp}{s:Shared}{E:Value→Shared→Prop}
theorem Inv.wish(I:Inv X pins σ H s)(E:Value→Shared→Prop):Inv (X.wish E) pins σ H s:=⟨I.ok.wish E,I.os,I.bare,I.base,I.loc,I.cell,I.free,I.freeC,I.pin,I.hok,I.len⟩
theorem Inv.unwish(I:Inv (X.wish E) pins σ H s):Inv X pins σ H s:=⟨I.ok.unwish,I.os,I.bare,I.base,I.loc,I.cell,I.free,I.freeC,I.pin,I.hok,I.len⟩
theorem SP.unwish{D:Ends}{f:Flow}{s':Shared}(h:SP (X.wish E) pins D f s'):SP X pins D f s':=by
 cases f with
 | next=>obtain⟨σ',H',I,q⟩:=h;exact⟨σ',H',I.unwish,q⟩
 | brk=>obtain⟨σ',H',I,q⟩:=h;exact⟨σ',H',I.unwish,q⟩
 | cont=>obtain⟨σ',H',I,q⟩:=h;exact⟨σ',H',I.unwish,q⟩
 | ret u=>obtain⟨v,σ',H',I,r,q⟩:=h;exact⟨v,σ',H',I.unwish,r,q⟩
theorem PE.nox{e:Expr}{t:TE}(h:PE X.nox e t):PE X e t:=fun pins s σ H Q I hw =>
 wpAny_mono (h pins s σ H Q (I.wish _) hw) (fun _ _ ⟨v,H',I',r,q⟩=>⟨v,H',I'.unwish,r,q⟩) fun _ _ z=>False.elim z
theorem PT.nox{e:Expr}{t:TT}(h:PT X.nox e t):PT X e t:=fun pins s σ H Q I hw =>
 wpAny_mono (h pins s σ H Q (I.wish _) hw) (fun _ _ ⟨H',I',q⟩=>⟨H',I'.unwish,q⟩) fun _ _ z=>False.elim z
theorem PSs.nox{st:List Stmt}{t:TS}(h:PSs X.nox st t):PSs X st t:=fun pins s σ H D I hw =>
 wpAny_mono (h pins s σ H D (I.wish _) hw) (fun _ _ q=>q.unwish) fun _ _ z=>False.elim z
end
section
variable {X:Cx}{st:Stmt}{l5:List Stmt}{t u:TS}{e:Expr}{te:TE}{pos:Pos}
def a7L:TS:=fun D σ H=>D.nx σ H
def a9O(t u:TS):TS:=fun D σ H=>t { D with nx:=u D } σ H
theorem p9:PSs X [] a7L:=fun _ _ σ H _ I h=>wpAny_execs_nil ⟨σ,H,I,h⟩
theorem c9(h1:PS X st t)(h2:PSs X l5 u):PSs X (st::l5) (a9O t u):=by
 intro pins s σ H D I h
 refine wpAny_execs_cons (j4 (h1 pins s σ H { D with nx:=u D } I h) fun f s1 q=>?_)
 cases f with
 | next =>
  obtain⟨σ',H',I',q⟩:=q
  exact h2 pins s1 σ' H' D I' q
 | ret v=>exact q
 | brk=>exact q
 | cont=>exact q
theorem h7(h1:PS X st t):PSs X [st] t:=by
 intro pins s σ H D I h
 refine wpAny_execs_cons (j4 (h1 pins s σ H D I h) fun f s1 q=>?_)
 cases f with
 | next=>exact wpAny_execs_nil q
 | ret v=>exact q
 | brk=>exact q
 | cont=>exact q
theorem Inv.quiet{pins:List (Addr×Obj)}{σ:St}{H:Hp}{s:Shared}(I:Inv X pins σ H s):interactive X.env=false:=by simp[interactive,I.ok.kind]
def a4v(te:TE):TS:=fun D σ H=>te σ H fun _ H1=>D.nx σ H1
theorem C3(he:PE X e te)(hs:swapsWith e none pos.line X.env=pure false:=by rfl):PS X (.Expr e pos) (a4v te):=by
 intro pins s σ H D I h
 exact wpAny_Expr_any (j4 (he pins s σ H _ I h) fun v s1 ⟨x,H1,I1,r1,q1⟩=>⟨σ,H1,I1,q1⟩) I.quiet hs
def a2M(te:TE):TS:=fun D σ H=>te σ H D.rt
theorem j9(he:PE X e te):PS X (.Return (some e) pos) (a2M te):=by
 intro pins s σ H D I h
 exact wpAny_Return_some (j4 (he pins s σ H _ I h) fun v s1 ⟨x,H1,I1,r1,q1⟩=>⟨x,σ,H1,I1,r1,q1⟩)
def a9P(c:TT)(t u:TS):TS:=fun D σ H=>c σ H fun b H1=>if b=true then t D σ H1 else u D σ H1
theorem x9{c:Expr}{a b:List Stmt}{tc:TT}(hc:PT X c tc)(ha:PSs X a t)(hb:PSs X b u):PS X (.If c a b pos) (a9P tc t u):=by
 intro pins s σ H D I h
 refine wpAny_If (j4 (hc pins s σ H _ I h) fun d s1 ⟨H1,I1,q1⟩=>?_)
 cases d with
 | true=>exact ha pins s1 σ H1 D I1 q1
 | false=>exact hb pins s1 σ H1 D I1 q1
end
abbrev TG:=V→St→Hp→(St→Hp→Prop)→Prop
abbrev Z7:=List V→St→Hp→(St→Hp→Prop)→Prop
def PG(X:Cx)(target:Expr)(t:TG):Prop :=
 ∀(pins:List (Addr×Obj)) (s:Shared) (σ:St) (H:Hp) (v:V) (u:Value) (Q:St→Hp→Prop),Inv X pins σ H s→RelV v u→t v σ H Q →
  wpAny (model X.prog X.w) X.A (assign target X.env u) (fun _ s'=>∃σ' H',Inv X pins σ' H' s'∧Q σ' H') X.xe s
def PGs(X:Cx)(ts:List Expr)(t:Z7):Prop :=
 ∀(pins:List (Addr×Obj)) (s:Shared) (σ:St) (H:Hp) (vs:List V) (us:List Value) (Q:St→Hp→Prop),Inv X pins σ H s→Vals vs us→t vs σ H Q →
  wpAny (model X.prog X.w) X.A (assignInOrder ((assignEach ts X.env).map (·.2)) us) (fun _ s'=>∃σ' H',Inv X pins σ' H' s'∧Q σ' H') X.xe s
abbrev a6A:=V→V→V→Hp→(Hp→Prop)→Prop
def a9Q(X:Cx)(t:a6A):Prop :=
 ∀(pins:List (Addr×Obj)) (s:Shared) (σ:St) (H:Hp) (o i v:V) (ov iv u:Value) (Q:Hp→Prop),Inv X pins σ H s→RelV o ov→RelV i iv→RelV v u→t o i v H Q →
  wpAny (model X.prog X.w) X.A (setItem ov iv u) (fun _ s'=>∃H',Inv X pins σ H' s'∧Q H') X.xe s
section
variable {X:Cx}{pos:Pos}
def Q9(i:Nat):TG:=fun v σ H Q=>Q (σ.set i (some v)) H
theorem j0{i:Nat}{x:Str}(hN:X.N.Nodup)(hi:X.N[i]? = some x)(hx:Loc X.env.scope x)(hf:X.fn x=true∨X.env.scope.names.lookup x=some .local:=by first | exact .inl rfl | exact .inr rfl | assumption):PG X (.Name x pos) (Q9 i):=by
 intro pins s σ H v u Q I r h
 exact wpAny_assign_Name (a2J I hN hi hx r (fun s' I'=>⟨_,H,I',h⟩) hf)
def a6B:Z7:=fun vs σ H Q=>vs=[]∧Q σ H
def a1c(t:TG)(u:Z7):Z7:=fun vs σ H Q=>∃v r,vs=v::r∧t v σ H fun σ' H'=>u r σ' H' Q
theorem L8:PGs X [] a6B:=by
 intro pins s σ H vs us Q I r h
 obtain⟨e,h⟩:=h
 subst e
 cases r
 exact assignInOrder_nil ⟨σ,H,I,h⟩
theorem m8{e:Expr}{es:List Expr}{t:TG}{u:Z7}(h1:PG X e t)(h2:PGs X es u)
  (hs:(assignEach (e::es) X.env).map (·.2)=assign e X.env::(assignEach es X.env).map (·.2):=by rfl):PGs X (e::es) (a1c t u):=by
 intro pins s σ H vs us Q I r h
 obtain⟨v,vr,e1,h⟩:=h
 subst e1
 cases r with
 | cons r rr =>
  rw[hs]
  refine assignInOrder_cons (j4 (h1 pins s σ H _ _ _ I r h) fun _ s1 ⟨σ1,H1,I1,q1⟩=>?_)
  exact h2 pins s1 σ1 H1 _ _ Q I1 rr q1
def a4w(K:W.Frag)(n:Nat)(t:Z7):TG:=fun v σ H Q=>∃a xs,v=.ref a∧SqT K H a xs∧xs.length=n∧t xs σ H Q
theorem a9R{es:List Expr}{k:Nat}{t:Z7}{n:Nat}(hc:X.calm=true)(h:PGs X es t)
  (hn:(assignEach es X.env).length=n:=by rfl) (hst:(assignEach es X.env).findIdx? (·.1)=none:=by rfl):PG X (.Tuple es k pos) (a4w X.K n t):=by
 intro pins s σ H v u Q I r hw
 obtain⟨a,xs,e1,hq,hl,hw⟩:=hw
 subst e1
 cases r
 obtain⟨its,rv,ht,hz⟩:=I.tuple hq
 refine assign_Tuple_tuple (I.ok.hd hc) ht (by simp[hn,← hl,rv.length]) hst fun h' hx=>?_
 have I1:Inv X pins σ H { s with heap:=h' }:=I.kept (t':=s.toks) fun b o e=>hx b o (Nat.ne_of_lt (Heap.lt_size e)) e
 exact h pins _ σ H xs _ Q I1 (by simpa using rv) hw
def a9S(to ti:TE)(t:a6A):TG:=fun v σ H Q=>to σ H fun o H1=>ti σ H1 fun i H2=>t o i v H2 fun H3=>Q σ H3
theorem a1d{o i:Expr}{to ti:TE}{t:a6A}(ho:PE X o to)(hi:PE X i ti)(hs:a9Q X t)
  (ha:∀v,assign (.Subscript o i pos) X.env v=(do
   let ov ← holding [v] (eval o X.env)
   let iv ← holding [v,ov] (eval i X.env)
   standAt pos
   holding [v,ov,iv] (setItem ov iv v)
   release [v,ov,iv] []):=by intro _;rfl):PG X (.Subscript o i pos) (a9S to ti t):=by
 intro pins s σ H v u Q I r h
 rw[ha]
 refine wpAny_bind (wpAny_holding (j4 (ho pins s σ H _ I h) fun ov s1 ⟨x,H1,I1,r1,q1⟩=>?_))
 refine wpAny_bind (wpAny_holding (j4 (hi pins s1 σ H1 _ I1 q1) fun iv s2 ⟨y,H2,I2,r2,q2⟩=>?_))
 refine wpAny_bind (wpAny_standAt (wpAny_bind (wpAny_holding (j4 (hs pins s2 σ H2 x y v ov iv u _ I2 r1 r2 r q2) fun _ s3 ⟨H3,I3,q3⟩=>?_))))
 exact wpAny_release ⟨σ,H3,I3,q3⟩
def Z8(te:TE)(g:TG):TS:=fun D σ H=>te σ H fun x H1=>g x σ H1 D.nx
theorem L3{tg e:Expr}{te:TE}{g:TG}(he:PE X e te)(hg:PG X tg g)(hs:swapsWithSole [tg] e pos.line X.env=pure false:=by rfl)(hw:swappedStores [tg] e X.env=pure none:=by rfl)
  (h1:(assignEach [tg] X.env).map (·.2)=[assign tg X.env]:=by rfl):PS X (.Assign [tg] e pos) (Z8 te g):=by
 intro pins s σ H D I h
 refine wpAny_Assign_stores (j4 (he pins s σ H _ I h) fun v s1 ⟨x,H1,I1,r1,q1⟩=>?_) hs hw
 rw[h1]
 exact j4 (hg pins s1 σ H1 x v _ I1 r1 q1) fun _ s2 q=>q
theorem j1{i:Nat}{x:Str}{e:Expr}{te:TE}{pos':Pos}(hN:X.N.Nodup)(hi:X.N[i]? = some x)(hx:Loc X.env.scope x)(he:PE X e te)(hs:swapsWith e (some (.Name x pos')) pos.line X.env=pure false:=by rfl)(hf:X.fn x=true∨X.env.scope.names.lookup x=some .local:=by first | exact .inl rfl | exact .inr rfl | assumption) :
  PS X (.Assign [.Name x pos'] e pos) (Z8 te (Q9 i)):=by
 intro pins s σ H D I h
 refine wpAny_Assign_Name (j4 (he pins s σ H _ I h) fun v s1 ⟨y,H1,I1,r1,q1⟩=>?_) hs
 exact a2J I1 hN hi hx r1 (fun s2 I2=>⟨_,H1,I2,q1⟩) hf
end
section
variable {X:Cx}{pos:Pos}
def a5h(c:TT)(tb:TS):TS:=fun D σ H=>∃W:Nat→St→Hp→Prop,(∃m,W m σ H)∧∀m σ H,W m σ H →
 c σ H fun b H1=>if b=true then ∃N:St→Hp→Prop,(∀σ' H',N σ' H'→∃m',m'<m∧W m' σ' H')∧tb { D with nx:=N,ct:=N,bk:=D.nx } σ H1 else D.nx σ H1
theorem a2N{c:Expr}{body:List Stmt}{tc:TT}{tb:TS}(hp:PassesOwn (model X.prog X.w) X.A X.env X.xe)(hc:PT X c tc)(hb:PSs X body tb):PS X (.While c body [] pos) (a5h tc tb):=by
 intro pins s σ H D I h
 obtain⟨W,⟨m0,w0⟩,turn⟩:=h
 refine wpAny_While (codeAny_whileLoop (fun n s'=>∃σ' H',Inv X pins σ' H' s'∧W n σ' H') ?_ m0 ⟨σ,H,I,w0⟩)
 rintro n s1 ⟨σ1,H1,I1,w1⟩
 refine wpAny_passesOwn hp (j4 (hc pins s1 σ1 H1 _ I1 (turn n σ1 H1 w1)) fun b s2 ⟨H2,I2,q2⟩=>?_)
 cases b with
 | true =>
  obtain⟨N,hN,q2⟩:=q2
  rw[if_pos rfl]
  refine wpAny_passesOwn hp (j4 (hb pins s2 σ1 H2 _ I2 q2) fun f s3 q3=>?_)
  cases f with
  | next =>
   obtain⟨σ3,H3,I3,n3⟩:=q3
   obtain⟨m',hm,w3⟩:=hN σ3 H3 n3
   exact⟨m',hm,σ3,H3,I3,w3⟩
  | cont =>
   obtain⟨σ3,H3,I3,n3⟩:=q3
   obtain⟨m',hm,w3⟩:=hN σ3 H3 n3
   exact⟨m',hm,σ3,H3,I3,w3⟩
  | brk=>exact q3
  | ret v=>exact q3
 | false =>
  rw[if_neg Bool.false_ne_true]
  exact wpAny_execs_nil ⟨σ1,H2,I2,q2⟩
end
structure It where
 go:Nat→Hp→Prop
 yld:Nat→Hp→V→Hp→Prop
 stop:Nat→Hp→Prop
def FpOk(X:Cx)(pins:List (Addr×Obj))(H:Hp)(b:Addr):Prop :=
 H b=none∧b≠X.env.locals∧b ∉ X.fs∧(b∈X.ex∨X.s₀.heap.objs.size≤b)∧(∀x c,X.env.cells.lookup x=some c→c≠b)∧∀p∈X.pn++pins,p.1≠b
theorem Inv.fpOk{X:Cx}{pins:List (Addr×Obj)}{σ:St}{H H':Hp}{s:Shared}{b:Addr}(I:Inv X pins σ H s)(hb:s.heap.objs.size≤b)(hn:H' b=none):FpOk X pins H' b:=by
 refine⟨hn,Nat.ne_of_gt (Nat.lt_of_lt_of_le I.lt hb),I.nofs hb,.inr (Nat.le_trans I.sz hb),fun x c e z=>?_,fun p hp z=>?_⟩
 ·obtain⟨v,q⟩:=I.cell x c e
  exact absurd (Nat.lt_of_lt_of_le q.lt (by rw[z];exact hb)) (Nat.lt_irrefl _)
 ·exact absurd (Nat.lt_of_lt_of_le (Heap.lt_size (I.pin p hp).1) (by rw[z];exact hb)) (Nat.lt_irrefl _)
structure Turn(P:Program)(w:World)(K:W.Frag)(tg:Expr)(J:It)(fp:List Addr)(it:Addr)(tn:Nat→Heap→Prop):Prop where
 mem:it∈fp
 obj:∀i h,tn i h→∀b∈fp,∃o,h.get? b=some o∧∀v,o.data≠.cell v
 keep:∀i h h',tn i h→(∀b∈fp,∀o,h.get? b=some o→h'.get? b=some o)→tn i h'
 item:∀(X:Cx),X.prog=P→X.w=w→X.K=K→X.calm=true→∀(i:Nat) (pins:List (Addr×Obj)) (s:Shared) (σ:St) (H:Hp) (E:Value→Shared→Prop),Inv X pins σ H s→(∀b∈fp,FpOk X pins H b)→tn i s.heap→J.go i H →
  wpAny (model P w) X.A (pyNext (.ref it)) (fun r s1=>∃u,r=some u ∧
   wpAny (model P w) X.A (letOwnedTupleGo tg (.ref it) u) (fun _ s2=>∃x H',Inv X pins σ H' s2∧RelV x u∧J.yld i H x H'∧tn (i+1) s2.heap∧∀b∈fp,H' b=none) E s1) E s
 done:∀(X:Cx),X.prog=P→X.w=w→X.K=K→X.calm=true→∀(i:Nat) (pins:List (Addr×Obj)) (s:Shared) (σ:St) (H:Hp) (E:Value→Shared→Prop),Inv X pins σ H s→(∀b∈fp,FpOk X pins H b)→tn i s.heap→J.stop i H →
  wpAny (model P w) X.A (pyNext (.ref it)) (fun r s1=>r=none∧Inv X pins σ H s1) E s
 self:∀(A:Around) (i:Nat) (s:Shared) (Q:Value→Shared→Prop) (E:Value→Shared→Prop),tn i s.heap→Q (.ref it) s→wpAny (model P w) A (pyIter (.ref it)) Q E s
abbrev TI:=St→Hp→(It→Hp→Prop)→Prop
def PIE(X:Cx)(pins:List (Addr×Obj))(σ:St)(tg:Expr)(R:It→Hp→Prop)(itv:Value)(s2:Shared):Prop :=
 ∃(it:Addr) (fp:List Addr) (tn:Nat→Heap→Prop) (J:It) (H':Hp),itv=.ref it∧Inv X pins σ H' s2∧Turn X.prog X.w X.K tg J fp it tn∧tn 0 s2.heap∧(∀b∈fp,FpOk X pins H' b)∧R J H'
def PI(X:Cx)(tg iter:Expr)(wi:TI):Prop :=
 ∀(pins:List (Addr×Obj)) (s:Shared) (σ:St) (H:Hp) (R:It→Hp→Prop),Inv X pins σ H s→wi σ H R →
  wpAny (model X.prog X.w) X.A (eval iter X.env) (fun v s1=>wpAny (model X.prog X.w) X.A (pyIter v) (PIE X pins σ tg R) X.xe s1) X.xe s
theorem a4x{M:Model}{A:Around}{E:Value→Shared→Prop}{s:Shared}{tg:Expr}{it:Addr}{u:Value}{o:Obj}{n:String}{vs:Array Value}{Q:Unit→Shared→Prop}(ho:s.heap.get? it=some o)(hc:o.cls=.type n)(hd:o.data=.fields vs)
  (hn:["enumerate","zip","dict_itemiterator","dict_reverseitemiterator","odict_iterator","itertools.zip_longest","itertools.pairwise"].contains n=false) (hQ:Q () s):wpAny M A (letOwnedTupleGo tg (.ref it) u) Q E s:=by
 unfold letOwnedTupleGo
 cases tg<;>first
  | exact wpAny_pure hQ
  | (cases u<;>first
    | exact wpAny_pure hQ
    | (refine wpAny_bind (wpAny_load ho ?_)
       rw[hc,hd]
       show wpAny M A (if(["enumerate","zip","dict_itemiterator","dict_reverseitemiterator","odict_iterator","itertools.zip_longest","itertools.pairwise"].contains n && vs[0]? == some (rawInt _))=true then _ else _) Q E s
       rw[if_neg (by intro h;rw[hn,Bool.false_and]at h;cases h)]
       exact wpAny_pure hQ))
def Itl(K:W.Frag)(a:Addr):It :=
 ⟨fun i H=>∃xs x,SqL K H a xs∧xs[i]? = some x,fun i H x H'=>H'=H∧∀xs,SqL K H a xs→xs[i]? = some x,fun i H=>∃xs,SqL K H a xs∧xs.length≤i⟩
def Itt(K:W.Frag)(a:Addr):It :=
 ⟨fun i H=>∃xs x,SqT K H a xs∧xs[i]? = some x,fun i H x H'=>H'=H∧∀xs,SqT K H a xs→xs[i]? = some x,fun i H=>∃xs,SqT K H a xs∧xs.length≤i⟩
def Itr(lo:Int)(n:Nat):It:=⟨fun i _=>i<n,fun i H x H'=>H'=H∧x=.int (lo+i),fun i _=>n≤i⟩
theorem a5i{P:Program}{w:World}{K:W.Frag}{tg:Expr}(a it:Addr):Turn P w K tg (Itl K a) [it] it (fun i h=>h.IsListIter it a i) where
 mem:=by simp
 obj:=fun i h st b hb=>by
  have e:b=it:=by simpa using hb
  subst e
  obtain⟨o,e,c,d⟩:=st
  exact⟨o,e,fun v z=>by rw[d]at z;cases z⟩
 keep:=fun i h h' st k=>st.at fun o e=>k it (by simp) o e
 item:=by
  intro X hP hw hK hc i pins s σ H E I hf st hg
  subst hP hw hK
  obtain⟨xs,x,hq,hx⟩:=hg
  obtain⟨its,rv,p,hz⟩:=I.list hq
  obtain⟨u,hu,ru⟩:=rv.get hx
  obtain⟨f0,f1,f2,f3,f4,f5⟩:=hf it (by simp)
  refine wpAny_pyNext_list_item st p.isList (x:=u) (by simpa using hu) fun h' st' sb=>?_
  have I1:Inv X pins σ H { s with heap:=h' }:=I.turned (t':=s.toks) (fun b o hb e=>(sb.2 b hb).trans e) f0 f1 f3 f4 f5
  obtain⟨o,e,c,d⟩:=id st'
  exact⟨u,rfl,a4x (s:={ s with heap:=h' }) e c d (by decide) ⟨x,H,I1,ru,⟨rfl,fun ys hy=>by rw[I.list_inj hy hq];exact hx⟩,st',fun b hb=>(hf b hb).1⟩⟩
 done:=by
  intro X hP hw hK hc i pins s σ H E I hf st hg
  subst hP hw hK
  obtain⟨xs,hq,hx⟩:=hg
  obtain⟨its,rv,p,hz⟩:=I.list hq
  obtain⟨f0,f1,f2,f3,f4,f5⟩:=hf it (by simp)
  have hl:=rv.length
  exact wpAny_pyNext_list_end (I.ok.hd hc) st p.isList (by simp;omega) fun h' eb=>⟨rfl,I.turned (t':=s.toks) (fun b o hb e=>eb b o hb e) f0 f1 f3 f4 f5⟩
 self:=fun _ _ _ _ _ st h=>wpAny_pyIter_listiter st h
theorem a4y{P:Program}{w:World}{K:W.Frag}{tg:Expr}(a it:Addr):Turn P w K tg (Itt K a) [it] it (fun i h=>h.IsTupleIter it a i) where
 mem:=by simp
 obj:=fun i h st b hb=>by
  have e:b=it:=by simpa using hb
  subst e
  obtain⟨o,e,c,d⟩:=st
  exact⟨o,e,fun v z=>by rw[d]at z;cases z⟩
 keep:=fun i h h' st k=>st.at fun o e=>k it (by simp) o e
 item:=by
  intro X hP hw hK hc i pins s σ H E I hf st hg
  subst hP hw hK
  obtain⟨xs,x,hq,hx⟩:=hg
  obtain⟨its,rv,p,hz⟩:=I.tuple hq
  obtain⟨u,hu,ru⟩:=rv.get hx
  obtain⟨f0,f1,f2,f3,f4,f5⟩:=hf it (by simp)
  refine wpAny_pyNext_tuple_item st (show s.heap.IsTuple a its.toArray from p) (x:=u) (by simpa using hu) fun h' st' sb=>?_
  have I1:Inv X pins σ H { s with heap:=h' }:=I.turned (t':=s.toks) (fun b o hb e=>(sb.2 b hb).trans e) f0 f1 f3 f4 f5
  obtain⟨o,e,c,d⟩:=id st'
  exact⟨u,rfl,a4x (s:={ s with heap:=h' }) e c d (by decide) ⟨x,H,I1,ru,⟨rfl,fun ys hy=>by rw[I.tuple_inj hy hq];exact hx⟩,st',fun b hb=>(hf b hb).1⟩⟩
 done:=by
  intro X hP hw hK hc i pins s σ H E I hf st hg
  subst hP hw hK
  obtain⟨xs,hq,hx⟩:=hg
  obtain⟨its,rv,p,hz⟩:=I.tuple hq
  obtain⟨f0,f1,f2,f3,f4,f5⟩:=hf it (by simp)
  have hl:=rv.length
  exact wpAny_pyNext_tuple_end (I.ok.hd hc) st (show s.heap.IsTuple a its.toArray from p) (by simp;omega) fun h' eb=>⟨rfl,I.turned (t':=s.toks) (fun b o hb e=>eb b o hb e) f0 f1 f3 f4 f5⟩
 self:=fun _ _ _ _ _ st h=>wpAny_pyIter_tupleiter st h
theorem a4z{P:Program}{w:World}{K:PySem.W.Frag}{tg:Expr}(it:Addr)(lo:Int)(n:Nat):Turn P w K tg (Itr lo n) [it] it (fun i h=>IsRangeIter h it (lo+(i:Nat)*1) ((n:Int)-(i:Nat)) 1) where
 mem:=by simp
 obj:=fun i h st b hb=>by
  have e:b=it:=by simpa using hb
  subst e
  exact⟨_,st,fun v z=>by
   have z':Data.fields _=Data.cell v:=z
   cases z'⟩
 keep:=fun i h h' st k=>k it (by simp) _ st
 item:=by
  intro X hP hw hK hc i pins s σ H E I hf st hg
  subst hP hw hK
  obtain⟨f0,f1,f2,f3,f4,f5⟩:=hf it (by simp)
  have W:=Walks.range (prog:=X.prog) (w:=X.w) (I.ok.hd hc) it lo 1 n
  refine W.item i s _ _ hg st fun v h' tk hv st' kk=>?_
  obtain⟨t,rfl⟩:=hv
  have I1:Inv X pins σ H { s with heap:=h',toks:=tk }:=I.turned (fun b o hb e=>kk b o (by simpa using hb) e) f0 f1 f3 f4 f5
  refine⟨_,rfl,a4x (s:={ s with heap:=h',toks:=tk }) (n := "range_iterator") st' rfl rfl (by decide) ⟨.int (lo+i),H,I1,⟨t,?_⟩,⟨rfl,rfl⟩,st',fun b hb=>(hf b hb).1⟩⟩
  rw[Int.mul_one]
 done:=by
  intro X hP hw hK hc i pins s σ H E I hf st hg
  subst hP hw hK
  obtain⟨f0,f1,f2,f3,f4,f5⟩:=hf it (by simp)
  exact wpAny_pyNext_range_end (I.ok.hd hc) st (by have:n≤i:=hg;omega) fun h' eb=>⟨rfl,I.turned (t':=s.toks) (fun b o hb e=>eb b o hb e) f0 f1 f3 f4 f5⟩
 self:=fun _ _ _ _ _ st h=>wpAny_pyIter_rangeiter st h
section
variable {X:Cx}{tg:Expr}
def a2x(K:W.Frag)(tl:TE):TI:=fun σ H R=>tl σ H fun x H1=>∃a,x=.ref a∧(∃xs,SqL K H1 a xs)∧R (Itl K a) H1
def a9T(K:W.Frag)(tl:TE):TI:=fun σ H R=>tl σ H fun x H1=>∃a,x=.ref a∧(∃xs,SqT K H1 a xs)∧R (Itt K a) H1
theorem J9{l:Expr}{tl:TE}(hl:PE X l tl):PI X tg l (a2x X.K tl):=by
 intro pins s σ H R I h
 refine j4 (hl pins s σ H _ I h) fun v s1 ⟨x,H1,I1,r1,q1⟩=>?_
 obtain⟨a,e,⟨xs,hq⟩,q⟩:=q1
 subst e
 cases r1
 obtain⟨its,rv,p,hz⟩:=I1.list hq
 refine wpAny_pyIter_list p.isList ?_
 refine⟨s1.heap.objs.size,[s1.heap.objs.size],_,_,H1,rfl,I1.kept (t':=s1.toks) fun b o e=>Heap.get?_push_of_some _ e,a5i a _,⟨_,Heap.get?_push_size _ rfl,rfl,rfl⟩,fun b hb=>?_,q⟩
 have e:b=s1.heap.objs.size:=by simpa using hb
 subst e
 exact I1.fpOk (Nat.le_refl _) (I1.hok.fresh (Nat.le_refl _))
theorem a5j{l:Expr}{tl:TE}(hl:PE X l tl):PI X tg l (a9T X.K tl):=by
 intro pins s σ H R I h
 refine j4 (hl pins s σ H _ I h) fun v s1 ⟨x,H1,I1,r1,q1⟩=>?_
 obtain⟨a,e,⟨xs,hq⟩,q⟩:=q1
 subst e
 cases r1
 obtain⟨its,rv,p,hz⟩:=I1.tuple hq
 refine wpAny_pyIter_tuple (show s1.heap.IsTuple a its.toArray from p) ?_
 refine⟨s1.heap.objs.size,[s1.heap.objs.size],_,_,H1,rfl,I1.kept (t':=s1.toks) fun b o e=>Heap.get?_push_of_some _ e,a4y a _,⟨_,Heap.get?_push_size _ rfl,rfl,rfl⟩,fun b hb=>?_,q⟩
 have e:b=s1.heap.objs.size:=by simpa using hb
 subst e
 exact I1.fpOk (Nat.le_refl _) (I1.hok.fresh (Nat.le_refl _))
theorem a6C{pins:List (Addr×Obj)}{σ:St}{H:Hp}{s:Shared}{R:It→Hp→Prop}{E:Value→Shared→Prop}{lo hi:Int}{t u v:Tok}{tk:Nat}(I:Inv X pins σ H s)(h1 : -(2 ^ 62)≤lo)(h2:lo<2 ^ 62)(h3 : -(2 ^ 62)≤hi)(h4:hi<2 ^ 62)
  (q:R (Itr lo (hi-lo).toNat) H):wpAny (model X.prog X.w) X.A (pyIter (.ref s.heap.objs.size)) (PIE X pins σ tg R) E { s with heap:=s.heap.push { cls:=.type "range",data:=.fields #[.int lo t,.int hi u,.int 1 v] },toks:=tk }:=by
 refine wpAny_pyIter_range (IsRange.new ..) (small_one h1 h2 h3 h4) ?_
 have I1:Inv X pins σ H { s with heap:=s.heap.push { cls:=.type "range",data:=.fields #[.int lo t,.int hi u,.int 1 v] },toks:=tk }:=I.kept fun b o e=>Heap.get?_push_of_some _ e
 refine⟨(s.heap.push { cls:=.type "range",data:=.fields #[.int lo t,.int hi u,.int 1 v] }).objs.size,[(s.heap.push { cls:=.type "range",data:=.fields #[.int lo t,.int hi u,.int 1 v] }).objs.size],_,_,H,rfl,
  I1.kept (t':=tk) fun b o e=>Heap.get?_push_of_some _ e,a4z _ lo (hi-lo).toNat,?_,fun b hb=>?_,q⟩
 ·have e1:lo+((0:Nat):Int)*1=lo:=by simp
  have e2:(((hi-lo).toNat:Nat):Int)-((0:Nat):Int)=Builtin.Range.rangeSize lo hi 1:=by rw[rangeSize_one];split<;>omega
  show IsRangeIter _ _ (lo+((0:Nat):Int)*1) ((((hi-lo).toNat:Nat):Int)-((0:Nat):Int)) 1
  rw[e1,e2]
  exact Heap.get?_push_size _ rfl
 ·have e:b=(s.heap.push { cls:=.type "range",data:=.fields #[.int lo t,.int hi u,.int 1 v] }).objs.size:=by simpa using hb
  subst e
  exact I1.fpOk (Nat.le_refl _) (I1.hok.fresh (Nat.le_refl _))
def a7M(ta:TA):TI:=fun σ H R=>ta σ H fun vs H1=>∃j:Int,vs=[.int j]∧-(2 ^ 62)≤j∧j<2 ^ 62∧R (Itr 0 j.toNat) H1
theorem a2a{a:Expr}{ta:TA}{p pos:Pos}(hg:Gl X "range")(hm:X.mg "range" = none)(ha:PA X [a] ta)(hs:starEach [a] X.env=[(false,eval a X.env)]:=by rfl):PI X tg (.Call (.Name "range" p) [a] [] pos) (a7M ta):=by
 intro pins s σ H R I h
 refine Call_ (Z5 I hg hm boot_range (PyProof.Rows.callWith_type1 (j4 (ha pos pins s σ H _ I h) fun us s1 ⟨vs,H1,I1,r1,q1⟩=>?_) hs rfl))
 obtain⟨j,e,q1,q2,q⟩:=q1
 subst e
 cases r1 with
 | cons r rr =>
  cases rr
  obtain⟨t,rfl⟩:=r
  exact call_range_1 (a6C I1 (by omega) (by omega) q1 q2 (by simpa using q))
def a4A(wi:TI)(g:TG)(tb:TS):TS:=fun D σ H=>wi σ H fun J H1=>∃W:Nat→Nat→St→Hp→Prop,(∃m,W 0 m σ H1)∧∀i m σ H,W i m σ H →
 (J.stop i H∧D.nx σ H)∨(J.go i H∧∃N:St→Hp→Prop,(∀σ' H',N σ' H'→∃m',m'<m∧W (i+1) m' σ' H')∧∀x H',J.yld i H x H'→g x σ H' fun σ2 H2=>tb { D with nx:=N,ct:=N,bk:=D.nx } σ2 H2)
def Z9(fp:List Addr)(h:Heap):List (Addr×Obj):=fp.filterMap fun b=>(h.get? b).map fun o=>(b,o)
theorem R0{fp:List Addr}{h:Heap}{b:Addr}{o:Obj}(hb:b∈fp)(e:h.get? b=some o):(b,o)∈Z9 fp h:=List.mem_filterMap.mpr ⟨b,hb,by rw[e];rfl⟩
theorem a5k{fp:List Addr}{h:Heap}{p:Addr×Obj}(hp:p∈Z9 fp h):p.1∈fp∧h.get? p.1=some p.2:=by
 obtain⟨b,hb,e⟩:=List.mem_filterMap.mp hp
 cases q:h.get? b with
 | none=>rw[q]at e;cases e
 | some o =>
  rw[q]at e
  have e':(b,o)=p:=Option.some.inj e
  subst e'
  exact⟨hb,q⟩
theorem Inv.pinned{pins:List (Addr×Obj)}{σ:St}{H:Hp}{s:Shared}{fp:List Addr}(I:Inv X pins σ H s)(hf:∀b∈fp,FpOk X pins H b)(ho:∀b∈fp,∃o,s.heap.get? b=some o∧∀v,o.data≠.cell v):Inv X (pins++Z9 fp s.heap) σ H s :=
 I.pins_of fun p hp=>(List.mem_append.mp hp).elim (fun z=>I.pin p (List.mem_append_right _ z)) fun z=>by
  obtain⟨hb,e⟩:=a5k z
  obtain⟨f0,f1,f2,_⟩:=hf p.1 hb
  obtain⟨o,e',d⟩:=ho p.1 hb
  rw[e]at e';cases e'
  exact⟨e,f0,f1,f2,d⟩
theorem Inv.unpinned{pins pl:List (Addr×Obj)}{σ:St}{H:Hp}{s:Shared}(I:Inv X (pins++pl) σ H s):Inv X pins σ H s:=I.pins_of fun p hp=>I.pin p (List.mem_append_right _ (List.mem_append_left _ hp))
theorem P7{iter:Expr}{body:List Stmt}{wi:TI}{g:TG}{tb:TS}{pos:Pos}(hp:PassesOwn (model X.prog X.w) X.A X.env X.xe)(hc:X.calm=true)(hi:PI X tg iter wi)(hg:PG X tg g)(hb:PSs X body tb)
  (hs:∀x,foldedSetIterable iter X.env x=pure x:=by intro _;rfl):PS X (.For tg iter body [] pos) (a4A wi g tb):=by
 intro pins s σ H D I h
 refine wpAny_For (j4 (hi pins s σ H _ I h) fun v s1 h1=>j4 h1 fun itv s2 h2=>?_) hs
 obtain⟨it,fp,tn,J,H2,e,I2,T,st2,f2,W,⟨m0,w0⟩,turn⟩:=h2
 subst e
 -- what stays true of the iterator's objects through the loop
 have stat:∀{H':Hp},(∀b∈fp,H' b=none)→∀b∈fp,FpOk X pins H' b:=fun hn b hb=>⟨hn b hb,(f2 b hb).2⟩
 refine codeAny_forLoop_any (fun n s'=>∃i σ' H',Inv X pins σ' H' s'∧tn i s'.heap∧(∀b∈fp,H' b=none)∧W i n σ' H') ?_ m0 ⟨0,σ,H2,I2,st2,fun b hb=>(f2 b hb).1,w0⟩
 rintro n s3 ⟨i,σ3,H3,I3,st3,fr3,w3⟩
 rcases turn i n σ3 H3 w3 with⟨stop,qn⟩ | ⟨go,N,hN,step⟩
 ·refine wpAny_passesOwn hp (j4 (T.done X rfl rfl rfl hc i pins s3 σ3 H3 X.xe I3 (stat fr3) st3 stop) fun r s4 ⟨hr,I4⟩=>?_)
  subst hr
  exact wpAny_execs_nil ⟨σ3,H3,I4,qn⟩
 ·refine wpAny_passesOwn hp (j4 (T.item X rfl rfl rfl hc i pins s3 σ3 H3 X.xe I3 (stat fr3) st3 go) fun r s4 ⟨u,hr,h4⟩=>?_)
  subst hr
  refine wpAny_passesOwn hp (j4 h4 fun _ s5 ⟨x,H5,I5,r5,y5,st5,fr5⟩=>?_)
  have I5':=I5.pinned (stat fr5) (T.obj _ _ st5)
  refine wpAny_passesOwn hp (j4 (hg _ s5 σ3 H5 x u _ I5' r5 (step x H5 y5)) fun _ s6 ⟨σ6,H6,I6,q6⟩=>?_)
  refine wpAny_passesOwn hp (j4 (hb _ s6 σ6 H6 _ I6 q6) fun f s7 q7=>?_)
  have again:∀{σ7:St} {H7:Hp},Inv X (pins++Z9 fp s5.heap) σ7 H7 s7→N σ7 H7→∃m,m<n∧∃i σ' H',Inv X pins σ' H' s7∧tn i s7.heap∧(∀b∈fp,H' b=none)∧W i m σ' H':=fun{σ7 H7} I7 n7=>by
   obtain⟨m',hm,w7⟩:=hN σ7 H7 n7
   refine⟨m',hm,i+1,σ7,H7,I7.unpinned,T.keep _ _ _ st5 fun b hb o e=>(I7.pin (b,o) (List.mem_append_right _ (List.mem_append_right _ (R0 hb e)))).1,fun b hb=>?_,w7⟩
   obtain⟨o,e,d⟩:=T.obj _ _ st5 b hb
   exact(I7.pin (b,o) (List.mem_append_right _ (List.mem_append_right _ (R0 hb e)))).2.1
  cases f with
  | next=>obtain⟨σ7,H7,I7,n7⟩:=q7;exact again I7 n7
  | cont=>obtain⟨σ7,H7,I7,n7⟩:=q7;exact again I7 n7
  | brk=>obtain⟨σ7,H7,I7,q7⟩:=q7;exact⟨σ7,H7,I7.unpinned,q7⟩
  | ret v=>obtain⟨x7,σ7,H7,I7,r7,q7⟩:=q7;exact⟨x7,σ7,H7,I7.unpinned,r7,q7⟩
end
theorem a6D{K:PySem.W.Frag}{a:Addr}{xs:List V}{g:TG}{tb:TS}{D:Ends}{σ:St}{H:Hp}(Pv:Nat→St→Hp→Prop)(h0:Pv 0 σ H)(hl:∀i σ H,i≤xs.length→Pv i σ H→SqL K H a xs)
  (hs:∀i x σ H,xs[i]? = some x→Pv i σ H→g x σ H fun σ2 H2=>tb { D with nx:=Pv (i+1),ct:=Pv (i+1),bk:=D.nx } σ2 H2) (hd:∀σ H,Pv xs.length σ H→D.nx σ H) :
  ∃W:Nat→Nat→St→Hp→Prop,(∃m,W 0 m σ H)∧∀i m σ H,W i m σ H →
   ((Itl K a).stop i H∧D.nx σ H)∨((Itl K a).go i H∧∃N:St→Hp→Prop,(∀σ' H',N σ' H'→∃m',m'<m∧W (i+1) m' σ' H')∧∀x H',(Itl K a).yld i H x H'→g x σ H' fun σ2 H2=>tb { D with nx:=N,ct:=N,bk:=D.nx } σ2 H2):=by
 refine⟨fun i m σ H=>m=xs.length-i∧i≤xs.length∧Pv i σ H,⟨xs.length,by simp,Nat.zero_le _,h0⟩,?_⟩
 rintro i m σ H ⟨rfl,hi,p⟩
 have q:=hl i σ H hi p
 by_cases hlt:i<xs.length
 ·refine .inr ⟨⟨xs,xs[i],q,by simp[hlt]⟩,Pv (i+1),fun σ' H' p'=>⟨xs.length-(i+1),by omega,rfl,hlt,p'⟩,fun x H' y=>?_⟩
  obtain⟨e,y⟩:=y
  subst e
  exact hs i x σ _ (y xs q) p
 ·have e:i=xs.length:=by omega
  subst e
  exact .inl ⟨⟨xs,q,Nat.le_refl _⟩,hd σ H p⟩
theorem a8j{K:PySem.W.Frag}{a:Addr}{xs:List V}{g:TG}{tb:TS}{D:Ends}{σ:St}{H:Hp}(Pv:Nat→St→Hp→Prop)(h0:Pv 0 σ H)(hl:∀i σ H,i≤xs.length→Pv i σ H→SqT K H a xs)
  (hs:∀i x σ H,xs[i]? = some x→Pv i σ H→g x σ H fun σ2 H2=>tb { D with nx:=Pv (i+1),ct:=Pv (i+1),bk:=D.nx } σ2 H2) (hd:∀σ H,Pv xs.length σ H→D.nx σ H) :
  ∃W:Nat→Nat→St→Hp→Prop,(∃m,W 0 m σ H)∧∀i m σ H,W i m σ H →
   ((Itt K a).stop i H∧D.nx σ H)∨((Itt K a).go i H∧∃N:St→Hp→Prop,(∀σ' H',N σ' H'→∃m',m'<m∧W (i+1) m' σ' H')∧∀x H',(Itt K a).yld i H x H'→g x σ H' fun σ2 H2=>tb { D with nx:=N,ct:=N,bk:=D.nx } σ2 H2):=by
 refine⟨fun i m σ H=>m=xs.length-i∧i≤xs.length∧Pv i σ H,⟨xs.length,by simp,Nat.zero_le _,h0⟩,?_⟩
 rintro i m σ H ⟨rfl,hi,p⟩
 have q:=hl i σ H hi p
 by_cases hlt:i<xs.length
 ·refine .inr ⟨⟨xs,xs[i],q,by simp[hlt]⟩,Pv (i+1),fun σ' H' p'=>⟨xs.length-(i+1),by omega,rfl,hlt,p'⟩,fun x H' y=>?_⟩
  obtain⟨e,y⟩:=y
  subst e
  exact hs i x σ _ (y xs q) p
 ·have e:i=xs.length:=by omega
  subst e
  exact .inl ⟨⟨xs,q,Nat.le_refl _⟩,hd σ H p⟩
theorem a5l{lo:Int}{n:Nat}{g:TG}{tb:TS}{D:Ends}{σ:St}{H:Hp}(Pv:Nat→St→Hp→Prop)(h0:Pv 0 σ H)
  (hs:∀i σ H,i<n→Pv i σ H→g (.int (lo+i)) σ H fun σ2 H2=>tb { D with nx:=Pv (i+1),ct:=Pv (i+1),bk:=D.nx } σ2 H2) (hd:∀σ H,Pv n σ H→D.nx σ H) :
  ∃W:Nat→Nat→St→Hp→Prop,(∃m,W 0 m σ H)∧∀i m σ H,W i m σ H →
   ((Itr lo n).stop i H∧D.nx σ H)∨((Itr lo n).go i H∧∃N:St→Hp→Prop,(∀σ' H',N σ' H'→∃m',m'<m∧W (i+1) m' σ' H')∧∀x H',(Itr lo n).yld i H x H'→g x σ H' fun σ2 H2=>tb { D with nx:=N,ct:=N,bk:=D.nx } σ2 H2):=by
 refine⟨fun i m σ H=>m=n-i∧i≤n∧Pv i σ H,⟨n,by simp,Nat.zero_le _,h0⟩,?_⟩
 rintro i m σ H ⟨rfl,hi,p⟩
 by_cases hlt:i<n
 ·refine .inr ⟨hlt,Pv (i+1),fun σ' H' p'=>⟨n-(i+1),by omega,rfl,hlt,p'⟩,fun x H' y=>?_⟩
  obtain⟨e,y⟩:=y
  subst e y
  exact hs i σ _ hlt p
 ·have e:i=n:=by omega
  subst e
  exact .inl ⟨Nat.le_refl _,hd σ H p⟩
abbrev R2:=V→V→Hp→VK→Prop
def J2(X:Cx)(f:Value→Value→Sem Value)(r:R2):Prop :=
 ∀(pins:List (Addr×Obj)) (s:Shared) (σ:St) (H:Hp) (x y:V) (v u:Value) (Q:VK),Inv X pins σ H s→RelV x v→RelV y u→r x y H Q →
  wpAny (model X.prog X.w) X.A (f v u) (EP X pins σ Q) X.xe s
def O8(X:Cx)(f:Value)(r:List V→Hp→VK→Prop):Prop :=
 ∀(pins:List (Addr×Obj)) (s:Shared) (σ:St) (H:Hp) (xs:List V) (us:List Value) (Q:VK),Inv X pins σ H s→Vals xs us→r xs H Q →
  wpAny (model X.prog X.w) X.A (call f us) (EP X pins σ Q) X.xe s
def tOp(r:R2)(ta tb:TE):TE:=fun σ H Q=>ta σ H fun x H1=>tb σ H1 fun y H2=>r x y H2 Q
def rI(C:Int→Int→Prop)(g:Int→Int→V):R2:=fun x y H Q=>∃i j,x=.int i∧y=.int j∧C i j∧Q (g i j) H
def rI0(g:Int→Int→V):R2:=fun x y H Q=>∃i j,x=.int i∧y=.int j∧Q (g i j) H
section
variable {X:Cx}{a b c:Expr}{ta tb tc:TE}{pos:Pos}
theorem a6E(ha:PE X a ta)(hb:PE X b tb){pins:List (Addr×Obj)}{s:Shared}{σ:St}{H:Hp}{R:V→V→Hp→Prop}(I:Inv X pins σ H s)
  (h:ta σ H fun x H1=>tb σ H1 fun y H2=>R x y H2) {Q:Value→Shared→Prop} {f:Value→Value→Sem Value}
  (hf:∀v u s2 x y H2,Inv X pins σ H2 s2→RelV x v→RelV y u→R x y H2→wpAny (model X.prog X.w) X.A (f v u) Q X.xe s2) :
  wpAny (model X.prog X.w) X.A (eval a X.env) (fun v s₁=>wpAny (model X.prog X.w) X.A (eval b X.env) (fun u s₂=>wpAny (model X.prog X.w) X.A (f v u) Q X.xe s₂) X.xe s₁) X.xe s:=by
 refine j4 (ha pins s σ H _ I h) fun v s1 ⟨x,H1,I1,r1,q1⟩=>?_
 refine j4 (hb pins s1 σ H1 _ I1 q1) fun u s2 ⟨y,H2,I2,r2,q2⟩=>?_
 exact hf v u s2 x y H2 I2 r1 r2 q2
theorem h8{op:Operator}{r:R2}(ho:J2 X (binaryOp op) r)(ha:PE X a ta)(hb:PE X b tb):PE X (.BinOp a op b pos) (tOp r ta tb):=by
 intro pins s σ H Q I h
 exact wpAny_BinOp (a6E ha hb I h fun v u s2 x y H2 I2 rx ry q=>ho pins s2 σ H2 x y v u Q I2 rx ry q)
theorem opI{f:Value→Value→Sem Value}{C:Int→Int→Prop}{g:Int→Int→Int}
  (rule:∀(i j:Int) (t u:Tok) (s:Shared) (Q:Value→Shared→Prop) (E:Value→Shared→Prop),C i j→Q (.int (g i j) s.toks) { s with toks:=s.toks+1 }→wpAny (model X.prog X.w) X.A (f (.int i t) (.int j u)) Q E s) :
  J2 X f (rI C fun i j=>.int (g i j)):=by
 intro pins s σ H x y v u Q I rx ry h
 obtain⟨i,j,rfl,rfl,hc,q⟩:=h
 obtain⟨t,rfl⟩:=rx
 obtain⟨t',rfl⟩:=ry
 exact rule i j t t' s _ _ hc ⟨.int (g i j),H,I.tok _,⟨_,rfl⟩,q⟩
theorem a9U{f:Value→Value→Sem Value}{g:Int→Int→Int}
  (rule:∀(i j:Int) (t u:Tok) (s:Shared) (Q:Value→Shared→Prop) (E:Value→Shared→Prop),Q (.int (g i j) s.toks) { s with toks:=s.toks+1 }→wpAny (model X.prog X.w) X.A (f (.int i t) (.int j u)) Q E s) :
  J2 X f (rI0 fun i j=>.int (g i j)):=by
 intro pins s σ H x y v u Q I rx ry h
 obtain⟨i,j,rfl,rfl,q⟩:=h
 obtain⟨t,rfl⟩:=rx
 obtain⟨t',rfl⟩:=ry
 exact rule i j t t' s _ _ ⟨.int (g i j),H,I.tok _,⟨_,rfl⟩,q⟩
theorem a9V{f:Value→Value→Sem Value}{g:Int→Int→Bool}
  (rule:∀(i j:Int) (t u:Tok) (s:Shared) (Q:Value→Shared→Prop) (E:Value→Shared→Prop),Q (.bool (g i j)) s→wpAny (model X.prog X.w) X.A (f (.int i t) (.int j u)) Q E s) :
  J2 X f (rI0 fun i j=>.bl (g i j)):=by
 intro pins s σ H x y v u Q I rx ry h
 obtain⟨i,j,rfl,rfl,q⟩:=h
 obtain⟨t,rfl⟩:=rx
 obtain⟨t',rfl⟩:=ry
 exact rule i j t t' s _ _ ⟨.bl (g i j),H,I,rfl,q⟩
def a1L(i j:Int):Prop:=0≤j∧j≤1000000∧i.natAbs<2 ^ 64
def CMul(i j:Int):Prop:=(-(2 ^ 64)<i∧i<2 ^ 64)∨(-(2 ^ 64)<j∧j<2 ^ 64)
theorem CMul.ok{i j:Int}(h:CMul i j):IntMulOk i j:=by
 rcases h with⟨h1,h2⟩ | ⟨h1,h2⟩
 ·exact .of_left (intBits_le_64 h1 h2)
 ·exact .of_right (intBits_le_64 h1 h2)
theorem t6:J2 X (binaryOp .Add) (rI0 fun i j=>.int (i+j)):=a9U fun _ _ _ _ _ _ _ q=>add_int q
theorem J3:J2 X (binaryOp .Sub) (rI0 fun i j=>.int (i-j)):=a9U fun _ _ _ _ _ _ _ q=>sub_int q
theorem C4:J2 X (binaryOp .Mod) (rI (fun _ j=>0<j) fun i j=>.int (i%j)):=opI fun i j _ _ _ _ _ hc q=>by
 have h1:(0:Int)<j:=hc
 exact mod_int' (by omega) (by rw[Int.fmod_eq_emod_of_nonneg i (by omega)];exact q)
theorem a5m:J2 X (binaryOp .Pow) (rI a1L fun i j=>.int (i ^ j.toNat)):=opI fun _ _ _ _ _ _ _ hc q=>pow_int_small hc.1 hc.2.1 hc.2.2 q
end
def a2O:V→V→Bool
 | .non,.non=>true | .non,.int _=>true | .int _,.non=>true | .non,.bl _=>true | .bl _,.non=>true | .non,.str _=>true | .str _,.non=>true
 | .int _,.int _=>true | .bl _,.bl _=>true | .str _,.str _=>true | .byt _,.byt _=>true
 | .int _,.str _=>true | .str _,.int _=>true | .bl _,.str _=>true | .str _,.bl _=>true
 | _,_=>false
def rEq:R2:=fun x y H Q=>a2O x y=true∧Q (.bl (decide (x=y))) H
def rNe:R2:=fun x y H Q=>a2O x y=true∧Q (.bl (!decide (x=y))) H
theorem a3S{i j:Int}:decide (V.int i=V.int j)=(i == j):=by
 rw[Bool.eq_iff_iff]
 simp
theorem a5n{i j:Bool}:decide (V.bl i=V.bl j)=(i == j):=by
 rw[Bool.eq_iff_iff]
 simp
theorem a3T{i j:Str}:decide (V.str i=V.str j)=(i == j):=by
 rw[Bool.eq_iff_iff]
 simp
theorem a3U{i j:Array UInt8}:decide (V.byt i=V.byt j)=(i.toList == j.toList):=by
 rw[Bool.eq_iff_iff]
 cases i
 cases j
 simp
section
variable {X:Cx}{a b c:Expr}{ta tb tc:TE}{pos:Pos}
theorem j8{pins:List (Addr×Obj)}{σ:St}{H:Hp}{s:Shared}{Q:VK}{k k':Bool}(I:Inv X pins σ H s)(q:Q (.bl k) H)(e:k=k'):EP X pins σ Q (.bool k') s:=by
 subst e
 exact⟨.bl k,H,I,rfl,q⟩
theorem K0:J2 X (compareOp .Eq) rEq:=by
 intro pins s σ H x y v u Q I rx ry h
 obtain⟨hs,q⟩:=h
 cases x with
 | non =>
  cases rx
  cases y with
  | non=>cases ry;exact PySem.EqNone.eq_none_none (j8 I q (by simp))
  | bl j=>cases ry;exact PySem.EqNone.eq_none_bool (j8 I q (by simp))
  | int j=>obtain⟨t',rfl⟩:=ry;exact PySem.EqNone.eq_none_int (j8 I q (by simp))
  | str j=>obtain⟨t',rfl⟩:=ry;exact PySem.EqNone.eq_none_str (j8 I q (by simp))
  | _=>exact absurd (show false=true from hs) Bool.false_ne_true
 | bl i =>
  cases rx
  cases y with
  | non=>cases ry;exact PySem.EqNone.eq_bool_none (j8 I q (by simp))
  | bl j=>cases ry;exact eq_bool (j8 I q a5n)
  | str j=>obtain⟨t',rfl⟩:=ry;exact PySem.EqMixed.eq_bool_str (j8 I q (by simp))
  | _=>exact absurd (show false=true from hs) Bool.false_ne_true
 | int i =>
  obtain⟨t,rfl⟩:=rx
  cases y with
  | non=>cases ry;exact PySem.EqNone.eq_int_none (j8 I q (by simp))
  | int j=>obtain⟨t',rfl⟩:=ry;exact eq_int (j8 I q a3S)
  | str j=>obtain⟨t',rfl⟩:=ry;exact PySem.EqMixed.eq_int_str (j8 I q (by simp))
  | _=>exact absurd (show false=true from hs) Bool.false_ne_true
 | str i =>
  obtain⟨t,rfl⟩:=rx
  cases y with
  | non=>cases ry;exact PySem.EqNone.eq_str_none (j8 I q (by simp))
  | bl j=>cases ry;exact PySem.EqMixed.eq_str_bool (j8 I q (by simp))
  | int j=>obtain⟨t',rfl⟩:=ry;exact PySem.EqMixed.eq_str_int (j8 I q (by simp))
  | str j=>obtain⟨t',rfl⟩:=ry;exact eq_str (j8 I q a3T)
  | _=>exact absurd (show false=true from hs) Bool.false_ne_true
 | byt i =>
  obtain⟨t,rfl⟩:=rx
  cases y with
  | byt j=>obtain⟨t',rfl⟩:=ry;exact W.eq_bytes (j8 I q a3U)
  | _=>exact absurd (show false=true from hs) Bool.false_ne_true
 | _=>cases y<;>exact absurd (show false=true from hs) Bool.false_ne_true
theorem a1g:J2 X (compareOp .NotEq) rNe:=by
 intro pins s σ H x y v u Q I rx ry h
 obtain⟨hs,q⟩:=h
 cases x with
 | non =>
  cases rx
  cases y with
  | non=>cases ry;exact PySem.EqNone.ne_none_none (j8 I q (by simp))
  | bl j=>cases ry;exact PySem.EqNone.ne_none_bool (j8 I q (by simp))
  | int j=>obtain⟨t',rfl⟩:=ry;exact PySem.EqNone.ne_none_int (j8 I q (by simp))
  | str j=>obtain⟨t',rfl⟩:=ry;exact PySem.EqNone.ne_none_str (j8 I q (by simp))
  | _=>exact absurd (show false=true from hs) Bool.false_ne_true
 | bl i =>
  cases rx
  cases y with
  | non=>cases ry;exact PySem.EqNone.ne_bool_none (j8 I q (by simp))
  | bl j=>cases ry;exact ne_bool (j8 I q (congrArg not a5n))
  | str j=>obtain⟨t',rfl⟩:=ry;exact PySem.EqMixed.ne_bool_str (j8 I q (by simp))
  | _=>exact absurd (show false=true from hs) Bool.false_ne_true
 | int i =>
  obtain⟨t,rfl⟩:=rx
  cases y with
  | non=>cases ry;exact PySem.EqNone.ne_int_none (j8 I q (by simp))
  | int j=>obtain⟨t',rfl⟩:=ry;exact ne_int (j8 I q (congrArg not a3S))
  | str j=>obtain⟨t',rfl⟩:=ry;exact PySem.EqMixed.ne_int_str (j8 I q (by simp))
  | _=>exact absurd (show false=true from hs) Bool.false_ne_true
 | str i =>
  obtain⟨t,rfl⟩:=rx
  cases y with
  | non=>cases ry;exact PySem.EqNone.ne_str_none (j8 I q (by simp))
  | bl j=>cases ry;exact PySem.EqMixed.ne_str_bool (j8 I q (by simp))
  | int j=>obtain⟨t',rfl⟩:=ry;exact PySem.EqMixed.ne_str_int (j8 I q (by simp))
  | str j=>obtain⟨t',rfl⟩:=ry;exact ne_str (j8 I q (congrArg not a3T))
  | _=>exact absurd (show false=true from hs) Bool.false_ne_true
 | byt i =>
  obtain⟨t,rfl⟩:=rx
  cases y with
  | byt j=>obtain⟨t',rfl⟩:=ry;exact W.ne_bytes (j8 I q (congrArg not a3U))
  | _=>exact absurd (show false=true from hs) Bool.false_ne_true
 | _=>cases y<;>exact absurd (show false=true from hs) Bool.false_ne_true
theorem a4B:J2 X (compareOp .Lt) (rI0 fun i j=>.bl (decide (i<j))):=a9V fun _ _ _ _ _ _ _ q=>lt_int q
theorem a1h:J2 X (compareOp .Gt) (rI0 fun i j=>.bl (decide (j<i))):=a9V fun _ _ _ _ _ _ _ q=>gt_int q
theorem a9W:J2 X (compareOp .Is) (fun x y H Q=>y=.non∧Q (.bl (decide (x=.non))) H):=by
 intro pins s σ H x y v u Q I rx ry h
 obtain⟨rfl,q⟩:=h
 cases ry
 refine is_none_gen (j8 I q ?_)
 cases x<;>first
  | (cases rx;rfl)
  | (obtain⟨t,rfl⟩:=rx;rfl)
theorem a3V:J2 X (compareOp .IsNot) (fun x y H Q=>y=.non∧Q (.bl (!decide (x=.non))) H):=by
 intro pins s σ H x y v u Q I rx ry h
 obtain⟨rfl,q⟩:=h
 cases ry
 refine isnot_none_gen (j8 I q ?_)
 cases x<;>first
  | (cases rx;rfl)
  | (obtain⟨t,rfl⟩:=rx;rfl)
theorem k6(b:Expr){op:CmpOp}(h:op≠.In:=by decide)(h2:op≠.NotIn:=by decide):behindInMarks op b=false:=by
 have e1:(op == CmpOp.In)=false:=by cases op<;>first | rfl | exact absurd rfl h
 have e2:(op == CmpOp.NotIn)=false:=by cases op<;>first | rfl | exact absurd rfl h2
 cases b<;>simp[behindInMarks,e1,e2]
theorem L9{op:CmpOp}{r:R2}(ho:J2 X (compareOp op) r)(ha:PE X a ta)(hb:PE X b tb)(hm:behindInMarks op b=false):PE X (.Compare a [op] [b] pos) (tOp r ta tb):=by
 intro pins s σ H Q I h
 exact wpAny_Compare1 (a6E ha hb I h fun v u s2 x y H2 I2 rx ry q=>ho pins s2 σ H2 x y v u Q I2 rx ry q) hm
def a7O(t:TE):TT:=fun σ H Q=>t σ H fun x H'=>∃k,x=.bl k∧Q k H'
theorem l6{op:CmpOp}{r:R2}(ho:J2 X (compareOp op) r)(ha:PE X a ta)(hb:PE X b tb)(hm:behindInMarks op b=false):PT X (.Compare a [op] [b] pos) (a7O (tOp r ta tb)):=by
 intro pins s σ H Q I h
 refine wpAny_isTrue_Compare1 (j4 (ha pins s σ H _ I h) fun v s1 ⟨x,H1,I1,r1,q1⟩=>j4 (hb pins s1 σ H1 _ I1 q1) fun u s2 ⟨y,H2,I2,r2,q2⟩ =>
  j4 (ho pins s2 σ H2 x y v u _ I2 r1 r2 q2) fun c s3 ⟨z,H3,I3,r3,k,e,q3⟩=>?_) hm
 subst e
 cases r3
 exact wpAny_truthy_bool ⟨H3,I3,q3⟩
theorem a1i:(sizeLine:Nat)<2 ^ 63:=by rw[sizeLine_eq];decide
theorem a2y{x:V}{us:List Value}(r:Vals [x] us):∃u,us=[u]∧RelV x u:=by
 cases r with
 | cons r1 r2=>cases r2;exact⟨_,rfl,r1⟩
theorem a7P{x y:V}{us:List Value}(r:Vals [x,y] us):∃u w',us=[u,w']∧RelV x u∧RelV y w':=by
 cases r with
 | cons r1 r2 =>
  cases r2 with
  | cons r3 r4=>cases r4;exact⟨_,_,rfl,r1,r3⟩
theorem a5o(hc:X.calm=true):O8 X (.builtin "max") (fun xs H Q=>∃i j,xs=[.int i,.int j]∧Q (.int (if j > i then j else i)) H):=by
 intro pins s σ H xs us Q I r h
 obtain⟨i,j,rfl,q⟩:=h
 obtain⟨u,w',rfl,⟨t,rfl⟩,⟨t',rfl⟩⟩:=a7P r
 refine max_two_ints (I.ok.hd hc) fun h' tk k=>⟨_,H,I.kept k,?_,q⟩
 by_cases hj:j > i
 ·rw[if_pos hj,if_pos hj];exact⟨_,rfl⟩
 ·rw[if_neg hj,if_neg hj];exact⟨_,rfl⟩
theorem a5p:O8 X (.type "int") (fun xs H Q=>(∃i,xs=[.int i]∧Q (.int i) H)∨∃k,xs=[.bl k]∧Q (.int (if k then 1 else 0)) H):=by
 intro pins s σ H xs us Q I r h
 rcases h with⟨i,rfl,q⟩ | ⟨k,rfl,q⟩
 ·obtain⟨u,rfl,t,rfl⟩:=a2y r
  exact call_int_int ⟨.int i,H,I,⟨_,rfl⟩,q⟩
 ·obtain⟨u,rfl,r1⟩:=a2y r
  cases r1
  exact call_int_bool ⟨.int (if k then 1 else 0),H,I.tok _,⟨_,rfl⟩,q⟩
end
structure ObjM(h:Heap)(x dx C:Addr)(mA:Str→Option Value):Prop where
 obj:h.get? x=some (W.instObj C dx)
 ns:h.Ns1 dx mA
 ne:dx≠x
theorem a5q{h:Heap}{dx:Addr}{mA:Str→Option Value}(n:h.Ns1 dx mA):∃od,h.get? dx=some od∧∀name,W.lookIn name od=some (mA name):=by
 obtain⟨o,es,ep,ho,hd,hk,_,hm⟩:=n
 refine⟨o,ho,fun name=>?_⟩
 have e:=hm name
 unfold nsFind findBy at e
 rw[← Array.find?_toList]at e
 unfold W.lookIn
 rw[hd]
 dsimp only
 split
 ·rename_i y q
  rw[q]at e
  exact congrArg some e
 ·rename_i q
  rw[q]at e
  have a:es.toList.any (·.refKey)=false:=by
   rw[List.any_eq_false]
   intro y hy
   obtain⟨z,t,hkey⟩:=hk y (Array.mem_toList_iff.mp hy)
   simp[DictEntry.refKey,hkey]
  have a':¬es.toList.any (·.refKey)=true:=by rw[a];exact Bool.false_ne_true
  rw[if_neg a']
  exact congrArg some e
theorem ObjM.look{h:Heap}{x dx C:Addr}{mA:Str→Option Value}(I:ObjM h x dx C mA):∃od,W.InstAt h x (W.instObj C dx) C (some od)∧∀name,W.lookIn name od=some (mA name) :=
 let ⟨od,ho,hl⟩:=a5q I.ns
 ⟨od,⟨I.obj,rfl,rfl,ho⟩,hl⟩
section
variable {P:Program}{w:World}{H H':Hp}{h h':Heap}{a C dx:Addr}{fs fs':List (Str×V)}
theorem a8k(hok:HOk P w H h)(e:H a=some (.ins C dx fs)):∃mA,ObjM h a dx C mA∧(∀f,a6y (fs.lookup f) (mA f))∧PySem.Within mA (fs.map (·.1))∧fs.length≤1000∧H dx=some (.own a):=by
 obtain⟨d,z,ne,ob,mA,n,r,q⟩:=(show ObjOk P w H h a (.ins C dx fs)from hok a _ e)
 exact⟨mA,⟨ob,n,ne⟩,r,q,z,d⟩
end
structure Cls(K:W.Frag)(C:Addr):Prop where
 pg:W.plainGet K C Str.empty=true
 hd:W.hasDictIn K C=true
 po:W.plainOver K C=true
 sa:W.findIn K (.ref C) "__setattr__" = some (some (.builtin "object.__setattr__"))
theorem Cls.get{K:W.Frag}{C:Addr}(c:Cls K C)(f:Str):W.plainGet K C f=true:=c.pg
section
variable {X:Cx}{pins:List (Addr×Obj)}{σ:St}{H:Hp}{s:Shared}{A:Around}{E:Value→Shared→Prop}{Q:Value→Shared→Prop}{c:Value}{b:Bool}
inductive TyOf(K:W.Frag)(H:Hp):V→Value→Prop where
 | non:TyOf K H .non (.type "NoneType")
 | bl (x:Bool):TyOf K H (.bl x) (.type "bool")
 | int (i:Int):TyOf K H (.int i) (.type "int")
 | str (x:Str):TyOf K H (.str x) (.type "str")
 | flt (x:UInt64):TyOf K H (.flt x) (.type "float")
 | lst {a:Addr} {xs:List V} (e:H a=some (.lst xs)):TyOf K H (.ref a) (.type "list")
 | frz {a:Addr} {o:Obj} {xs:List V} (e:H a=some (.frz o (.lst xs))):TyOf K H (.ref a) (.type "list")
 | tup {a:Addr} {xs:List V} (e:H a=some (.tup xs)):TyOf K H (.ref a) (.type "tuple")
 | dK {a:Addr} {kvs:List (N3×V)} (e:H a=some (.dK kvs)):TyOf K H (.ref a) (.type "dict")
 | dT {a:Addr} {kvs:List (List N3×V)} (e:H a=some (.dT kvs)):TyOf K H (.ref a) (.type "dict")
 | ins {a C dx:Addr} {fs:List (Str×V)} (e:H a=some (.ins C dx fs)) (cl:Cls K C) (ha:W.findIn K (.ref C) "__class__" = some (some (.builtin "object.__class__")))
   (hn:W.specialIn K (.builtin "object.__class__") "__get__" = some (some (.builtin "getset_descriptor.__get__"))) (htk:W.takesIn K (.builtin "object.__class__")=some true)
   (hm:W.mroIn K C (.type "object")=some true):TyOf K H (.ref a) (.ref C)
end
structure Room(k:Nat)(A:Around):Prop where
 hd:A.handled=none
 dp:A.depth+3*k+5<recursionLimit
 un:A.units+16*k+200<cLine
theorem Room.mono{j k:Nat}{A:Around}(r:Room k A)(h:j≤k):Room j A:=⟨r.hd,by have:=r.dp;omega,by have:=r.un;omega⟩
theorem Room.deeper{k:Nat}{A:Around}(r:Room (k+1) A)(env:Env):Room k (A.deeper env) :=
 ⟨r.hd,by have:=r.dp;show A.depth+1+3*k+5<_;omega,by have:=r.un;show A.units+3+16*k+200<_;omega⟩
theorem Room.in1{k:Nat}{A:Around}(r:Room (k+1) A):Room k A.in1 :=
 ⟨r.hd,by have:=r.dp;show A.depth+3*k+5<_;omega,by have:=r.un;show A.units+1+16*k+200<_;omega⟩
theorem Room.depth{k:Nat}{A:Around}(r:Room k A):A.depth<recursionLimit:=by have:=r.dp;omega
theorem Room.units{k:Nat}{A:Around}(r:Room k A):A.units+64<cLine:=by have:=r.un;omega
def W9:TA:=fun _ H Q=>Q [] H
def K1(ta:TE)(tr:TA):TA:=fun σ H Q=>ta σ H fun x H1=>tr σ H1 fun xs H2=>Q (x::xs) H2
section
variable {X:Cx}{e:Expr}{es:List Expr}{te:TE}{t:TA}{pos:Pos}
theorem c6:PA X [] W9:=fun _ _ _ _ H Q I h=>Calls.spliced_nil ⟨[],H,I,.nil,h⟩
theorem a7(ha:PE X e te)(hr:PA X es t)(hs:starEach (e::es) X.env=(false,eval e X.env)::starEach es X.env:=by rfl):PA X (e::es) (K1 te t):=by
 intro pos pins s σ H Q I h
 rw[hs]
 show wpAny _ _ (spliced ((false,eval e X.env)::backTo pos (starEach es X.env))) _ _ s
 refine Calls.spliced_cons (j4 (ha pins s σ H _ I h) fun u s1 ⟨x,H1,I1,r1,q1⟩=>?_)
 exact j4 (hr pos pins s1 σ H1 _ I1 q1) fun us s2 ⟨xs,H2,I2,r2,q2⟩=>⟨x::xs,H2,I2,.cons r1 r2,q2⟩
def a6F(t:TA):TE:=fun σ H Q=>t σ H fun xs H1=>xs.length≤sizeLine∧∀p,H1 p=none→Q (.ref p) (upd H1 p (.tup xs))
def a9X(t:TA):TE:=fun σ H Q=>t σ H fun xs H1=>xs.length≤sizeLine∧∀p,H1 p=none→Q (.ref p) (upd H1 p (.lst xs))
theorem i2{x1}(h:PA X es t):PE X (.Tuple es x1 pos) (a6F t):=by
 intro pins s σ H Q I hq
 refine wpAny_Tuple_spliced (j4 (h pos pins s σ H _ I hq) fun us s1 ⟨xs,H1,I1,r,z,q⟩=>⟨by rw[← r.length];exact z,?_⟩)
 have hf:H1 s1.heap.objs.size=none:=I1.hok.fresh (Nat.le_refl _)
 refine⟨.ref s1.heap.objs.size,upd H1 s1.heap.objs.size (.tup xs),I1.laid (t':=s1.toks) (fun b u e=>Heap.get?_push_of_some _ e) (Nat.le_refl _) ?_,rfl,q _ hf⟩
 exact⟨z,us,r,⟨_,Heap.get?_push_size _ rfl,rfl,_,rfl⟩⟩
theorem M7(h:PA X es t):PE X (.List es pos) (a9X t):=by
 intro pins s σ H Q I hq
 refine wpAny_List_spliced (j4 (h pos pins s σ H _ I hq) fun us s1 ⟨xs,H1,I1,r,z,q⟩=>⟨by rw[← r.length];exact z,?_⟩)
 have hf:H1 s1.heap.objs.size=none:=I1.hok.fresh (Nat.le_refl _)
 refine⟨.ref s1.heap.objs.size,upd H1 s1.heap.objs.size (.lst xs),I1.laid (t':=s1.toks) (fun b u e=>Heap.get?_push_of_some _ e) (Nat.le_refl _) ?_,rfl,q _ hf⟩
 exact⟨z,us,0,r,Heap.get?_push_size _ rfl⟩
end
abbrev Sp:=List V→Hp→VK→XK→Prop
abbrev U2:=List Env→Hp→Shared→XK→Value→Shared→Prop
structure Env0(P:Program)(w:World)(K:W.Frag)(mg:Str→Option Value)(base:Heap)(A:Around)(outer:List Env)(s:Shared)(H:Hp):Prop where
 frames:A.frames=some outer
 mod:Mod K mg base
 bs:∀b o,base.get? b=some o→s.heap.get? b=some o∧H b=none
 bsz:base.objs.size≤s.heap.objs.size
 funs:s.heap.FunFrames base outer
 frf:∀b∈E5 outer,H b=none
 hok:HOk P w H s.heap
 bare:AllBare s.gens
def CE(outer:List Env)(P:Program)(w:World)(H:Hp)(s:Shared)(Q:VK)(u:Value)(s':Shared):Prop :=
 ∃v H',s'.os=s.os∧AllBare s'.gens∧Un (E5 outer) [] H H' s.heap s'.heap∧HOk P w H' s'.heap∧RelV v u∧Q v H'
def CR(CX:U2)(outer:List Env)(P:Program)(w:World)(H:Hp)(s:Shared)(Q:VK)(E:XK)(r:Result)(s':Shared):Prop :=
 match r with
 | .ok (.ret u)=>CE outer P w H s Q u s'
 | .ok _=>False
 | .error e=>CX outer H s E e s'
structure FnOk(P:Program)(w:World)(K:W.Frag)(mg:Str→Option Value)(base:Heap)(CX:U2)(k:Nat)(f:Addr)(fd:FuncData)(ps:List Str)(sp:Sp):Prop where
 len:∀vs H Q E,sp vs H Q E→vs.length=ps.length
 run:∀(A:Around) (outer:List Env) (s:Shared) (H:Hp) (args:Args) (us:List Value) (vs:List V) (Q:VK) (E:XK),Room k A→Env0 P w K mg base A outer s H→BindsTo s fd args (ps.zip us)→Vals vs us→sp vs H Q E →
  codeAny (model P w) A (.call (.ref f) args) (CR CX outer P w H s Q E) s
theorem FnOk.mono{P:Program}{w:World}{K:W.Frag}{mg:Str→Option Value}{base:Heap}{CX:U2}{j k:Nat}{f:Addr}{fd:FuncData}{ps:List Str}{sp:Sp}(F:FnOk P w K mg base CX j f fd ps sp)(h:j≤k) :
  FnOk P w K mg base CX k f fd ps sp:=⟨F.len,fun A outer s H args us vs Q E hr=>F.run A outer s H args us vs Q E (hr.mono h)⟩
theorem FnOk.imp{P:Program}{w:World}{K:W.Frag}{mg:Str→Option Value}{base:Heap}{CX:U2}{k:Nat}{f:Addr}{fd:FuncData}{ps:List Str}{sp sp':Sp}(F:FnOk P w K mg base CX k f fd ps sp)
  (h:∀vs H Q E,sp' vs H Q E→sp vs H Q E):FnOk P w K mg base CX k f fd ps sp' :=
 ⟨fun vs H Q E q=>F.len vs H Q E (h _ _ _ _ q),fun A outer s H args us vs Q E hr he hb hv hs=>F.run A outer s H args us vs Q E hr he hb hv (h _ _ _ _ hs)⟩
theorem Env0.in1{P:Program}{w:World}{K:W.Frag}{mg:Str→Option Value}{base:Heap}{A:Around}{outer:List Env}{s:Shared}{H:Hp}(e:Env0 P w K mg base A outer s H) :
  Env0 P w K mg base A.in1 outer s H:=⟨e.frames,e.mod,e.bs,e.bsz,e.funs,e.frf,e.hok,e.bare⟩
section
variable {X:Cx}{pins:List (Addr×Obj)}{σ:St}{H:Hp}{s s':Shared}
theorem Inv.env0(I:Inv X pins σ H s):Env0 X.prog X.w X.K X.mg X.base X.A X.stack s H :=
 ⟨I.ok.frames,I.ok.mod,I.bs,Nat.le_trans I.ok.bsz I.sz,I.stack,I.stkFree,I.hok,I.bare⟩
theorem Inv.after{Q:VK}{u:Value}(I:Inv X pins σ H s)(h:CE X.stack X.prog X.w H s Q u s'):EP X pins σ Q u s':=by
 obtain⟨v,H',os,bare,un,hok,r,q⟩:=h
 obtain⟨hh,g,d,t,os'⟩:=s'
 obtain rfl:os'=s.os:=os
 exact⟨v,H',I.call (h':=hh) (g':=g) (d':=d) (t':=t) (ch:=[]) un hok bare (fun b z=>absurd z (by simp)),r,q⟩
end
def a0w(sp:Sp)(dvs:List V)(E:XK)(t:TA):TE:=fun σ H Q=>t σ H fun vs H1=>sp (vs++dvs) H1 Q E
def Binds(K:W.Frag)(fd:FuncData)(ps:List Str)(ds:List Value):Prop :=
 ∀(s:Shared) (us:List Value),K.In s.heap→(us++ds).length=ps.length→BindsTo s fd ⟨us,[]⟩ (ps.zip (us++ds))
theorem Binds.all{K:W.Frag}{fd:FuncData}{ps:List Str}(h:∀us:List Value,us.length=ps.length→bindArgs fd ⟨us,[]⟩=pure (ps.zip us)):Binds K fd ps []:=fun s us _ hl=>by
 rw[List.append_nil]at hl ⊢
 exact .of_eq (h us hl)
def a0b(CX:U2)(X:Cx)(E:XK):Prop:=∀(pins:List (Addr×Obj)) (σ:St) (H:Hp) (s:Shared) (e:Value) (s':Shared),Inv X pins σ H s→CX X.stack H s E e s'→X.xe e s'
section
variable {X:Cx}{CX:U2}{k:Nat}{f C:Addr}{fd:FuncData}{ps:List Str}{sp:Sp}{dvs:List V}{ds:List Value}{E:XK}{x m:Str}{p pos apos:Pos}{e o:Expr}{es:List Expr}{ta:TE}{t:TA}
theorem a9Y{pins:List (Addr×Obj)}{σ:St}{H:Hp}{s:Shared}{Q:VK}{us:List Value}{vs:List V}(F:FnOk X.prog X.w X.K X.mg X.base CX k f fd ps sp)(hr:Room k X.A)(hb:Binds X.K fd ps ds)(hd:Vals dvs ds)(hx:a0b CX X E)
  (I:Inv X pins σ H s) (r:Vals vs us) (h:sp (vs++dvs) H Q E):wpAny (model X.prog X.w) X.A (call (.ref f) us) (EP X pins σ Q) X.xe s:=by
 have r2:Vals (vs++dvs) (us++ds):=r.append hd
 have hl:(us++ds).length=ps.length:=by rw[← r2.length];exact F.len _ _ _ _ h
 refine wpAny_call (codeAny_mono (F.run X.A X.stack s H ⟨us,[]⟩ (us++ds) (vs++dvs) Q E hr I.env0 (hb s us I.kIn hl) r2 h) fun r s' hq=>?_)
 cases r with
 | error e=>exact hx pins σ H s e s' I hq
 | ok fl =>
  cases fl with
  | ret u=>exact I.after hq
  | next=>exact False.elim hq
  | brk=>exact False.elim hq
  | cont=>exact False.elim hq
theorem a8l(F:FnOk X.prog X.w X.K X.mg X.base CX k f fd ps sp)(hr:Room k X.A)(hg:Gl X x)(hm:X.mg x=some (.ref f))(hk:W.keepIn X.K (.ref f)=true)(hb:Binds X.K fd ps ds)(hd:Vals dvs ds)(hx:a0b CX X E)
  (ha:PA X (e::es) t) (hdb:(x == ("__debug__" : Str))=false:=by decide) (he:starEach (e::es) X.env=(false,eval e X.env)::starEach es X.env:=by rfl) (hpl:(backTo pos (starEach es X.env)).any (·.1)=false:=by rfl) :
  PE X (.Call (.Name x p) (e::es) [] pos) (a0w sp dvs E t):=by
 intro pins s σ H Q I h
 refine wpAny_Call_Name_kw (a8h I hg hm ?_ hdb)
 refine W.callWith_K (h₀:=X.base) I.ok.mod.kin hk (j4 (ha pos pins s σ H _ I h) fun us s1 ⟨vs,H1,I1,r,q⟩=>⟨I1.kIn,?_⟩) he hpl
 exact a9Y F hr hb hd hx I1 r q
end
def PK(X:Cx)(kws:List Keyword)(t:TA):Prop :=
 ∀(pos:Pos) (pins:List (Addr×Obj)) (s:Shared) (σ:St) (H:Hp) (Q:List V→Hp→Prop),Inv X pins σ H s→t σ H Q→wpAny (model X.prog X.w) X.A (evalAll ((backToKw pos (keywordEach kws X.env)).map (·.2))) (AP X pins σ Q) X.xe s
section
variable {X:Cx}{CX:U2}{k:Nat}{f C:Addr}{fd:FuncData}{ps ks:List Str}{sp:Sp}{E:XK}{x m:Str}{p pos apos kpos:Pos}{e o:Expr}{es:List Expr}{kws:List Keyword}{te ta:TE}{t tk:TA}{nm:Option Str}
theorem a9Z:PK X [] W9:=fun _ _ _ _ H Q I h=>wpAny_evalAll_nil ⟨[],H,I,.nil,h⟩
theorem a8m(ha:PE X e te)(hr:PK X kws t):PK X (⟨nm,e,kpos⟩ :: kws) (K1 te t):=by
 intro pos pins s σ H Q I h
 show wpAny _ _ (evalAll ((do let v ← eval e X.env;standAt pos;pure v)::(backToKw pos (keywordEach kws X.env)).map (·.2))) _ _ s
 refine wpAny_evalAll_cons (wpAny_bind (j4 (ha pins s σ H _ I h) fun u s1 ⟨x,H1,I1,r1,q1⟩=>wpAny_bind (wpAny_standAt (wpAny_pure ?_))))
 exact j4 (hr pos pins s1 σ H1 _ I1 q1) fun us s2 ⟨xs,H2,I2,r2,q2⟩=>⟨x::xs,H2,I2,.cons r1 r2,q2⟩
variable {g:List Value→List Value→List Value}{gV:List V→List V→List V}
end
structure FnScope(N P:List Str)(sc:Scope):Prop where
 kind:sc.kind=.function
 co:sc.isCoroutine=false
 gen:sc.isGenerator=false
 nd:N.Nodup
 pre:N.take P.length=P
 par:∀x∈P,sc.names.lookup x=some .local∨sc.names.lookup x=some .cell
 nofree:∀y∈sc.names,y.2≠.free
theorem a2b{kindOf:Str→Option NameKind}{x:Str}:∀{binds:List (Str×Value)} {m:Str→Option Value},(∀v,(x,v) ∉ binds)→bindL kindOf binds m x=m x
 | [],_,_=>rfl
 | (n,v)::r,m,h=>by
  unfold bindL
  rw[a2b fun w hw=>h w (List.mem_cons_of_mem _ hw)]
  split
  ·have:x≠n:=by rintro rfl;exact h v List.mem_cons_self
   simp[this]
  ·rfl
theorem a2c{kindOf:Str→Option NameKind}{x:Str}:∀{binds:List (Str×Value)} {m:Str→Option Value},(∀v,(x,v) ∉ binds)→bindC kindOf binds m x=m x
 | [],_,_=>rfl
 | (n,v)::r,m,h=>by
  unfold bindC
  rw[a2c fun w hw=>h w (List.mem_cons_of_mem _ hw)]
  split
  ·rfl
  ·have:x≠n:=by rintro rfl;exact h v List.mem_cons_self
   simp[this]
theorem a2d{kindOf:Str→Option NameKind}{x:Str}{v:Value}:∀{P:List Str} {vs:List Value} {i:Nat} {m:Str→Option Value},P.Nodup→P[i]? = some x→vs[i]? = some v→kindOf x=some .local →
  bindL kindOf (P.zip vs) m x=some v
 | [],_,_,_,_,h,_,_=>by simp at h
 | _::_,[],_,_,_,_,h,_=>by simp at h
 | p::P,w::vs,0,m,nd,h1,h2,hk=>by
  simp at h1 h2;subst h1;subst h2
  show bindL kindOf ((p,w)::P.zip vs) m p=_
  unfold bindL
  rw[a2b fun v hv=>(List.nodup_cons.mp nd).1 (List.of_mem_zip hv).1,if_pos hk]
  simp
 | p::P,w::vs,i+1,m,nd,h1,h2,hk=>by
  show bindL kindOf ((p,w)::P.zip vs) m x=_
  unfold bindL
  exact a2d (i:=i) (List.nodup_cons.mp nd).2 (by simpa using h1) (by simpa using h2) hk
theorem a2e{kindOf:Str→Option NameKind}{x:Str}{v:Value}:∀{P:List Str} {vs:List Value} {i:Nat} {m:Str→Option Value},P.Nodup→P[i]? = some x→vs[i]? = some v→kindOf x≠some .local →
  bindC kindOf (P.zip vs) m x=some v
 | [],_,_,_,_,h,_,_=>by simp at h
 | _::_,[],_,_,_,_,h,_=>by simp at h
 | p::P,w::vs,0,m,nd,h1,h2,hk=>by
  simp at h1 h2;subst h1;subst h2
  show bindC kindOf ((p,w)::P.zip vs) m p=_
  unfold bindC
  rw[a2c fun v hv=>(List.nodup_cons.mp nd).1 (List.of_mem_zip hv).1,if_neg hk]
  simp
 | p::P,w::vs,i+1,m,nd,h1,h2,hk=>by
  show bindC kindOf ((p,w)::P.zip vs) m x=_
  unfold bindC
  exact a2e (i:=i) (List.nodup_cons.mp nd).2 (by simpa using h1) (by simpa using h2) hk
def start(N:List Str)(vs:List V):St:=vs.map some++List.replicate (N.length-vs.length) none
def Q3(CX:U2)(P:Program)(w:World)(K:W.Frag)(mg:Str→Option Value)(base:Heap)(N:List Str)(qual:Str)(scope:Scope)(f:Addr)(cd:Value)(A:Around)(outer:List Env)(s:Shared)(H:Hp)(E:XK):Cx where
 prog:=P
 w:=w
 K:=K
 mg:=mg
 base:=base
 A:=A.deeper (envOfC qual scope s.heap.objs.size f cd)
 N:=N
 s₀:=s
 H₀:=H
 env:=envOfC qual scope s.heap.objs.size f cd
 outer:=outer
 stack:=envOfC qual scope s.heap.objs.size f cd::outer
 ex:=[]
 calm:=true
 fn:=fun _=>true
 pn:=[]
 xe:=fun e s'=>wpAny (model P w) (A.deeper (envOfC qual scope s.heap.objs.size f cd)) (leaving (envOfC qual scope s.heap.objs.size f cd) e) (fun _ s''=>CX outer H s E e s'') (fun e' s''=>CX outer H s E e' s'') s'
theorem a2P{sc:Scope}{n:Nat}{x:Str}(h:sc.names.lookup x=some .cell):∃c,(cellsFrom n sc.names []).lookup x=some c:=by
 have q:=W.cellsFrom_some sc.names n [] (.inl h)
 exact Option.isSome_iff_exists.mp q
theorem a5r{CX:U2}{P:Program}{w:World}{K:W.Frag}{mg:Str→Option Value}{base:Heap}{N ps:List Str}{qual:Str}{scope:Scope}{f:Addr}{cd:Value}{A:Around}{outer:List Env}{s s1:Shared}{H:Hp}{E:XK}{us:List Value}{vs:List V}
  (S:FnScope N ps scope) (hd:A.handled=none) (e0:Env0 P w K mg base A outer s H) (hl:vs.length=ps.length) (r:Vals vs us)
  (x:InCallC s s.heap.objs.size (bindL (envOfC qual scope s.heap.objs.size f cd).kindOf (ps.zip us) fun _=>none) (cellsFrom (s.heap.objs.size+1) scope.names []) (bindC (envOfC qual scope s.heap.objs.size f cd).kindOf (ps.zip us) fun _=>none) s1) :
  Inv (Q3 CX P w K mg base N qual scope f cd A outer s H E) [] (start N vs) H s1:=by
 have hpl:ps.length≤N.length:=by have:=congrArg List.length S.pre;rw[List.length_take]at this;omega
 obtain⟨h1,tk,rfl,hk⟩:=x.done
 have noA:∀b:Addr,b ∉ (Q3 CX P w K mg base N qual scope f cd A outer s H E).ex:=fun b z=>absurd (show b∈([]:List Addr)from z) (by simp)
 refine⟨⟨e0.mod,S.kind,rfl,rfl,Nat.le_refl _,fun y z c h1 h2=>?_,fun y hy=>?_,fun y c _ h=>?_,fun _=>hd,Around.frames_deeper e0.frames,.inr ⟨rfl,rfl⟩,fun b z=>absurd z (noA b),e0.bs,e0.bsz,fun b _ _=>noA b,fun b z=>absurd z (noA b),e0.funs,e0.frf⟩,
  rfl,e0.bare,Un.kept hk,⟨_,x.toInCall.ns,fun i y v h1 h2 h3=>?_⟩,fun y c h=>⟨_,x.cell y c h⟩,e0.hok.fresh (Nat.le_refl _),fun y c h=>?_,fun p hp=>absurd (show p∈([]:List (Addr×Obj))from hp) (by simp),e0.hok.kept hk,?_⟩
 ·exact name_of_addr x.apart (PySem.mem_of_lookup h1) (PySem.mem_of_lookup h2)
 ·have hy:scope.names.lookup y=some .cell∨scope.names.lookup y=some .free:=hy
  rcases hy with hy | hy
  ·exact a2P hy
  ·exact absurd rfl (S.nofree _ (PySem.mem_of_lookup hy))
 ·exact Nat.le_of_lt (x.above y c (PySem.mem_of_lookup h))
 ·have hi:i<vs.length:=by
   unfold start at h2
   by_cases hi:i<vs.length
   ·exact hi
   ·rw[List.getElem?_append_right (by simpa using hi)]at h2
    rw[List.getElem?_replicate]at h2
    split at h2<;>cases h2
  have ha:vs[i]? = some v:=by
   unfold start at h2
   rw[List.getElem?_append_left (by simpa using hi),List.getElem?_map]at h2
   cases e:vs[i]? with
   | none=>rw[e]at h2;cases h2
   | some a=>rw[e]at h2;cases h2;rfl
  obtain⟨u,hu,rv⟩:=r.get ha
  have hp:ps[i]? = some y:=by
   rw[← S.pre,List.getElem?_take_of_lt (by omega)];exact h1
  have ndP:ps.Nodup:=by rw[← S.pre];exact S.nd.sublist (List.take_sublist _ _)
  refine⟨u,rv,?_⟩
  rcases S.par y (List.mem_of_getElem? hp)with k | k
  ·exact .inl ⟨k,a2d ndP hp hu k⟩
  ·obtain⟨c,e⟩:=a2P (n:=s.heap.objs.size+1) k
   refine .inr ⟨.inl k,c,e,?_⟩
   have q:=x.cell y c e
   rw[a2e ndP hp hu (by show scope.names.lookup y≠_;rw[k];decide)]at q
   exact q
 ·exact e0.hok.fresh (Nat.le_of_lt (x.above y c (PySem.mem_of_lookup h)))
 ·unfold start
  show _=N.length
  rw[List.length_append,List.length_map,List.length_replicate]
  omega
theorem a1j{CX:U2}{P:Program}{w:World}{K:W.Frag}{mg:Str→Option Value}{base:Heap}{k:Nat}{f:Addr}{name qual:Str}{params:Arguments}{body:List Stmt}{scope:Scope}{dV kV doc pm cdv ct oc:Value}{an od:Option Addr}
  {osl:Array (Option Value)} {N ps:List Str} {sp:Sp} (lk:K.lookup f=some ⟨oc,od,.func (W.fnOf name qual params body scope dV kV doc pm an cdv ct),osl⟩) (hcd:W.codeIn K cdv qual=true) (S:FnScope N ps scope)
  (len:∀vs H Q E,sp vs H Q E→vs.length=ps.length)
  (hbody:∀(A:Around) (outer:List Env) (s:Shared) (H:Hp) (vs:List V) (Q:VK) (E:XK),Room k (A.deeper (envOfC qual scope s.heap.objs.size f cdv))→sp vs H Q E →
   ∃t,PSs (Q3 CX P w K mg base N qual scope f cdv A outer s H E) body t∧t { nx:=fun _ H'=>Q .non H',rt:=Q } (start N vs) H) :
  FnOk P w K mg base CX (k+1) f (W.fnOf name qual params body scope dV kV doc pm an cdv ct) ps sp:=by
 refine⟨len,fun A outer s H args us vs Q E hr e0 hb r hsp=>?_⟩
 have hl:=len _ _ _ _ hsp
 have KX:K.In s.heap:=e0.mod.kin.keeps fun b o e=>(e0.bs b o e).1
 have lim:s.heap.NoLimit:=e0.mod.nolimit.keeps fun b o e=>(e0.bs b o e).1
 have hkind:∀y∈ps.zip us,scope.names.lookup y.1=some .local∨(scope.names.lookup y.1=some .cell∧((cellsFrom (s.heap.objs.size+1) scope.names []).lookup y.1).isSome=true):=fun⟨n,v⟩ hy=>by
  rcases S.par n (List.of_mem_zip hy).1 with q | q
  ·exact .inl q
  ·exact .inr ⟨q,W.cellsFrom_some _ _ _ (.inl q)⟩
 refine codeAny_call_function hr.depth (KX _ _ lk) rfl S.co S.gen rfl (W.codeRec_of KX hcd) (hb _ _ _ _ ?_)
 refine wpAny_newFunctionEnv_cells S.kind hkind fun env he s1 x=>?_
 subst he
 refine⟨lim.keeps x.toInCall.keep,codeAny_func ?_⟩
 obtain⟨t,ht,hq⟩:=hbody A outer s H vs Q E (hr.deeper _) hsp
 have I:Inv (Q3 CX P w K mg base N qual scope f cdv A outer s H E) [] (start N vs) H s1:=a5r S hr.hd e0 hl r x
 refine wpAny_mono (ht [] s1 (start N vs) H _ I hq) (fun fl s' hs=>?_) fun e s' hs=>hs
 have fin:∀{σ':St} {H':Hp} {v:V} {u:Value},Inv (Q3 CX P w K mg base N qual scope f cdv A outer s H E) [] σ' H' s'→RelV v u→Q v H'→CE outer P w H s Q u s' :=
  fun{σ' H' v u} J rv q=>⟨v,H',J.os,J.bare,J.base,J.hok,rv,q⟩
 cases fl with
 | ret u =>
  obtain⟨v,σ',H',J,rv,q⟩:=hs
  exact fin J rv q
 | next =>
  obtain⟨σ',H',J,q⟩:=hs
  exact fin (v:=V.non) (u:=Value.none) J rfl q
 | brk =>
  obtain⟨_,_,_,q⟩:=hs
  exact False.elim q
 | cont =>
  obtain⟨_,_,_,q⟩:=hs
  exact False.elim q
section
variable {X:Cx}{x:Str}{p pos:Pos}{e:Expr}{es:List Expr}{t:TA}{id T:String}{r:List V→Hp→VK→Prop}
def tCB(r:List V→Hp→VK→Prop)(t:TA):TE:=fun σ H Q=>t σ H fun vs H1=>r vs H1 Q
theorem i6(hc:O8 X (.builtin id) r)(hg:Gl X x)(hm:X.mg x=none)(hv:bootBuiltins x=some (.builtin id))(ha:PA X (e::es) t)(hn:x≠"__name__" := by decide)(hdb:(x == ("__debug__" : Str))=false:=by decide)
  (he:starEach (e::es) X.env=(false,eval e X.env)::starEach es X.env:=by rfl) (hpl:(backTo pos (starEach es X.env)).any (·.1)=false:=by rfl):PE X (.Call (.Name x p) (e::es) [] pos) (tCB r t):=by
 intro pins s σ H Q I h
 refine wpAny_Call_Name_kw (Z5 I hg hm hv ?_ hn hdb)
 exact PyProof.Rows.callWith_builtin1 (j4 (ha pos pins s σ H _ I h) fun us s1 ⟨vs,H1,I1,r1,q1⟩=>hc pins s1 σ H1 vs us Q I1 r1 q1) he hpl
theorem a2f(hc:O8 X (.type T) r)(hg:Gl X x)(hm:X.mg x=none)(hv:bootBuiltins x=some (.type T))(ha:PA X (e::es) t)(hn:x≠"__name__" := by decide)(hdb:(x == ("__debug__" : Str))=false:=by decide)
  (he:starEach (e::es) X.env=(false,eval e X.env)::starEach es X.env:=by rfl) (hpl:(backTo pos (starEach es X.env)).any (·.1)=false:=by rfl):PE X (.Call (.Name x p) (e::es) [] pos) (tCB r t):=by
 intro pins s σ H Q I h
 refine wpAny_Call_Name_kw (Z5 I hg hm hv ?_ hn hdb)
 exact PyProof.Rows.callWith_type1 (j4 (ha pos pins s σ H _ I h) fun us s1 ⟨vs,H1,I1,r1,q1⟩=>hc pins s1 σ H1 vs us Q I1 r1 q1) he hpl
end
end L2
namespace HT
open PySem PyProof.Rows
def lexLt:List Int→List Int→Bool
 | [],[]=>false
 | [],_::_=>true
 | _::_,[]=>false
 | x::xs,y::ys=>if x=y then lexLt xs ys else decide (x<y)
theorem lexLt_cons(x y:Int)(xs ys:List Int):lexLt (x::xs) (y::ys)=if x=y then lexLt xs ys else decide (x<y):=rfl
section
variable {prog:Program}{w:World}{A:Around}{E:Value→Shared→Prop}{s:Shared}
def sIx(n d:Nat):Option Int→Nat
 | none=>d
 | some v=>if v<0 then(v+(n:Int)).toNat else min v.toNat n
theorem sIx_nat(n d k:Nat):sIx n d (some (k:Int))=min k n:=by
 show(if(k:Int)<0 then((k:Int)+(n:Int)).toNat else min (k:Int).toNat n)=min k n
 rw[if_neg (by omega),Int.toNat_natCast]
end
end HT
namespace L2
open PySem PySem.Spec PyProof.Rows
abbrev TO:=St→Hp→(Option Int→Hp→Prop)→Prop
def PO(X:Cx)(e:Option Expr)(t:TO):Prop :=
 ∀(pins:List (Addr×Obj)) (s:Shared) (σ:St) (H:Hp) (Q:Option Int→Hp→Prop),Inv X pins σ H s→t σ H Q →
  wpAny (model X.prog X.w) X.A (evalPart e X.env) (fun u s'=>∃o H',Inv X pins σ H' s'∧IsPart u o∧Q o H') X.xe s
def a7Q(t:TE):TO:=fun σ H Q=>t σ H fun x H1=>∃i,x=.int i∧Q (some i) H1
section
variable {X:Cx}{e:Expr}{te:TE}{lo hi:Option Expr}{tl th:TO}{pos p2:Pos}
theorem a3X(h:PE X e te):PO X (some e) (a7Q te):=by
 intro pins s σ H Q I hw
 rw[evalPart_some]
 refine j4 (h pins s σ H _ I hw) fun u s1 ⟨x,H1,I1,r1,q1⟩=>?_
 obtain⟨i,rfl,q⟩:=q1
 obtain⟨t,rfl⟩:=r1
 exact⟨some i,H1,I1,.int i t,q⟩
def SlR(X:Cx)(r:V→Option Int→Option Int→Hp→VK→Prop):Prop :=
 ∀(pins:List (Addr×Obj)) (s:Shared) (σ:St) (H:Hp) (x:V) (v vl vu:Value) (lo hi:Option Int) (sl:Addr) (Q:VK),Inv X pins σ H s→RelV x v→s.heap.IsSliceOf sl vl vu .none→IsPart vl lo→IsPart vu hi→r x lo hi H Q →
  ∃T id,typeLookup (.type T) "__getitem__" = pure (some (.builtin id))∧s.TypeIs v T∧wpAny (model X.prog X.w) X.A (getItem v (.ref sl)) (EP X pins σ Q) X.xe s
def tSl(r:V→Option Int→Option Int→Hp→VK→Prop)(te:TE)(tl th:TO):TE:=fun σ H Q=>te σ H fun x H1=>tl σ H1 fun l H2=>th σ H2 fun u H3=>r x l u H3 Q
theorem a6G{r:V→Option Int→Option Int→Hp→VK→Prop}(hr:SlR X r)(he:PE X e te)(hl:PO X lo tl)(hu:PO X hi th):PE X (.Subscript e (.Slice lo hi none p2) pos) (tSl r te tl th):=by
 intro pins s σ H Q I h
 refine Subscript_ (j4 (he pins s σ H _ I h) fun v s1 ⟨x,H1,I1,r1,q1⟩=>?_)
 refine wpAny_Slice (j4 (hl pins s1 σ H1 _ I1 q1) fun vl s2 ⟨l,H2,I2,pl,q2⟩=>j4 (hu pins s2 σ H2 _ I2 q2) fun vu s3 ⟨u,H3,I3,pu,q3⟩=>?_)
 rw[evalPart_none]
 refine wpAny_pure ?_
 have I4:Inv X pins σ H3 { s3 with heap:=s3.heap.push { cls:=.type "slice",data:=.fields #[vl,vu,.none] } }:=I3.kept (t':=s3.toks) fun b ob q=>Heap.get?_push_of_some _ q
 obtain⟨T,id,hT,ht,hg⟩:=hr pins { s3 with heap:=s3.heap.push { cls:=.type "slice",data:=.fields #[vl,vu,.none] } } σ H3 x v vl vu l u s3.heap.objs.size Q I4 r1 (Heap.IsSliceOf.new ..) pl pu q3
 show wpAny (model X.prog X.w) X.A (subscriptTail e (.Slice lo hi none p2) v (.ref s3.heap.objs.size)) (EP X pins σ Q) X.xe { s3 with heap:=s3.heap.push { cls:=.type "slice",data:=.fields #[vl,vu,.none] } }
 exact tail_any (ops:=[.ref s3.heap.objs.size,v]) ht hT hg (by with_unfolding_all rfl)
def a1M(xs:List V)(lo hi:Option Int):List V:=(xs.drop (HT.sIx xs.length 0 lo)).take (HT.sIx xs.length xs.length hi-HT.sIx xs.length 0 lo)
theorem a3A(xs:List V)(lo hi:Option Int):(a1M xs lo hi).length≤xs.length:=by
 unfold a1M
 rw[List.length_take,List.length_drop]
 omega
end
def M8(n:Nat)(i:Int):Option Nat:=if 0≤i then(if i<n then some i.toNat else none)else if -(n:Int)≤i then some (i+n).toNat else none
def atI{α:Type}(xs:List α)(i:Int):Option α:=(M8 xs.length i).bind fun j=>xs[j]?
theorem a3Y{n:Nat}{i:Int}{j:Nat}(h:M8 n i=some j):seqIndex? i n=some j∧j<n∧-(n:Int)≤i∧i<n:=by
 unfold M8 at h
 by_cases h0:0≤i
 ·rw[if_pos h0]at h
  by_cases h1:i<n
  ·rw[if_pos h1]at h
   have e:i.toNat=j:=Option.some.inj h
   exact⟨by rw[seqIndex_of h0 h1,e],by omega,by omega,h1⟩
  ·rw[if_neg h1]at h;cases h
 ·rw[if_neg h0]at h
  by_cases h1 : -(n:Int)≤i
  ·rw[if_pos h1]at h
   have e:(i+n).toNat=j:=Option.some.inj h
   exact⟨by rw[seqIndex_neg (by omega) h1,e],by omega,h1,by omega⟩
  ·rw[if_neg h1]at h;cases h
theorem a3Z{α:Type}{xs:List α}{i:Int}{v:α}(h:atI xs i=some v):∃j,seqIndex? i xs.length=some j∧xs[j]? = some v∧j<xs.length∧-(xs.length:Int)≤i∧i<xs.length:=by
 unfold atI at h
 cases e:M8 xs.length i with
 | none=>rw[e]at h;cases h
 | some j =>
  rw[e]at h
  obtain⟨h1,h2,h3,h4⟩:=a3Y e
  exact⟨j,h1,h,h2,h3,h4⟩
theorem G4{α:Type}{xs:List α}{j:Nat}{v:α}(h:xs[j]? = some v):atI xs (j:Int)=some v:=by
 have hj:j<xs.length:=(List.getElem?_eq_some_iff.mp h).1
 have e:M8 xs.length (j:Int)=some j:=by
  unfold M8
  rw[if_pos (by omega),if_pos (by omega)];simp
 unfold atI;rw[e];exact h
def a8n(b:Expr):Prop:=∀o i,subscripted b false o i=operate [o,i] (getItem o i)
def IxR(X:Cx)(r:R2):Prop :=
 ∀(value slice:Expr) (pins:List (Addr×Obj)) (s:Shared) (σ:St) (H:Hp) (x y:V) (v u:Value) (Q:VK),Inv X pins σ H s→RelV x v→RelV y u→r x y H Q →
  subscripted slice false v u=operate [v,u] (getItem v u)→wpAny (model X.prog X.w) X.A (subscriptTail value slice v u) (EP X pins σ Q) X.xe s
def MtR(X:Cx)(id:String)(r:V→List V→Hp→VK→Prop):Prop :=
 ∀(pins:List (Addr×Obj)) (s:Shared) (σ:St) (H:Hp) (x:V) (xs:List V) (v:Value) (us:List Value) (Q:VK),Inv X pins σ H s→RelV x v→Vals xs us→r x xs H Q →
  wpAny (model X.prog X.w) X.A (call (.builtin id) (v::us)) (EP X pins σ Q) X.xe s
section
variable {X:Cx}{a b:Expr}{ta tb:TE}{pos:Pos}
theorem d9{r:R2}(hr:IxR X r)(ha:PE X a ta)(hb:PE X b tb)(hs:a8n b):PE X (.Subscript a b pos) (tOp r ta tb):=by
 intro pins s σ H Q I h
 exact Subscript_ (a6E ha hb I h fun v u s2 x y H2 I2 rx ry q=>hr a b pins s2 σ H2 x y v u Q I2 rx ry q (hs _ _))
def a6H(K:W.Frag):R2:=fun x y H Q=>∃p xs i v,x=.ref p∧y=.int i∧SqL K H p xs∧atI xs i=some v∧Q v H
def a6I(K:W.Frag):R2:=fun x y H Q=>∃p xs i v,x=.ref p∧y=.int i∧SqT K H p xs∧atI xs i=some v∧Q v H
theorem a8o:IxR X (a6H X.K):=by
 intro value slice pins s σ H x y v u Q I rx ry h hs
 obtain⟨p,xs,i,z,rfl,rfl,hq,he,q⟩:=h
 cases rx
 obtain⟨t,rfl⟩:=ry
 obtain⟨its,r,pl,hz⟩:=I.list hq
 obtain⟨j,h1,h2,h3,h4,h5⟩:=a3Z he
 obtain⟨w,ew,rw'⟩:=r.get h2
 have hl:=r.length
 have hn:=a1i
 have fin:EP X pins σ Q w s:=⟨z,H,I,rw',q⟩
 by_cases h0:0≤i
 ·have hj:i.toNat=j:=by
   rw[seqIndex_of h0 h5]at h1
   exact Option.some.inj h1
  exact item_listR pl.isList h0 (by omega) (by rw[hj];simpa using ew) fin hs
 ·have hj:(i+(its.toArray.size:Int)).toNat=j:=by
   rw[seqIndex_neg (by omega) h4]at h1
   rw[List.size_toArray,← hl]
   exact Option.some.inj h1
  exact subscriptTail_builtinR (x:=w) pl.isList.typeIs slot_list_getitem.lookup
   (wpAny_getItem_list_neg (Q:=fun r s'=>r=w∧EP X pins σ Q r s') pl.isList (by omega) (by rw[List.size_toArray]<;>omega) (by omega) (by rw[hj];simpa using ew) ⟨rfl,fin⟩) hs
theorem a91:IxR X (a6I X.K):=by
 intro value slice pins s σ H x y v u Q I rx ry h hs
 obtain⟨p,xs,i,z,rfl,rfl,hq,he,q⟩:=h
 cases rx
 obtain⟨t,rfl⟩:=ry
 obtain⟨its,r,pl,hz⟩:=I.tuple hq
 obtain⟨j,h1,h2,h3,h4,h5⟩:=a3Z he
 obtain⟨w,ew,rw'⟩:=r.get h2
 have hl:=r.length
 have hn:=a1i
 have fin:EP X pins σ Q w s:=⟨z,H,I,rw',q⟩
 exact subscriptTail_builtinR (x:=w) pl.typeIs slot_tuple_getitem.lookup
  (getItem_tuple (j:=j) (Q:=fun r s'=>r=w∧EP X pins σ Q r s') pl (by omega) (by omega) (by rw[List.size_toArray,← hl];exact h1) (by simpa using ew) ⟨rfl,fin⟩) hs
theorem a4C(its:List Value)(n j:Nat)(u:Value):Obj.mapSeq (·.setIfInBounds j u) { cls:=.type "list",data:=.seq its.toArray n }={ cls:=.type "list",data:=.seq (its.set j u).toArray n }:=by
 simp[Obj.mapSeq]
theorem Inv.lst{pins:List (Addr×Obj)}{σ:St}{H:Hp}{s:Shared}{p:Addr}{xs:List V}(I:Inv X pins σ H s)(h:H p=some (.lst xs)) :
  ∃(its:List Value) (n:Nat),Vals xs its∧s.heap.get? p=some { cls:=.type "list",data:=.seq its.toArray n }∧xs.length≤sizeLine:=by
 obtain⟨z,its,n,r,e⟩:=I.hok p _ h
 exact⟨its,n,r,e,z⟩
theorem Inv.lstUpd{pins:List (Addr×Obj)}{σ:St}{H:Hp}{s:Shared}{p:Addr}{xs ys:List V}{its its':List Value}{n n':Nat}{f:Obj→Obj}(I:Inv X pins σ H s)(h:H p=some (.lst xs))
  (ho:s.heap.get? p=some { cls:=.type "list",data:=.seq its.toArray n }) (hf:f { cls:=.type "list",data:=.seq its.toArray n }={ cls:=.type "list",data:=.seq its'.toArray n' }) (r:Vals ys its') (hz:ys.length≤sizeLine) (t:Nat) :
  Inv X pins σ (upd H p (.lst ys)) { s with heap:=s.heap.update p f,toks:=t }:=by
 have e:(s.heap.update p f).get? p=some { cls:=.type "list",data:=.seq its'.toArray n' }:=by
  rw[Heap.get?_update_self f ho (by rw[hf]<;>rfl),hf]
 refine I.write (x:=p) (e:=p) (by rw[h];trivial) (.inl rfl) (fun b u hb q=>(Heap.get?_update_other _ _ (Ne.symm hb)).trans q) ⟨_,e⟩ ?_
 exact⟨hz,its',n',r,e⟩
def a7S:V→V→V→Hp→(Hp→Prop)→Prop:=fun o i v H Q=>∃p xs k j,o=.ref p∧i=.int k∧H p=some (.lst xs)∧M8 xs.length k=some j∧Q (upd H p (.lst (xs.set j v)))
theorem X0:a9Q X a7S:=by
 intro pins s σ H o i v ov iv u Q I ro ri rv h
 obtain⟨p,xs,k,j,rfl,rfl,hp,hj,q⟩:=h
 cases ro
 obtain⟨t,rfl⟩:=ri
 obtain⟨its,n,r,ho,hz⟩:=I.lst hp
 obtain⟨h1,h2,h3,h4⟩:=a3Y hj
 have hl:=r.length
 have hn:=a1i
 have I':Inv X pins σ (upd H p (.lst (xs.set j v))) { s with heap:=s.heap.update p (Obj.mapSeq (·.setIfInBounds j u)) } :=
  I.lstUpd hp ho (a4C its n j u) (r.set rv j) (by rw[List.length_set];exact hz) s.toks
 by_cases h0:0≤k
 ·have hk:k.toNat=j:=by
   rw[seqIndex_of h0 h4]at h1
   exact Option.some.inj h1
  exact W.ki_setAt ho h0 (by omega) (by rw[List.size_toArray,← hl];exact h4) (by rw[hk];exact⟨_,I',q⟩)
 ·have hk:(k+(its.toArray.size:Int)).toNat=j:=by
   rw[seqIndex_neg (by omega) h3]at h1
   rw[List.size_toArray,← hl]
   exact Option.some.inj h1
  exact W.ki_setBack ho (by omega) (by rw[List.size_toArray,← hl];exact h3) (by omega) (by rw[hk];exact⟨_,I',q⟩)
theorem a2Q(lo hi:Option Int)(n:Nat):(sliceBounds lo hi none n).1=((HT.sIx n 0 lo:Nat):Int)∧(sliceBounds lo hi none n).2.1=((HT.sIx n n hi:Nat):Int)∧(sliceBounds lo hi none n).2.2=1:=by
 refine⟨?_,?_,rfl⟩
 ·cases lo with
  | none=>simp[sliceBounds,HT.sIx]
  | some i =>
   simp only[sliceBounds,HT.sIx,Option.getD_none,show(1:Int) > 0 by decide,if_true]
   by_cases h:i<0
   ·simp only[h,if_true]<;>omega
   ·simp only[h,if_false]<;>omega
 ·cases hi with
  | none=>simp[sliceBounds,HT.sIx]
  | some i =>
   simp only[sliceBounds,HT.sIx,Option.getD_none,show(1:Int) > 0 by decide,if_true]
   by_cases h:i<0
   ·simp only[h,if_true]<;>omega
   ·simp only[h,if_false]<;>omega
theorem a2q(its:List Value)(lo hi:Option Int):slicePick its.toArray lo hi none=((its.drop (HT.sIx its.length 0 lo)).take (HT.sIx its.length its.length hi-HT.sIx its.length 0 lo)).toArray:=by
 obtain⟨h1,h2,h3⟩:=a2Q lo hi its.toArray.size
 unfold slicePick
 rw[h1,h2,h3]
 simp only[sliceRange_one,pick_run,List.size_toArray]<;>rfl
def a6J(K:W.Frag):V→Option Int→Option Int→Hp→VK→Prop:=fun x lo hi H Q=>∃a xs,x=.ref a∧SqL K H a xs∧∀p,H p=none→Q (.ref p) (upd H p (.lst (a1M xs lo hi)))
theorem a8p:SlR X (a6J X.K):=by
 intro pins s σ H x v vl vu lo hi sl Q I rx hs pl pu h
 obtain⟨a,xs,rfl,hx,q⟩:=h
 cases rx
 obtain⟨its,r,ht,hz⟩:=I.list hx
 have hlen:=r.length
 refine⟨"list",_,slot_list_getitem.lookup,ht.isList.typeIs,?_⟩
 refine wpAny_getItem_list_slice ht.isList hs pl pu .none (by simp) ?_ (by rw[List.size_toArray]<;>omega)
 rw[a2q,← hlen]
 refine⟨.ref s.heap.objs.size,_,I.laid (t':=s.toks) (o:=.lst (a1M xs lo hi)) (fun b ob q=>Heap.get?_push_of_some _ q) (Nat.le_refl _) ?_,rfl,q _ (I.hok.fresh (Nat.le_refl _))⟩
 exact⟨Nat.le_trans (a3A xs lo hi) hz,_,0,(r.drop (HT.sIx xs.length 0 lo)).take (HT.sIx xs.length xs.length hi-HT.sIx xs.length 0 lo),Heap.get?_push_size _ rfl⟩
def O9:V→Bool
 | .non=>true
 | .bl _=>true
 | .int _=>true
 | .str _=>true
 | _=>false
def eqV:V→V→Bool
 | .non,.non=>true
 | .bl a,.bl b=>a == b
 | .bl a,.int b=>(if a then 1 else 0) == b
 | .int a,.bl b=>a == (if b then 1 else 0)
 | .int a,.int b=>a == b
 | .str a,.str b=>a == b
 | _,_=>false
theorem a5t{A:Around}{s:Shared}{y x:V}{u v:Value}(ry:RelV y u)(rx:RelV x v)(fy:O9 y=true)(fx:O9 x=true):SeqAt.EqAt A s u v (eqV y x):=by
 cases y with
 | non =>
  cases ry
  cases x with
  | non=>cases rx;exact SeqAt.EqAt.same _
  | bl b=>cases rx;exact SeqAt.EqAt.none_bool b
  | int b=>obtain⟨t,rfl⟩:=rx;exact SeqAt.EqAt.none_int b t
  | str b=>obtain⟨t,rfl⟩:=rx;exact SeqAt.EqAt.none_str b t
  | _=>exact absurd (show false=true from fx) Bool.false_ne_true
 | bl a =>
  cases ry
  cases x with
  | non=>cases rx;exact SeqAt.EqAt.bool_none a
  | bl b=>cases rx;exact SeqAt.EqAt.bool_bool a b
  | int b=>obtain⟨t,rfl⟩:=rx;exact SeqAt.EqAt.bool_int a b t
  | str b=>obtain⟨t,rfl⟩:=rx;exact SeqAt.EqAt.bool_str a b t
  | _=>exact absurd (show false=true from fx) Bool.false_ne_true
 | int a =>
  obtain⟨t',rfl⟩:=ry
  cases x with
  | non=>cases rx;exact SeqAt.EqAt.int_none a t'
  | bl b=>cases rx;exact SeqAt.EqAt.int_bool a t' b
  | int b=>obtain⟨t,rfl⟩:=rx;exact SeqAt.EqAt.int_int a t' b t
  | str b=>obtain⟨t,rfl⟩:=rx;exact SeqAt.EqAt.int_str a t' b t
  | _=>exact absurd (show false=true from fx) Bool.false_ne_true
 | str a =>
  obtain⟨t',rfl⟩:=ry
  cases x with
  | non=>cases rx;exact SeqAt.EqAt.str_none a t'
  | bl b=>cases rx;exact SeqAt.EqAt.str_bool a t' b
  | int b=>obtain⟨t,rfl⟩:=rx;exact SeqAt.EqAt.str_int a t' b t
  | str b=>obtain⟨t,rfl⟩:=rx;exact SeqAt.EqAt.str_str a t' b t
  | _=>exact absurd (show false=true from fx) Bool.false_ne_true
 | _=>exact absurd (show false=true from fy) Bool.false_ne_true
def eqU(x:V)(u:Value):Bool:=match u with
 | .none=>eqV .non x
 | .bool b=>eqV (.bl b) x
 | .int i _=>eqV (.int i) x
 | .str z _=>eqV (.str z) x
 | _=>false
theorem a5u{x y:V}{u:Value}(r:RelV y u)(f:O9 y=true):eqU x u=eqV y x:=by
 cases y with
 | non=>cases r;rfl
 | bl b=>cases r;rfl
 | int i=>obtain⟨t,rfl⟩:=r;rfl
 | str z=>obtain⟨t,rfl⟩:=r;rfl
 | _=>exact absurd (show false=true from f) Bool.false_ne_true
theorem a1N{x:V}:∀{xs:List V} {us:List Value},Vals xs us→xs.all O9=true→us.any (eqU x)=xs.any fun y=>eqV y x
 | _,_,.nil,_=>rfl
 | y::xs,u::us,.cons r t,f=>by
  rw[List.all_cons,Bool.and_eq_true]at f
  rw[List.any_cons,List.any_cons,a5u r f.1,a1N t f.2]
theorem a0V{A:Around}{s:Shared}{x:V}{v:Value}(rx:RelV x v)(fx:O9 x=true):∀{xs:List V} {us:List Value},Vals xs us→xs.all O9=true→∀u∈us,SeqAt.EqAt A s u v (eqU x u)
 | _,_,.nil,_=>fun u hu=>by cases hu
 | y::xs,u::us,.cons r t,f=>fun u' hu=>by
  rw[List.all_cons,Bool.and_eq_true]at f
  rcases List.mem_cons.mp hu with rfl | hu
  ·rw[a5u r f.1];exact a5t r rx f.1 fx
  ·exact a0V rx fx t f.2 u' hu
def inV(x:V)(xs:List V):Bool:=xs.any fun y=>eqV y x
def rIn(K:W.Frag)(neg:Bool):R2:=fun x y H Q=>∃p xs,y=.ref p∧(SqL K H p xs∨SqT K H p xs)∧O9 x=true∧xs.all O9=true∧Q (.bl (if neg then !inV x xs else inV x xs)) H
theorem a5v:J2 X (compareOp .In) (rIn X.K false):=by
 intro pins s σ H x y v u Q I rx ry h
 obtain⟨p,xs,rfl,hq,fx,fs,q⟩:=h
 cases ry
 rcases hq with hq | hq
 ·obtain⟨its,r,pl,hz⟩:=I.list hq
  refine SeqAt.in_listAt (eqU x) pl.isList (fun w hw=>a0V rx fx r fs w (by simpa using hw)) ⟨.bl _,H,I,rfl,?_⟩
  rw[show its.toArray.any (eqU x)=its.any (eqU x) by simp,a1N r fs]
  exact q
 ·obtain⟨its,r,pl,hz⟩:=I.tuple hq
  refine SeqAt.in_tupleAt (eqU x) pl (fun w hw=>a0V rx fx r fs w (by simpa using hw)) ⟨.bl _,H,I,rfl,?_⟩
  rw[show its.toArray.any (eqU x)=its.any (eqU x) by simp,a1N r fs]
  exact q
theorem a2R:O8 X (.builtin "len") (fun xs H Q=>∃p ys,xs=[.ref p]∧(SqL X.K H p ys∨SqT X.K H p ys)∧Q (.int ys.length) H):=by
 intro pins s σ H xs us Q I r h
 obtain⟨p,ys,rfl,hq,q⟩:=h
 obtain⟨u,rfl,rx⟩:=a2y r
 cases rx
 have hn:=a1i
 rcases hq with hq | hq
 ·obtain⟨its,r',pl,hz⟩:=I.list hq
  have hlen:=r'.length
  exact Calls.call_len_list pl.isList (by simp only[List.size_toArray]<;>omega) ⟨.int ys.length,H,I.tok _,⟨s.toks+1,by rw[List.size_toArray,hlen]⟩,q⟩
 ·obtain⟨its,r',pl,hz⟩:=I.tuple hq
  have hlen:=r'.length
  exact len_tuple pl (by simp only[List.size_toArray]<;>omega) ⟨.int ys.length,H,I.tok _,⟨s.toks+1,by rw[List.size_toArray,hlen]⟩,q⟩
theorem a2S:O8 X (.type "list") (fun xs H Q=>∃p ys,xs=[.ref p]∧(SqL X.K H p ys∨SqT X.K H p ys)∧∀l,H l=none→Q (.ref l) (upd H l (.lst ys))):=by
 intro pins s σ H xs us Q I r h
 obtain⟨p,ys,rfl,hq,q⟩:=h
 obtain⟨u,rfl,rx⟩:=a2y r
 cases rx
 have fin:∀(its:List Value),Vals ys its→ys.length≤sizeLine→∀(h':Heap) (c':Nat),(∀b o',s.heap.get? b=some o'→h'.get? b=some o') →
   h'.get? s.heap.objs.size=some { cls:=.type "list",dict:=none,data:=.seq its.toArray c',slots := #[] }→EP X pins σ Q (.ref s.heap.objs.size) { s with heap:=h' }:=fun its r' hz h' c' kp e =>
  ⟨.ref s.heap.objs.size,_,I.laid (t':=s.toks) kp (Nat.le_refl _) (show ObjOk X.prog X.w _ h' _ (.lst ys)from⟨hz,its,c',r',e⟩),rfl,q _ (I.hok.fresh (Nat.le_refl _))⟩
 rcases hq with hq | hq
 ·obtain⟨its,r',pl,hz⟩:=I.list hq
  have hlen:=r'.length
  obtain⟨o,ho,hc,n,hd⟩:=pl.isList
  exact call_list_seq p (.inl rfl) ho hc hd (fun h' c' kp e=>fin its r' hz h' c' kp e) (by simp only[List.size_toArray]<;>omega)
 ·obtain⟨its,r',pl,hz⟩:=I.tuple hq
  have hlen:=r'.length
  obtain⟨o,ho,hc,n,hd⟩:=pl
  exact call_list_seq p (.inr rfl) ho hc hd (fun h' c' kp e=>fin its r' hz h' c' kp e) (by simp only[List.size_toArray]<;>omega)
def tyV(K:W.Frag)(T:String)(x:V)(H:Hp):Prop:=match x with
 | .str _=>T = "str"
 | .int _=>T = "int"
 | .ref p=>(T = "list"∧∃xs,SqL K H p xs)∨(T = "tuple"∧∃o,K.lookup p=some o∧o.cls=.type "tuple"∧o.dict=none) ∨
   (T = "dict"∧((∃kvs,H p=some (.dK kvs))∨∃kvs,H p=some (.dT kvs)))∨(T = "set"∧∃S n,H p=some (.set S n))
 | _=>False
theorem a5w{pins:List (Addr×Obj)}{σ:St}{H:Hp}{s:Shared}{T:String}{x:V}{v:Value}(I:Inv X pins σ H s)(r:RelV x v)(ty:tyV X.K T x H) :
  s.TypeIs v T∧∀a,v=.ref a→∃ob,s.heap.get? a=some ob∧ob.dict=none:=by
 cases x with
 | str z =>
  obtain⟨t,rfl⟩:=r
  cases (show T = "str" from ty)
  exact⟨typeIs_str s z t,fun _ e=>nomatch e⟩
 | int i =>
  obtain⟨t,rfl⟩:=r
  cases (show T = "int" from ty)
  exact⟨typeIs_int s i t,fun _ e=>nomatch e⟩
 | ref p =>
  cases r
  rcases ty with⟨rfl,xs,hq⟩ | ⟨rfl,o,hk,hc,hd⟩ | ⟨rfl,hk⟩ | ⟨rfl,S,n,hk⟩
  ·obtain⟨its,_,pl,_⟩:=I.list hq
   refine⟨pl.isList.typeIs,fun a e=>?_⟩
   cases e
   obtain⟨o,n,e,c,hd,_⟩:=pl
   exact⟨o,e,hd⟩
  ·refine⟨⟨o,I.kIn p o hk,hc⟩,fun a e=>?_⟩
   cases e
   exact⟨o,I.kIn _ o hk,hd⟩
  ·have z:∃o,s.heap.get? p=some o∧o.ExactDict:=by
    rcases hk with⟨kvs,hk⟩ | ⟨kvs,hk⟩
    ·obtain⟨_,_,_,_,o,_,_,e,ex,_⟩:=I.hok p _ hk
     exact⟨o,e,ex⟩
    ·obtain⟨_,_,_,_,o,_,_,e,ex,_⟩:=I.hok p _ hk
     exact⟨o,e,ex⟩
   obtain⟨o,e,ex⟩:=z
   refine⟨⟨o,e,ex.1⟩,fun a e2=>?_⟩
   cases e2
   exact⟨o,e,ex.2.1⟩
  ·obtain⟨o,_,_,_,e,ex,_⟩:=I.hok p _ hk
   refine⟨⟨o,e,ex.1⟩,fun a e2=>?_⟩
   cases e2
   exact⟨o,e,ex.2.1⟩
 | _=>exact False.elim ty
def a4D(K:W.Frag)(T:String)(r:V→List V→Hp→VK→Prop)(to:TE):TE:=fun σ H Q=>to σ H fun x H1=>tyV K T x H1∧r x [] H1 Q
def tBM(K:W.Frag)(T:String)(r:V→List V→Hp→VK→Prop)(to:TE)(t:TA):TE:=fun σ H Q=>to σ H fun x H1=>tyV K T x H1∧t σ H1 fun xs H2=>r x xs H2 Q
variable {o e:Expr}{es:List Expr}{to:TE}{t:TA}{name:Str}{apos cpos:Pos}{T id:String}{r:V→List V→Hp→VK→Prop}
theorem a93(pa:PlainAttrs T)(slot:Slot T name id)(hty:typeOf (.builtin id)=pure (.type "method_descriptor"))(hm:MtR X id r)(ho:PE X o to)
  (hbase:attributeBase o name X.env (eval o X.env)=eval o X.env:=by rfl) (hline:(apos.endLine == cpos.line)=true:=by rfl):PE X (.Call (.Attribute o name apos) [] [] cpos) (a4D X.K T r to):=by
 intro pins s σ H Q I h
 refine wpAny_Call_method0_late hbase hline (j4 (ho pins s σ H _ I h) fun v s1 ⟨x,H1,I1,r1,ty,q1⟩=>?_)
 obtain⟨h1,h2⟩:=a5w I1 r1 ty
 exact⟨T,id,pa,slot,hty,h1,h2,Calls.callWith_builtin rfl (PySem.evalArgs_none (hm pins s1 σ H1 x [] v [] Q I1 r1 .nil q1))⟩
theorem b08(pa:PlainAttrs T)(slot:Slot T name id)(hty:typeOf (.builtin id)=pure (.type "method_descriptor"))(hm:MtR X id r)(ho:PE X o to)(ha:PA X (e::es) t)
  (hbase:attributeBase o name X.env (eval o X.env)=eval o X.env:=by rfl)
  (hfew:((backTo cpos (starEach (e::es) X.env)).all (fun x=>!x.1) && (backToKw cpos (keywordEach [] X.env)).all (fun x=>x.1.isSome)
   && decide ((e::es).length+([]:List Keyword).length+(if([]:List Keyword).isEmpty then 0 else 1)<30))=true:=by rfl)
  (hline:(apos.endLine == cpos.line)=true:=by rfl) (hs:starEach (e::es) X.env=(false,eval e X.env)::starEach es X.env:=by rfl) (hplain:(backTo cpos (starEach es X.env)).any (·.1)=false:=by rfl) :
  PE X (.Call (.Attribute o name apos) (e::es) [] cpos) (tBM X.K T r to t):=by
 intro pins s σ H Q I h
 refine wpAny_Call_method_late hbase hfew hline rfl (j4 (ho pins s σ H _ I h) fun v s1 ⟨x,H1,I1,r1,ty,q1⟩=>?_)
 obtain⟨h1,h2⟩:=a5w I1 r1 ty
 refine⟨T,id,pa,slot,hty,h1,h2,?_⟩
 have hA:=ha cpos pins s1 σ H1 _ I1 q1
 rw[hs]at hA ⊢
 refine Calls.callWith_builtin (by show(false || (backTo cpos (starEach es X.env)).any (·.1))=false;rw[hplain]<;>rfl) (Calls.evalArgs_plain ?_)
 exact j4 hA fun us s2 ⟨vs,H2,I2,r2,q2⟩=>hm pins s2 σ H2 x vs v us Q I2 r1 r2 q2
end
def MtM(X:Cx)(id:String)(r:V→List V→Hp→VK→Prop):Prop :=
 ∀(pins:List (Addr×Obj)) (s:Shared) (σ:St) (H:Hp) (x:V) (xs:List V) (v:Value) (us:List Value) (Q:VK),Inv X pins σ H s→RelV x v→Vals xs us→r x xs H Q →
  wpAny (model X.prog X.w) X.A (call (.builtin id) (v::us)) (EP X pins σ Q) X.xe s
theorem Vals.one:∀{x:V} {us:List Value},Vals [x] us→∃u,us=[u]∧RelV x u
 | _,_,.cons r .nil=>⟨_,rfl,r⟩
theorem Vals.zero:∀{us:List Value},Vals [] us→us=[]
 | _,.nil=>rfl
theorem Vals.dropLast{xs:List V}{us:List Value}(h:Vals xs us):Vals xs.dropLast us.dropLast:=by
 induction h with
 | nil=>exact .nil
 | cons r t ih =>
  cases t with
  | nil=>exact .nil
  | cons q t'=>exact .cons r ih
theorem Vals.eraseIdx:∀{xs:List V} {us:List Value} (i:Nat),Vals xs us→Vals (xs.eraseIdx i) (us.eraseIdx i)
 | _,_,_,.nil=>.nil
 | _,_,0,.cons _ t=>t
 | _,_,i+1,.cons r t=>.cons r (Vals.eraseIdx i t)
theorem Vals.reverse{xs:List V}{us:List Value}(h:Vals xs us):Vals xs.reverse us.reverse:=by
 induction h with
 | nil=>exact .nil
 | cons r t ih=>rw[List.reverse_cons,List.reverse_cons];exact Vals.append ih (.cons r .nil)
theorem Vals.rep{xs:List V}{us:List Value}(h:Vals xs us):∀k:Nat,Vals (List.replicate k xs).flatten (List.replicate k us).flatten
 | 0=>.nil
 | k+1=>by
  rw[List.replicate_succ,List.replicate_succ,List.flatten_cons,List.flatten_cons]
  exact Vals.append h (Vals.rep h k)
theorem a4E{α:Type}(l:List α):l.eraseIdx (l.length-1)=l.dropLast:=by
 induction l with
 | nil=>rfl
 | cons a r ih =>
  cases r with
  | nil=>rfl
  | cons b r =>
   have e:(a::b::r).length-1=((b::r).length-1)+1:=by
    have h1:(a::b::r).length=r.length+2:=rfl
    have h2:(b::r).length=r.length+1:=rfl
    omega
   rw[e,List.eraseIdx_cons_succ,ih]
   all_goals rfl
theorem a2g{α:Type}:∀(l:List α) (i:Nat),(l.eraseIdx i).length≤l.length
 | [],_=>Nat.le_refl _
 | _::_,0=>Nat.le_succ _
 | _::r,i+1=>Nat.succ_le_succ (a2g r i)
section
variable {X:Cx}{pins:List (Addr×Obj)}{σ:St}{H:Hp}{s:Shared}{l b:Addr}{xs ys zs:List V}
theorem Inv.lset{its its':List Value}{n:Nat}{f:Array Value→Array Value}{t':Nat}(I:Inv X pins σ H s)(hH:H l=some (.lst xs))
  (e:s.heap.get? l=some { cls:=.type "list",data:=.seq its.toArray n }) (hf:f its.toArray=its'.toArray) (hv:Vals ys its') (hz:ys.length≤sizeLine) :
  Inv X pins σ (upd H l (.lst ys)) { s with heap:=s.heap.update l (Obj.mapSeq f),toks:=t' }:=by
 have q:=PySem.IsL.update e f
 rw[hf]at q
 refine I.write (x:=l) (e:=l) (by rw[hH];exact trivial) (.inl rfl) (fun b' u hb hu=>(Heap.get?_update_other s.heap (Obj.mapSeq f) (Ne.symm hb)).trans hu) ⟨_,q⟩ ?_
 exact⟨hz,its',_,hv,q⟩
theorem Inv.lnew{its:List Value}{t':Nat}(I:Inv X pins σ H s)(hv:Vals ys its)(hz:ys.length≤sizeLine) :
  Inv X pins σ (upd H s.heap.objs.size (.lst ys)) { s with heap:=s.heap.push { cls:=.type "list",data:=.seq its.toArray },toks:=t' } :=
 I.laid (fun _ _ q=>Heap.get?_push_of_some _ q) (Nat.le_refl _) ⟨hz,its,0,hv,Heap.get?_push_size _ rfl⟩
theorem Inv.fresh(I:Inv X pins σ H s):H s.heap.objs.size=none:=I.hok.fresh (Nat.le_refl _)
theorem Inv.lstM(I:Inv X pins σ H s)(hH:H l=some (.lst xs)):xs.length≤sizeLine∧∃(its:List Value) (n:Nat),Vals xs its∧xs.length=its.length∧s.heap.get? l=some { cls:=.type "list",data:=.seq its.toArray n }:=by
 obtain⟨z,its,n,r,e⟩:=I.hok l _ hH
 exact⟨z,its,n,r,r.length,e⟩
end
section
variable {X:Cx}
def a30:V→List V→Hp→VK→Prop:=fun x vs H Q=>∃l xs y,x=.ref l∧vs=[y]∧H l=some (.lst xs)∧xs.length<sizeLine∧Q .non (upd H l (.lst (xs++[y])))
theorem u9:MtM X "list.append" a30:=by
 intro pins s σ H x vs v us Q I rx rv h
 obtain⟨l,xs,y,rfl,rfl,hH,hz,q⟩:=h
 cases rx
 obtain⟨u,rfl,ru⟩:=rv.one
 obtain⟨z,its,n,r,hl,e⟩:=I.lstM hH
 refine call_meets F.slot_list_append ⟨_,e,rfl⟩ F.entry_list_append (F.args_list_append_2 _ _) (PySem.list_append l its.toArray n u (by rw[List.size_toArray];omega)) ⟨e,?_⟩
 refine⟨.non,_,I.lset (its':=its++[u]) hH e (by simp) (r.append (.cons ru .nil)) ?_,rfl,q⟩
 rw[List.length_append,List.length_singleton]
 omega
def a94:V→List V→Hp→VK→Prop:=fun x vs H Q=>∃l xs y,x=.ref l∧vs=[]∧H l=some (.lst xs)∧xs[xs.length-1]? = some y∧Q y (upd H l (.lst xs.dropLast))
theorem a5x:MtM X "list.pop" a94:=by
 intro pins s σ H x vs v us Q I rx rv h
 obtain⟨l,xs,y,rfl,rfl,hH,hy,q⟩:=h
 cases rx
 have hus:=rv.zero
 subst hus
 obtain⟨z,its,n,r,hl,e⟩:=I.lstM hH
 obtain⟨u,hu,ru⟩:=r.get hy
 have hy':its.toArray[its.toArray.size-1]? = some u:=by
  show its.toArray[its.length-1]? = some u
  rw[← Array.getElem?_toList,← hl]
  exact hu
 refine call_meets F.slot_list_pop ⟨_,e,rfl⟩ F.entry_list_pop (F.args_list_pop_1 _) (MeetsSeq.list_pop_last l its.toArray n u hy' (by rw[List.size_toArray];omega)) ⟨e,?_⟩
 refine⟨y,_,I.lset (its':=its.dropLast) hH e ?_ r.dropLast ?_,ru,q⟩
 ·show its.toArray.eraseIdxIfInBounds (its.toArray.size-1)=its.dropLast.toArray
  rw[List.size_toArray,List.eraseIdxIfInBounds_toArray,a4E]
 ·rw[List.length_dropLast]
  omega
def a5y:V→List V→Hp→VK→Prop:=fun x vs H Q=>∃l xs i k y,x=.ref l∧vs=[.int i]∧H l=some (.lst xs)∧-(2 ^ 63)≤i∧i<2 ^ 63∧seqIndex? i xs.length=some k∧xs[k]? = some y∧Q y (upd H l (.lst (xs.eraseIdx k)))
theorem a6K:MtM X "list.pop" a5y:=by
 intro pins s σ H x vs v us Q I rx rv h
 obtain⟨l,xs,i,k,y,rfl,rfl,hH,h1,h2,hk,hy,q⟩:=h
 cases rx
 obtain⟨u,rfl,ru⟩:=rv.one
 obtain⟨t,rfl⟩:=ru
 obtain⟨z,its,n,r,hl,e⟩:=I.lstM hH
 obtain⟨w,hw,rw'⟩:=r.get hy
 refine call_meets F.slot_list_pop ⟨_,e,rfl⟩ F.entry_list_pop (F.args_list_pop_2 _ _)
  (MeetsSeq.list_pop_at l its.toArray n i t k w (fitsIndex_both h1 h2) (by rw[List.size_toArray,← hl];exact hk) (by rw[← Array.getElem?_toList];exact hw) (by rw[List.size_toArray];omega)) ⟨e,?_⟩
 refine⟨y,_,I.lset (its':=its.eraseIdx k) hH e ?_ (r.eraseIdx k) ?_,rw',q⟩
 ·show its.toArray.eraseIdxIfInBounds k=(its.eraseIdx k).toArray
  rw[List.eraseIdxIfInBounds_toArray]
 ·have:=a2g xs k
  omega
def a5z:V→List V→Hp→VK→Prop:=fun x vs H Q=>∃l xs,x=.ref l∧vs=[]∧H l=some (.lst xs)∧Q .non (upd H l (.lst []))
theorem a6L:MtM X "list.clear" a5z:=by
 intro pins s σ H x vs v us Q I rx rv h
 obtain⟨l,xs,rfl,rfl,hH,q⟩:=h
 cases rx
 have hus:=rv.zero
 subst hus
 obtain⟨z,its,n,r,hl,e⟩:=I.lstM hH
 refine call_meets F.slot_list_clear ⟨_,e,rfl⟩ F.entry_list_clear (F.args_list_clear_1 _) (AutoSeq1.list_clear_list_0 l its.toArray n (by rw[List.size_toArray];omega)) ⟨e,?_⟩
 exact⟨.non,_,I.lset (its':=[]) (ys:=[]) hH e rfl .nil (Nat.zero_le _),rfl,q⟩
def a95:R2:=fun x y H Q=>∃l b xs zs,x=.ref l∧y=.ref b∧H l=some (.lst xs)∧H b=some (.lst zs)∧xs.length+zs.length≤sizeLine∧∀p,H p=none→Q (.ref p) (upd H p (.lst (xs++zs)))
theorem a5A:J2 X (binaryOp .Add) a95:=by
 intro pins s σ H x y v u Q I rx ry h
 obtain⟨l,b,xs,zs,rfl,rfl,hH,hB,hz,q⟩:=h
 cases rx
 cases ry
 obtain⟨z,its,n,r,hl,e⟩:=I.lstM hH
 obtain⟨z2,its2,n2,r2,hl2,e2⟩:=I.lstM hB
 refine PySem.P.add_list e e2 ?_ (by rw[List.size_toArray,List.size_toArray];omega)
 have ea:its.toArray++its2.toArray=(its++its2).toArray:=by simp
 rw[ea]
 exact⟨.ref _,_,I.lnew (t':=s.toks) (r.append r2) (by rw[List.length_append];omega),rfl,q _ I.fresh⟩
end
end L2
namespace Att
open PySem PySem.W PySem.Calls PyProof.Rows
theorem a1l{P:Params}{h:Heap}:∀(ns:List Int) (vs:List Value),WellAll P h vs (ns.map WData.int)→IntsAre vs ns:=by
 intro ns
 induction ns with
 | nil =>
  intro vs w
  rw[List.map_nil]at w
  cases w
  exact .nil
 | cons n ns ih =>
  intro vs w
  rw[List.map_cons]at w
  cases w with
  | cons a b =>
   cases a
   exact .cons _ _ (ih _ b)
theorem script_of{l:OpenLaw}{n:Nat}(hn:l.most=some n){P:Params}{h:Heap}{args:List WData}{vals:List Value}
  (hpre:l.row.toRowW.claim.pre args=true) (hwl:WellAll P h vals args) :
  ∃a vs ns,vals=[Value.ref a]∧args=[WData.list (ns.map WData.int)]∧h.get? a=some { cls:=.type "list",data:=.seq vs.toArray }∧IntsAre vs ns∧ns.length≤n:=by
 have hsh:WShape.hasAll [] args [.list .int]=true:=(pre_splitW hpre).1
 have hc:l.pre.holds [] { args:=args }=true:=(pre_splitW hpre).2
 obtain⟨d,r,rfl,h1,h2⟩:=hasAllW_cons hsh
 obtain rfl:=hasAllW_nil h2
 obtain⟨xs,rfl,h3⟩:=hasW_list h1
 obtain⟨ns,rfl⟩:=items_int h3
 have hlen:ns.length≤n:=by
  unfold OpenLaw.pre at hc
  have h4:(WTm.not (.lt (.lit (.int (n:Int))) (.len (.arg 0)))).holds [] { args:=[.list (ns.map .int)] }=true:=by
   have h4:=(holds_andW hc).1
   rw[hn]at h4
   exact h4
  have h5:=condW_of h4 (w_not (w_lt w_lit (w_len_list (w_arg rfl))))
  rw[List.length_map]at h5
  refine Nat.le_of_not_lt fun q=>?_
  have q':(n:Int)<((ns.length:Nat):Int):=by omega
  first
   | (rw[decide_eq_true q']at h5;exact absurd h5 (by decide))
   | (simp at h5;omega)
 cases hwl with
 | cons w1 w2 =>
  cases w2
  cases w1 with
  | list ho hall=>exact⟨_,_,ns,rfl,rfl,ho,a1l ns _ hall,hlen⟩
theorem post_true(l:OpenLaw)(args:List WData):l.row.toRowW.claim.post args (.bool true) args=true :=
 postW_of (r:=l.row.toRowW) (X:=(true == true))
  (show WShape.has [] (.bool true) .bool=true by first | rfl | decide | simp[WShape.has,WShape.arms,WShape.armsAll])
  (show(WTm.eq .res (.lit (.bool true))).value [] { args:=args,res:=some (.bool true),after:=args }=some (.bool (true == true))from w_eq_bool (w_res rfl) w_lit) rfl
end Att
namespace L2
open PySem PySem.Spec PyProof.Rows
theorem a2h:∀{vs:List Value} {ns:List Int},IntsAre vs ns→Vals (ns.map V.int) vs
 | _,_,.nil=>.nil
 | _,_,.cons n t h=>.cons ⟨t,rfl⟩ (a2h h)
def b1D(H:Hp):Prop:=∀b,H b=none∨∃o xs,H b=some (.frz o (.lst xs))
def l7(s:Stmt):Arguments:=match s with
 | .FunctionDef _ a _ _ _ _ _ _ _ _=>a
 | _=>{ posonlyargs:=[],args:=[],vararg:=none,kwonlyargs:=[],kw_defaults:=[],kwarg:=none,defaults:=[] }
def i7(s:Stmt):List Stmt:=match s with
 | .FunctionDef _ _ b _ _ _ _ _ _ _=>b
 | _=>[]
def c8(s:Stmt):Scope:=match s with
 | .FunctionDef _ _ _ _ _ _ sc _ _ _=>sc
 | _=>{ kind:=.function,names:=[],isGenerator:=false,isCoroutine:=false }
abbrev CX0:U2:=fun _ _ _ _ _ _=>False
abbrev E0:XK:=fun _ _ _=>False
structure Fun(K:W.Frag)(x qual:Str)(st:Stmt)(f:Addr)(fd:FuncData):Prop where
 ex:∃(oc:Value) (od:Option Addr) (kV doc pm:Value) (an:Option Addr) (cdv ct:Value) (osl:Array (Option Value)),
  fd=W.fnOf x qual (l7 st) (i7 st) (c8 st) .none kV doc pm an cdv ct∧K.lookup f=some ⟨oc,od,.func fd,osl⟩∧W.codeIn K cdv qual=true
 kp:W.keepIn K (.ref f)=true
section
variable {P:Program}{w:World}{K:W.Frag}{mg:Str→Option Value}{base:Heap}
theorem Fun.ok{x qual:Str}{st:Stmt}{f:Addr}{fd:FuncData}{N ps:List Str}{k:Nat}{sp:Sp}(F:Fun K x qual st f fd)(S:FnScope N ps (c8 st))(len:∀vs H Q E,sp vs H Q E→vs.length=ps.length)
  (hbody:∀(cdv:Value) (A:Around) (outer:List Env) (s:Shared) (H:Hp) (vs:List V) (Q:VK) (E:XK),Room k (A.deeper (envOfC qual (c8 st) s.heap.objs.size f cdv))→sp vs H Q E →
   ∃t,PSs (Q3 CX0 P w K mg base N qual (c8 st) f cdv A outer s H E).nox (i7 st) t∧t { nx:=fun _ H'=>Q .non H',rt:=Q } (start N vs) H):FnOk P w K mg base CX0 (k+1) f fd ps sp:=by
 obtain⟨oc,od,kV,doc,pm,an,cdv,ct,osl,rfl,lk,hcd⟩:=F.ex
 refine a1j lk hcd S len fun A outer s H vs Q E hr hsp=>?_
 obtain⟨t,h,q⟩:=hbody cdv A outer s H vs Q E hr hsp
 exact⟨t,h.nox,q⟩
theorem Fun.binds{x qual:Str}{st:Stmt}{f:Addr}{fd:FuncData}{ps:List Str}(F:Fun K x qual st f fd)
  (h:∀(kV doc pm:Value) (an:Option Addr) (cdv ct:Value) (us:List Value),us.length=ps.length→bindArgs (W.fnOf x qual (l7 st) (i7 st) (c8 st) .none kV doc pm an cdv ct) ⟨us,[]⟩=pure (ps.zip us)):Binds K fd ps []:=by
 obtain⟨oc,od,kV,doc,pm,an,cdv,ct,osl,rfl,lk,hcd⟩:=F.ex
 exact .all (h kV doc pm an cdv ct)
theorem z9{x qual:Str}{st:Stmt}{f:Addr}{oc:Value}{od an:Option Addr}{osl:Array (Option Value)}{kV doc pm cdv ct:Value}(l:K.lookup f=some ⟨oc,od,.func (W.fnOf x qual (l7 st) (i7 st) (c8 st) .none kV doc pm an cdv ct),osl⟩)
  (c:W.codeIn K cdv qual=true) (k:W.keepIn K (.ref f)=true):Fun K x qual st f (W.fnOf x qual (l7 st) (i7 st) (c8 st) .none kV doc pm an cdv ct):=⟨⟨oc,od,kV,doc,pm,an,cdv,ct,osl,rfl,l,c⟩,k⟩
end
section
variable {X:Cx}
theorem pv(i:Nat){x:Str}{pos:Pos}(hN:X.N[i]? = some x:=by rfl)(hv:Vis X.env.scope x:=by first | exact Or.inl rfl | exact Or.inr (Or.inl rfl) | exact Or.inr (Or.inr rfl))(hd:(x == ("__debug__" : Str))=false:=by decide)
  (hcd:(x == ("__classdict__" : Str))=false:=by decide):PE X (.Name x pos) (D2 i):=a9K hN hv hd hcd
end
def Same(H H':Hp):Prop:=∀b o,H b=some o→H' b=some o
theorem Same.refl(H:Hp):Same H H:=fun _ _ h=>h
theorem Same.trans{H H1 H2:Hp}(a:Same H H1)(b:Same H1 H2):Same H H2:=fun c o h=>b c o (a c o h)
theorem Same.free{H H':Hp}(e:Same H H'){l:Addr}(h:H' l=Option.none):H l=Option.none:=by
 cases q:H l with
 | none=>rfl
 | some o =>
  rw[e l o q]at h
  cases h
theorem Same.seq{K:W.Frag}{H H':Hp}{a:Addr}{xs:List V}(e:Same H H')(h:SqL K H a xs):SqL K H' a xs:=by
 rcases h with(h | ⟨o,h⟩) | h
 ·exact .inl (.inl (e _ _ h))
 ·exact .inl (.inr ⟨o,e _ _ h⟩)
 ·exact .inr h
end L2
set_option maxHeartbeats 4000000
namespace L2
open PySem PySem.Spec PyProof.Rows
theorem ObjOk.there{P:Program}{w:World}{H:Hp}{h:Heap}{a:Addr}{o:HO}(x:ObjOk P w H h a o):∃ob,h.get? a=some ob:=by
 cases o with
 | lst xs=>obtain⟨_,_,_,_,e⟩:=x;exact⟨_,e⟩
 | tup xs=>obtain⟨_,_,_,p⟩:=x;obtain⟨o,e,_⟩:=p;exact⟨_,e⟩
 | dK kvs=>obtain⟨_,_,_,_,o,_,_,e,_⟩:=x;exact⟨_,e⟩
 | dT kvs=>obtain⟨_,_,_,_,o,_,_,e,_⟩:=x;exact⟨_,e⟩
 | set S n=>obtain⟨o,_,_,_,e,_⟩:=x;exact⟨_,e⟩
 | ins C dx fs=>obtain⟨_,_,_,e,_⟩:=x;exact⟨_,e⟩
 | own y=>obtain⟨_,e⟩:=x;exact⟨_,e⟩
 | xd fs=>obtain⟨_,⟨_,_,_,e,_⟩,_⟩:=x;exact⟨_,e⟩
 | rng lo hi=>obtain⟨_,_,_,e⟩:=x;exact⟨_,e⟩
 | frz ob u=>obtain⟨e,_⟩:=x;exact⟨_,e⟩
 | tbl ps=>obtain⟨_,e,_⟩:=x;exact⟨_,e⟩
 | met f y=>exact⟨_,(show h.get? a=some _ from x)⟩
 | ext φ=>obtain⟨_,⟨_,e⟩,_⟩:=x;exact⟨_,e⟩
def Imp(X:Cx)(pins:List (Addr×Obj))(H:Hp)(b:Addr):Prop:=H b≠none∨(b ∉ X.ex∧∃o,X.s₀.heap.get? b=some o)∨∃p∈X.pn++pins,p.1=b
def a2T:Option Addr→Value
 | none=>.none
 | some a=>.ref a
def TrX(h B:Heap)(e:Addr)(cls:Value)(cx:Option Addr)(fl:Value):Prop :=
 ∃oe vs T oT ts,(h.get? e=some oe∧oe.cls=cls∧oe.data=.fields vs)∧(vs[1]? = some (.ref T)∧vs[2]? = some (a2T cx))∧(B.get? T=none∧T≠e)∧h.get? T=some oT∧oT.data=.fields ts∧ts[3]? = some fl
inductive Ph where | new | fly | any
def XTr(B h:Heap)(a:Addr)(cls:Value)(cx:Option Addr):Ph→Prop
 | .new=>∃oe vs,h.get? a=some oe∧oe.cls=cls∧oe.data=.fields vs∧vs[1]? = some .none∧vs[2]? = some (a2T cx)
 | .fly=>TrX h B a cls cx .none
 | .any=>∃fl,TrX h B a cls cx fl
theorem XTr.there{B h:Heap}{a:Addr}{cls:Value}{cx:Option Addr}{ph:Ph}(x:XTr B h a cls cx ph):∃oe vs,h.get? a=some oe∧oe.cls=cls∧oe.data=.fields vs∧vs[2]? = some (a2T cx):=by
 cases ph with
 | new=>obtain⟨oe,vs,h1,h2,h3,_,h4⟩:=x;exact⟨oe,vs,h1,h2,h3,h4⟩
 | fly=>obtain⟨oe,vs,_,_,_,⟨h1,h2,h3⟩,⟨_,h4⟩,_⟩:=x;exact⟨oe,vs,h1,h2,h3,h4⟩
 | any=>obtain⟨_,oe,vs,_,_,_,⟨h1,h2,h3⟩,⟨_,h4⟩,_⟩:=x;exact⟨oe,vs,h1,h2,h3,h4⟩
structure XAt(X:Cx)(pins:List (Addr×Obj))(H:Hp)(s:Shared)(a:Addr)(cls:Value)(cx:Option Addr)(B:Heap)(ph:Ph):Prop where
 free:H a=none
 stays:B.StaysIn s.heap
 fresh:B.get? a=none
 frames:s.heap.FunFrames B X.stack
 cov:∀b o,s.heap.get? b=some o→Imp X pins H b→b ∉ E5 X.stack→B.get? b=some o
 tr:XTr B s.heap a cls cx ph
section
variable {X:Cx}{pins:List (Addr×Obj)}{σ:St}{H:Hp}{s:Shared}{a:Addr}{cls:Value}{cx:Option Addr}{B h':Heap}{ph:Ph}
theorem Imp.there(I:Inv X pins σ H s){b:Addr}(i:Imp X pins H b):∃o,s.heap.get? b=some o:=by
 rcases i with i | ⟨hx,o,i⟩ | ⟨p,hp,e⟩
 ·cases q:H b with
  | none=>exact absurd q i
  | some u=>exact(I.hok b u q).there
 ·exact I.base.there b o i hx
 ·exact⟨p.2,by rw[← e];exact(I.pin p hp).1⟩
theorem Inv.exc(I:Inv X pins σ H s)(cov:∀b o,s.heap.get? b=some o→Imp X pins H b→b ∉ E5 X.stack→B.get? b=some o)(st:B.StaysIn h')(ups:s.heap.UpToSlots h') :
  Inv X pins σ H { s with heap:=h' }:=by
 have fr:∀b,b∈E5 X.stack→∀o,s.heap.get? b=some o→∃sl,h'.get? b=some { o with slots:=sl }:=fun b hb o e=>by
  obtain⟨_,o',e',d⟩:=I.stack.mem hb
  rw[e]at e';cases e'
  exact ups b o e d
 have nfr:∀b,b ∉ X.fs→b≠X.env.locals→b ∉ E5 X.stack:=fun b h1 h2 z=>(List.mem_cons.mp (I.stkSub b z)).elim h2 h1
 have neL:∀b o,X.s₀.heap.get? b=some o→b≠X.env.locals:=fun b o e=>Nat.ne_of_lt (Nat.lt_of_lt_of_le (Heap.lt_size e) I.ok.above)
 have cellK:∀c v,s.heap.IsCell c v→h'.IsCell c v:=fun c v ⟨o,ho,hd⟩=>by
  obtain⟨sl,q⟩:=ups c o ho (fun vs z=>by rw[hd]at z;cases z)
  exact⟨_,q,hd⟩
 refine⟨I.ok,I.os,I.bare,⟨fun b o e n hb hx=>?_,fun b o e n hb hx=>?_,I.base.free,fun b o e hx=>?_,I.base.tups,I.base.frzs,I.base.tbls⟩,?_,fun x c e=>?_,I.free,I.freeC,fun p hp=>?_,?_,I.len⟩
 ·exact st _ _ (cov b o (I.base.keep b o e n hb hx) (.inr (.inl ⟨hx,o,e⟩)) (nfr b hb (neL b o e)))
 ·obtain⟨sl,e1⟩:=I.base.slot b o e n hb hx
  have hb':b∈E5 X.stack:=by
   rcases I.ok.stk with q | ⟨q,hf⟩
   ·rw[q];exact hb
   ·rw[q];unfold E5;rw[List.filterMap_cons,hf];exact List.mem_cons_of_mem _ hb
  obtain⟨sl',e2⟩:=fr b hb' _ e1
  exact⟨sl',e2⟩
 ·obtain⟨o',e1⟩:=I.base.there b o e hx
  by_cases hb:b∈E5 X.stack
  ·obtain⟨sl,q⟩:=fr b hb _ e1
   exact⟨_,q⟩
  ·exact⟨o',st _ _ (cov b o' e1 (.inr (.inl ⟨hx,o,e⟩)) hb)⟩
 ·obtain⟨m,hn,hl⟩:=I.loc
  refine⟨m,ups.ns hn,fun i x v e1 e2 e3=>?_⟩
  obtain⟨u,r,l⟩:=hl i x v e1 e2 e3
  refine⟨u,r,?_⟩
  rcases l with l | ⟨k,c,e,z⟩
  ·exact .inl l
  ·exact .inr ⟨k,c,e,cellK c _ z⟩
 ·obtain⟨v,z⟩:=I.cell x c e
  exact⟨v,cellK c v z⟩
 ·obtain⟨e,n,ne,nf,d⟩:=I.pin p hp
  exact⟨st _ _ (cov p.1 p.2 e (.inr (.inr ⟨p,hp,rfl⟩)) (nfr p.1 nf ne)),n,ne,nf,d⟩
 ·intro b u e
  refine(I.hok b u e).stay (fun c v hc q=>?_) (fun _ q=>q) (fun _ _ q=>q) fun _ _ _ q=>q
  have hc':H c≠none:=by
   rcases hc with z | z
   ·rw[z,e];exact fun q=>nomatch q
   ·rw[z];exact fun q=>nomatch q
  exact st _ _ (cov c v q (.inl hc') fun z=>hc' (I.stkFree c z))
variable {M:Model}{A:Around}{E:Value→Shared→Prop}{Q:Unit→Shared→Prop}
end
def v8(P:Program)(w:World):U2:=fun outer H s E e s' =>
 ∃(a:Addr) (cls:Value) (cx:Option Addr) (H':Hp) (B:Heap),e=.ref a∧s'.os=s.os∧AllBare s'.gens∧Un (E5 outer) [] H H' s.heap s'.heap∧HOk P w H' s'.heap∧B.StaysIn s'.heap∧B.get? a=none∧s'.heap.FunFrames B outer ∧
  TrX s'.heap B a cls cx .none∧H' a=none∧(∀b o,s'.heap.get? b=some o→(H' b≠none∨∃o',s.heap.get? b=some o')→b ∉ E5 outer→B.get? b=some o)∧E cls cx H'
end L2
namespace PySem.W
open PySem PySem.Spec PySem.Calls PyProof.Rows
structure ExcT(K:Frag)(C:Addr):Prop where
 ga:findIn K (.ref C) "__getattribute__" = some (some (.builtin "BaseException.__getattribute__"))
 gt:findIn K (.ref C) "__getattr__" = some none
 cl:findIn K (.ref C) "__class__" = some (some (.builtin "object.__class__"))
 mo:mroIn K C (.type "object")=some true
 sb:subIn K (.ref C) (.type "BaseException")=some true
section
variable {prog:Program}{w:World}{A:Around}{E:Value→Shared→Prop}{h:Heap}{g:Array GenState}{d:Drawn}{t:Nat}{os:OsState}{K:Frag}{x C:Addr}{o:Obj}{R:Result→Shared→Prop}
theorem a2r{tp:Value}(X:K.In h)(hx:h.get? x=some o)(hc:o.cls=.ref C)(hm:mroIn K C (.type "object")=some true)
  (q:R (.ok (.ret (.ref C))) ⟨h,g,d,t,os⟩):codeAny (model prog w) A (.call (.builtin "getset_descriptor.__get__") ⟨[.builtin "object.__class__",.ref x,tp],[]⟩) R ⟨h,g,d,t,os⟩:=by
 have L0:Looks (model prog w) h (typeOf (.ref x)) (.ref C):=hc▸(Looks.ld hx).andThen .now
 have L1:=looks_mroIn (M:=model prog w) X hm
 refine codeAny_call_builtin KF.slot_gs.plain KF.entry_gs (KF.slot_gs.check _ _ _ _ _ _ _ _ KF.type_class (KF.args_gs _ _ _) ?_)
 unfold Builtin.«getset_descriptor.__get__» Builtin.Getset_descriptor.descrGet
 rw[dga_obj]
 refine wpAny_bind (wpAny_pure ?_)
 unfold Builtin.Getset_descriptor.descrGetter Builtin.Getset_descriptor.descrCheckInstance Builtin.Getset_descriptor.descrNameAndClass isInstance
 simp only[KF.owner_class]
 repeat lk
 refine⟨Code.quiet_builtin _ (by decide +kernel),codeAny_builtin KF.entry_class ?_⟩
 unfold Builtin.«object.__class__» shownTypeOf
 repeat lk
 exact q
theorem a1m{tk:Tok}{Q:Fin→Shared→Prop}(X:K.In h)(T:ExcT K C)(hx:h.get? x=some o)(hc:o.cls=.ref C)(q:Q (.done (.ret (.ref C))) ⟨h,g,d,t,os⟩) :
  wpAny (model prog w) A (Builtin.«object.__getattribute__» ⟨[.ref x,.str "__class__" tk],[]⟩) Q E ⟨h,g,d,t,os⟩:=by
 have L0:Looks (model prog w) h (typeOf (.ref x)) (.ref C):=hc▸(Looks.ld hx).andThen .now
 have L1:=looks_findIn (M:=model prog w) X T.cl
 have hT5:(⟨h,g,d,t,os⟩:Shared).TypeIs (.builtin "object.__class__") "getset_descriptor" := F.typeOf_object_class
 have f5:=F.typeOf_object_class
 have f6:=F.slot_gs_get.lookup
 have f7:=F.slot_gs_set.lookup
 repeat (any_goals (first | assumption | (with_reducible refine L0.at ?_) | (with_reducible refine wpAny_bind (L0.at ?_)) | (with_reducible refine L1.at ?_) | (with_reducible refine wpAny_bind (L1.at ?_)) | wp_step))
 refine a2r X hx hc T.mo ?_
 repeat (any_goals (first | assumption | wp_step))
theorem a2U{M:Model}{nameV:Value}{Q:Unit→Shared→Prop}(X:K.In h)(T:ExcT K C)(hx:h.get? x=some o)(hc:o.cls=.ref C)(hq:Q () ⟨h,g,d,t,os⟩):wpAny M A (checkBuiltinCall "BaseException.__getattribute__" ⟨[.ref x,nameV],[]⟩) Q E ⟨h,g,d,t,os⟩:=by
 have hk:builtinKind "BaseException.__getattribute__" = some .slot:=by decide +kernel
 have hsplit:splitId "BaseException.__getattribute__" = some ("BaseException","__getattribute__"):=by decide +kernel
 have L0:Looks M h (typeOf (.ref x)) (.ref C):=hc▸(Looks.ld hx).andThen .now
 have L1:=looks_subIn (M:=M) X T.sb
 have L2:Looks M h (isInstance (.ref x) (.type "BaseException")) true:=L0.andThen L1
 have ha:=F.args_bexc_ga (.ref x) nameV
 simp only[checkBuiltinCall,hk,hsplit]
 refine wpAny_bind (L2.at ?_)
 repeat (first | assumption | wp_step)
theorem a2V{tk:Tok}{Q:Value→Shared→Prop}(X:K.In h)(T:ExcT K C)(hx:h.get? x=some o)(hc:o.cls=.ref C)(hq:Q (.ref C) ⟨h,g,d,t,os⟩):wpAny (model prog w) A (getAttrBy (.ref x) (.str "__class__" tk) false) Q E ⟨h,g,d,t,os⟩:=by
 have L0:Looks (model prog w) h (typeOf (.ref x)) (.ref C):=hc▸(Looks.ld hx).andThen .now
 have L1:=looks_findIn (M:=model prog w) X T.ga
 have L2:=looks_findIn (M:=model prog w) X T.gt
 have f3:=F.attr_ValueError.ga.bind (.ref x)
 have hx2:(Value.builtin "BaseException.__getattribute__" == Value.builtin "object.__getattribute__")=false:=by decide +kernel
 have hx1:(onTheHeap (Value.ref C) && Value.builtin "BaseException.__getattribute__" == Value.builtin "object.__getattribute__")=false:=by rw[hx2];rfl
 repeat (any_goals (first | assumption | (with_reducible refine L0.at ?_) | (with_reducible refine wpAny_bind (L0.at ?_)) | (with_reducible refine L1.at ?_) | (with_reducible refine wpAny_bind (L1.at ?_)) | (with_reducible refine L2.at ?_) | (with_reducible refine wpAny_bind (L2.at ?_)) | wp_step))
 refine codeAny_call_builtin F.attr_ValueError.ga.plain F.entry_bexc_ga (a2U X T hx hc (a1m X T hx hc ?_))
 repeat (any_goals (first | assumption | wp_step))
theorem a1O{Q:Option Value→Shared→Prop}(X:K.In h)(T:ExcT K C)(hx:h.get? x=some o)(hc:o.cls=.ref C)(hq:Q (some (.ref C)) ⟨h,g,d,t+1,os⟩):wpAny (model prog w) A (getAttr? (.ref x) "__class__") Q E ⟨h,g,d,t,os⟩:=by
 unfold getAttr? getAttrBy?
 repeat (any_goals (first | assumption | with_reducible apply a2V X T hx hc | wp_step))
end
def a97(x C:Addr)(h:Heap):Prop:=∃o vs,h.get? x=some o∧o.cls=.ref C∧o.data=.fields vs
theorem kitx_exc{K:Frag}{x C:Addr}(T:ExcT K C):KitX K (.ref x) (.ref C) (a97 x C) where
 ty:=fun _ _ _ ⟨_,_,hx,hc,_⟩=>hc▸(Looks.ld hx).andThen .now
 it:=fun M h X _=>by
  have hm:=T.mo
  unfold mroIn at hm
  obtain⟨cd,hcd⟩:∃cd,clsIn K C=some cd:=by
   cases q:clsIn K C with
   | none=>rw[q]at hm;cases hm
   | some cd=>exact⟨cd,rfl⟩
  unfold clsIn at hcd
  split at hcd
  ·rename_i c' d' cd' sl' ho
   intro A' Q' E' s' k q
   unfold isType loadHead
   exact wpAny_bind (wpAny_loadPart (k _ _ (X _ _ ho)) (wpAny_pure q))
  ·cases hcd
 ne:=fun h tp dd its n sl X htp=>by
  have hm:=T.mo
  unfold mroIn at hm
  obtain⟨cd,hcd⟩:∃cd,clsIn K C=some cd:=by
   cases q:clsIn K C with
   | none=>rw[q]at hm;cases hm
   | some cd=>exact⟨cd,rfl⟩
  refine Bool.eq_false_iff.mpr fun q=>?_
  have e:C=tp:=Value.ref.inj (beq_iff_eq.mp q)
  subst e
  unfold clsIn at hcd
  split at hcd
  ·rename_i c' d' cd' sl' ho
   have z:=(X _ _ ho).symm.trans htp
   cases z
  ·cases hcd
 ca:=fun{_ _ _ _ _ s} X ⟨_,_,hx,hc,_⟩ k=>by
  obtain⟨h,g,d,t,os⟩:=s
  exact a1O X T hx hc k
end PySem.W
namespace L2
open PySem PySem.Spec PyProof.Rows
abbrev TJ:=St→Hp→Str→(Str→Hp→Prop)→Prop
section
variable {X:Cx}{E:XK}
theorem XAt.first{pins:List (Addr×Obj)}{σ:St}{H:Hp}{s:Shared}{h':Heap}{a:Addr}{cls:Value}{cx:Option Addr}{oe:Obj}{vs:Array Value}(I:Inv X pins σ H s)(k:∀b o,s.heap.get? b=some o→h'.get? b=some o)
  (n:s.heap.get? a=none) (g:h'.get? a=some oe) (hc:oe.cls=cls) (hd:oe.data=.fields vs) (z1:vs[1]? = some .none) (z2:vs[2]? = some (a2T cx)) :
  Inv X pins σ H { s with heap:=h' }∧XAt X pins H { s with heap:=h' } a cls cx (W.hideAll s.heap (E5 X.stack)) .new:=by
 have I':Inv X pins σ H { s with heap:=h' }:=I.kept (t':=s.toks) k
 have fr:H a=none:=by
  cases q:H a with
  | none=>rfl
  | some u=>obtain⟨o,e⟩:=(I.hok a u q).there;rw[n]at e;cases e
 refine⟨I',fr,fun b o e=>k b o (W.of_hideAll _ e),?_,(W.funFrames_hide I.stack fun env he b hb=>List.mem_filterMap.mpr ⟨env,he,hb⟩).of_keeps fun b o e _=>⟨o,k b o e,rfl⟩,fun b o e i n=>?_,⟨oe,vs,g,hc,hd,z1,z2⟩⟩
 ·cases q:(W.hideAll s.heap (E5 X.stack)).get? a with
  | none=>rfl
  | some o=>have:=W.of_hideAll _ q;rw[n]at this;cases this
 ·obtain⟨o1,e1⟩:=i.there I
  have e2:=k _ _ e1
  rw[e]at e2;cases e2
  exact W.hideAll_get _ e1 n
end
def a4F(a:Addr)(cls:Value)(cx:Option Addr):HO:=.ext fun h=>∃o vs,h.get? a=some o∧o.cls=cls∧o.data=.fields vs∧vs[2]? = some (a2T cx)
section
variable {X:Cx}{pins:List (Addr×Obj)}{σ:St}{H:Hp}{s:Shared}{a:Addr}{cls:Value}{cx:Option Addr}{B:Heap}{ph:Ph}
theorem XAt.nofr(x:XAt X pins H s a cls cx B ph):a ∉ E5 X.stack:=fun z=>by
 obtain⟨oe,vs,e,_,d,_⟩:=x.tr.there
 obtain⟨_,o,e',d'⟩:=x.frames.mem z
 rw[e]at e';cases e'
 exact d' vs d
end
theorem k7{X:Cx}{P:Program}{w:World}:a0b (v8 P w) X E0:=fun _ _ _ _ _ _ _ h=>by
 obtain⟨_,_,_,_,_,_,_,_,_,_,_,_,_,_,_,_,hE⟩:=h
 exact hE.elim
section
variable {P:Program}{w:World}{K:W.Frag}{mg:Str→Option Value}{base:Heap}
theorem Fun.okE{x qual:Str}{st:Stmt}{f:Addr}{fd:FuncData}{N ps:List Str}{k:Nat}{sp:Sp}(F:Fun K x qual st f fd)(S:FnScope N ps (c8 st))(len:∀vs H Q E,sp vs H Q E→vs.length=ps.length)
  (hbody:∀(cdv:Value) (A:Around) (outer:List Env) (s:Shared) (H:Hp) (vs:List V) (Q:VK) (E:XK),Room k (A.deeper (envOfC qual (c8 st) s.heap.objs.size f cdv))→sp vs H Q E →
   ∃t,PSs (Q3 (v8 P w) P w K mg base N qual (c8 st) f cdv A outer s H E) (i7 st) t∧t { nx:=fun _ H'=>Q .non H',rt:=Q } (start N vs) H):FnOk P w K mg base (v8 P w) (k+1) f fd ps sp:=by
 obtain⟨oc,od,kV,doc,pm,an,cdv,ct,osl,rfl,lk,hcd⟩:=F.ex
 exact a1j lk hcd S len fun A outer s H vs Q E hr hsp=>hbody cdv A outer s H vs Q E hr hsp
structure FunD(K:W.Frag)(x qual:Str)(st:Stmt)(dT:Addr)(f:Addr)(fd:FuncData):Prop where
 ex:∃(oc:Value) (od:Option Addr) (kV doc pm:Value) (an:Option Addr) (cdv ct:Value) (osl:Array (Option Value)),
  fd=W.fnOf x qual (l7 st) (i7 st) (c8 st) (.ref dT) kV doc pm an cdv ct∧K.lookup f=some ⟨oc,od,.func fd,osl⟩∧W.codeIn K cdv qual=true
 kp:W.keepIn K (.ref f)=true
theorem FunD.okE{x qual:Str}{st:Stmt}{dT f:Addr}{fd:FuncData}{N ps:List Str}{k:Nat}{sp:Sp}(F:FunD K x qual st dT f fd)(S:FnScope N ps (c8 st))(len:∀vs H Q E,sp vs H Q E→vs.length=ps.length)
  (hbody:∀(cdv:Value) (A:Around) (outer:List Env) (s:Shared) (H:Hp) (vs:List V) (Q:VK) (E:XK),Room k (A.deeper (envOfC qual (c8 st) s.heap.objs.size f cdv))→sp vs H Q E →
   ∃t,PSs (Q3 (v8 P w) P w K mg base N qual (c8 st) f cdv A outer s H E) (i7 st) t∧t { nx:=fun _ H'=>Q .non H',rt:=Q } (start N vs) H):FnOk P w K mg base (v8 P w) (k+1) f fd ps sp:=by
 obtain⟨oc,od,kV,doc,pm,an,cdv,ct,osl,rfl,lk,hcd⟩:=F.ex
 exact a1j lk hcd S len fun A outer s H vs Q E hr hsp=>hbody cdv A outer s H vs Q E hr hsp
theorem FunD.binds{x qual:Str}{st:Stmt}{dT f:Addr}{fd:FuncData}{ps:List Str}{ds:List Value}{items:List Value}{o:Obj}{nn:Nat}(F:FunD K x qual st dT f fd)(ho:K.lookup dT=some o)(hs:o.data=.seq items.toArray nn)
  (h:∀(kV doc pm:Value) (an:Option Addr) (cdv ct:Value) (us:List Value),(us++ds).length=ps.length→∃k:Option (Array Value)→Sem (List (Str×Value)),
   bindArgs (W.fnOf x qual (l7 st) (i7 st) (c8 st) (.ref dT) kV doc pm an cdv ct) ⟨us,[]⟩=seqItems? (.ref dT) >>= k∧k (some items.toArray)=pure (ps.zip (us++ds))):Binds K fd ps ds:=by
 obtain⟨oc,od,kV,doc,pm,an,cdv,ct,osl,rfl,lk,hcd⟩:=F.ex
 intro s us KX hl
 obtain⟨k,h1,h2⟩:=h kV doc pm an cdv ct us hl
 exact W.binds_K KX rfl ho hs h1 h2
end
structure RoomW(k:Nat)(A:Around):Prop where
 dp:A.depth+3*k+5<recursionLimit
 un:A.units+16*k+200<cLine
theorem Room.w{k:Nat}{A:Around}(r:Room k A)(h:Option Value):RoomW k (A.mark h):=⟨r.dp,r.un⟩
theorem RoomW.deeper{k:Nat}{A:Around}(r:RoomW (k+1) A)(env:Env):RoomW k (A.deeper env) :=
 ⟨by have:=r.dp;show A.depth+1+3*k+5<_;omega,by have:=r.un;show A.units+3+16*k+200<_;omega⟩
def a98:V→Option Value
 | .ty n=>some (.type n)
 | .ref a=>some (.ref a)
 | _=>none
theorem a8q{y:V}{c u:Value}(e:a98 y=some c)(r:RelV y u):u=c:=by
 cases y with
 | ty n=>cases e;exact r
 | ref a=>cases e;exact r
 | _=>cases e
inductive TyX(K:W.Frag)(H:Hp):V→Value→Prop where
 | of {x:V} {t:Value} (h:TyOf K H x t):TyX K H x t
 | exc {a C:Addr} {cx:Option Addr} (h:H a=some (a4F a (.ref C) cx)) (T:W.ExcT K C):TyX K H (.ref a) (.ref C)
section
variable {X:Cx}{pins:List (Addr×Obj)}{σ:St}{H:Hp}{s:Shared}{A:Around}{E:Value→Shared→Prop}{Q:Value→Shared→Prop}
theorem TyX.kit{x:V}{u t:Value}(I:Inv X pins σ H s)(rx:RelV x u)(ty:TyX X.K H x t):∃Φ:Heap→Prop,W.KitX X.K u t Φ∧Φ s.heap∧u≠.builtin "__main__.__loader__#opaque" := by
 cases ty with
 | @exc a C cx h T =>
  cases (show u=Value.ref a from rx)
  obtain⟨⟨o,vs,h1,h2,h3,_⟩,_⟩:=(show ObjOk X.prog X.w H s.heap a (a4F a (.ref C) cx)from I.hok a _ h)
  exact⟨_,W.kitx_exc T,⟨o,vs,h1,h2,h3⟩,fun z=>nomatch z⟩
 | of h =>
 cases h with
 | non=>cases (show u=Value.none from rx);exact⟨_,W.kitx_none,True.intro,fun z=>nomatch z⟩
 | bl y=>cases (show u=Value.bool y from rx);exact⟨_,W.kitx_bool,True.intro,fun z=>nomatch z⟩
 | int i=>obtain⟨t,q⟩:=(show ∃t,u=Value.int i t from rx);cases q;exact⟨_,W.kitx_int,True.intro,fun z=>nomatch z⟩
 | str y=>obtain⟨t,q⟩:=(show ∃t,u=Value.str y t from rx);cases q;exact⟨_,W.kitx_str,True.intro,fun z=>nomatch z⟩
 | flt y=>obtain⟨t,q⟩:=(show ∃t,u=Value.float y t from rx);cases q;exact⟨_,W.kitx_float,True.intro,fun z=>nomatch z⟩
 | @lst a xs ea =>
  cases (show u=Value.ref a from rx)
  obtain⟨_,_,n,_,h1⟩:=(show ObjOk X.prog X.w H s.heap a (.lst xs)from I.hok a _ ea)
  exact⟨_,W.kitx_list,⟨_,h1,rfl⟩,fun z=>nomatch z⟩
 | @frz a ob xs ea =>
  cases (show u=Value.ref a from rx)
  obtain⟨_,_,_,n,_,h1⟩:=(show ObjOk X.prog X.w H s.heap a (.frz ob (.lst xs))from I.hok a _ ea)
  exact⟨_,W.kitx_list,⟨_,h1,rfl⟩,fun z=>nomatch z⟩
 | @tup a xs ea =>
  cases (show u=Value.ref a from rx)
  obtain⟨_,_,_,p⟩:=(show ObjOk X.prog X.w H s.heap a (.tup xs)from I.hok a _ ea)
  obtain⟨o,h1,h2,_⟩:=p
  exact⟨_,W.kitx_tuple,⟨o,h1,h2⟩,fun z=>nomatch z⟩
 | @dK a kvs ea =>
  cases (show u=Value.ref a from rx)
  obtain⟨_,_,vs,_,p⟩:=(show ObjOk X.prog X.w H s.heap a (.dK kvs)from I.hok a _ ea)
  obtain⟨o,es,ep,h1,h2,_⟩:=p
  exact⟨_,W.kitx_dict,⟨o,h1,h2.1⟩,fun z=>nomatch z⟩
 | @dT a kvs ea =>
  cases (show u=Value.ref a from rx)
  obtain⟨_,_,xs,_,o,es,ep,h1,h2,_⟩:=(show ObjOk X.prog X.w H s.heap a (.dT kvs)from I.hok a _ ea)
  exact⟨_,W.kitx_dict,⟨o,h1,h2.1⟩,fun z=>nomatch z⟩
 | @ins a C dx fs ea cl ha hn htk hm =>
  cases (show u=Value.ref a from rx)
  obtain⟨mA,O,_⟩:=a8k I.hok ea
  obtain⟨od,J,_⟩:=O.look
  exact⟨_,W.kitx_own (cl.get _) cl.hd ha hn htk hm,J,fun z=>nomatch z⟩
def a4G(K:W.Frag):List V→Hp→VK→Prop:=fun xs H Q=>∃x y t c b,xs=[x,y]∧a98 y=some c∧TyX K H x t∧W.kitOne K t c=some b∧Q (.bl b) H
theorem a6M:O8 X (.builtin "isinstance") (a4G X.K):=by
 intro pins s σ H xs us Q I r h
 obtain⟨x,y,t,c,b,rfl,e1,e2,e3,q⟩:=h
 obtain⟨u,v,rfl,r1,r2⟩:=a7P r
 obtain rfl:=a8q e1 r2
 obtain⟨Φ,Z,p,n⟩:=e2.kit I r1
 exact W.kia_one Z I.kIn p e3 n fun tk=>⟨.bl b,H,I.tok _,rfl,q⟩
end
def a6N:List V→List V→Bool
 | [],[]=>true
 | x::xs,y::ys=>eqV x y && a6N xs ys
 | _,_=>false
section
variable {X:Cx}{pins:List (Addr×Obj)}{σ:St}{H:Hp}{s:Shared}
theorem N6:J2 X (binaryOp .Mult) (rI IntMulOk fun i j=>.int (i*j)):=opI fun _ _ _ _ _ _ _ hc q=>mul_int q hc
theorem C5:J2 X (binaryOp .FloorDiv) (rI (fun _ j=>0<j∧j.natAbs.log2<9000) fun i j=>.int (i/j)):=opI fun i j _ _ _ _ _ hc q=>by
 have h0:j≠0:=by have:=hc.1;omega
 refine floordiv_int h0 ?_ (.inl (PyProof.noPylong_of_log2 hc.2))
 rw[Int.fdiv_eq_ediv_of_nonneg _ (Int.le_of_lt hc.1)]
 exact q
end
open PySem.W PySem.Calls
theorem a3B{ns:List Int}(h:WData.layableAll [WData.list (ns.map WData.int)]=true):∀n∈ns,Builtin.Int.intBits n≤2 ^ 20:=fun n hn=>by
 have h1:(WData.list (ns.map WData.int)).layable=true:=layableW_arg h _ (List.mem_singleton.mpr rfl)
 have h2:=layableW_item h1 (WData.int n) (List.mem_map.mpr ⟨n,hn,rfl⟩)
 have h3:=(layableW_iff.mp h2).2.2
 simpa only[WData.weight,Builtin.Int.intBits]using h3
theorem b09{P:Program}{w:World}{outer:List Env}(H:Hp)(s:Shared)(e:Value)(s':Shared)(h:v8 P w outer H s (fun _ _ _=>False) e s'):False:=by
 obtain⟨_,_,_,_,_,_,_,_,_,_,_,_,_,_,_,_,hE⟩:=h
 exact hE
structure Own(P:Program)(w:World)(K:W.Frag)(mg:Str→Option Value)(base:Heap)(k:Nat)(x:Str)(ps:List Str)(sp:Sp):Prop where
 ex:∃f fd,FnOk P w K mg base (v8 P w) k f fd ps sp∧Binds K fd ps []∧W.keepIn K (.ref f)=true∧mg x=some (.ref f)
structure OwnD(P:Program)(w:World)(K:W.Frag)(mg:Str→Option Value)(base:Heap)(k:Nat)(x:Str)(ps:List Str)(sp:Sp)(d:V):Prop where
 ex:∃f fd du,FnOk P w K mg base (v8 P w) k f fd ps sp∧Binds K fd ps []∧Binds K fd ps [du]∧RelV d du∧W.keepIn K (.ref f)=true∧mg x=some (.ref f)
section
variable {X:Cx}{k k':Nat}{ps:List Str}{sp:Sp}{x:Str}{p pos:Pos}{e:Expr}{es:List Expr}{t:TA}{E:XK}{d:V}
theorem k8(G:Own X.prog X.w X.K X.mg X.base k x ps sp)(hr:Room k' X.A)(hk:k≤k')(hx:a0b (v8 X.prog X.w) X E)(ha:PA X (e::es) t)(hg:Gl X x:=by rfl)
  (hdb:(x == ("__debug__" : Str))=false:=by decide) (he:starEach (e::es) X.env=(false,eval e X.env)::starEach es X.env:=by rfl) (hpl:(backTo pos (starEach es X.env)).any (·.1)=false:=by rfl) :
  PE X (.Call (.Name x p) (e::es) [] pos) (a0w sp [] E t):=by
 obtain⟨f,fd,F,b,kp,m⟩:=G.ex
 exact a8l F (hr.mono hk) hg m kp b .nil hx ha hdb he hpl
end
theorem a5B:bootBuiltins "int" = some (.type "int"):=by decide +kernel
theorem a31:bootBuiltins "bool" = some (.type "bool"):=by decide +kernel
theorem a32:bootBuiltins "list" = some (.type "list"):=by decide +kernel
theorem a0W:bootBuiltins "tuple" = some (.type "tuple"):=by decide +kernel
theorem B0:bootBuiltins "isinstance" = some (.builtin "isinstance"):=by decide +kernel
theorem v9:bootBuiltins "len" = some (.builtin "len"):=by decide +kernel
theorem S9{H:Hp}{p:Addr}(h:H p=none)(o:HO):Same H (upd H p o):=fun b u q=>by rw[g7 (i3 q h)];exact q
def Scr(K:W.Frag)(H:Hp)(a:Addr)(xs:List V):Prop:=(∃o,H a=some (.frz o (.lst xs))) ∨
  ∃(o:Obj) (its:Array Value) (n:Nat),K.lookup a=some o∧o.cls=.type "list"∧o.dict=none∧o.data=.seq its n∧its.size≤sizeLine∧Vals xs its.toList
theorem Scr.seq{K:W.Frag}{H:Hp}{a:Addr}{xs:List V}(h:Scr K H a xs):SqL K H a xs:=h.elim (fun z=>.inl (.inr z)) .inr
theorem Scr.of{K:W.Frag}{H:Hp}{a:Addr}{xs:List V}(h:SqL K H a xs)(o:b1D H):Scr K H a xs:=by
 rcases h with(h | h) | h
 ·rcases o a with z | ⟨o,ys,z⟩
  ·rw[h]at z;cases z
  ·rw[h]at z;cases z
 ·exact .inl h
 ·exact .inr h
theorem Scr.same{K:W.Frag}{H H':Hp}{a:Addr}{xs:List V}(g:Same H H')(h:Scr K H a xs):Scr K H' a xs:=h.elim (fun⟨o,z⟩=>.inl ⟨o,g _ _ z⟩) .inr
theorem Scr.upd{K:W.Frag}{H:Hp}{a l:Addr}{xs ys:List V}{o:HO}(hl:H l=some (.lst ys))(h:Scr K H a xs):Scr K (L2.upd H l o) a xs:=h.elim (fun⟨ob,z⟩=>.inl ⟨ob,by rw[g7 (b07 z hl (by intro q;cases q))];exact z⟩) .inr
section
variable {prog:Program}{w:World}{A:Around}{R:Result→Shared→Prop}{s:Shared}
theorem a3C{elt target iter:Expr}{ifs:List Expr}{scope:Scope}{pos:Pos}{it acc:Value}{env:Env}{N:Value→Shared→Prop}(hN:N=notedBy (model prog w) A env fun e s'=>R (.error e) s')(I:Nat→Shared→Prop)
  (turn:∀n s,I n s→wpAny (model prog w) A (pyNext it) (fun r s₁=>match r with
   | none=>R (.ok .next) s₁
   | some v=>wpAny (model prog w) A (letOwnedTupleGo target it v) (fun _ s₁'=>wpAny (model prog w) A (assign target env v) (fun _ s₂ =>
     wpAny (model prog w) A (forIn ifs true fun c r=>if r=true then do let ok ← isTrue c env (eval c env);pure (ForInStep.yield ok)else pure (ForInStep.yield r)) (fun ok s₃ =>
      if ok=true then wpAny (model prog w) A (eval elt env) (fun x s₄ =>
       wpAny (model prog w) A (call (.builtin "list.append") [acc,x]) (fun _ s₅=>∃m,m<n∧I m s₅) N s₄) N s₃
      else ∃m,m<n∧I m s₃) N s₂) N s₁') N s₁) N s)
  (n:Nat) (h:I n s) :
  codeAny (model prog w) A (.compLoop (.ListComp elt [⟨target,iter,ifs,0⟩] scope pos) 0 it acc env) R s:=by
 subst hN
 refine codeAny_loop rfl I (fun k z q=>?_) n h
 show wpAny _ A ((compTurn (.ListComp elt [⟨target,iter,ifs,0⟩] scope pos) 0 it acc env).onRaise (fun ex=>do noteFrame ex env;theTreesLotGoes ex)) _ _ z
 refine wpAny_noted ?_
 rw[compTurn_list]
 refine wpAny_bind (wpAny_standAt (wpAny_bind (j4 (turn k z q) fun r z1 q1=>?_)))
 cases r with
 | none=>exact wpAny_pure q1
 | some v =>
  refine wpAny_bind (j4 q1 fun _ z2 q2=>?_)
  refine wpAny_bind (j4 q2 fun _ z3 q3=>?_)
  refine wpAny_bind (j4 q3 fun ok z4 q4=>?_)
  cases ok with
  | false=>exact wpAny_pure ⟨rfl,q4⟩
  | true=>exact wpAny_bind (wpAny_bind (j4 q4 fun x z5 q5=>wpAny_bind (j4 q5 fun _ z6 q6=>wpAny_pure (wpAny_pure ⟨rfl,q6⟩))))
end
def A4(cells:List (Str×Addr)):List (Str×NameKind)→List (Str×Addr)→List (Str×Addr)
 | [],acc=>acc
 | (n,k)::r,acc=>if k == .free then(match cells.lookup n with
   | some c=>A4 cells r ((n,c)::acc)
   | none=>A4 cells r acc)else A4 cells r acc
theorem U3{cells:List (Str×Addr)}{x:Str}{c:Addr}:∀{names:List (Str×NameKind)} {acc:List (Str×Addr)},(∀d,acc.lookup x=some d→cells.lookup x=some d)→(A4 cells names acc).lookup x=some c→cells.lookup x=some c
 | [],acc,h,e=>h c e
 | (n,k)::r,acc,h,e=>by
  unfold A4 at e
  split at e
  ·split at e
   ·rename_i c' hc'
    refine U3 (fun d q=>?_) e
    rw[List.lookup_cons]at q
    split at q
    ·rename_i hx
     have hx':x=n:=by simpa using hx
     cases q
     rw[hx'];exact hc'
    ·exact h d q
   ·exact U3 h e
  ·exact U3 h e
theorem P0{cells:List (Str×Addr)}{x:Str}:∀{names:List (Str×NameKind)} {acc:List (Str×Addr)},(∃d,acc.lookup x=some d)→∃d,(A4 cells names acc).lookup x=some d
 | [],acc,h=>h
 | (n,k)::r,acc,h=>by
  unfold A4
  split
  ·split
   ·refine P0 ?_
    rw[List.lookup_cons]
    split
    ·exact⟨_,rfl⟩
    ·exact h
   ·exact P0 h
  ·exact P0 h
theorem J4{cells:List (Str×Addr)}{x:Str}:∀{names:List (Str×NameKind)} {acc:List (Str×Addr)},(x,NameKind.free)∈names→(∃c,cells.lookup x=some c)→∃d,(A4 cells names acc).lookup x=some d
 | [],acc,h,_=>by simp at h
 | (n,k)::r,acc,h,hc=>by
  unfold A4
  rcases List.mem_cons.mp h with e | h
  ·cases e
   obtain⟨c,hc⟩:=hc
   rw[if_pos (by rfl),hc]
   exact P0 ⟨c,by simp[List.lookup_cons]⟩
  ·split
   ·split
    ·exact J4 h hc
    ·exact J4 h hc
   ·exact J4 h hc
theorem X3{env:Env}:∀(names:List (Str×NameKind)) (acc:List (Str×Addr)),(∀y∈names,y.2=.free→∃c,env.cells.lookup y.1=some c) →
  (forIn names acc fun(x:Str×NameKind) (cs:List (Str×Addr))=>if(x.2 == NameKind.free)=true then do let a ← cellOf env x.1;pure (ForInStep.yield ((x.1,a)::cs))else pure (ForInStep.yield cs):Sem (List (Str×Addr)))=pure (A4 env.cells names acc)
 | [],acc,_=>rfl
 | (n,k)::r,acc,h=>by
  rw[List.forIn_cons]
  unfold A4
  by_cases hk:(k == NameKind.free)=true
  ·obtain⟨c,hc⟩:=h (n,k) List.mem_cons_self (by simpa using hk)
   have e:cellOf env n=pure c:=by unfold cellOf;rw[hc]
   rw[if_pos hk,if_pos hk,hc,e]
   exact X3 r _ fun y hy=>h y (List.mem_cons_of_mem _ hy)
  ·rw[if_neg hk,if_neg hk]
   exact X3 r acc fun y hy=>h y (List.mem_cons_of_mem _ hy)
theorem V6{scope:Scope}{env:Env}(h:∀y∈scope.names,y.2=.free→∃c,env.cells.lookup y.1=some c):closureFor scope env=pure (A4 env.cells scope.names []):=by
 have:=X3 (env:=env) scope.names [] h
 unfold closureFor
 exact(congrArg (· >>= pure) this).trans (by first | rfl | simp)
theorem K2{env:Env}:∀{names:List (Str×NameKind)} {x:Str} {k':NameKind},
  (names.map fun(n,k)=>if(k == NameKind.free && env.scope.kind == .function && env.kindOf n == some .cell)then(n,NameKind.cell)else(n,k)).lookup x=some k' →
  ∃k,names.lookup x=some k∧(k'=k∨(k=.free∧k'=.cell))
 | [],_,_,h=>by simp at h
 | (n,k)::r,x,k',h=>by
  rw[List.map_cons]at h
  dsimp only at h
  by_cases hc:(k == NameKind.free && env.scope.kind == .function && env.kindOf n == some .cell)=true
  ·rw[if_pos hc,List.lookup_cons]at h
   rw[List.lookup_cons]
   split at h
   ·rename_i hx
    cases h
    have hk:k=.free:=by
     have:=(Bool.and_eq_true _ _▸(Bool.and_eq_true _ _▸hc).1).1
     simpa using this
    exact⟨k,rfl,.inr ⟨hk,rfl⟩⟩
   ·rename_i hx
    obtain⟨k2,q1,q2⟩:=K2 h
    exact⟨k2,q1,q2⟩
  ·rw[if_neg hc,List.lookup_cons]at h
   rw[List.lookup_cons]
   split at h
   ·rename_i hx
    cases h
    exact⟨k,rfl,.inl rfl⟩
   ·rename_i hx
    obtain⟨k2,q1,q2⟩:=K2 h
    exact⟨k2,q1,q2⟩
theorem G7{env:Env}:∀{names:List (Str×NameKind)} {x:Str},names.lookup x=some .free →
  (names.map fun(n,k)=>if(k == NameKind.free && env.scope.kind == .function && env.kindOf n == some .cell)then(n,NameKind.cell)else(n,k)).lookup x=some .cell ∨
  (names.map fun(n,k)=>if(k == NameKind.free && env.scope.kind == .function && env.kindOf n == some .cell)then(n,NameKind.cell)else(n,k)).lookup x=some .free
 | [],_,h=>by simp at h
 | (n,k)::r,x,h=>by
  rw[List.map_cons]
  dsimp only
  rw[List.lookup_cons]at h
  by_cases hc:(k == NameKind.free && env.scope.kind == .function && env.kindOf n == some .cell)=true
  ·rw[if_pos hc,List.lookup_cons]
   split at h
   ·rename_i hx
    left;rfl
   ·rename_i hx
    exact G7 (env:=env) h
  ·rw[if_neg hc,List.lookup_cons]
   split at h
   ·rename_i hx
    right;exact h
   ·rename_i hx
    exact G7 (env:=env) h
structure CompSc(Sc scope:Scope)(N Nc:List Str)(k:Nat)(js:List Nat):Prop where
 cell:∀y∈scope.names,y.2≠.cell
 kind:scope.kind=.function
 names:∀y∈scope.names,y.2=.local→scope.names.lookup y.1=some .local
 free:∀y∈scope.names,y.2=.free→Sc.names.lookup y.1=some .cell∨Sc.names.lookup y.1=some .free
 nd:Nc.Nodup
 len:Nc.length=k+js.length
 cap:(Nc.drop k).map some=js.map fun j=>N[j]?
 caps:∀x∈Nc.drop k,scope.names.lookup x=some .free
def m7(k:Nat)(js:List Nat)(σ:St):St:=List.replicate k none++js.map fun j=>(σ[j]?).getD none
theorem D6{names:List (Str×NameKind)}{x:Str}{k:NameKind}(h:names.lookup x=some k):(x,k)∈names:=PySem.mem_of_lookup h
abbrev y3(X:Cx)(scope:Scope)(Nc:List Str)(C:Addr)(s3:Shared)(H3:Hp)(fp:List Addr)(xe:Value→Shared→Prop):Cx :=
 { X with N:=Nc,s₀:=s3,H₀:=H3,env:=compEnvC scope (A4 X.env.cells scope.names []) C X.env,outer:=X.stack,ex:=fp,fn:=fun _=>false,pn:=[],xe:=xe }
section
variable {X:Cx}{pins:List (Addr×Obj)}{σ:St}{H3:Hp}{s3:Shared}{scope:Scope}{Nc:List Str}{k:Nat}{js:List Nat}{fp:List Addr}{xe:Value→Shared→Prop}{h₁:Heap}{m₀:Str→Option Value}{tk:Nat}
theorem a1n(I:Inv X pins σ H3 s3)(S:CompSc X.env.scope scope X.N Nc k js):∀y∈scope.names,y.2=.free→∃c,X.env.cells.lookup y.1=some c:=fun y hy hk=>I.ok.has y.1 (S.free y hy hk)
theorem B3{x:Str}{c:Addr}(e:(A4 X.env.cells scope.names []).lookup x=some c):X.env.cells.lookup x=some c:=U3 (fun d q=>by simp at q) e
theorem a6O(I:Inv X pins σ H3 s3)(S:CompSc X.env.scope scope X.N Nc k js)(hf:∀b∈fp,FpOk X pins H3 b)(hfo:∀b∈fp,b<s3.heap.objs.size)(hns:h₁.Ns s3.heap.objs.size m₀)(old:∀b o,s3.heap.get? b=some o→h₁.get? b=some o) :
  Inv (y3 X scope Nc s3.heap.objs.size s3 H3 fp xe) [] (m7 k js σ) H3 { s3 with heap:=h₁,toks:=tk }:=by
 have ok:=I.ok
 have hb0:∀b o,X.base.get? b=some o→b<X.s₀.heap.objs.size:=fun b o e=>Nat.lt_of_lt_of_le (Heap.lt_size e) ok.bsz
 refine⟨⟨ok.mod,S.kind,ok.glob,ok.blt,Nat.le_refl _,fun x y c h1 h2=>ok.inj x y c (B3 h1) (B3 h2),fun x hx=>?_,(fun x c z=>nomatch z),ok.hd,ok.frames,.inl rfl,fun b hb=>⟨Nat.ne_of_lt (hfo b hb),fun x c e=>(hf b hb).2.2.2.2.1 x c (B3 e)⟩,I.bs,Nat.le_trans ok.bsz I.sz,fun b o e hb=>?_,fun b hb z=>?_,I.stack,I.stkFree⟩,
  rfl,I.bare,Un.kept old,⟨m₀,hns,fun i x v e1 e2 e3=>?_⟩,fun x c e=>?_,I.hok.fresh (Nat.le_refl _),fun x c e=>I.freeC x c (B3 e),fun p hp=>absurd (show p∈([]:List (Addr×Obj))from hp) (by simp),I.hok.kept old,?_⟩
 ·have hx:(relabel scope X.env).names.lookup x=some .cell∨(relabel scope X.env).names.lookup x=some .free:=hx
  have hfree:scope.names.lookup x=some .free:=by
   rcases hx with hx | hx
   ·obtain⟨k2,q1,q2⟩:=K2 (env:=X.env) hx
    rcases q2 with q2 | ⟨q2,_⟩
    ·subst q2;exact absurd rfl (S.cell _ (D6 q1))
    ·rw[q2]at q1;exact q1
   ·obtain⟨k2,q1,q2⟩:=K2 (env:=X.env) hx
    rcases q2 with q2 | ⟨q2,q3⟩
    ·subst q2;exact q1
    ·cases q3
  exact J4 (D6 hfree) (ok.has x (S.free _ (D6 hfree) rfl))
 ·rcases(hf b hb).2.2.2.1 with z | z
  ·exact ok.noex b o e z
  ·exact absurd (Nat.lt_of_lt_of_le (hb0 b o e) z) (Nat.lt_irrefl _)
 ·rcases List.mem_cons.mp (I.stkSub b z)with q | q
  ·exact(hf b hb).2.1 q
  ·exact(hf b hb).2.2.1 q
 ·have hlen:(List.replicate k (none:Option V)).length=k:=List.length_replicate
  by_cases hi:i<k
  ·unfold m7 at e2
   rw[List.getElem?_append_left (by omega),List.getElem?_replicate]at e2
   split at e2<;>cases e2
  ·unfold m7 at e2
   rw[List.getElem?_append_right (by omega),hlen,List.getElem?_map]at e2
   cases hj:js[i-k]? with
   | none=>rw[hj]at e2;cases e2
   | some j =>
    rw[hj]at e2
    have e2':(σ[j]?).getD none=some v:=Option.some.inj e2
    have hσ:σ[j]? = some (some v):=by
     cases q:σ[j]? with
     | none=>rw[q]at e2';cases e2'
     | some y=>rw[q]at e2';simp at e2';rw[e2']
    have hx:(Nc.drop k)[i-k]? = some x:=by rw[List.getElem?_drop];rw[show k+(i-k)=i by omega];exact e1
    have hNj:X.N[j]? = some x:=by
     have:=congrArg (fun l=>l[i-k]?) S.cap
     simp only[List.getElem?_map,hx,hj,Option.map_some]at this
     exact(Option.some.inj this).symm
    have hfr:scope.names.lookup x=some .free:=S.caps x (List.mem_of_getElem? hx)
    have hk:=S.free _ (D6 hfr) rfl
    obtain⟨m,hn,hl⟩:=I.loc
    obtain⟨u,r,l⟩:=hl j x v hNj hσ (.inr hk)
    refine⟨u,r,.inr ⟨G7 hfr,?_⟩⟩
    rcases l with⟨l1,_⟩ | ⟨_,c,hc,hcell⟩
    ·have l1:X.env.scope.names.lookup x=some .local:=l1
     rcases hk with hk | hk
     ·rw[l1]at hk;cases hk
     ·rw[l1]at hk;cases hk
    ·obtain⟨d,hd⟩:=J4 (cells:=X.env.cells) (acc:=[]) (D6 hfr) ⟨c,hc⟩
     have:=B3 hd
     rw[hc]at this;cases this
     obtain⟨o,ho,hdd⟩:=hcell
     exact⟨c,hd,⟨o,old _ _ ho,hdd⟩⟩
 ·obtain⟨v,o,ho,hd⟩:=I.cell x c (B3 e)
  exact⟨v,o,old _ _ ho,hd⟩
 ·unfold m7
  rw[List.length_append,List.length_replicate,List.length_map]
  exact S.len.symm
end
def PF(X:Cx)(ifs:List Expr)(t:TT):Prop :=
 ∀(pins:List (Addr×Obj)) (s:Shared) (σ:St) (H:Hp) (Q:Bool→Hp→Prop),Inv X pins σ H s→t σ H Q →
  wpAny (model X.prog X.w) X.A (forIn ifs true fun c r=>if r=true then do let ok ← isTrue c X.env (eval c X.env);pure (ForInStep.yield ok)else pure (ForInStep.yield r)) (TP X pins σ Q) X.xe s
def a7W:TT:=fun _ H Q=>Q true H
theorem a2W{X:Cx}:PF X [] a7W:=fun pins s σ H Q I h=>wpAny_tests_nil ⟨H,I,h⟩
theorem a5C{X:Cx}{c:Expr}{t:TT}(h:PT X c t):PF X [c] t:=fun pins s σ H Q I q=>wpAny_tests_one (h pins s σ H Q I q)
def a0c(J:It)(g:TG)(tf:TT)(te:TE)(k:Nat)(σ0:St)(D:Addr)(Fin:Hp→Prop)(H1:Hp):Prop :=
 ∃W:Nat→Nat→List V→Hp→Prop,(∃m,W 0 m [] (upd H1 D (.lst [])))∧∀i m ys H,W i m ys H →
  (J.stop i H∧Fin H)∨(J.go i H∧∃N:List V→Hp→Prop,(∀ys' H',N ys' H'→∃m',m'<m∧W (i+1) m' ys' H')∧∀x H',J.yld i H x H'→g x σ0 H' fun σ2 H2=>(σ2.drop k=σ0.drop k∧σ2.length=σ0.length)∧tf σ2 H2 fun b H3 =>
   if b=true then te σ2 H3 fun y H4=>H4 D=some (.lst ys)∧ys.length<sizeLine∧N (ys++[y]) (upd H4 D (.lst (ys++[y])))else N ys H3)
section
variable {X:Cx}{pins:List (Addr×Obj)}{σ:St}{H:Hp}{s:Shared}{elt tg iter:Expr}{ifs:List Expr}{scope:Scope}{pos:Pos}{Nc:List Str}{k:Nat}{js:List Nat}{g:TG}{tf:TT}{te:TE}
theorem a1o{J:It}{fp:List Addr}{it:Addr}{tn:Nat→Heap→Prop}{E:Value→Shared→Prop}{RR:Value→Addr→Result→Shared→Prop}{Fin:Addr→Hp→Prop}(hc:X.calm=true)(S:CompSc X.env.scope scope X.N Nc k js)
  (hg:∀C s3 H3 fp xe,PG (y3 X scope Nc C s3 H3 fp xe) tg g) (hf:∀C s3 H3 fp xe,PF (y3 X scope Nc C s3 H3 fp xe) ifs tf)
  (he:∀C D H3,∃xe:Value→Shared→Prop,(∀e s',xe e s'→notedBy (model X.prog X.w) X.A (compEnvC scope (A4 X.env.cells scope.names []) C X.env) (fun e s'=>RR (.ref D) C (.error e) s') e s') ∧
   ∀s3,Inv X pins σ H3 s3→C=s3.heap.objs.size→(∀b∈fp,FpOk X pins H3 b)→PE (y3 X scope Nc C s3 H3 fp xe) elt te)
  (I2:Inv X pins σ H s) (T:Turn X.prog X.w X.K tg J fp it tn) (st2:tn 0 s.heap) (f2:∀b∈fp,FpOk X pins H b) (hR:∀D,H D=none→a0c J g tf te k (m7 k js σ) D (Fin D) H)
  (hRR:∀D C H' s' m',Inv X pins σ H' s'→s'.heap.Ns C m'→H' C=none→C≠X.env.locals→X.s₀.heap.objs.size≤C→(∀x c,X.env.cells.lookup x=some c→c≠C)→(∀p∈X.pn++pins,p.1≠C)→Fin D H'→RR (.ref D) C (.ok .next) s') :
  wpAny (model X.prog X.w) X.A (newList []) (fun acc s₃=>wpAny (model X.prog X.w) X.A (newFunctionEnv scope X.env.globals (A4 X.env.cells scope.names []) [] X.env.qual none .none (some X.env)) (fun cenv s₄ =>
   codeAny (model X.prog X.w) X.A (.compStart (.ListComp elt [⟨tg,iter,ifs,0⟩] scope pos) 0 (.ref it) acc { cenv with scope:=relabel scope X.env }) (RR acc cenv.locals) s₄) E s₃) E s:=by
 refine wpAny_newObj_type (wpAny_newFunctionEnv S.cell (by intro y hy;simp at hy) (fun h₁ hns₁ hsb₁=>?_) S.kind)
 dsimp only at hns₁ hsb₁ ⊢
 have I3:Inv X pins σ (upd H s.heap.objs.size (.lst [])) { s with heap:=s.heap.push { cls:=.type "list",data:=.seq ([]:List Value).toArray },toks:=s.toks }:=I2.lnew (its:=[]) .nil (Nat.zero_le _)
 have hDn:H s.heap.objs.size=none:=I2.fresh
 obtain⟨W,⟨m0,w0⟩,turn⟩:=hR _ hDn
 generalize hs3:({ s with heap:=s.heap.push { cls:=.type "list",data:=.seq ([]:List Value).toArray },toks:=s.toks }:Shared)=s3 at I3
 have e3:s3.heap=s.heap.push { cls:=.type "list",dict:=none,data:=.seq ([]:List Value).toArray }:=by rw[← hs3]
 rw[← e3]at hns₁ hsb₁ ⊢
 have fpo:∀b∈fp,b<s.heap.objs.size:=fun b hb=>by obtain⟨o,e,_⟩:=T.obj _ _ st2 b hb;exact Heap.lt_size e
 have sz3:s3.heap.objs.size=s.heap.objs.size+1:=by rw[e3,Heap.size_push]
 have fpo3:∀b∈fp,b<s3.heap.objs.size:=fun b hb=>by rw[sz3];exact Nat.lt_succ_of_lt (fpo b hb)
 have f3:∀b∈fp,FpOk X pins (upd H s.heap.objs.size (.lst [])) b:=fun b hb=>⟨by rw[g7 (Nat.ne_of_lt (fpo b hb))];exact(f2 b hb).1,(f2 b hb).2⟩
 have old:∀b o,s3.heap.get? b=some o→h₁.get? b=some o:=fun b o e=>hsb₁.extBut b o (Nat.ne_of_lt (Heap.lt_size e)) (Heap.get?_push_of_some _ e)
 have oldS:∀b o,s.heap.get? b=some o→h₁.get? b=some o:=fun b o e=>old b o (by rw[e3];exact Heap.get?_push_of_some _ e)
 obtain⟨xe,hxe,hel⟩:=he s3.heap.objs.size s.heap.objs.size (upd H s.heap.objs.size (.lst []))
 have hel:=hel s3 I3 rfl f3
 have I4:Inv (y3 X scope Nc s3.heap.objs.size s3 (upd H s.heap.objs.size (.lst [])) fp xe) [] (m7 k js σ) (upd H s.heap.objs.size (.lst [])) { s3 with heap:=h₁,toks:=s.toks+([]:List (Str×Value)).length } :=
  a6O I3 S f3 fpo3 hns₁ old
 have st4:tn 0 h₁:=T.keep _ _ _ st2 fun b hb o e=>oldS b o e
 have es3:({ s3 with heap:=h₁,toks:=s.toks+([]:List (Str×Value)).length }:Shared)={ s with heap:=h₁,toks:=s.toks+([]:List (Str×Value)).length }:=by rw[← hs3]
 rw[es3]at I4
 have ok:=I2.ok
 have lk:=I3.lt
 have hCL:s3.heap.objs.size≠X.env.locals:=Nat.ne_of_gt lk
 have stat:∀{H':Hp},(∀b∈fp,H' b=none)→∀b∈fp,FpOk (y3 X scope Nc s3.heap.objs.size s3 (upd H s.heap.objs.size (.lst [])) fp xe) [] H' b:=fun hn b hb =>
  ⟨hn b hb,Nat.ne_of_lt (fpo3 b hb),fun z=>(List.mem_cons.mp (I3.stkSub b z)).elim (fun q=>(f3 b hb).2.1 q) fun q=>(f3 b hb).2.2.1 q,.inl hb,fun x c e=>(f3 b hb).2.2.2.2.1 x c (B3 e),fun p hp=>absurd (show p∈([]:List (Addr×Obj))from hp) (by simp)⟩
 have loop:codeAny (model X.prog X.w) X.A (.compLoop (.ListComp elt [⟨tg,iter,ifs,0⟩] scope pos) 0 (.ref it) (.ref s.heap.objs.size) (compEnvC scope (A4 X.env.cells scope.names []) s3.heap.objs.size X.env))
    (RR (.ref s.heap.objs.size) s3.heap.objs.size) { s with heap:=h₁,toks:=s.toks+([]:List (Str×Value)).length }:=by
  refine a3C rfl (fun n s'=>∃i ys H',Inv (y3 X scope Nc s3.heap.objs.size s3 (upd H s.heap.objs.size (.lst [])) fp xe) [] (m7 k js σ) H' s'∧tn i s'.heap∧(∀b∈fp,H' b=none)∧W i n ys H') ?_ m0 ⟨0,[],_,I4,st4,fun b hb=>(f3 b hb).1,w0⟩
  rintro n s5 ⟨i,ys,H5,I5,st5,fr5,w5⟩
  rcases turn i n ys H5 w5 with⟨stop,fin⟩ | ⟨go,Nx,hNx,step⟩
  ·refine j4 (T.done (y3 X scope Nc s3.heap.objs.size s3 (upd H s.heap.objs.size (.lst [])) fp xe) rfl rfl rfl hc i [] s5 (m7 k js σ) H5 _ I5 (stat fr5) st5 stop) fun r s6 ⟨hr,I6⟩=>?_
   subst hr
   obtain⟨m6,hn6,_⟩:=I6.loc
   have J:Inv X pins σ H5 s6:=I3.call' (ch:=fp) (I6.os.trans rfl) I6.base I6.hok I6.bare fun b hb=>⟨(f3 b hb).2.2.2.1,(f3 b hb).2.1,(f3 b hb).2.2.2.2.1,(f3 b hb).2.2.2.2.2⟩
   refine hRR _ _ H5 s6 m6 J hn6 I6.free hCL (I3.sz) (fun x c e z=>?_) (fun p hp z=>?_) fin
   ·obtain⟨v,q⟩:=I3.cell x c e
    exact absurd q.lt (by rw[z];exact Nat.lt_irrefl _)
   ·exact absurd (Heap.lt_size (I3.pin p hp).1) (by rw[z];exact Nat.lt_irrefl _)
  ·refine j4 (T.item (y3 X scope Nc s3.heap.objs.size s3 (upd H s.heap.objs.size (.lst [])) fp xe) rfl rfl rfl hc i [] s5 (m7 k js σ) H5 _ I5 (stat fr5) st5 go) fun r s6 ⟨u,hr,h6⟩=>?_
   subst hr
   refine j4 h6 fun _ s7 ⟨x,H7,I7,r7,y7,st7,fr7⟩=>?_
   have I7':=I7.pinned (stat fr7) (T.obj _ _ st7)
   refine wpAny_mono (hg _ _ _ _ _ _ s7 _ H7 x u _ I7' r7 (step x H7 y7)) (fun _ s8 ⟨σ8,H8,I8,⟨d8,l8⟩,q8⟩=>?_) fun e s' z=>hxe e s' z
   refine wpAny_mono (hf _ _ _ _ _ _ s8 σ8 H8 _ I8 q8) (fun b s9 ⟨H9,I9,q9⟩=>?_) fun e s' z=>hxe e s' z
   have again:∀{H':Hp} {s':Shared} {ys':List V},Inv (y3 X scope Nc s3.heap.objs.size s3 (upd H s.heap.objs.size (.lst [])) fp xe) ([]++Z9 fp s7.heap) σ8 H' s'→Nx ys' H' →
     ∃m,m<n∧∃i ys H',Inv (y3 X scope Nc s3.heap.objs.size s3 (upd H s.heap.objs.size (.lst [])) fp xe) [] (m7 k js σ) H' s'∧tn i s'.heap∧(∀b∈fp,H' b=none)∧W i m ys H':=fun{H' s' ys'} I' hw=>by
    obtain⟨m',hm,w'⟩:=hNx _ _ hw
    refine⟨m',hm,i+1,ys',H',(I'.unpinned).weak l8.symm fun j v e=>?_,T.keep _ _ _ st7 fun b hb o e=>(I'.pin (b,o) (List.mem_append_right _ (List.mem_append_right _ (R0 hb e)))).1,fun b hb=>?_,w'⟩
    ·by_cases hj:j<k
     ·unfold m7 at e
      rw[List.getElem?_append_left (by rw[List.length_replicate];exact hj),List.getElem?_replicate]at e
      split at e<;>cases e
     ·have e':((m7 k js σ).drop k)[j-k]? = some (some v):=by rw[List.getElem?_drop,show k+(j-k)=j by omega];exact e
      rw[← d8,List.getElem?_drop,show k+(j-k)=j by omega]at e'
      exact e'
    ·obtain⟨o,e,d⟩:=T.obj _ _ st7 b hb
     exact(I'.pin (b,o) (List.mem_append_right _ (List.mem_append_right _ (R0 hb e)))).2.1
   cases b with
   | false =>
    rw[if_neg Bool.false_ne_true]at q9 ⊢
    exact again I9 q9
   | true =>
    rw[if_pos rfl]at q9 ⊢
    refine wpAny_mono (hel _ s9 σ8 H9 _ I9 q9) (fun v s10 ⟨y,H10,I10,r10,hD,hz,w'⟩=>?_) fun e s' z=>hxe e s' z
    refine wpAny_mono (u9 (X:=y3 X scope Nc s3.heap.objs.size s3 (upd H s.heap.objs.size (.lst [])) fp xe) _ s10 σ8 H10 (.ref s.heap.objs.size) [y] (.ref s.heap.objs.size) [v] (fun _ H'=>H'=upd H10 s.heap.objs.size (.lst (ys++[y]))) I10 rfl (.cons r10 .nil)
     ⟨_,ys,y,rfl,rfl,hD,hz,rfl⟩) (fun _ s11 ⟨_,H11,I11,_,q11⟩=>?_) fun e s' z=>hxe e s' z
    subst q11
    exact again I11 w'
 exact codeAny_compStart_list loop (T.self _ 0 _ _ _ st4 loop)
end
def a2z(wi:TI)(g:TG)(tf:TT)(te:TE)(k:Nat)(js:List Nat):TE:=fun σ H Q=>wi σ H fun J H1=>∀D,H1 D=none→a0c J g tf te k (m7 k js σ) D (fun H'=>Q (.ref D) H') H1
def a2X(i:Nat)(wi:TI)(g:TG)(tf:TT)(te:TE)(k:Nat)(js:List Nat):TS:=fun N σ H=>wi σ H fun J H1=>∀D,H1 D=none→a0c J g tf te k (m7 k js σ) D (fun H'=>N.nx (σ.set i (some (.ref D))) H') H1
section
variable {X:Cx}{elt tg iter:Expr}{ifs:List Expr}{scope:Scope}{pos:Pos}{Nc:List Str}{k:Nat}{js:List Nat}{wi:TI}{g:TG}{tf:TT}{te:TE}
theorem a0x(hc:X.calm=true)(S:CompSc X.env.scope scope X.N Nc k js)(hi:PI X tg iter wi)(hg:∀C s3 H3 fp xe,PG (y3 X scope Nc C s3 H3 fp xe) tg g)(hf:∀C s3 H3 fp xe,PF (y3 X scope Nc C s3 H3 fp xe) ifs tf)
  (he:∀C s3 H3 fp xe,PE (y3 X scope Nc C s3 H3 fp xe) elt te) (hs:∀x,foldedSetIterable iter X.env x=pure x:=by intro _;rfl):PE X (.ListComp elt [⟨tg,iter,ifs,0⟩] scope pos) (a2z wi g tf te k js):=by
 intro pins s σ H Q I h
 rw[eval_ListComp]
 refine wpAny_comprehension_free (use:=none) rfl hs (V6 (a1n I S)) S.kind S.names (j4 (hi pins s σ H _ I h) fun v s1 h1=>j4 h1 fun itv s2 h2=>?_)
 obtain⟨it,fp,tn,J,H2,rfl,I2,T,st2,f2,hR⟩:=h2
 refine a1o (RR:=fun acc C=>compPost (model X.prog X.w) X.A X.xe none (EP X pins σ Q) acc C) (Fin:=fun D H'=>Q (.ref D) H') hc S hg hf (fun C D H3=>⟨fun _ _=>False,fun _ _ z=>z.elim,fun s3 _ _ _=>he _ _ _ _ _⟩) I2 T st2 f2 hR ?_
 intro D C H' s' m' I' hn hC hCL hsz hcl hpn q
 exact⟨m',hn,fun h' hs'=>⟨.ref D,H',I'.turned (t':=s'.toks) (fun b o hb e=>(hs'.2 b hb).trans e) hC hCL (.inr hsz) hcl hpn,rfl,q⟩⟩
theorem a4H{i:Nat}{y:Str}{py spos:Pos}(hc:X.calm=true)(S:CompSc X.env.scope scope X.N Nc k js)(hN:X.N.Nodup)(hy:X.N[i]? = some y)(hi:PI X tg iter wi)(hg:∀C s3 H3 fp xe,PG (y3 X scope Nc C s3 H3 fp xe) tg g)(hf:∀C s3 H3 fp xe,PF (y3 X scope Nc C s3 H3 fp xe) ifs tf)
  (he:∀C s3 H3 fp xe,PE (y3 X scope Nc C s3 H3 fp xe) elt te) (hl:X.env.scope.names.lookup y=some .local:=by rfl) (hs:∀x,foldedSetIterable iter X.env x=pure x:=by intro _;rfl)
  (hsw:swapsWith (.ListComp elt [⟨tg,iter,ifs,0⟩] scope pos) (some (.Name y py)) spos.line X.env=pure true:=by rfl):PS X (.Assign [.Name y py] (.ListComp elt [⟨tg,iter,ifs,0⟩] scope pos) spos) (a2X i wi g tf te k js):=by
 intro pins s σ H N I h
 rw[exec_Assign_Name_used _ _ _ _ hsw]
 refine wpAny_bind (wpAny_standAt (wpAny_bind ?_))
 show wpAny _ X.A (do let _ ← comprehension (.ListComp elt [⟨tg,iter,ifs,0⟩] scope pos) scope X.env _ (newList []) false (eval iter X.env) (some (assign (.Name y py) X.env))) _ _ s
 refine wpAny_bind (j4 (wpAny_comprehension_free (use:=some (assign (.Name y py) X.env)) (Q:=fun _ z=>SP X pins N .next z) rfl hs (V6 (a1n I S)) S.kind S.names
  (j4 (hi pins s σ H _ I h) fun v s1 h1=>j4 h1 fun itv s2 h2=>?_)) fun _ z hq=>wpAny_pure (wpAny_pure hq))
 obtain⟨it,fp,tn,J,H2,rfl,I2,T,st2,f2,hR⟩:=h2
 refine a1o (RR:=fun acc C=>compPost (model X.prog X.w) X.A X.xe (some (assign (.Name y py) X.env)) (fun _ z=>SP X pins N .next z) acc C) (Fin:=fun D H'=>N.nx (σ.set i (some (.ref D))) H') hc S hg hf
  (fun C D H3=>⟨fun _ _=>False,fun _ _ z=>z.elim,fun s3 _ _ _=>he _ _ _ _ _⟩) I2 T st2 f2 hR ?_
 intro D C H' s' m' I' hn hC hCL hsz hcl hpn q
 show wpAny _ X.A (assign (.Name y py) X.env (.ref D)) _ _ s'
 refine wpAny_assign_Name (a19 (v:=.ref D) I' hN hy (.inl hl) rfl (fun s'' I'' ⟨a,hsb,ha⟩=>?_) (.inr hl))
 have hCa:C≠a:=by
  rcases ha with ha | ha
  ·rw[ha];exact hCL
  ·exact fun z=>hcl y a ha z.symm
 exact⟨m',hn.sameBut hsb hCa,fun h' hs'=>⟨_,H',I''.turned (t':=s''.toks) (fun b o hb e=>(hs'.2 b hb).trans e) hC hCL (.inr hsz) hcl hpn,q⟩⟩
end
theorem a5D{K:W.Frag}{a:Addr}{xs:List V}{g:TG}{tf:TT}{te:TE}{k:Nat}{σ0:St}{D:Addr}{Fin:Hp→Prop}{H1:Hp}(Pv:Nat→List V→Hp→Prop)(h0:Pv 0 [] (upd H1 D (.lst [])))(hl:∀i ys H,i≤xs.length→Pv i ys H→SqL K H a xs)
  (hs:∀i x ys H,xs[i]? = some x→Pv i ys H→g x σ0 H fun σ2 H2=>(σ2.drop k=σ0.drop k∧σ2.length=σ0.length)∧tf σ2 H2 fun b H3 =>
   if b=true then te σ2 H3 fun y H4=>H4 D=some (.lst ys)∧ys.length<sizeLine∧Pv (i+1) (ys++[y]) (upd H4 D (.lst (ys++[y])))else Pv (i+1) ys H3)
  (hd:∀ys H,Pv xs.length ys H→Fin H):a0c (Itl K a) g tf te k σ0 D Fin H1:=by
 refine⟨fun i m ys H=>m=xs.length-i∧i≤xs.length∧Pv i ys H,⟨xs.length,by simp,Nat.zero_le _,h0⟩,?_⟩
 rintro i m ys H ⟨rfl,hi,p⟩
 have q:=hl i ys H hi p
 by_cases hlt:i<xs.length
 ·refine .inr ⟨⟨xs,xs[i],q,by simp[hlt]⟩,Pv (i+1),fun ys' H' z=>⟨xs.length-(i+1),by omega,rfl,hlt,z⟩,fun x H' y=>?_⟩
  obtain⟨e,y⟩:=y
  subst e
  exact hs i x ys _ (y xs q) p
 ·have e:i=xs.length:=by omega
  subst e
  exact .inl ⟨⟨xs,q,Nat.le_refl _⟩,hd ys H p⟩
section
variable {X:Cx}{pins:List (Addr×Obj)}{σ:St}{H:Hp}{s:Shared}
theorem Inv.turnedN{h':Heap}{t':Nat}{ch:List Addr}(I:Inv X pins σ H s)(k:∀b u,b ∉ ch→s.heap.get? b=some u→h'.get? b=some u)(hf:∀b∈ch,FpOk X pins H b):Inv X pins σ H { s with heap:=h',toks:=t' }:=by
 have nch:∀b u,H b=some u→b ∉ ch:=fun b u q z=>by rw[(hf b z).1]at q;cases q
 refine I.call (g':=s.gens) (d':=s.drawn) (ch:=ch) ⟨fun b u q _ _ hx=>k b u hx q,fun b u q _ _ hx=>⟨u.slots,k b u hx q⟩,fun b u q n _=>n,fun b u q hx=>⟨u,k b u hx q⟩,fun b xs q=>q,fun b u xs q=>q,fun b ps q=>⟨#[],by rw[q];simp⟩⟩ (fun b u q=>?_) I.bare
  fun b hb=>⟨(hf b hb).2.2.2.1,(hf b hb).2.1,(hf b hb).2.2.2.2.1,(hf b hb).2.2.2.2.2⟩
 refine(I.hok b u q).stay (fun c v hc r=>k c v ?_ r) (fun c z=>z) (fun c xs z=>z) fun c ob u z=>z
 rcases hc with hc | hc
 ·rw[hc];exact nch b u q
 ·exact nch c _ hc
end
section
variable {X:Cx}
theorem a99:bootBuiltins "max" = some (.builtin "max"):=by decide +kernel
end
section
variable {X:Cx}{K:W.Frag}
theorem k9(hK:X.K=K:=by rfl):IxR X (a6H K):=hK▸a8o
theorem d5(hK:X.K=K:=by rfl):IxR X (a6I K):=hK▸a91
theorem a6P(hK:X.K=K:=by rfl):SlR X (a6J K):=hK▸a8p
theorem a9_(hK:X.K=K:=by rfl):J2 X (compareOp .In) (rIn K false):=hK▸a5v
def a33(K:W.Frag):List V→Hp→VK→Prop:=fun xs H Q=>∃p ys,xs=[.ref p]∧(SqL K H p ys∨SqT K H p ys)∧Q (.int ys.length) H
theorem i1(hK:X.K=K:=by rfl):O8 X (.builtin "len") (a33 K):=hK▸a2R
def a34(K:W.Frag):List V→Hp→VK→Prop:=fun xs H Q=>∃p ys,xs=[.ref p]∧(SqL K H p ys∨SqT K H p ys)∧∀l,H l=none→Q (.ref l) (upd H l (.lst ys))
theorem a2s(hK:X.K=K:=by rfl):O8 X (.type "list") (a34 K):=hK▸a2S
theorem J5(hK:X.K=K:=by rfl):O8 X (.builtin "isinstance") (a4G K):=hK▸a6M
theorem M0{es:List Expr}{k:Nat}{t:Z7}{n:Nat}{pos:Pos}(hc:X.calm=true)(h:PGs X es t)(hK:X.K=K:=by rfl)(hn:(assignEach es X.env).length=n:=by rfl)(hst:(assignEach es X.env).findIdx? (·.1)=none:=by rfl) :
  PG X (.Tuple es k pos) (a4w K n t):=hK▸a9R hc h hn hst
variable {o e:Expr}{es:List Expr}{to:TE}{t:TA}{name:Str}{apos cpos:Pos}{T id:String}{r:V→List V→Hp→VK→Prop}
theorem a1P(pa:PlainAttrs T)(slot:Slot T name id)(hty:typeOf (.builtin id)=pure (.type "method_descriptor"))(hm:MtR X id r)(ho:PE X o to)(hK:X.K=K:=by rfl)
  (hbase:attributeBase o name X.env (eval o X.env)=eval o X.env:=by rfl) (hline:(apos.endLine == cpos.line)=true:=by rfl):PE X (.Call (.Attribute o name apos) [] [] cpos) (a4D K T r to):=hK▸a93 pa slot hty hm ho hbase hline
theorem E2(pa:PlainAttrs T)(slot:Slot T name id)(hty:typeOf (.builtin id)=pure (.type "method_descriptor"))(hm:MtR X id r)(ho:PE X o to)(ha:PA X (e::es) t)(hK:X.K=K:=by rfl)
  (hbase:attributeBase o name X.env (eval o X.env)=eval o X.env:=by rfl)
  (hfew:((backTo cpos (starEach (e::es) X.env)).all (fun x=>!x.1) && (backToKw cpos (keywordEach [] X.env)).all (fun x=>x.1.isSome)
   && decide ((e::es).length+([]:List Keyword).length+(if([]:List Keyword).isEmpty then 0 else 1)<30))=true:=by rfl)
  (hline:(apos.endLine == cpos.line)=true:=by rfl) (hs:starEach (e::es) X.env=(false,eval e X.env)::starEach es X.env:=by rfl) (hplain:(backTo cpos (starEach es X.env)).any (·.1)=false:=by rfl) :
  PE X (.Call (.Attribute o name apos) (e::es) [] cpos) (tBM K T r to t):=hK▸b08 pa slot hty hm ho ha hbase hfew hline hs hplain
end
theorem a5E{X:Cx}{x:Str}{j:Nat}{pos:Pos}{es:List Expr}{t:TA}(hr:PA X es t):PA X (.Constant (.str x) j pos::es) (K1 (tC (.str x)) t):=a7 K9 hr
def Gd(n:Nat)(lt:Nat→Nat→Bool){α:Type}:KasT α→(α→Prop)→Prop
 | .ret a,P=>P a
 | .ask i j k,P=>i<n∧j<n∧Gd n lt (k (lt i j)) P
theorem Gd.mono{n:Nat}{lt:Nat→Nat→Bool}{α:Type}{P P':α→Prop}(h:∀a,P a→P' a):∀{t:KasT α},Gd n lt t P→Gd n lt t P'
 | .ret a,g=>h a g
 | .ask i j k,g=>⟨g.1,g.2.1,Gd.mono h g.2.2⟩
theorem Gd.bind{n:Nat}{lt:Nat→Nat→Bool}{α β:Type}{P:β→Prop}{f:α→KasT β}:∀{t:KasT α},Gd n lt t (fun a=>Gd n lt (f a) P)→Gd n lt (t.bind f) P
 | .ret a,g=>g
 | .ask i j k,g=>⟨g.1,g.2.1,Gd.bind (t:=k (lt i j)) g.2.2⟩
def ga(p:Array Nat)(k:Nat):Nat:=p.getD k 0
theorem a7X(p:Array Nat)(k:Nat):ga p k=(p[k]?).getD 0:=by
 unfold ga;simp[Array.getD_eq_getD_getElem?]
structure TPre(lt:Nat→Nat→Bool):Prop where
 irr:∀i,lt i i=false
 tr:∀i j k,lt j i=false→lt k j=false→lt k i=false
 asy:∀i j,lt i j=true→lt j i=false
section
variable {n:Nat}{lt:Nat→Nat→Bool}
def Pmn(n:Nat)(p:Array Nat):Prop:=p.toList.Perm (List.range n)
theorem Pmn.size{p:Array Nat}(h:Pmn n p):p.size=n:=by have:=h.length_eq;simpa using this
theorem Pmn.rev{p:Array Nat}(h:Pmn n p)(i j:Nat):Pmn n (kas_rev p i j):=((Array.perm_iff_toList_perm.mp (mirror_perm p i j _)).trans h)
theorem Pmn.bub{p:Array Nat}(h:Pmn n p)(i j:Nat):Pmn n (bubble p i j):=((Array.perm_iff_toList_perm.mp (bubble_perm p i j)).trans h)
theorem b0a{p:Array Nat}{i j:Nat}(hj:j≤p.size)(k:Nat):ga (kas_rev p i j) k=if i≤k∧k<j then ga p (i+j-1-k)else ga p k:=by
 rw[a7X,kas_rev,getElem?_mirror_all hj]
 split<;>rw[a7X]
end
theorem a1Q:∀a:List Int,HT.lexLt a a=false
 | []=>rfl
 | x::xs=>by rw[HT.lexLt_cons,if_pos rfl];exact a1Q xs
theorem a1R:∀a b:List Int,HT.lexLt a b=true→HT.lexLt b a=false
 | [],[],h=>by cases h
 | [],_::_,_=>rfl
 | _::_,[],h=>by cases h
 | x::xs,y::ys,h=>by
  rw[HT.lexLt_cons]at h ⊢
  by_cases e:x=y
  ·rw[if_pos e]at h;rw[if_pos e.symm];exact a1R xs ys h
  ·rw[if_neg e]at h;rw[if_neg (Ne.symm e)]
   have:=of_decide_eq_true h
   exact decide_eq_false (by omega)
theorem a2Y:∀a b c:List Int,HT.lexLt b a=false→HT.lexLt c b=false→HT.lexLt c a=false
 | [],[],_,_,h=>h
 | [],y::ys,[],_,h=>rfl
 | [],y::ys,z::zs,_,_=>rfl
 | x::xs,[],_,h,_=>by cases h
 | x::xs,y::ys,[],_,h=>by cases h
 | x::xs,y::ys,z::zs,h1,h2=>by
  rw[HT.lexLt_cons]at h1 h2 ⊢
  by_cases e1:y=x
  ·rw[if_pos e1]at h1
   by_cases e2:z=y
   ·rw[if_pos e2]at h2;rw[if_pos (e2.trans e1)];exact a2Y xs ys zs h1 h2
   ·rw[if_neg e2]at h2;rw[if_neg (fun q=>e2 (q.trans e1.symm))];rw[← e1];exact h2
  ·rw[if_neg e1]at h1
   have:=of_decide_eq_false h1
   by_cases e2:z=y
   ·rw[if_neg (fun q=>e1 (e2.symm.trans q)),e2];exact h1
   ·rw[if_neg e2]at h2
    have:=of_decide_eq_false h2
    rw[if_neg (by omega)]
    exact decide_eq_false (by omega)
section
variable {prog:Program}{w:World}{A:Around}{E:Value→Shared→Prop}{s:Shared}{b fin:Bool}{Q:Bool→Shared→Prop}
theorem a0N:∀{vs ws:List Value} {ns ms:List Int} (i:Nat),IntsAre vs ns→IntsAre ws ms→fin=decide (ns.length<ms.length)→Q (HT.lexLt ns ms) s→KatLex prog w A true fin Q (vs.zip ws) i s
 | _,_,_,_,i,.nil,.nil,hf,h=>by rw[List.zip_nil_left];refine kat_nil ?_;rw[hf];exact h
 | _,_,_,_,i,.nil,.cons c u t,hf,h=>by
  rw[List.zip_nil_left];refine kat_nil ?_;rw[hf,decide_eq_true (by simp)];exact h
 | _,_,_,_,i,.cons a t r,.nil,hf,h=>by
  rw[List.zip_nil_right];refine kat_nil ?_;rw[hf,decide_eq_false (by simp)];exact h
 | _,_,_,_,i,.cons (ns:=ns) a t r,.cons (ns:=ms) c u r',hf,h=>by
  rw[List.zip_cons_cons]
  rw[HT.lexLt_cons]at h
  refine kat_cons (wpAny_eqBool_int (kat_go (fun e=>?_) fun e=>?_))
  ·rw[if_pos (by simpa using e)]at h
   exact kat_yes (a0N (i+1) r r' (by rw[hf];simp) h)
  ·rw[if_neg (by simpa using e)]at h
   refine kat_no ?_
   by_cases hi:i=0
   ·subst hi
    show wpAny _ _ (oneLt' true _ _) _ _ _
    exact oneLt_int h
   ·have e0:(true && i == 0)=false:=by simpa using hi
    rw[e0]
    exact kat_one _ _ (PyProof.Rows.lt_int h)
def TupKey(h:Heap)(v:Value)(k:List Int):Prop:=∃a o xs m,v=.ref a∧h.get? a=some o∧o.cls=.type "tuple"∧o.data=.seq xs m∧IntsAre xs.toList k∧k≠[]
theorem TupKey.keeps{h h':Heap}{v:Value}{k:List Int}(t:TupKey h v k)(kp:∀a o,h.get? a=some o→h'.get? a=some o):TupKey h' v k:=by
 obtain⟨a,o,xs,m,e,ho,r⟩:=t
 exact⟨a,o,xs,m,e,kp _ _ ho,r⟩
theorem TupKey.lt{v u:Value}{k l:List Int}{C:Bool→Shared→Prop}{E:Value→Shared→Prop}(t:TupKey s.heap v k)(t':TupKey s.heap u l)(h:C (HT.lexLt k l) s):wpAny (model prog w) A (keyLt' (tuples' true) v u) C E s:=by
 obtain⟨a,o,xs,m,rfl,ho,_,hd,hi,_⟩:=t
 obtain⟨a',o',xs',m',rfl,ho',_,hd',hi',_⟩:=t'
 have z1:xs.size=k.length:=by rw[← hi.length];simp
 have z2:xs'.size=l.length:=by rw[← hi'.length];simp
 exact kat_lt ho hd ho' hd' (a0N 0 hi hi' (by rw[z1,z2]) h)
def TKs(h:Heap):List Value→List (List Int)→Prop
 | [],[]=>True
 | v::vs,k::ks=>TupKey h v k∧TKs h vs ks
 | _,_=>False
theorem TKs.keeps{h h':Heap}(kp:∀a o,h.get? a=some o→h'.get? a=some o):∀{vs:List Value} {ks:List (List Int)},TKs h vs ks→TKs h' vs ks
 | [],[],_=>trivial
 | [],_::_,t=>t.elim
 | _::_,[],t=>t.elim
 | v::vs,k::ks,t=>⟨t.1.keeps kp,TKs.keeps kp t.2⟩
theorem TKs.len{h:Heap}:∀{vs:List Value} {ks:List (List Int)},TKs h vs ks→vs.length=ks.length
 | [],[],_=>rfl
 | [],_::_,t=>t.elim
 | _::_,[],t=>t.elim
 | v::vs,k::ks,t=>by simp[t.2.len]
theorem TKs.at{h:Heap}:∀{vs:List Value} {ks:List (List Int)} (i:Nat),TKs h vs ks→i<vs.length→TupKey h (vs.getD i Value.none) (ks.getD i [])
 | [],_,i,_,hi=>absurd hi (Nat.not_lt_zero _)
 | _::_,[],_,t,_=>t.elim
 | v::vs,k::ks,0,t,_=>t.1
 | v::vs,k::ks,i+1,t,hi=>TKs.at (vs:=vs) (ks:=ks) i t.2 (by simpa using hi)
end
theorem a2i:∀{ys:List V} {us:List Value} (p:List Nat),Vals ys us→(∀i∈p,i<ys.length)→Vals (p.map fun i=>ys.getD i .non) (p.map fun i=>us.getD i Value.none)
 | _,_,[],_,_=>.nil
 | ys,us,i::p,r,h=>by
  have hi:=h i (by simp)
  obtain⟨u,e,ru⟩:=r.get (List.getElem?_eq_getElem hi)
  refine .cons ?_ (a2i p r fun j hj=>h j (by simp[hj]))
  have e1:ys.getD i .non=ys[i]:=by simp[hi]
  have e2:us.getD i Value.none=u:=by simp[e]
  show RelV (ys.getD i .non) (us.getD i Value.none)
  rw[e1,e2];exact ru
namespace F'
end F'
open PySem PySem.Spec PyProof.Rows PySem.W
section
variable {X:Cx}{pins:List (Addr×Obj)}{σ:St}{H:Hp}{s:Shared}{a:Addr}
theorem Inv.trackO{oe:Obj}{vs:Array Value}{k:Nat}{u:HO}(I:Inv X pins σ H s)(ni:¬Imp X pins H a)(e:s.heap.get? a=some oe)(d:oe.data=.seq vs k)(new:ObjOk X.prog X.w (upd H a u) s.heap a u):Inv X pins σ (upd H a u) s:=by
 have fr:H a=none:=by
  cases q:H a with
  | none=>rfl
  | some v=>exact absurd (.inl (by rw[q];exact nofun)) ni
 refine⟨I.ok,I.os,I.bare,⟨I.base.keep,I.base.slot,fun b o e1 n hx=>?_,I.base.there,fun b xs q=>?_,fun b o u q=>?_,fun b ps q=>?_⟩,I.loc,I.cell,?_,fun y c q=>?_,fun p hp=>?_,fun b u q=>?_,I.len⟩
 ·rw[g7 (fun z=>ni (.inr (.inl ⟨by rw[← z];exact hx,o,by rw[← z];exact e1⟩)))]
  exact I.base.free b o e1 n hx
 ·have q1:=I.base.tups b xs q
  rw[g7 (i3 q1 fr)];exact q1
 ·have q1:=I.base.frzs b o u q
  rw[g7 (i3 q1 fr)];exact q1
 ·obtain⟨more,q1⟩:=I.base.tbls b ps q
  exact⟨more,by rw[g7 (i3 q1 fr)];exact q1⟩
 ·rw[g7 fun z=>?_]
  ·exact I.free
  ·obtain⟨m,⟨o,es,ep,ho,hd,_⟩,_⟩:=I.loc
   rw[z,e]at ho;cases ho
   rw[d]at hd;cases hd
 ·rw[g7 fun z=>?_]
  ·exact I.freeC y c q
  ·obtain⟨v,o,ho,hd⟩:=I.cell y c q
   rw[z,e]at ho;cases ho
   rw[d]at hd;cases hd
 ·obtain⟨h1,h2,h3,h4,h5⟩:=I.pin p hp
  exact⟨h1,by rw[g7 (fun z=>ni (.inr (.inr ⟨p,hp,z⟩)))];exact h2,h3,h4,h5⟩
 ·by_cases hb:b=a
  ·subst hb
   rw[i5]at q;cases q
   exact new
  ·rw[g7 hb]at q
   refine(I.hok b u q).stay (fun _ _ _ z=>z) (fun c z=>?_) (fun c xs z=>?_) fun c ob u z=>?_
   ·rw[g7 (i3 z fr)];exact z
   ·rw[g7 (i3 z fr)];exact z
   ·rw[g7 (i3 z fr)];exact z
end
section
variable {prog:Program}{w:World}{A:Around}{E:Value→Shared→Prop}{s:Shared}{fin:Bool}{Q:Bool→Shared→Prop}
theorem a8r{v:Value}(hv:(v == v)=true){E:Value→Shared→Prop}(h:Q true s):wpAny (model prog w) A (eqBool v v) Q E s:=by
 unfold eqBool
 refine wpAny_holding ?_
 rw[if_pos hv]
 exact wpAny_bind (wpAny_rule (wpAny_pure h))
theorem a0O:∀{vs:List Value} (i:Nat),(∀v∈vs,(v == v)=true)→Q fin s→KatLex prog w A true fin Q (vs.zip vs) i s
 | [],i,_,h=>by rw[List.zip_nil_left];exact kat_nil h
 | v::vs,i,hv,h=>by
  rw[List.zip_cons_cons]
  exact kat_cons (a8r (hv v (by simp)) (kat_yes (a0O (i+1) (fun u hu=>hv u (by simp[hu])) h)))
theorem a1p{rs rs':List Value}:∀{vs ws:List Value} {ns ms:List Int} (i:Nat),IntsAre vs ns→IntsAre ws ms→ns.length=ms.length→ns≠ms→Q (HT.lexLt ns ms) s→KatLex prog w A true fin Q ((vs++rs).zip (ws++rs')) i s
 | _,_,_,_,i,.nil,.nil,_,hn,_=>absurd rfl hn
 | _,_,_,_,i,.nil,.cons c u t,hf,_,_=>by simp at hf
 | _,_,_,_,i,.cons a t r,.nil,hf,_,_=>by simp at hf
 | _,_,_,_,i,.cons (ns:=ns) a t r,.cons (ns:=ms) c u r',hf,hn,h=>by
  rw[List.cons_append,List.cons_append,List.zip_cons_cons]
  rw[HT.lexLt_cons]at h
  refine kat_cons (wpAny_eqBool_int (kat_go (fun e=>?_) fun e=>?_))
  ·have e':a=c:=by simpa using e
   rw[if_pos e']at h
   exact kat_yes (a1p (i+1) r r' (by simpa using hf) (fun z=>hn (by rw[e',z])) h)
  ·rw[if_neg (by simpa using e)]at h
   refine kat_no ?_
   by_cases hi:i=0
   ·subst hi
    show wpAny _ _ (oneLt' true _ _) _ _ _
    exact oneLt_int h
   ·have e0:(true && i == 0)=false:=by simpa using hi
    rw[e0]
    exact kat_one _ _ (PyProof.Rows.lt_int h)
def TupPre(h:Heap)(v:Value)(k:List Int):Prop:=∃a o xs m vs rs,v=.ref a∧h.get? a=some o∧o.cls=.type "tuple"∧o.data=.seq xs m∧xs.toList=vs++rs∧IntsAre vs k∧k≠[]∧∀u∈xs.toList,(u == u)=true
theorem TupPre.keeps{h h':Heap}{v:Value}{k:List Int}(t:TupPre h v k)(kp:∀a o,h.get? a=some o→h'.get? a=some o):TupPre h' v k:=by
 obtain⟨a,o,xs,m,vs,rs,e,ho,r⟩:=t
 exact⟨a,o,xs,m,vs,rs,e,kp _ _ ho,r⟩
theorem TupPre.lt{v u:Value}{k l:List Int}{C:Bool→Shared→Prop}(t:TupPre s.heap v k)(t':TupPre s.heap u l)(hl:k.length=l.length)(hn:k≠l)(h:C (HT.lexLt k l) s):wpAny (model prog w) A (keyLt' (tuples' true) v u) C E s:=by
 obtain⟨a,o,xs,m,vs,rs,rfl,ho,_,hd,hx,hi,_⟩:=t
 obtain⟨a',o',xs',m',vs',rs',rfl,ho',_,hd',hx',hi',_⟩:=t'
 refine kat_lt ho hd ho' hd' ?_
 rw[hx,hx']
 exact a1p 0 hi hi' hl hn h
theorem TupPre.lt_self{v:Value}{k:List Int}{C:Bool→Shared→Prop}(t:TupPre s.heap v k)(h:C false s):wpAny (model prog w) A (keyLt' (tuples' true) v v) C E s:=by
 obtain⟨a,o,xs,m,vs,rs,rfl,ho,_,hd,hx,hi,_,hv⟩:=t
 refine kat_lt ho hd ho hd (a0O 0 hv ?_)
 rw[decide_eq_false (Nat.lt_irrefl _)]
 exact h
def TPs(h:Heap):List Value→List (List Int)→Prop
 | [],[]=>True
 | v::vs,k::ks=>TupPre h v k∧TPs h vs ks
 | _,_=>False
theorem TPs.keeps{h h':Heap}(kp:∀a o,h.get? a=some o→h'.get? a=some o):∀{vs:List Value} {ks:List (List Int)},TPs h vs ks→TPs h' vs ks
 | [],[],_=>trivial
 | [],_::_,t=>t.elim
 | _::_,[],t=>t.elim
 | v::vs,k::ks,t=>⟨t.1.keeps kp,TPs.keeps kp t.2⟩
theorem TPs.at{h:Heap}:∀{vs:List Value} {ks:List (List Int)} (i:Nat),TPs h vs ks→i<vs.length→TupPre h (vs.getD i Value.none) (ks.getD i [])
 | [],_,i,_,hi=>absurd hi (Nat.not_lt_zero _)
 | _::_,[],_,t,_=>t.elim
 | v::vs,k::ks,0,t,_=>t.1
 | v::vs,k::ks,i+1,t,hi=>TPs.at (vs:=vs) (ks:=ks) i t.2 (by simpa using hi)
theorem a35:∀{h:Heap} {vs:List Value} {ks:List (List Int)},TPs h vs ks→∃fs,KatTups h vs fs∧fs.length=vs.length∧∀v∈fs,∃i t,v=Value.int i t
 | _,[],[],_=>⟨[],.nil,rfl,fun v h=>by cases h⟩
 | _,[],_::_,t=>t.elim
 | _,_::_,[],t=>t.elim
 | h,v::vs,k::ks,⟨t,r⟩=>by
  obtain⟨fs,h1,h2,h3⟩:=a35 r
  obtain⟨a,o,xs,m,us,rs,rfl,ho,hc,hd,hx,hi,hn,_⟩:=t
  obtain⟨xl⟩:=xs
  cases hi with
  | nil=>exact absurd rfl hn
  | cons n tk hr =>
   simp only at hx
   subst hx
   exact⟨.int n tk::fs,.cons ho hc hd (by simp) h1,by simp[h2],fun v hv=>by
    rcases List.mem_cons.mp hv with rfl | hv
    ·exact⟨n,tk,rfl⟩
    ·exact h3 v hv⟩
end
def VPs(K:W.Frag)(H:Hp):List V→List (List Int)→Prop
 | [],[]=>True
 | v::vs,k::ks=>(∃a rs,v=.ref a∧SqT K H a (k.map V.int++rs)∧k≠[]∧∀r∈rs,∃b,r=.ref b)∧VPs K H vs ks
 | _,_=>False
theorem a1q:∀{k:List Int} {rs:List V} {us:List Value},Vals (k.map V.int++rs) us→∃vs ws,us=vs++ws∧IntsAre vs k∧Vals rs ws
 | [],rs,us,r=>⟨[],us,rfl,.nil,r⟩
 | n::k,rs,_,.cons r t=>by
  obtain⟨vs,ws,e,h1,h2⟩:=a1q (k:=k) t
  obtain⟨tk,e2⟩:=r
  exact⟨.int n tk::vs,ws,by rw[e,e2];rfl,.cons n tk h1,h2⟩
theorem a0P:∀{vs:List Value} {ns:List Int},IntsAre vs ns→∀u∈vs,∃m t,u=Value.int m t
 | _,_,.nil,u,hu=>by cases hu
 | _,_,.cons m t r,u,hu=>by
  rcases List.mem_cons.mp hu with rfl | hu
  ·exact⟨m,t,rfl⟩
  ·exact a0P r u hu
theorem a6Q(n:Int)(t:Tok):(Value.int n t == Value.int n t)=true:=by simp
theorem a6R(a:Addr):(Value.ref a == Value.ref a)=true:=by simp
section
variable {X:Cx}
theorem a37{pins:List (Addr×Obj)}{σ:St}{H:Hp}{s:Shared}(I:Inv X pins σ H s):∀{ys:List V} {us:List Value} {ks:List (List Int)},Vals ys us→VPs X.K H ys ks→TPs s.heap us ks
 | [],_,[],.nil,_=>trivial
 | [],_,_::_,_,h=>h.elim
 | _::_,_,[],_,h=>h.elim
 | v::ys,_,k::ks,.cons r rs,⟨⟨a,zs,e,hq,hn,hz⟩,h⟩=>by
  refine⟨?_,a37 I rs h⟩
  subst e
  obtain⟨its,rv,⟨o,ho,hc,n,hd⟩,_⟩:=I.tuple hq
  obtain⟨vs,ws,e,hi,hw⟩:=a1q rv
  refine⟨a,o,_,n,vs,ws,r,ho,hc,hd,by simpa using e,hi,hn,?_⟩
  intro u hu
  have hu:u∈its:=by simpa using hu
  rw[e]at hu
  rcases List.mem_append.mp hu with hu | hu
  ·obtain⟨m,t,rfl⟩:=a0P hi u hu
   exact a6Q m t
  ·obtain⟨j,hj,e2⟩:=List.mem_iff_getElem.mp hu
   have hl:=hw.length
   have hj2:j<zs.length:=by omega
   obtain⟨w',q1,q2⟩:=hw.get (List.getElem?_eq_getElem hj2)
   obtain⟨b,eb⟩:=hz zs[j] (List.getElem_mem hj2)
   rw[eb]at q2
   rw[List.getElem?_eq_getElem hj,e2]at q1
   cases q1
   cases q2
   exact a6R b
end
theorem a2t{pos:Pos}{a b:Int}{c cv:Value}(l:List Value)(h:TriplesOk l)(e:codeAmong pos (l++[rawInt a,rawInt b,c])=some cv):codeAmong pos l=some cv∨cv=c:=by
 fun_induction TriplesOk l with
 | case1 =>
  simp only[List.nil_append,codeAmong,rawInt]at e
  split at e
  ·exact .inr (Option.some.inj e).symm
  ·cases e
 | case2 a t b u x l5 ih =>
  simp only[List.cons_append,codeAmong]at e ⊢
  split at e
  ·exact .inl (by rename_i z;rw[if_pos z];exact e)
  ·rename_i z;rw[if_neg z];exact ih h e
 | case3=>exact h.elim
def a0y(oc:Obj)(q:Str):Prop:=∃vs t,oc.data=.fields vs∧vs[1]? = some (.str q t)
section
variable {X:Cx}{pins:List (Addr×Obj)}{σ:St}{H:Hp}{s:Shared}{params:Arguments}{body:Expr}{scope:Scope}{lpos:Pos}{c P:Addr}{q:Str}{tq:Tok}{qs:Array Value}{Q:Value→Shared→Prop}{E:Value→Shared→Prop}
abbrev V7(X:Cx)(params:Arguments)(body:Expr)(scope:Scope)(q:Str)(c':Addr)(pm ctv:Value):Obj:=kla_obj "<lambda>" q params body scope (A4 X.env.cells scope.names []) pm c' ctv
theorem Inv.grown{h':Heap}{tk:Nat}{c':Addr}{oc:Obj}{ps:Array Value}{a b:Int}(I:Inv X pins σ H s)(hT:H P=some (.tbl qs))(hqs:qs[0]? = some (Value.str q tq))(eP:s.heap.get? P=some (tabObj ps))(tr:TriplesOk ps.toList)
  (al:∀pos cv,codeAmong pos ps.toList=some cv→∃c oc u,cv=Value.ref c∧H c=some (.frz oc u)∧∃vs q' t t2,oc.data=.fields vs∧vs[1]? = some (Value.str q' t2)∧qs[0]? = some (Value.str q' t))
  (hx:Heap.ExtBut P s.heap h') (hge:s.heap.objs.size≤c') (hoc:h'.get? c'=some oc) (hq:a0y oc q) (htb:h'.get? P=some (tabObj (ps ++ #[rawInt a,rawInt b,.ref c']))) :
  Inv X pins σ (upd H c' (.frz oc (.own c'))) { s with heap:=h',toks:=tk }:=by
 have hn:H c'=none:=I.hok.fresh hge
 have neP:∀b',H b'=none→b'≠P:=fun b' n z=>by rw[z,hT]at n;cases n
 refine I.un (t':=tk) ⟨fun b o e n _ _=>hx b o (neP b n) e,fun b o e n _ _=>⟨o.slots,hx b o (neP b n) e⟩,fun b o e n _=>by rw[g7 (Nat.ne_of_lt (Nat.lt_of_lt_of_le (Heap.lt_size e) hge))];exact n,fun b o e _=>?_,fun b xs e=>by rw[g7 (i3 e hn)];exact e,fun b o u e=>by rw[g7 (i3 e hn)];exact e,fun b qs e=>⟨#[],by rw[g7 (i3 e hn),e];simp⟩⟩ fun b u e=>?_
 ·by_cases z:b=P
  ·rw[z];exact⟨_,htb⟩
  ·exact⟨o,hx b o z e⟩
 ·by_cases z:b=c'
  ·subst z
   rw[i5]at e;cases e
   exact⟨hoc,oc,hoc⟩
  ·rw[g7 z]at e
   by_cases y:b=P
   ·subst y
    rw[hT]at e;cases e
    refine⟨_,htb,by rw[Array.toList_append];exact TriplesOk_snoc _ _ _ _ tr,fun pos cv e=>?_⟩
    rw[Array.toList_append]at e
    rcases a2t _ tr e with e | rfl
    ·obtain⟨c,o,u,e1,e2,r⟩:=al pos cv e
     exact⟨c,o,u,e1,by rw[g7 (i3 e2 hn)];exact e2,r⟩
    ·obtain⟨vs,t,d1,d2⟩:=hq
     exact⟨c',oc,.own c',rfl,i5,vs,q,tq,t,d1,d2,hqs⟩
   ·refine(I.hok b u e).stay (fun d v hd r=>hx d v ?_ r) (fun d r=>by rw[g7 (i3 r hn)];exact r) (fun d xs r=>by rw[g7 (i3 r hn)];exact r) fun d o u r=>by rw[g7 (i3 r hn)];exact r
    rcases hd with rfl | hd
    ·exact y
    ·intro z;rw[z,hT]at hd;cases hd
theorem a6S(I:Inv X pins σ H s)(hd:defaultsOf params X.env=([],[]))(hcode:X.env.code=.ref c)(C:CodeHd X.base c P)(hbl:X.base.BuiltinsAt X.mg P)(hT:H P=some (.tbl qs))(hqs:qs[0]? = some (Value.str q tq))(hq:q=X.env.qual ++ "<lambda>")
  (hfree:∀y∈scope.names,y.2=.free→X.env.scope.names.lookup y.1=some .cell∨X.env.scope.names.lookup y.1=some .free)
  (h:∀f c' oc u pm ctv H' s',Inv X pins σ H' s'→(∀a o,H a=some o→H' a=some o)→H' f=some (.frz (V7 X params body scope q c' pm ctv) (.own f))→H' c'=some (.frz oc u)→a0y oc q→Q (.ref f) s') :
  wpAny (model X.prog X.w) X.A (eval (.Lambda params body scope lpos) X.env) Q E s:=by
 refine kla_eval hd ?_
 subst hq
 obtain⟨ps,eP,tr,al⟩:=I.hok P _ hT
 have hcl:=V6 (scope:=scope) (env:=X.env) fun y hy hk=>I.ok.has y.1 (hfree y hy hk)
 have hg:s.heap.Ns mainGlobals X.mg:=I.mod.glob.keeps I.bk
 obtain⟨bm,ob,b1,b2,b3,b4,b5,b6,b7,b8⟩:=hbl
 have hb:s.heap.BuiltinsAt X.mg P:=⟨bm,ob,b1,b2,b3,b4,I.bk _ _ b5,b6,b7,b8⟩
 have lay:∀(H1:Hp) (h1:Heap) (tk:Nat) (c':Addr) (oc:Obj) (u:HO) (pm ctv:Value),Inv X pins σ H1 { s with heap:=h1,toks:=tk }→(∀a o,H a=some o→H1 a=some o)→H1 c'=some (.frz oc u)→a0y oc (X.env.qual ++ "<lambda>")→Q (.ref h1.objs.size) { s with heap:=h1.push (V7 X params body scope (X.env.qual ++ "<lambda>") c' pm ctv),toks:=tk }:=by
  intro H1 h1 tk c' oc u pm ctv I1 ex e3 e4
  have hf:H1 h1.objs.size=none:=I1.hok.fresh (Nat.le_refl _)
  have hgt:(h1.push (V7 X params body scope (X.env.qual ++ "<lambda>") c' pm ctv)).get? h1.objs.size=some (V7 X params body scope (X.env.qual ++ "<lambda>") c' pm ctv):=Heap.get?_push_size _ rfl
  have I2:=I1.laid (a:=h1.objs.size) (o:=.frz (V7 X params body scope (X.env.qual ++ "<lambda>") c' pm ctv) (.own h1.objs.size)) (t':=tk) (fun b o e=>Heap.get?_push_of_some (V7 X params body scope (X.env.qual ++ "<lambda>") c' pm ctv) e) (Nat.le_refl _) ⟨hgt,_,hgt⟩
  refine h _ c' oc u pm ctv _ _ I2 (fun a o e=>?_) i5 ?_ e4
  ·rw[g7 (i3 (ex a o e) hf)];exact ex a o e
  ·rw[g7 (i3 e3 hf)];exact e3
 cases e:codeAmong lpos ps.toList with
 | some cv =>
  obtain⟨c',oc,u,rfl,hc',vs,q',t,t2,d1,d2,d3⟩:=al lpos cv e
  have hq:q'=X.env.qual ++ "<lambda>" := by
   rw[hqs]at d3
   injection d3 with d3
   injection d3 with d3
   exact d3.symm
  subst hq
  refine kla_makeFunctionHit (mg:=X.mg) hcl I.ok.glob hg hcode (C.keeps I.bk) eP tr e hb fun ctv h' tk hk hsz=>?_
  exact lay H h' tk c' oc u _ ctv (I.kept hk) (fun _ _ e=>e) hc' ⟨vs,t2,d1,d2⟩
 | none =>
  have hgP:mainGlobals≠P:=fun z=>by
   obtain⟨o,es,ep,e1,hd,_⟩:=hg
   rw[z,eP]at e1;cases e1;cases hd
  refine kla_makeFunction (mg:=X.mg) hcl I.ok.glob hg hcode (C.keeps I.bk) eP tr e hgP hb fun c' ctv h' tk hx hge hlt hrec htb=>?_
  obtain⟨c2,oc,vs,t,e2,hoc,hd,hv⟩:=hrec
  cases e2
  exact lay _ h' tk c' oc (.own c') _ ctv (I.grown (tk:=tk) hT hqs eP tr al hx hge hoc ⟨vs,t,hd,hv⟩ htb) (fun a o e=>by rw[g7 (i3 e (I.hok.fresh hge))];exact e) i5 ⟨vs,t,hd,hv⟩
end
abbrev a2Z(X:Cx)(scope:Scope)(q:Str)(L f c':Addr):Env:=envX q scope L f (.ref c') (A4 X.env.cells scope.names [])
abbrev a4I(X:Cx)(A':Around)(scope:Scope)(q:Str)(Nc:List Str)(f c':Addr)(s:Shared)(H:Hp):Cx :=
 { X with A:=A'.deeper (a2Z X scope q s.heap.objs.size f c'),N:=Nc,s₀:=s,H₀:=H,env:=a2Z X scope q s.heap.objs.size f c',outer:=X.stack,stack:=a2Z X scope q s.heap.objs.size f c'::X.stack,ex:=[],fn:=fun _=>false,calm:=true,pn:=[],xe:=fun _ _=>False }
def a2A(js:List Nat)(σ:St)(x:V):St:=some x::js.map fun j=>(σ[j]?).getD none
section
variable {X:Cx}{pins:List (Addr×Obj)}{σ:St}{H:Hp}{s:Shared}{A':Around}{params:Arguments}{body:Expr}{scope:Scope}{q kn:Str}{f c':Addr}{Nc:List Str}{js:List Nat}{h₁:Heap}{tk:Nat}{v:Value}{x:V}
theorem a8s(I:Inv X pins σ H s)(hA:A'.frames=some X.stack)(hh:A'.handled=none)(S:CompSc X.env.scope scope X.N Nc 1 js)(hk0:Nc[0]? = some kn)(hloc:scope.names.lookup kn=some .local)
  (hns:h₁.Ns s.heap.objs.size (fun y=>([(kn,v)]:List (Str×Value)).reverse.lookup y)) (old:∀b o,s.heap.get? b=some o→h₁.get? b=some o) (rv:RelV x v) :
  Inv (a4I X A' scope q Nc f c' s H) [] (a2A js σ x) H { s with heap:=h₁,toks:=tk }:=by
 have ok:=I.ok
 refine⟨⟨ok.mod,S.kind,rfl,rfl,Nat.le_refl _,fun x y c h1 h2=>ok.inj x y c (B3 h1) (B3 h2),fun y hy=>?_,(fun x c z=>nomatch z),fun _=>hh,Around.frames_deeper hA,.inr ⟨rfl,rfl⟩,fun b hb=>absurd (show b∈([]:List Addr)from hb) (by simp),I.bs,Nat.le_trans ok.bsz I.sz,fun b o e hb=>absurd (show b∈([]:List Addr)from hb) (by simp),fun b hb=>absurd (show b∈([]:List Addr)from hb) (by simp),I.stack,I.stkFree⟩,
  rfl,I.bare,Un.kept old,⟨_,hns,fun i y w e1 e2 e3=>?_⟩,fun y c e=>?_,I.hok.fresh (Nat.le_refl _),fun y c e=>I.freeC y c (B3 e),fun p hp=>absurd (show p∈([]:List (Addr×Obj))from hp) (by simp),I.hok.kept old,?_⟩
 ·have hy:scope.names.lookup y=some .cell∨scope.names.lookup y=some .free:=hy
  rcases hy with hy | hy
  ·exact absurd rfl (S.cell _ (D6 hy))
  ·exact J4 (D6 hy) (ok.has y (S.free _ (D6 hy) rfl))
 ·cases i with
  | zero =>
   have e1:Nc[0]? = some y:=e1
   rw[hk0]at e1;cases e1
   have e2:some (some x)=some (some w):=e2
   cases e2
   refine⟨v,rv,.inl ⟨hloc,?_⟩⟩
   show([(kn,v)]:List (Str×Value)).reverse.lookup kn=some v
   simp
  | succ i =>
   have e2:(js.map fun j=>(σ[j]?).getD none)[i]? = some (some w):=e2
   rw[List.getElem?_map]at e2
   cases hj:js[i]? with
   | none=>rw[hj]at e2;cases e2
   | some j =>
    rw[hj]at e2
    have e2':(σ[j]?).getD none=some w:=Option.some.inj e2
    have hσ:σ[j]? = some (some w):=by
     cases z:σ[j]? with
     | none=>rw[z]at e2';cases e2'
     | some y=>rw[z]at e2';simp at e2';rw[e2']
    have e1:Nc[i+1]? = some y:=e1
    have hx:(Nc.drop 1)[i]? = some y:=by rw[List.getElem?_drop,show 1+i=i+1 by omega];exact e1
    have hNj:X.N[j]? = some y:=by
     have:=congrArg (fun l=>l[i]?) S.cap
     simp only[List.getElem?_map,hx,hj,Option.map_some]at this
     exact(Option.some.inj this).symm
    have hfr:scope.names.lookup y=some .free:=S.caps y (List.mem_of_getElem? hx)
    have hk:=S.free _ (D6 hfr) rfl
    obtain⟨m,hn,hl⟩:=I.loc
    obtain⟨u,r,l⟩:=hl j y w hNj hσ (.inr hk)
    refine⟨u,r,.inr ⟨.inr hfr,?_⟩⟩
    rcases l with⟨l1,_⟩ | ⟨_,c,hc,hcell⟩
    ·have l1:X.env.scope.names.lookup y=some .local:=l1
     rcases hk with hk | hk
     ·rw[l1]at hk;cases hk
     ·rw[l1]at hk;cases hk
    ·obtain⟨d,hd⟩:=J4 (cells:=X.env.cells) (acc:=[]) (D6 hfr) ⟨c,hc⟩
     have:=B3 hd
     rw[hc]at this;cases this
     obtain⟨o,ho,hdd⟩:=hcell
     exact⟨c,hd,⟨o,old _ _ ho,hdd⟩⟩
 ·obtain⟨w,o,ho,hd⟩:=I.cell y c (B3 e)
  exact⟨w,o,old _ _ ho,hd⟩
 ·unfold a2A
  rw[List.length_cons,List.length_map]
  have:=S.len
  show _=Nc.length
  omega
theorem a6T{oc:Obj}{u u':HO}{pm ctv:Value}{te:TE}{Qk:VK}(I:Inv X pins σ H s)(hA:A'.frames=some X.stack)(hh:A'.handled=none)(hdp:A'.depth<recursionLimit)(S:CompSc X.env.scope scope X.N Nc 1 js)(hk0:Nc[0]? = some kn)(hloc:scope.names.lookup kn=some .local)
  (hf:H f=some (.frz (V7 X params body scope q c' pm ctv) u')) (hc:H c'=some (.frz oc u)) (hq:a0y oc q) (hbind:bindArgs (kla_fn "<lambda>" q params body scope (A4 X.env.cells scope.names []) pm (.ref c') ctv) ⟨[v],[]⟩=pure [(kn,v)])
  (hco:scope.isCoroutine=false) (hgen:scope.isGenerator=false) (hbody:PE (a4I X A' scope q Nc f c' s H) body te) (rv:RelV x v) (ht:te (a2A js σ x) H Qk) :
  wpAny (model X.prog X.w) A' (call (.ref f) [v]) (fun w s'=>∃y H2,Inv X pins σ H2 s'∧RelV y w∧Qk y H2∧Un (E5 X.stack) [] H H2 s.heap s'.heap) (fun _ _=>False) s:=by
 have ef:s.heap.get? f=some (V7 X params body scope q c' pm ctv):=(I.hok f _ hf).1
 have ec:s.heap.get? c'=some oc:=(I.hok c' _ hc).1
 obtain⟨vs,t,d1,d2⟩:=hq
 refine wpAny_call (kla_callFunE hdp ef rfl hco hgen rfl ⟨c',oc,vs,t,rfl,ec,d1,d2⟩ ?_)
 rw[hbind]
 refine wpAny_pure (wpAny_newFunctionEnv S.cell (by
  intro y hy
  rw[List.mem_singleton.mp hy]
  exact hloc) (fun h₁ hns hsb=>⟨I.nolimit.fresh _ hsb,?_⟩) S.kind)
 have old:∀b o,s.heap.get? b=some o→h₁.get? b=some o:=fun b o e=>hsb.extBut b o (Nat.ne_of_lt (Heap.lt_size e)) (Heap.get?_push_of_some _ e)
 have J:=a8s (q:=q) (f:=f) (c':=c') (tk:=s.toks+([(kn,v)]:List (Str×Value)).length) I hA hh S hk0 hloc hns old rv
 refine kla_codeExpr (wpAny_mono (hbody [] _ _ H _ J ht) (fun w s' hw=>?_) fun _ _ z=>z.elim)
 obtain⟨y,H2,I2,ry,q2⟩:=hw
 exact⟨y,H2,I.call' (ch:=[]) (I2.os.trans rfl) I2.base I2.hok I2.bare (fun b hb=>absurd hb (by simp)),ry,q2,I2.base⟩
end
section
variable {X:Cx}{pins:List (Addr×Obj)}{σ:St}{H:Hp}{s:Shared}{A':Around}{E:Value→Shared→Prop}
theorem FpOk.nstk{H':Hp}{b:Addr}(I:Inv X pins σ H s)(f:FpOk X pins H' b):b ∉ E5 X.stack:=fun z=>by
 rcases List.mem_cons.mp (I.stkSub b z)with q | q
 ·exact f.2.1 q
 ·exact f.2.2.1 q
theorem FpOk.to{H':Hp}{b:Addr}(f:FpOk X pins H b)(n:H' b=none):FpOk X pins H' b:=⟨n,f.2⟩
theorem a8t{xs:List V}{vs:List Value}(r:Vals xs vs){j:Nat}{u:Value}(h:vs[j]? = some u):∃x,xs[j]? = some x∧RelV x u:=by
 have hj:=(List.getElem?_eq_some_iff.mp h).1
 have hl:=r.length
 obtain⟨u',e,q⟩:=r.get (List.getElem?_eq_getElem (l:=xs) (i:=j) (by omega))
 rw[h]at e;cases e
 exact⟨_,List.getElem?_eq_getElem (by omega),q⟩
end
def TbAt(P:Addr)(q:Str)(H:Hp):Prop:=∃(qs:Array Value) (t:Tok),H P=some (.tbl qs)∧qs[0]? = some (Value.str q t)
theorem TbAt.now{P:Addr}{q:Str}{fs ex:List Addr}{H H':Hp}{h h':Heap}(t:TbAt P q H)(u:Un fs ex H H' h h'):TbAt P q H':=by
 obtain⟨qs,t,e,e2⟩:=t
 obtain⟨more,e3⟩:=u.tbls _ _ e
 refine⟨_,t,e3,?_⟩
 have h0:0<qs.size:=by
  by_cases z:0<qs.size
  ·exact z
  ·rw[Array.getElem?_eq_none (by omega)]at e2;cases e2
 rw[Array.getElem?_append_left h0];exact e2
section
variable {X:Cx}
theorem a3D:bootBuiltins "sorted" = some (.builtin "sorted"):=by decide +kernel
end
def E6(TB:List (Addr×Str))(H:Hp):Hp:=fun b=>match TB.lookup b with
 | some q=>some (.tbl #[.str q 0])
 | none=>H b
def TbAll(TB:List (Addr×Str))(H:Hp):Prop:=∀P q,TB.lookup P=some q→TbAt P q H
theorem TbAll.now{TB:List (Addr×Str)}{fs ex:List Addr}{H H':Hp}{h h':Heap}(t:TbAll TB H)(u:Un fs ex H H' h h'):TbAll TB H':=fun P q e=>(t P q e).now u
theorem a8u(TB:List (Addr×Str))(H:Hp):TbAll TB (E6 TB H):=fun P q e=>⟨#[.str q 0],0,by unfold E6;rw[e],rfl⟩
theorem a5F{P:Program}{w:World}{K:W.Frag}{mg mb:Str→Option Value}{CX:U2}{k:Nat}{fa a:Addr}{fd:FuncData}{x:Str}{sp:Sp}{s₁:Shared}{vs:List Value}{ns:List Int}{TB:List (Addr×Str)}
  (KX:K.In s₁.heap) (hns:s₁.heap.Ns mainGlobals mg) (hb:s₁.heap.Ns builtinsNs mb) (hbb:∀x:Str,x≠"__name__"→mb x=bootBuiltins x) (hlim:s₁.heap.NoLimit) (hg:s₁.gens = #[])
  (ha:s₁.heap.get? a=some { cls:=.type "list",data:=.seq vs.toArray }) (hi:IntsAre vs ns) (hl:ns.length≤sizeLine) (hr:Room k callerA)
  (hT:∀Pa q,TB.lookup Pa=some q→(∃c,s₁.heap.TableAt c Pa #[])∧K.lookup Pa=none)
  (F:∀base:Heap,K.In base→base.Ns mainGlobals mg→(∀b o,s₁.heap.get? b=some o→TB.lookup b=none→b≠a→base.get? b=some o)→FnOk P w K mg base CX k fa fd [x] sp) (hbind:∀(s:Shared) (u:Value),BindsTo s fd ⟨[u],[]⟩ [(x,u)])
  (hsp:∀H:Hp,TbAll TB H→Scr K H a (ns.map V.int)→sp [.ref a] H (fun v _=>v=.bl true) fun _ _ _=>False)
  (hCX:∀H e s',CX [] H s₁ (fun _ _ _=>False) e s'→False) :
  codeAny (model P w) callerA (.call (.ref fa) ⟨[.ref a],[]⟩) (fun r s'=>r=.ok (.ret (.bool true))∧OldK s₁.heap s'.heap∧s'.os=s₁.os∧AllBare s'.gens) s₁:=by
 have rv:=a2h hi
 have lenV:=hi.length
 have tabA:∀{Pa q},TB.lookup Pa=some q→s₁.heap.get? Pa=some (tabObj #[]):=fun{Pa q} e=>by
  obtain⟨⟨c,_,e2⟩,_⟩:=hT Pa q e
  exact e2
 have neA:TB.lookup a=none:=by
  cases e:TB.lookup a with
  | none=>rfl
  | some q=>have:=tabA e;rw[ha]at this;cases this
 have core:∀H0:Hp,Scr K (E6 TB H0) a (ns.map V.int)→HOk P w (E6 TB H0) s₁.heap→(∀b,H0 b=none∨∃o xs,H0 b=some (.frz o (.lst xs)))→(∀b,H0 b≠none→b=a)→(H0 a≠none→K.lookup a=none) →
   codeAny (model P w) callerA (.call (.ref fa) ⟨[.ref a],[]⟩) (fun r s'=>r=.ok (.ret (.bool true))∧OldK s₁.heap s'.heap∧s'.os=s₁.os∧AllBare s'.gens) s₁:=by
  intro H0 hS hok hO hA hK
  have cs:∀b,(∃q,TB.lookup b=some q∧E6 TB H0 b=some (.tbl #[.str q 0]))∨(TB.lookup b=none∧E6 TB H0 b=H0 b):=fun b=>by
   unfold E6
   cases e:TB.lookup b with
   | none=>exact .inr ⟨rfl,rfl⟩
   | some q=>exact .inl ⟨q,rfl,rfl⟩
  have base_of:∀{b:Addr} {o:Obj},s₁.heap.get? b=some o→E6 TB H0 b=none→(V5 s₁.heap (E6 TB H0)).get? b=some o:=fun e n=>a6z e n
  have noA:∀{b:Addr} {o:Obj} {es:Array DictEntry} {ep:Nat},s₁.heap.get? b=some o→o.data=.dict es ep→E6 TB H0 b=none:=fun{b o es ep} e d=>by
   rcases cs b with⟨q,e1,_⟩ | ⟨e1,e2⟩
   ·have:=tabA e1;rw[e]at this;cases this;cases d
   ·rw[e2]
    cases q:H0 b with
    | none=>rfl
    | some u =>
     have e':b=a:=hA b (by rw[q];simp)
     subst e'
     rw[ha]at e;cases e
     cases d
  have nsK:∀{b:Addr} {m:Str→Option Value},s₁.heap.Ns b m→(V5 s₁.heap (E6 TB H0)).Ns b m:=fun{b m} ⟨o,es,ep,e,d,r⟩=>⟨o,es,ep,base_of e (noA e d),d,r⟩
  have hKb:K.In (V5 s₁.heap (E6 TB H0)):=fun b o e=>base_of (KX b o e) (by
   rcases cs b with⟨q,e1,_⟩ | ⟨e1,e2⟩
   ·rw[(hT b q e1).2]at e;cases e
   ·rw[e2]
    cases q:H0 b with
    | none=>rfl
    | some u =>
     have e':b=a:=hA b (by rw[q];simp)
     subst e'
     rw[hK (by rw[q];simp)]at e;cases e)
  have hM:Mod K mg (V5 s₁.heap (E6 TB H0)):=⟨hKb,nsK hns,⟨mb,nsK hb,hbb⟩,let ⟨mc,h1,h2⟩:=hlim; ⟨mc,nsK h1,h2⟩⟩
  have e0:Env0 P w K mg (V5 s₁.heap (E6 TB H0)) callerA [] s₁ (E6 TB H0):=⟨rfl,hM,fun b o e=>a8f e,Nat.le_of_eq (a5e _ _),trivial,fun b hb=>absurd (show b∈([]:List Addr)from hb) (by simp),hok,.of_eq hg⟩
  have bk:∀b o,s₁.heap.get? b=some o→TB.lookup b=none→b≠a→(V5 s₁.heap (E6 TB H0)).get? b=some o:=fun b o e n na=>base_of e (by
   rcases cs b with⟨q,e1,_⟩ | ⟨e1,e2⟩
   ·rw[n]at e1;cases e1
   ·rw[e2]
    cases q:H0 b with
    | none=>rfl
    | some u=>exact absurd (hA b (by rw[q];simp)) na)
  refine codeAny_mono ((F _ hKb (nsK hns) bk).run callerA [] s₁ (E6 TB H0) ⟨[.ref a],[]⟩ [.ref a] [.ref a] _ _ hr e0 (hbind s₁ (.ref a)) (.cons rfl .nil) (hsp _ (a8u TB H0) hS)) fun r s' h=>?_
  cases r with
  | error e=>exact(hCX _ e s' h).elim
  | ok fl =>
   cases fl with
   | next=>exact False.elim h
   | brk=>exact False.elim h
   | cont=>exact False.elim h
   | ret u =>
    obtain⟨v,H',os,bare,un,hok',r',q⟩:=h
    have q':v=.bl true:=q
    subst q'
    obtain rfl:u=Value.bool true:=r'
    refine⟨rfl,?_,os,bare⟩
    have kpt:∀b o,s₁.heap.get? b=some o→TB.lookup b=none→s'.heap.get? b=some o:=fun b o e n=>by
     rcases cs b with⟨q,e1,_⟩ | ⟨_,e2⟩
     ·rw[n]at e1;cases e1
     ·cases q:H0 b with
      | none=>exact un.keep b o e (by rw[e2,q]) (by intro z;exact absurd (show b∈([]:List Addr)from z) (by simp)) (by simp)
      | some u =>
       rcases hO b with z | ⟨ob,xs,z⟩
       ·rw[q]at z;cases z
       ·rw[← e2]at z
        have z2:=un.frzs b ob _ z
        obtain⟨e1,_⟩:=hok b _ z
        obtain⟨e2,_⟩:=hok' b _ z2
        rw[e]at e1;cases e1
        exact e2
    have tbt:∀b q,TB.lookup b=some q→∃ps,s'.heap.get? b=some (tabObj ps):=fun b q e=>by
     rcases cs b with⟨q',e1,e2⟩ | ⟨e1,_⟩
     ·obtain⟨more,e3⟩:=un.tbls b _ e2
      obtain⟨ps,e4,_⟩:=hok' b _ e3
      exact⟨ps,e4⟩
     ·rw[e]at e1;cases e1
    refine⟨fun b o e=>?_,fun b o e=>?_⟩
    ·cases n:TB.lookup b with
     | none=>exact .inl (kpt b o e n)
     | some q =>
      obtain⟨ps,e4⟩:=tbt b q n
      have e5:=tabA n
      rw[e]at e5;cases e5
      obtain⟨⟨c,ht⟩,_⟩:=hT b q n
      exact .inr (.inl ⟨ht.isCodeTable,rfl,#[],ps,rfl,by rw[e4];simp⟩)
    ·cases n:TB.lookup b with
     | none=>exact⟨o,kpt b o e n⟩
     | some q=>obtain⟨ps,e4⟩:=tbt b q n;exact⟨_,e4⟩
 have tabOk:∀H0 b u,TB.lookup b≠none→E6 TB H0 b=some u→ObjOk P w (E6 TB H0) s₁.heap b u:=fun H0 b u n e=>by
  cases q:TB.lookup b with
  | none=>exact absurd q n
  | some q' =>
   have e':E6 TB H0 b=some (.tbl #[.str q' 0]):=by unfold E6;rw[q]
   rw[e']at e;cases e
   exact⟨#[],tabA q,trivial,fun pos cv z=>by cases z⟩
 cases hk:K.lookup a with
 | some o =>
  have e:=KX a o hk
  rw[ha]at e
  cases e
  refine core (fun _=>none) (.inr ⟨_,vs.toArray,_,hk,rfl,rfl,rfl,by rw[List.size_toArray,lenV];exact hl,by simpa using rv⟩) (fun b u z=>?_) (fun _=>.inl rfl) (fun b z=>absurd rfl z) fun z=>absurd rfl z
  cases n:TB.lookup b with
  | none =>
   have z':E6 TB (fun _=>none) b=none:=by unfold E6;rw[n]
   rw[z']at z;cases z
  | some q=>exact tabOk _ b u (by rw[n];simp) z
 | none =>
  refine core (fun b=>if b=a then some (.frz { cls:=.type "list",data:=.seq vs.toArray } (.lst (ns.map V.int)))else none) (.inl ⟨{ cls:=.type "list",data:=.seq vs.toArray },by unfold E6;rw[neA];exact if_pos rfl⟩) (fun b u z=>?_) (fun b=>?_) (fun b z=>?_) fun _=>hk
  ·cases n:TB.lookup b with
   | some q=>exact tabOk _ b u (by rw[n];simp) z
   | none =>
    have z':E6 TB (fun b=>if b=a then some (.frz { cls:=.type "list",data:=.seq vs.toArray } (.lst (ns.map V.int)))else none) b=(if b=a then some (.frz { cls:=.type "list",data:=.seq vs.toArray } (.lst (ns.map V.int)))else none):=by unfold E6;rw[n]
    rw[z']at z
    by_cases hb:b=a
    ·rw[if_pos hb]at z
     cases z
     subst hb
     exact⟨ha,by rw[List.length_map];exact hl,vs,_,rv,ha⟩
    ·rw[if_neg hb]at z;cases z
  ·by_cases hb:b=a
   ·exact .inr ⟨_,_,if_pos hb⟩
   ·exact .inl (if_neg hb)
  ·by_cases hb:b=a
   ·exact hb
   ·exact absurd (if_neg hb) z
def Z1(TB:List (Addr×Str))(sp:Sp):Sp:=fun vs H Q E=>TbAll TB H∧sp vs H Q E
theorem walk_ofT{l:OpenLaw}{n k:Nat}{q:Program}{loose:List Str}{XP:(Str→Option Value)→Heap→Prop}{YP:World→Heap→Prop}{d:DefRec}{K:Params→Frag}{CX:World→U2}{sp:World→Sp}{x:Str}
  (hn:l.most=some n) (hn2:n≤sizeLine) (hdf:d.params.defaults=[]) (hr:Room k callerA)
  (hY:∀(w:World) (h:Heap),YP w h→(K w.params).In h)
  (F:∀(w:World) (mg mb:Str→Option Value) (fa:Addr) (h:Heap) (mean:ExcName→Option Value),(K w.params).In h→h.Ns mainGlobals mg→mg d.name=some (.ref fa)→Top q (looseW q loose) mean mg mb h →
   ∃(fd:FuncData) (TB:List (Addr×Str)),(∀(s:Shared) (u:Value),BindsTo s fd ⟨[u],[]⟩ [(x,u)])∧(∀Pa qq,TB.lookup Pa=some qq→(∃c,h.TableAt c Pa #[])∧(K w.params).lookup Pa=none) ∧
    ∀base:Heap,(K w.params).In base→base.Ns mainGlobals mg→(∀b o,h.get? b=some o→o.cls≠.none→o.cls≠.type "list"→base.get? b=some o)→FnOk l.prog w (K w.params) mg base (CX w) k fa fd [x] (Z1 TB (sp w)))
  (hsp:∀(w:World) (H:Hp) (a:Addr) (ns:List Int),ns.length≤n→(∀m∈ns,Builtin.Int.intBits m≤2 ^ 20)→Scr (K w.params) H a (ns.map V.int)→sp w [.ref a] H (fun v _=>v=.bl true) fun _ _ _=>False)
  (hCX:∀(w:World) (H:Hp) (s:Shared) (e:Value) (s':Shared),CX w [] H s (fun _ _ _=>False) e s'→False) :
  WalkO q loose XP YP l.row.toRowW d [] (fun f vs=>PySem.call f vs):=by
 intro w s₀ s₁ mg mb G Y fa o pm cd doc dV kV ho hd hcd hD hmg hg args vals as hpre hlay hrd hwl hlo
 obtain rfl:dV=.none:=Dflts.none hD hdf
 obtain rfl:kV=.none:=Dflts.noKw hD
 obtain⟨a,vs,ns,rfl,rfl,hobj,hints,hlen⟩:=Att.script_of hn hpre hwl
 have KX:=hY w _ Y
 obtain⟨fd,TB,hb,hT,hF⟩:=F w mg mb fa _ _ KX G.T.g hmg G.T
 refine enter_call (codeAny_mono (a5F (TB:=TB) KX G.T.g G.T.b G.T.builtins G.T.nolimit hg hobj hints (Nat.le_trans hlen hn2) hr hT (fun base k1 k2 k3=>hF base k1 k2 fun b o e c1 c2=>k3 b o e (by
  cases z:TB.lookup b with
  | none=>rfl
  | some q' =>
   obtain⟨⟨c,_,e2⟩,_⟩:=hT b q' z
   rw[e]at e2;cases e2;exact absurd rfl c1) (fun z=>by rw[z,hobj]at e;cases e;exact absurd rfl c2)) hb (fun H hO hS=>⟨hO,hsp w H a ns hlen (a3B hlay) hS⟩) fun H e s'=>hCX w H s₁ e s') fun r s' hq=>?_)
 obtain⟨rfl,h2,h3,h4⟩:=hq
 exact⟨.inl ⟨.bool true,.bool true,[],rfl,fun _=>rfl,.bool true,Att.post_true l _,fun _=>⟨List.Pairwise.nil,fun _ hm=>(nomatch hm)⟩⟩,h2,h3,h4⟩
theorem b0b{q:Program}{loose:List Str}{mean:ExcName→Option Value}{mg mb:Str→Option Value}{h:Heap}{K:Frag}{x:Str}{f c:Addr}{oc oc':Value}{od od':Option Addr}{fd:FuncData}{osl osl':Array (Option Value)}{vs:Array Value}{P:Addr}(T:Top q loose mean mg mb h)(KX:K.In h)(hrec:(recsOf q).any (fun d=>d.name == x)=true)(hm:mg x=some (.ref f))(lk:K.lookup f=some ⟨oc,od,.func fd,osl⟩)(hc:fd.code=.ref c)(lc:K.lookup c=some ⟨oc',od',.fields vs,osl'⟩)(hP:vs.getD 11 .none=.ref P) :
  h.TableAt c P #[]∧∀base:Heap,(∀b o,h.get? b=some o→o.cls≠.none→o.cls≠.type "list"→base.get? b=some o)→CodeHd base c P∧base.BuiltinsAt mg P:=by
 obtain⟨d,hd,e⟩:=List.any_eq_true.mp hrec
 have e:d.name=x:=by simpa using e
 subst e
 obtain⟨a,o,fd',c',P',h1,h2,h3,h4,h5,h6⟩:=T.tab d hd
 rw[hm]at h1;cases h1
 rw[KX _ _ lk]at h2;cases h2
 have h3:Data.func fd=Data.func fd':=h3
 cases h3
 rw[hc]at h4;cases h4
 have C:=CodeHd.of h5 h6
 obtain⟨o,vs',file,tf,flags,tg,inF,text,tt,c1,c2,c3,c4,c5,cr⟩:=C
 have hPP:P'=P:=by
  rw[KX _ _ lc]at c1;cases c1
  have c3:Data.fields vs=Data.fields vs':=c3
  cases c3
  rw[hP]at c5;cases c5;rfl
 subst hPP
 refine⟨h6,fun base kp=>⟨⟨o,vs',file,tf,flags,tg,inF,text,tt,kp _ _ c1 (by rw[c2];decide) (by rw[c2];decide),c2,c3,c4,c5,cr⟩,?_⟩⟩
 obtain⟨bm,ob,b1,b2,b3,b4,b5,b6⟩:=T.bmain
 refine⟨bm,ob,b1,b2,fun z=>?_,fun z=>?_,kp _ _ b3 (by rw[b4];decide) (by rw[b4];decide),b4,b5,b6⟩
 ·obtain⟨o',es,ep,e,hd,_⟩:=T.g
  rw[z,e]at b3;cases b3;rw[hd]at b6;cases b6
 ·rw[z,h6.2]at b3;cases b3;cases b4
end L2
namespace HT
open PySem PyProof.Rows
end HT
namespace L2
open PySem PySem.Spec PyProof.Rows
open PySem.W
def Rise(a:Array Nat):Prop:=a.toList.Pairwise (· < ·)
theorem Rise.lt{a:Array Nat}(h:Rise a){i j:Nat}(hij:i<j)(hj:j<a.size):a.getD i 0<a.getD j 0:=by
 have hi:i<a.size:=Nat.lt_trans hij hj
 have:=List.pairwise_iff_getElem.mp h i j (by simpa using hi) (by simpa using hj) hij
 simpa [Array.getD,hi,hj]using this
structure TbR(led:Bool)(t:SetTable):Prop where
 rise:Rise t.place
 dum:t.dummies = #[]
 led:t.led=led
def b0c(e:Int×Value):Int:=match e.2 with
 | .int k _=>k
 | _=>0
def IsI(e:Int×Value):Prop:=∃k t,e=(hashInt k,Value.int k t)
structure SetR(w:World)(h:Heap)(a:Addr)(L:List Int):Prop where
 ex:∃o es ep t,h.get? a=some o∧o.ExactSet∧o.data=.set es ep t∧(∀e∈es.toList,IsI e)∧(es.toList.map b0c).Nodup∧(∀k,k∈es.toList.map b0c↔k∈L)∧es.size<scanBound∧t.fits es.size=true∧TbR (!w.params.followText "set-order") t
theorem nodup_le:∀(es L:List Int),es.Nodup→(∀x∈es,x∈L)→es.length≤L.length
 | [],L,_,_=>Nat.zero_le _
 | x::es,L,h,m=>by
  rw[List.nodup_cons]at h
  have hx:=m x List.mem_cons_self
  have:=nodup_le es (L.erase x) h.2 fun y hy=>(List.mem_erase_of_ne (show y≠x from fun z=>h.1 (by rw[← z];exact hy))).mpr (m y (List.mem_cons_of_mem _ hy))
  rw[List.length_erase_of_mem hx]at this
  have:0<L.length:=List.length_pos_of_mem hx
  rw[List.length_cons]
  omega
section
variable {prog:Program}{w:World}{A:Around}{E:Value→Shared→Prop}{s:Shared}
theorem SetR.frame{h h':Heap}{a:Addr}{L:List Int}(S:SetR w h a L)(e:∀o,h.get? a=some o→h'.get? a=some o):SetR w h' a L:=by
 obtain⟨o,es,ep,t,ho,r⟩:=S.ex
 exact⟨o,es,ep,t,e o ho,r⟩
end
end L2
namespace HT
open PySem PyProof.Rows
inductive IB:List Value→List Value→List Int→List Int→Prop
 | nil:IB [] [] [] []
 | int (a:Int) (t:Tok) (c:Int) (u:Tok) {vs ws:List Value} {ns ms:List Int} (h:IB vs ws ns ms):IB (.int a t::vs) (.int c u::ws) (a::ns) (c::ms)
 | bl (p q:Bool) {vs ws:List Value} {ns ms:List Int} (h:IB vs ws ns ms):IB (.bool p::vs) (.bool q::ws) (b2i p::ns) (b2i q::ms)
theorem IB.len{vs ws:List Value}{ns ms:List Int}(h:IB vs ws ns ms):vs.length=ws.length:=by
 induction h with
 | nil=>rfl
 | int _ _ _ _ _ ih=>simp[ih]
 | bl _ _ _ ih=>simp[ih]
end HT
namespace L2
open PySem PySem.Spec PyProof.Rows
open PySem.W
section
variable {n:Nat}{lt:Nat→Nat→Bool}
def Prx(n:Nat)(p:Array Nat)(m:Nat):Prop:=(∀i,i<m→ga p i<m)∧∀i,m≤i→i<n→ga p i=i
theorem Prx.up{p:Array Nat}{m k:Nat}(h:Prx n p m)(hk:m≤k)(hn:k≤n):Prx n p k:=by
 refine⟨fun i hi=>?_,fun i h1 h2=>h.2 i (by omega) h2⟩
 by_cases z:i<m
 ·have:=h.1 i z;omega
 ·rw[h.2 i (by omega) (by omega)];exact hi
structure DR(n:Nat)(lt:Nat→Nat→Bool)(p:Array Nat)(k:Nat):Prop where
 pre:Prx n p k
 d1:∀i j,i<j→j<k→lt (ga p i) (ga p j)=false
 d2:∀i j,i<j→j<k→lt (ga p j) (ga p i)=false→ga p j<ga p i
structure DG(n:Nat)(lt:Nat→Nat→Bool)(p:Array Nat)(k q:Nat):Prop where
 pre:Prx n p (k-(q+1))
 d1:∀i j,i<j→j<k→lt (ga p i) (ga p j)=false
 d2:∀i j,i<j→j<k-(q+1)→lt (ga p j) (ga p i)=false→ga p j<ga p i
 d3:∀i,i<k-(q+1)→lt (ga p (k-1)) (ga p i)=true
 d4:∀i,k-(q+1)≤i→i<k→lt (ga p (k-1)) (ga p i)=false
theorem DR.snoc{p:Array Nat}{k:Nat}(T:TPre lt)(d:DR n lt p k)(h:∀i,i<k→lt (ga p k) (ga p i)=true)(hk:k<n):DG n lt p (k+1) 0:=by
 have e:k+1-(0+1)=k:=by omega
 refine⟨by rw[e];exact d.pre,fun i j hij hj=>?_,fun i j hij hj=>by rw[e]at hj;exact d.d2 i j hij hj,fun i hi=>by rw[e]at hi;rw[Nat.add_sub_cancel];exact h i hi,fun i h1 h2=>?_⟩
 ·by_cases z:j<k
  ·exact d.d1 i j hij z
  ·have e:j=k:=by omega
   subst e
   exact T.asy _ _ (h i hij)
 ·have e:i=k:=by omega
  subst e
  rw[Nat.add_sub_cancel];exact T.irr _
theorem DG.alike{p:Array Nat}{k q:Nat}(T:TPre lt)(d:DG n lt p k q)(hq:q+1≤k){i j:Nat}(h1:k-(q+1)≤i)(h2:i<k)(h3:k-(q+1)≤j)(h4:j<k):lt (ga p i) (ga p j)=false:=by
 have a:lt (ga p i) (ga p (k-1))=false:=by
  by_cases z:i=k-1
  ·rw[z];exact T.irr _
  ·exact d.d1 i (k-1) (by omega) (by omega)
 exact T.tr _ _ _ (d.d4 j h3 h4) a
theorem DG.rev{p:Array Nat}{k q:Nat}(T:TPre lt)(hp:Pmn n p)(d:DG n lt p k q)(hq:q+1≤k)(hk:k≤n):DR n lt (kas_rev p (k-(q+1)) k) k:=by
 have hps:=hp.size
 have gr:=b0a (p:=p) (i:=k-(q+1)) (j:=k) (by omega)
 have pi:∀i,k-(q+1)≤i→i<n→ga p i=i:=d.pre.2
 refine⟨⟨fun i hi=>?_,fun i h1 h2=>?_⟩,fun i j hij hj=>?_,fun i j hij hj=>?_⟩
 ·rw[gr]
  split
  ·rw[pi _ (by omega) (by omega)];omega
  ·have:=d.pre.1 i (by omega);omega
 ·rw[gr,if_neg (by omega)];exact pi i (by omega) h2
 ·rw[gr,gr]
  by_cases zj:k-(q+1)≤j
  ·rw[if_pos (show k-(q+1)≤j∧j<k by omega)]
   by_cases zi:k-(q+1)≤i
   ·rw[if_pos (by omega)]
    exact d.alike T hq (by omega) (by omega) (by omega) (by omega)
   ·rw[if_neg (by omega)]
    exact d.d1 _ _ (by omega) (by omega)
  ·rw[if_neg (show ¬(k-(q+1)≤j∧j<k) by omega),if_neg (by omega)]
   exact d.d1 _ _ hij hj
 ·rw[gr,gr]
  by_cases zj:k-(q+1)≤j
  ·rw[if_pos (show k-(q+1)≤j∧j<k by omega)]
   by_cases zi:k-(q+1)≤i
   ·rw[if_pos (by omega)]
    intro _
    rw[pi _ (by omega) (by omega),pi _ (by omega) (by omega)]
    omega
   ·rw[if_neg (by omega)]
    intro z
    have a:=d.alike T hq (i:=k-1) (j:=k-(q+1)+k-1-j) (by omega) (by omega) (by omega) (by omega)
    have b:=T.tr _ _ _ z a
    rw[d.d3 i (by omega)]at b
    cases b
  ·rw[if_neg (show ¬(k-(q+1)≤j∧j<k) by omega),if_neg (by omega)]
   exact d.d2 _ _ hij (by omega)
theorem DG.one{p:Array Nat}{k:Nat}(T:TPre lt)(d:DG n lt p k 0)(hk1:1≤k)(hk:k≤n):DR n lt p k:=by
 refine⟨d.pre.up (by omega) hk,d.d1,fun i j hij hj z=>?_⟩
 by_cases e:j=k-1
 ·subst e
  rw[d.d3 i (by omega)]at z
  cases z
 ·exact d.d2 i j hij (by omega) z
end
theorem SqL.ext{K:W.Frag}{H1 H2:Hp}{a:Addr}{xs:List V}(h:SqL K H1 a xs)(ex:∀a o,H1 a=some o→H2 a=some o):SqL K H2 a xs:=by
 rcases h with(h | ⟨o,h⟩) | h
 ·exact .inl (.inl (ex _ _ h))
 ·exact .inl (.inr ⟨o,ex _ _ h⟩)
 ·exact .inr h
def D3:Bool→Keyed→Array Keyed→Nat→Nat→Nat→StateT SortSt Sem (Option Nat):=sortPriv% PySem.Builtin.gallop
abbrev S4(left:Bool)(key:Keyed)(arr:Array Keyed)(base i:Nat):StateT SortSt Sem (Option Bool):=do
 let x ← elem' arr (base+i)
 if left then lt' x key else return (← lt' key x).map (!·)
theorem a4J(left:Bool)(key:Keyed)(arr:Array Keyed)(base n hint:Nat):D3 left key arr base n hint=(do
 let mut lastofs:=0
 let mut ofs:=1
 let mut lo:=0
 let mut hi:=0
 let some right ← S4 left key arr base hint | return none
 if right then
  let maxofs:=n-hint
  for _ in [0:n]do
   if ofs≥maxofs then break
   let some more ← S4 left key arr base (hint+ofs) | return none
   if !more then break
   lastofs:=ofs
   ofs:=2*ofs+1
  lo:=hint+lastofs+1
  hi:=hint+min ofs maxofs
 else
  let maxofs:=hint+1
  for _ in [0:n]do
   if ofs≥maxofs then break
   let some found ← S4 left key arr base (hint-ofs) | return none
   if found then break
   lastofs:=ofs
   ofs:=2*ofs+1
  lo:=hint+1-min ofs maxofs
  hi:=hint-lastofs
 for _ in [0:n]do
  if lo≥hi then break
  let m:=lo+(hi-lo)/2
  let some more ← S4 left key arr base m | return none
  if more then lo:=m+1 else hi:=m
 return some hi):=rfl
structure TPK(lt:Keyed→Keyed→Bool)(Dm:Keyed→Prop):Prop where
 irr:∀x,Dm x→lt x x=false
 tr:∀x y z,Dm x→Dm y→Dm z→lt y x=false→lt z y=false→lt z x=false
 asy:∀x y,Dm x→Dm y→lt x y=true→lt y x=false
section
variable {prog:Program}{w:World}{A:Around}{E:Value→Shared→Prop}{s:Shared}{κ:SortKind}{lt:Keyed→Keyed→Bool}{Dm:Keyed→Prop}
def B6(prog:Program)(w:World)(A:Around)(s:Shared)(κ:SortKind)(lt:Keyed→Keyed→Bool)(Dm:Keyed→Prop):Prop:=∀x y,Dm x→Dm y→∀Q:Bool→Shared→Prop,Q (lt x y) s→wpAny (model prog w) A (keyLt' κ x.1 y.1) Q (fun _ _=>False) s
theorem a0d{x y:Keyed}{st:SortSt}{Q:Option Bool→SortSt→Prop}(C:B6 prog w A s κ lt Dm)(hk:kindOf st=κ)(hx:Dm x)(hy:Dm y)(h:Q (some (lt x y)) st):wpS (model prog w) A E s (lt' x y) Q st:=by
 rw[lt'_eq]
 refine wpS_bind (wpS_get ?_)
 rw[hk]
 refine wpS_bind (wpS_lift (wpAny_attempt (wpAny_mono (C x y hx hy (fun b s'=>s'=s∧b=lt x y) ⟨rfl,rfl⟩) (fun b s' hb=>?_) fun _ _ z=>z.elim)))
 obtain⟨rfl,rfl⟩:=hb
 exact⟨rfl,wpS_pure h⟩
theorem r8{arr:Array Keyed}{i:Nat}{x:Keyed}{st:SortSt}{Q:Keyed→SortSt→Prop}(hx:arr[i]? = some x)(h:Q x st):wpS (model prog w) A E s (elem' arr i) Q st:=by
 rw[elem'_eq,hx]
 exact wpS_pure h
def bey(lt:Keyed→Keyed→Bool)(left:Bool)(key x:Keyed):Bool:=if left=true then lt x key else !lt key x
theorem a8v{left:Bool}{key x:Keyed}{arr:Array Keyed}{base i:Nat}{st:SortSt}{Q:Option Bool→SortSt→Prop}(C:B6 prog w A s κ lt Dm)(hk:kindOf st=κ)(hkey:Dm key)(hx:arr[base+i]? = some x)(dx:Dm x)(h:Q (some (bey lt left key x)) st):wpS (model prog w) A E s (S4 left key arr base i) Q st:=by
 refine wpS_bind (r8 hx ?_)
 cases left with
 | true=>exact a0d C hk dx hkey h
 | false=>exact wpS_bind (a0d C hk hkey dx (wpS_pure h))
theorem Q4{β:Type}{n:Nat}{f:Nat→β→StateT SortSt Sem (ForInStep β)}(I:Nat→β→SortSt→Prop)(Q':β→SortSt→Prop){Q:β→SortSt→Prop}{c:β}{st:SortSt}
  (hstep:∀i c st,i<n→I i c st→wpS (model prog w) A E s (f i c) (fun r st'=>match r with | .done c'=>Q' c' st' | .yield c'=>I (i+1) c' st') st)
  (hend:∀c st,I n c st→Q' c st) (h:I 0 c st) (hq:∀c st',Q' c st'→Q c st'):wpS (model prog w) A E s (forIn [:n] c f) Q st :=
 wpS_mono (wpS_forRange I (Q:=Q') (fun i c st _ hi hI=>hstep i c st hi hI) (fun c st hI=>hend c st (by rw[show max 0 n=n by omega]at hI;exact hI)) h) hq
theorem a38{n lo hi:Nat}{st:SortSt}{B:Nat→StateT SortSt Sem (Option Bool)}{Q:Option (Option Nat)×Nat×Nat→SortSt→Prop}(b:Nat→Bool)(ask:∀i (Q':Option Bool→SortSt→Prop),i<n→Q' (some (b i)) st→wpS (model prog w) A E s (B i) Q' st)
  (mono:∀i j,i≤j→j<n→b j=true→b i=true) (h1:lo≤hi) (h2:hi≤n) (h3:∀i,i<lo→b i=true) (h4:∀i,hi≤i→i<n→b i=false) (h:∀k,k≤n→(∀i,i<k→b i=true)→(∀i,k≤i→i<n→b i=false)→∀l,Q (none,l,k) st) :
  wpS (model prog w) A E s (forIn [:n] ((none,lo,hi):Option (Option Nat)×Nat×Nat) fun x __s =>
        if __s.snd.fst≥__s.snd.snd then pure (ForInStep.done (none,__s.snd.fst,__s.snd.snd))
        else do
         let __x ← B (__s.snd.fst+(__s.snd.snd-__s.snd.fst)/2)
         match __x with
          | some more =>
           if more=true then
            pure (ForInStep.yield (none,__s.snd.fst+(__s.snd.snd-__s.snd.fst)/2+1,__s.snd.snd))
           else pure (ForInStep.yield (none,__s.snd.fst,__s.snd.fst+(__s.snd.snd-__s.snd.fst)/2))
          | x=>pure (ForInStep.done (some none,__s.snd.fst,__s.snd.snd))) Q st:=by
 refine wpS_forRange (fun i c st'=>c.1=none∧st'=st∧c.2.1≤c.2.2∧c.2.2≤n∧(∀i,i<c.2.1→b i=true)∧(∀i,c.2.2≤i→i<n→b i=false)∧c.2.2-c.2.1≤n-i) ?_ ?_ ⟨rfl,rfl,h1,h2,h3,h4,by simp;omega⟩
 ·rintro i ⟨c0,lo,hi⟩ st' _ hi2 ⟨e0,rfl,a1,a2,a3,a4,a5⟩
  dsimp only at *
  by_cases z:lo≥hi
  ·rw[if_pos z]
   refine wpS_pure ?_
   have:lo=hi:=by omega
   subst this
   exact h lo a2 a3 a4 lo
  ·rw[if_neg z]
   refine wpS_bind (ask _ _ (by omega) ?_)
   dsimp only
   cases c:b (lo+(hi-lo)/2)with
   | true =>
    rw[if_pos rfl]
    exact wpS_pure ⟨rfl,rfl,by show lo+(hi-lo)/2+1≤hi;omega,a2,fun j hj=>mono j _ (by have:j<lo+(hi-lo)/2+1:=hj;omega) (by omega) c,a4,by show hi-(lo+(hi-lo)/2+1)≤n-(i+1);omega⟩
   | false =>
    rw[if_neg (by simp)]
    refine wpS_pure ⟨rfl,rfl,by show lo≤lo+(hi-lo)/2;omega,by show lo+(hi-lo)/2≤n;omega,a3,fun j hj hn=>?_,by show lo+(hi-lo)/2-lo≤n-(i+1);omega⟩
    have hj:lo+(hi-lo)/2≤j:=hj
    cases d:b j with
    | false=>rfl
    | true=>rw[mono _ j hj hn d]at c;cases c
 ·rintro⟨c0,lo,hi⟩ st' ⟨e0,rfl,a1,a2,a3,a4,a5⟩
  dsimp only at *
  subst e0
  have:lo=hi:=by
   have:max 0 n=n:=by omega
   omega
  subst this
  exact h lo a2 a3 a4 lo
theorem K3{left:Bool}{key:Keyed}{arr:Array Keyed}{base n hint:Nat}{st:SortSt}{Q:Option Nat→SortSt→Prop}(C:B6 prog w A s κ lt Dm)(hk:kindOf st=κ)(hkey:Dm key)(hh:hint<n)(b:Nat→Bool)(hb:∀i,i<n→∃x,arr[base+i]? = some x∧Dm x∧bey lt left key x=b i)(mono:∀i j,i≤j→j<n→b j=true→b i=true)
  (h:∀k,k≤n→(∀i,i<k→b i=true)→(∀i,k≤i→i<n→b i=false)→Q (some k) st):wpS (model prog w) A E s (D3 left key arr base n hint) Q st:=by
 have ask:∀i (Q':Option Bool→SortSt→Prop),i<n→Q' (some (b i)) st→wpS (model prog w) A E s (S4 left key arr base i) Q' st:=fun i Q' hi hq=>by
  obtain⟨x,hx,dx,e⟩:=hb i hi
  exact a8v C hk hkey hx dx (by rw[e];exact hq)
 rw[a4J]
 refine wpS_bind (ask hint _ hh ?_)
 dsimp only
 have neg:∀i j,i≤j→j<n→b i=false→b j=false:=fun i j h1 h2 h3=>by
  cases d:b j with
  | false=>rfl
  | true=>rw[mono i j h1 h2 d]at h3;cases h3
 cases c:b hint with
 | true =>
  rw[if_pos rfl]
  refine wpS_bind (Q4 (fun(i:Nat) (c:Option (Option Nat)×Nat×Nat) st'=>c.1=none∧st'=st∧c.2.1<c.2.2∧i+1≤c.2.2∧hint+c.2.1<n∧b (hint+c.2.1)=true) (fun(c:Option (Option Nat)×Nat×Nat) st'=>c.1=none∧st'=st∧c.2.1<c.2.2∧hint+c.2.1<n∧b (hint+c.2.1)=true∧(hint+c.2.2<n→b (hint+c.2.2)=false)) ?_ ?_ ⟨rfl,rfl,by show 0<1;omega,by show 0+1≤1;omega,by show hint+0<n;omega,c⟩ ?_)
  ·rintro i ⟨c0,l,o⟩ st' hi2 ⟨e0,rfl,a1,a2,a3,a4⟩
   dsimp only at *
   by_cases z:o≥n-hint
   ·rw[if_pos z]
    exact wpS_pure ⟨rfl,rfl,a1,a3,a4,fun y=>absurd y (by show ¬hint+o<n;omega)⟩
   ·rw[if_neg z]
    refine wpS_bind (ask _ _ (by omega) ?_)
    dsimp only
    cases d:b (hint+o)with
    | true =>
     rw[if_neg (by simp)]
     exact wpS_pure ⟨rfl,rfl,by show o<2*o+1;omega,by show i+1+1≤2*o+1;omega,by show hint+o<n;omega,d⟩
    | false =>
     rw[if_pos (by simp)]
     exact wpS_pure ⟨rfl,rfl,a1,a3,a4,fun _=>d⟩
  ·rintro⟨c0,l,o⟩ st' ⟨e0,rfl,a1,a2,a3,a4⟩
   dsimp only at *
   refine⟨e0,rfl,a1,a3,a4,fun y=>absurd y ?_⟩
   omega
  ·rintro⟨c0,l,o⟩ st' ⟨e0,rfl,a1,a3,a4,a5⟩
   dsimp only at *
   subst e0
   dsimp only
   refine wpS_bind (a38 b ask mono (by omega) (by omega) (fun j hj=>mono j (hint+l) (by omega) a3 a4) (fun j hj hn=>neg (hint+o) j (by omega) hn (a5 (by omega))) fun k k1 k2 k3 l=>wpS_pure (h k k1 k2 k3))
 | false =>
  rw[if_neg (by simp)]
  refine wpS_bind (Q4 (fun(i:Nat) (c:Option (Option Nat)×Nat×Nat) st'=>c.1=none∧st'=st∧c.2.1<c.2.2∧i+1≤c.2.2∧c.2.1≤hint∧b (hint-c.2.1)=false) (fun(c:Option (Option Nat)×Nat×Nat) st'=>c.1=none∧st'=st∧c.2.1<c.2.2∧c.2.1≤hint∧b (hint-c.2.1)=false∧(c.2.2≤hint→b (hint-c.2.2)=true)) ?_ ?_ ⟨rfl,rfl,by show 0<1;omega,by show 0+1≤1;omega,by show 0≤hint;omega,c⟩ ?_)
  ·rintro i ⟨c0,l,o⟩ st' hi2 ⟨e0,rfl,a1,a2,a3,a4⟩
   dsimp only at *
   by_cases z:o≥hint+1
   ·rw[if_pos z]
    exact wpS_pure ⟨rfl,rfl,a1,a3,a4,fun y=>absurd y (by show ¬o≤hint;omega)⟩
   ·rw[if_neg z]
    refine wpS_bind (ask _ _ (by omega) ?_)
    dsimp only
    cases d:b (hint-o)with
    | true =>
     rw[if_pos rfl]
     exact wpS_pure ⟨rfl,rfl,a1,a3,a4,fun _=>d⟩
    | false =>
     rw[if_neg (by simp)]
     exact wpS_pure ⟨rfl,rfl,by show o<2*o+1;omega,by show i+1+1≤2*o+1;omega,by show o≤hint;omega,d⟩
  ·rintro⟨c0,l,o⟩ st' ⟨e0,rfl,a1,a2,a3,a4⟩
   dsimp only at *
   refine⟨e0,rfl,a1,a3,a4,fun y=>absurd y ?_⟩
   omega
  ·rintro⟨c0,l,o⟩ st' ⟨e0,rfl,a1,a3,a4,a5⟩
   dsimp only at *
   subst e0
   dsimp only
   refine wpS_bind (a38 b ask mono (by omega) (by omega) (fun j hj=>?_) (fun j hj hn=>neg (hint-l) j hj hn a4) fun k k1 k2 k3 l=>wpS_pure (h k k1 k2 k3))
   by_cases y:o≤hint
   ·exact mono j (hint-o) (by omega) (by omega) (a5 y)
   ·omega
end
def D4:Nat→StateT SortSt Sem Unit:=sortPriv% PySem.Builtin.setMinGallop
theorem a0X(g:Nat):D4 g=modify fun s=>SortSt.mk' (kindOf s) (arrOf s) (pendingOf s) g (failedOf s):=rfl
def a0Y:Array Keyed→Array Keyed→StateT SortSt Sem (Array Keyed):=sortPriv% PySem.Builtin.mergeLo
abbrev E7(a b out:Array Keyed)(ia ib:Nat):Array Keyed:=out++a.extract ia a.size++b.extract ib b.size
abbrev X4(a b out:Array Keyed)(ia ib:Nat):Array Keyed:=out++b.extract ib b.size++a.extract ia a.size
theorem a3E(a b:Array Keyed):a0Y a b=(do
 rule "list.sort.merge-lo"
 let total:=a.size+b.size
 let mut out:Array Keyed := #[← elem' b 0]
 let mut ia:=0
 let mut ib:=1
 if ib == b.size then return E7 a b out ia ib
 if ia+1 == a.size then return X4 a b out ia ib
 let mut minGallop:=gallopOf (← get)
 for _ in [0:total]do
  let mut acount:=0
  let mut bcount:=0
  for _ in [0:total]do
   let some bWins ← lt' (← elem' b ib) (← elem' a ia) | return E7 a b out ia ib
   if bWins then
    out:=out.push (← elem' b ib);ib:=ib+1;bcount:=bcount+1;acount:=0
    if ib == b.size then return E7 a b out ia ib
    if bcount≥minGallop then break
   else
    out:=out.push (← elem' a ia);ia:=ia+1;acount:=acount+1;bcount:=0
    if ia+1 == a.size then return X4 a b out ia ib
    if acount≥minGallop then break
  rule "list.sort.gallop"
  minGallop:=minGallop+1
  for _ in [0:total]do
   if minGallop > 1 then minGallop:=minGallop-1
   D4 minGallop
   let some k ← D3 false (← elem' b ib) a ia (a.size-ia) 0 | return E7 a b out ia ib
   acount:=k
   if k > 0 then
    out:=out++a.extract ia (ia+k);ia:=ia+k
    if ia+1 == a.size then return X4 a b out ia ib
    if ia == a.size then return E7 a b out ia ib
   out:=out.push (← elem' b ib);ib:=ib+1
   if ib == b.size then return E7 a b out ia ib
   let some k ← D3 true (← elem' a ia) b ib (b.size-ib) 0 | return E7 a b out ia ib
   bcount:=k
   if k > 0 then
    out:=out++b.extract ib (ib+k);ib:=ib+k
    if ib == b.size then return E7 a b out ia ib
   out:=out.push (← elem' a ia);ia:=ia+1
   if ia+1 == a.size then return X4 a b out ia ib
   if acount<7 && bcount<7 then break
  minGallop:=minGallop+1
  D4 minGallop
 unsupported "internal:list.sort.merge-bound"):=rfl
def Srt(lt:Keyed→Keyed→Bool)(l:List Keyed):Prop:=l.Pairwise fun x y=>lt y x=false
structure ML(lt:Keyed→Keyed→Bool)(aL bL o ra rb:List Keyed):Prop where
 ex:∃pa pb,aL=pa++ra∧bL=pb++rb∧o.Perm (pa++pb)
 so:Srt lt o
 oa:∀x∈o,∀y∈ra,lt y x=false
 ob:∀x∈o,∀y∈rb,lt y x=false
def p6(lt:Keyed→Keyed→Bool)(aL bL r:List Keyed):Prop:=r.Perm (aL++bL)∧Srt lt r
section
variable {lt:Keyed→Keyed→Bool}{aL bL o ra rb u:List Keyed}{x y:Keyed}
theorem Srt.app{l m:List Keyed}(h1:Srt lt l)(h2:Srt lt m)(h3:∀x∈l,∀y∈m,lt y x=false):Srt lt (l++m):=List.pairwise_append.mpr ⟨h1,h2,h3⟩
theorem Srt.drop{l:List Keyed}(h:Srt lt l)(n:Nat):Srt lt (l.drop n):=List.Pairwise.sublist (List.drop_sublist n l) h
theorem ML.addB(m:ML lt aL bL o ra (y::rb))(hs:Srt lt (y::rb))(h:∀x∈ra,lt x y=false):ML lt aL bL (o++[y]) ra rb:=by
 obtain⟨pa,pb,e1,e2,p⟩:=m.ex
 have hy:=List.pairwise_cons.mp hs
 refine⟨⟨pa,pb++[y],e1,by rw[e2];simp,?_⟩,m.so.app (List.pairwise_singleton _ _) (fun x hx z hz=>?_),fun x hx z hz=>?_,fun x hx z hz=>?_⟩
 ·rw[← List.append_assoc];exact p.append_right [y]
 ·rw[List.mem_singleton.mp hz];exact m.ob x hx y List.mem_cons_self
 ·rcases List.mem_append.mp hx with hx | hx
  ·exact m.oa x hx z hz
  ·rw[List.mem_singleton.mp hx];exact h z hz
 ·rcases List.mem_append.mp hx with hx | hx
  ·exact m.ob x hx z (List.mem_cons_of_mem _ hz)
  ·rw[List.mem_singleton.mp hx];exact hy.1 z hz
theorem ML.addA(m:ML lt aL bL o (x::ra) rb)(hs:Srt lt (x::ra))(h:∀y∈rb,lt y x=false):ML lt aL bL (o++[x]) ra rb:=by
 obtain⟨pa,pb,e1,e2,p⟩:=m.ex
 have hx':=List.pairwise_cons.mp hs
 refine⟨⟨pa++[x],pb,by rw[e1];simp,e2,?_⟩,m.so.app (List.pairwise_singleton _ _) (fun w hw z hz=>?_),fun w hw z hz=>?_,fun w hw z hz=>?_⟩
 ·refine(p.append_right [x]).trans ?_
  rw[List.append_assoc,List.append_assoc]
  exact List.Perm.append_left pa List.perm_append_comm
 ·rw[List.mem_singleton.mp hz];exact m.oa w hw x List.mem_cons_self
 ·rcases List.mem_append.mp hw with hw | hw
  ·exact m.oa w hw z (List.mem_cons_of_mem _ hz)
  ·rw[List.mem_singleton.mp hw];exact hx'.1 z hz
 ·rcases List.mem_append.mp hw with hw | hw
  ·exact m.ob w hw z hz
  ·rw[List.mem_singleton.mp hw];exact h z hz
theorem ML.addAs:∀{u o:List Keyed},ML lt aL bL o (u++ra) rb→Srt lt (u++ra)→(∀x∈u,∀y∈rb,lt y x=false)→ML lt aL bL (o++u) ra rb
 | [],o,m,_,_=>by rw[List.append_nil];exact m
 | x::u,o,m,hs,h=>by
  have:=ML.addAs (u:=u) (ML.addA m hs (h x List.mem_cons_self)) (List.pairwise_cons.mp hs).2 fun z hz=>h z (List.mem_cons_of_mem _ hz)
  rw[List.append_assoc]at this
  exact this
theorem ML.addBs:∀{u o:List Keyed},ML lt aL bL o ra (u++rb)→Srt lt (u++rb)→(∀y∈u,∀x∈ra,lt x y=false)→ML lt aL bL (o++u) ra rb
 | [],o,m,_,_=>by rw[List.append_nil];exact m
 | x::u,o,m,hs,h=>by
  have:=ML.addBs (u:=u) (ML.addB m hs (h x List.mem_cons_self)) (List.pairwise_cons.mp hs).2 fun z hz=>h z (List.mem_cons_of_mem _ hz)
  rw[List.append_assoc]at this
  exact this
theorem ML.finA(m:ML lt aL bL o ra [])(hs:Srt lt ra):p6 lt aL bL (o++ra):=by
 obtain⟨pa,pb,e1,e2,p⟩:=m.ex
 refine⟨?_,m.so.app hs m.oa⟩
 rw[e1,e2,List.append_nil]
 refine(p.append_right ra).trans ?_
 rw[List.append_assoc,List.append_assoc]
 exact List.Perm.append_left pa List.perm_append_comm
theorem ML.finB(m:ML lt aL bL o [] rb)(hs:Srt lt rb):p6 lt aL bL (o++rb):=by
 obtain⟨pa,pb,e1,e2,p⟩:=m.ex
 refine⟨?_,m.so.app hs m.ob⟩
 rw[e1,e2,List.append_nil,← List.append_assoc]
 exact p.append_right rb
theorem ML.finL(m:ML lt aL bL o [x] rb)(hs:Srt lt rb)(h:∀y∈rb,lt x y=false):p6 lt aL bL (o++rb++[x]):=by
 obtain⟨pa,pb,e1,e2,p⟩:=m.ex
 refine⟨?_,(m.so.app hs m.ob).app (List.pairwise_singleton _ _) fun w hw z hz=>?_⟩
 ·rw[e1,e2]
  refine((p.append_right rb).append_right [x]).trans ?_
  simp only[List.append_assoc]
  refine List.Perm.append_left pa ?_
  rw[← List.append_assoc]
  exact List.perm_append_comm
 ·rw[List.mem_singleton.mp hz]
  rcases List.mem_append.mp hw with hw | hw
  ·exact m.oa w hw x List.mem_cons_self
  ·exact h w hw
end
theorem N7(a:Array Keyed)(i:Nat):(a.extract i a.size).toList=a.toList.drop i:=by
 rw[Array.toList_extract,List.extract_eq_take_drop,List.take_of_length_le (by rw[List.length_drop,Array.length_toList];exact Nat.le_refl _)]
theorem a39(a:Array Keyed)(i k:Nat):(a.extract i (i+k)).toList=(a.toList.drop i).take k:=by
 rw[Array.toList_extract,List.extract_eq_take_drop]
 congr 1
 omega
def SameG(st st':SortSt):Prop:=kindOf st'=kindOf st∧arrOf st'=arrOf st∧pendingOf st'=pendingOf st∧failedOf st'=failedOf st
theorem SameG.refl(st:SortSt):SameG st st:=⟨rfl,rfl,rfl,rfl⟩
theorem SameG.trans{a b c:SortSt}(h:SameG a b)(g:SameG b c):SameG a c:=⟨g.1.trans h.1,g.2.1.trans h.2.1,g.2.2.1.trans h.2.2.1,g.2.2.2.trans h.2.2.2⟩
structure MI(lt:Keyed→Keyed→Bool)(a b out:Array Keyed)(ia ib:Nat):Prop where
 la:ia+1<a.size
 lb:ib<b.size
 ml:ML lt a.toList b.toList out.toList (a.toList.drop ia) (b.toList.drop ib)
structure MP(lt:Keyed→Keyed→Bool)(Dm:Keyed→Prop)(a b:Array Keyed):Prop where
 T:TPK lt Dm
 da:∀x∈a.toList,Dm x
 db:∀x∈b.toList,Dm x
 sa:Srt lt a.toList
 sb:Srt lt b.toList
 la:∀y∈b.toList,∀x,a.toList[a.size-1]? = some x→lt x y=false
section
variable {lt:Keyed→Keyed→Bool}{Dm:Keyed→Prop}{a b out:Array Keyed}{ia ib:Nat}{x y:Keyed}
theorem W4{l:List Keyed}{i:Nat}(h:l[i]? = some x):l.drop i=x::l.drop (i+1):=by
 obtain⟨hi,e⟩:=List.getElem?_eq_some_iff.mp h
 rw[List.drop_eq_getElem_cons hi,e]
theorem y0{a:Array Keyed}{i:Nat}(h:i<a.size):∃x,a[i]? = some x∧a.toList[i]? = some x∧x∈a.toList:=by
 refine⟨a[i],by simp[h],?_,Array.getElem_mem_toList h⟩
 rw[List.getElem?_eq_getElem (by simpa using h)]
 simp
theorem C6{l:List Keyed}{i:Nat}{z:Keyed}(h:z∈l.drop i):∃j,i≤j∧l[j]? = some z:=by
 obtain⟨j,hj⟩:=List.mem_iff_getElem?.mp h
 rw[List.getElem?_drop]at hj
 exact⟨i+j,by omega,hj⟩
theorem w4{l:List Keyed}(T:TPK lt Dm)(hD:∀x∈l,Dm x)(hs:Srt lt l){i j:Nat}(hij:i≤j)(hx:l[i]? = some x)(hy:l[j]? = some y):lt y x=false:=by
 obtain⟨hi,e1⟩:=List.getElem?_eq_some_iff.mp hx
 obtain⟨hj,e2⟩:=List.getElem?_eq_some_iff.mp hy
 by_cases z:i=j
 ·subst z
  rw[hx]at hy;cases hy
  exact T.irr _ (hD _ (List.mem_of_getElem? hx))
 ·rw[← e1,← e2]
  exact List.pairwise_iff_getElem.mp hs i j hi hj (by omega)
theorem MI.good_last{ia ib:Nat}(P:MP lt Dm a b)(m:ML lt a.toList b.toList out.toList (a.toList.drop ia) (b.toList.drop ib))(h:ia+1=a.size):p6 lt a.toList b.toList (X4 a b out ia ib).toList:=by
 obtain⟨x,_,hx,_⟩:=y0 (a:=a) (i:=ia) (by omega)
 have e1:a.toList.drop ia=[x]:=by
  rw[W4 hx,List.drop_eq_nil_of_le (by rw[Array.length_toList];omega)]
 show p6 _ _ _ (out++b.extract ib b.size++a.extract ia a.size).toList
 rw[Array.toList_append,Array.toList_append,N7,N7,e1]
 rw[e1]at m
 refine m.finL (P.sb.drop ib) fun y hy=>P.la y (List.mem_of_mem_drop hy) x ?_
 rw[show a.size-1=ia by omega]
 exact hx
theorem MI.good_doneB{ia ib:Nat}(P:MP lt Dm a b)(m:ML lt a.toList b.toList out.toList (a.toList.drop ia) (b.toList.drop ib))(h:ib=b.size):p6 lt a.toList b.toList (E7 a b out ia ib).toList:=by
 have e1:b.toList.drop ib=[]:=List.drop_eq_nil_of_le (by rw[Array.length_toList];omega)
 show p6 _ _ _ (out++a.extract ia a.size++b.extract ib b.size).toList
 rw[Array.toList_append,Array.toList_append,N7,N7,e1,List.append_nil]
 rw[e1]at m
 exact m.finA (P.sa.drop ia)
theorem MI.good_doneA{ia ib:Nat}(P:MP lt Dm a b)(m:ML lt a.toList b.toList out.toList (a.toList.drop ia) (b.toList.drop ib))(h:ia=a.size):p6 lt a.toList b.toList (E7 a b out ia ib).toList:=by
 have e1:a.toList.drop ia=[]:=List.drop_eq_nil_of_le (by rw[Array.length_toList];omega)
 show p6 _ _ _ (out++a.extract ia a.size++b.extract ib b.size).toList
 rw[Array.toList_append,Array.toList_append,N7,N7,e1,List.append_nil]
 rw[e1]at m
 exact m.finB (P.sb.drop ib)
theorem a6U(P:MP lt Dm a b)(m:ML lt a.toList b.toList out.toList (a.toList.drop ia) (b.toList.drop ib))(hy:b.toList[ib]? = some y)(h:∀x,a.toList[ia]? = some x→lt x y=false):ML lt a.toList b.toList (out.push y).toList (a.toList.drop ia) (b.toList.drop (ib+1)):=by
 rw[W4 hy]at m
 rw[Array.toList_push]
 refine m.addB (by rw[← W4 hy];exact P.sb.drop ib) fun z hz=>?_
 obtain⟨j,hj,e⟩:=C6 hz
 obtain⟨hjl,_⟩:=List.getElem?_eq_some_iff.mp e
 have ei:a.toList[ia]? = some a.toList[ia]:=List.getElem?_eq_getElem (by omega)
 exact P.T.tr _ _ _ (P.db y (List.mem_of_getElem? hy)) (P.da _ (List.mem_of_getElem? ei)) (P.da z (List.mem_of_getElem? e)) (h _ ei) (w4 P.T P.da P.sa hj ei e)
theorem b0d(P:MP lt Dm a b)(m:ML lt a.toList b.toList out.toList (a.toList.drop ia) (b.toList.drop ib))(hx:a.toList[ia]? = some x)(h:∀y,b.toList[ib]? = some y→lt y x=false):ML lt a.toList b.toList (out.push x).toList (a.toList.drop (ia+1)) (b.toList.drop ib):=by
 rw[W4 hx]at m
 rw[Array.toList_push]
 refine m.addA (by rw[← W4 hx];exact P.sa.drop ia) fun z hz=>?_
 obtain⟨j,hj,e⟩:=C6 hz
 obtain⟨hjl,_⟩:=List.getElem?_eq_some_iff.mp e
 have ei:b.toList[ib]? = some b.toList[ib]:=List.getElem?_eq_getElem (by omega)
 exact P.T.tr _ _ _ (P.da x (List.mem_of_getElem? hx)) (P.db _ (List.mem_of_getElem? ei)) (P.db z (List.mem_of_getElem? e)) (h _ ei) (w4 P.T P.db P.sb hj ei e)
theorem X5{l:List Keyed}{i k:Nat}{z:Keyed}(h:z∈(l.drop i).take k):∃j,j<k∧l[i+j]? = some z:=by
 obtain⟨j,hj⟩:=List.mem_iff_getElem?.mp h
 by_cases hk:j<k
 ·rw[List.getElem?_take_of_lt hk,List.getElem?_drop]at hj
  exact⟨j,hk,hj⟩
 ·rw[List.getElem?_eq_none (by rw[List.length_take];omega)]at hj
  cases hj
theorem b0_(P:MP lt Dm a b)(m:ML lt a.toList b.toList out.toList (a.toList.drop ia) (b.toList.drop ib))(hy:b.toList[ib]? = some y)(k:Nat)(h:∀j x,j<k→a.toList[ia+j]? = some x→lt y x=false):ML lt a.toList b.toList (out++a.extract ia (ia+k)).toList (a.toList.drop (ia+k)) (b.toList.drop ib):=by
 have e0:a.toList.drop ia=(a.toList.drop ia).take k++a.toList.drop (ia+k):=by
  rw[show a.toList.drop (ia+k)=(a.toList.drop ia).drop k by rw[List.drop_drop],List.take_append_drop]
 rw[Array.toList_append,a39]
 refine ML.addAs (by rw[← e0];exact m) (by rw[← e0];exact P.sa.drop ia) fun z hz v hv=>?_
 obtain⟨j,hj,e⟩:=X5 hz
 obtain⟨i,hi,e2⟩:=C6 hv
 exact P.T.tr _ _ _ (P.da z (List.mem_of_getElem? e)) (P.db y (List.mem_of_getElem? hy)) (P.db v (List.mem_of_getElem? e2)) (h j z hj e) (w4 P.T P.db P.sb hi hy e2)
theorem b1a(P:MP lt Dm a b)(m:ML lt a.toList b.toList out.toList (a.toList.drop ia) (b.toList.drop ib))(hx:a.toList[ia]? = some x)(k:Nat)(h:∀j y,j<k→b.toList[ib+j]? = some y→lt x y=false):ML lt a.toList b.toList (out++b.extract ib (ib+k)).toList (a.toList.drop ia) (b.toList.drop (ib+k)):=by
 have e0:b.toList.drop ib=(b.toList.drop ib).take k++b.toList.drop (ib+k):=by
  rw[show b.toList.drop (ib+k)=(b.toList.drop ib).drop k by rw[List.drop_drop],List.take_append_drop]
 rw[Array.toList_append,a39]
 refine ML.addBs (by rw[← e0];exact m) (by rw[← e0];exact P.sb.drop ib) fun z hz v hv=>?_
 obtain⟨j,hj,e⟩:=X5 hz
 obtain⟨i,hi,e2⟩:=C6 hv
 exact P.T.tr _ _ _ (P.db z (List.mem_of_getElem? e)) (P.da x (List.mem_of_getElem? hx)) (P.da v (List.mem_of_getElem? e2)) (h j z hj e) (w4 P.T P.da P.sa hi hx e2)
end
abbrev GS:=Option (Array Keyed)×Array Keyed×Nat×Nat×Nat×Nat×Nat
abbrev loC(a b out:Array Keyed)(ia ib mg ac bc:Nat):StateT SortSt Sem (ForInStep GS):=do
 let x ← elem' a ia
 if(ia+1+1 == a.size)=true then pure (.done (some (X4 a b (out.push x) (ia+1) ib),out.push x,ia+1,ib,mg,ac,bc))
 else if(decide (ac<7) && decide (bc<7))=true then pure (.done (none,out.push x,ia+1,ib,mg,ac,bc))
 else pure (.yield (none,out.push x,ia+1,ib,mg,ac,bc))
abbrev loB(a b out:Array Keyed)(ia ib mg ac bc:Nat):StateT SortSt Sem (ForInStep GS):=do
 let y ← elem' b ib
 if(ib+1 == b.size)=true then pure (.done (some (E7 a b (out.push y) ia (ib+1)),out.push y,ia,ib+1,mg,ac,bc))
 else do
  let x ← elem' a ia
  let r ← D3 true x b (ib+1) (b.size-(ib+1)) 0
  match r with
  | some k =>
   if k > 0 then
    (if(ib+1+k == b.size)=true then pure (.done (some (E7 a b (out.push y++b.extract (ib+1) (ib+1+k)) ia (ib+1+k)),out.push y++b.extract (ib+1) (ib+1+k),ia,ib+1+k,mg,ac,k))
    else loC a b (out.push y++b.extract (ib+1) (ib+1+k)) ia (ib+1+k) mg ac k)
   else loC a b (out.push y) ia (ib+1) mg ac k
  | _=>pure (.done (some (E7 a b (out.push y) ia (ib+1)),out.push y,ia,ib+1,mg,ac,bc))
abbrev loA(a b out:Array Keyed)(ia ib mg ac bc:Nat):StateT SortSt Sem (ForInStep GS):=do
 let y ← elem' b ib
 let r ← D3 false y a ia (a.size-ia) 0
 match r with
 | some k =>
  if k > 0 then
   (if(ia+k+1 == a.size)=true then pure (.done (some (X4 a b (out++a.extract ia (ia+k)) (ia+k) ib),out++a.extract ia (ia+k),ia+k,ib,mg,k,bc))
   else if(ia+k == a.size)=true then pure (.done (some (E7 a b (out++a.extract ia (ia+k)) (ia+k) ib),out++a.extract ia (ia+k),ia+k,ib,mg,k,bc))
   else loB a b (out++a.extract ia (ia+k)) (ia+k) ib mg k bc)
  else loB a b out ia ib mg k bc
 | _=>pure (.done (some (E7 a b out ia ib),out,ia,ib,mg,ac,bc))
section
variable {prog:Program}{w:World}{A:Around}{E:Value→Shared→Prop}{s:Shared}{κ:SortKind}{lt:Keyed→Keyed→Bool}{Dm:Keyed→Prop}{a b out:Array Keyed}{ia ib mg ac bc p0:Nat}{st0 st:SortSt}
def PQ(lt:Keyed→Keyed→Bool)(a b:Array Keyed)(p0:Nat)(st0:SortSt):ForInStep GS→SortSt→Prop
 | .done c,st'=>SameG st0 st'∧((∃r,c.1=some r∧p6 lt a.toList b.toList r.toList)∨(c.1=none∧MI lt a b c.2.1 c.2.2.1 c.2.2.2.1∧p0≤c.2.2.1+c.2.2.2.1))
 | .yield c,st'=>SameG st0 st'∧c.1=none∧MI lt a b c.2.1 c.2.2.1 c.2.2.2.1∧p0≤c.2.2.1+c.2.2.2.1
theorem b0g(P:MP lt Dm a b)(hg:SameG st0 st)(m:MI lt a b out ia ib)(hp:p0≤ia+ib)(hle:∀x y,a.toList[ia]? = some x→b.toList[ib]? = some y→lt y x=false):wpS (model prog w) A E s (loC a b out ia ib mg ac bc) (PQ lt a b p0 st0) st:=by
 obtain⟨x,hx,hxl,_⟩:=y0 (a:=a) (i:=ia) (by have:=m.la;omega)
 have ml:=b0d P m.ml hxl (fun y hy=>hle x y hxl hy)
 refine wpS_bind (r8 hx ?_)
 by_cases z:(ia+1+1 == a.size)=true
 ·rw[if_pos z]
  exact wpS_pure ⟨hg,.inl ⟨_,rfl,MI.good_last P ml (by simpa using z)⟩⟩
 ·rw[if_neg z]
  have z':ia+1+1≠a.size:=by simpa using z
  have m':MI lt a b (out.push x) (ia+1) ib:=⟨by have:=m.la;omega,m.lb,ml⟩
  split
  ·exact wpS_pure ⟨hg,.inr ⟨rfl,m',by show p0≤ia+1+ib;omega⟩⟩
  ·exact wpS_pure ⟨hg,rfl,m',by show p0≤ia+1+ib;omega⟩
theorem b0h(C:B6 prog w A s κ lt Dm)(P:MP lt Dm a b)(hk:kindOf st=κ)(hg:SameG st0 st)(m:MI lt a b out ia ib)(hp:p0≤ia+ib)(hle:∀x y,a.toList[ia]? = some x→b.toList[ib]? = some y→lt x y=false):wpS (model prog w) A E s (loB a b out ia ib mg ac bc) (PQ lt a b p0 st0) st:=by
 obtain⟨y,hy,hyl,_⟩:=y0 (a:=b) (i:=ib) m.lb
 obtain⟨x,hx,hxl,mx⟩:=y0 (a:=a) (i:=ia) (by have:=m.la;omega)
 have ml:=a6U P m.ml hyl (fun x hx=>hle x y hx hyl)
 have dx:=P.da x mx
 refine wpS_bind (r8 hy ?_)
 by_cases z:(ib+1 == b.size)=true
 ·rw[if_pos z]
  exact wpS_pure ⟨hg,.inl ⟨_,rfl,MI.good_doneB P ml (by simpa using z)⟩⟩
 ·rw[if_neg z]
  have z':ib+1≠b.size:=by simpa using z
  have hlb:ib+1<b.size:=by have:=m.lb;omega
  refine wpS_bind (r8 hx (wpS_bind ?_))
  have at_:∀i,i<b.size-(ib+1)→∃v,b[ib+1+i]? = some v∧b.toList[ib+1+i]? = some v∧v∈b.toList:=fun i hi=>y0 (by omega)
  refine K3 C hk dx (by omega) (fun i=>lt ((b.toList[ib+1+i]?).getD x) x) (fun i hi=>?_) (fun i j hij hj hb=>?_) fun k hk1 hk2 hk3=>?_
  ·obtain⟨v,h1,h2,h3⟩:=at_ i hi
   exact⟨v,h1,P.db v h3,by rw[h2];rfl⟩
  ·obtain⟨v,h1,h2,h3⟩:=at_ i (by omega)
   obtain⟨u,u1,u2,u3⟩:=at_ j hj
   rw[u2]at hb
   rw[h2]
   show lt v x=true
   cases q:lt v x with
   | true=>rfl
   | false =>
    have:=P.T.tr x v u dx (P.db v h3) (P.db u u3) q (w4 P.T P.db P.sb (by omega) h2 u2)
    have hb:lt u x=true:=hb
    rw[this]at hb;cases hb
  ·dsimp only
   have low:∀j v,j<k→b.toList[ib+1+j]? = some v→lt x v=false:=fun j v hj hv=>by
    have:=hk2 j hj
    rw[hv]at this
    exact P.T.asy _ _ (P.db v (List.mem_of_getElem? hv)) dx this
   have high:∀v,b.toList[ib+1+k]? = some v→lt v x=false:=fun v hv=>by
    obtain⟨hl,_⟩:=List.getElem?_eq_some_iff.mp hv
    rw[Array.length_toList]at hl
    have:=hk3 k (Nat.le_refl _) (by omega)
    rw[hv]at this
    exact this
   by_cases k0:k > 0
   ·rw[if_pos k0]
    have ml2:=b1a P ml hxl k low
    by_cases y1:(ib+1+k == b.size)=true
    ·rw[if_pos y1]
     exact wpS_pure ⟨hg,.inl ⟨_,rfl,MI.good_doneB P ml2 (by simpa using y1)⟩⟩
    ·rw[if_neg y1]
     have y1':ib+1+k≠b.size:=by simpa using y1
     exact b0g P hg ⟨m.la,by omega,ml2⟩ (by omega) fun x' y' e1 e2=>by
      rw[hxl]at e1;cases e1
      exact high y' e2
   ·rw[if_neg k0]
    have e0:k=0:=by omega
    subst e0
    exact b0g P hg ⟨m.la,hlb,ml⟩ (by omega) fun x' y' e1 e2=>by
     rw[hxl]at e1;cases e1
     exact high y' e2
theorem b0i(C:B6 prog w A s κ lt Dm)(P:MP lt Dm a b)(hk:kindOf st=κ)(hg:SameG st0 st)(m:MI lt a b out ia ib)(hp:p0≤ia+ib):wpS (model prog w) A E s (loA a b out ia ib mg ac bc) (PQ lt a b p0 st0) st:=by
 obtain⟨y,hy,hyl,my⟩:=y0 (a:=b) (i:=ib) m.lb
 have dy:=P.db y my
 have hla:=m.la
 refine wpS_bind (r8 hy (wpS_bind ?_))
 have at_:∀i,i<a.size-ia→∃v,a[ia+i]? = some v∧a.toList[ia+i]? = some v∧v∈a.toList:=fun i hi=>y0 (by omega)
 refine K3 C hk dy (by omega) (fun i=>!lt y ((a.toList[ia+i]?).getD y)) (fun i hi=>?_) (fun i j hij hj hb=>?_) fun k hk1 hk2 hk3=>?_
 ·obtain⟨v,h1,h2,h3⟩:=at_ i hi
  exact⟨v,h1,P.da v h3,by rw[h2];rfl⟩
 ·obtain⟨v,h1,h2,h3⟩:=at_ i (by omega)
  obtain⟨u,u1,u2,u3⟩:=at_ j hj
  rw[u2]at hb
  rw[h2]
  have hb:(!lt y u)=true:=hb
  have hb':lt y u=false:=by simpa using hb
  show(!lt y v)=true
  rw[P.T.tr v u y (P.da v h3) (P.da u u3) dy (w4 P.T P.da P.sa (by omega) h2 u2) hb']
  rfl
 ·dsimp only
  have low:∀j v,j<k→a.toList[ia+j]? = some v→lt y v=false:=fun j v hj hv=>by
   have:=hk2 j hj
   rw[hv]at this
   have this:(!lt y v)=true:=this
   simpa using this
  have high:∀v,a.toList[ia+k]? = some v→lt v y=false:=fun v hv=>by
   obtain⟨hl,_⟩:=List.getElem?_eq_some_iff.mp hv
   rw[Array.length_toList]at hl
   have:=hk3 k (Nat.le_refl _) (by omega)
   rw[hv]at this
   have this:(!lt y v)=false:=this
   exact P.T.asy _ _ dy (P.da v (List.mem_of_getElem? hv)) (by simpa using this)
  by_cases k0:k > 0
  ·rw[if_pos k0]
   have ml2:=b0_ P m.ml hyl k low
   by_cases y1:(ia+k+1 == a.size)=true
   ·rw[if_pos y1]
    exact wpS_pure ⟨hg,.inl ⟨_,rfl,MI.good_last P ml2 (by simpa using y1)⟩⟩
   ·rw[if_neg y1]
    have y1':ia+k+1≠a.size:=by simpa using y1
    by_cases y2:(ia+k == a.size)=true
    ·rw[if_pos y2]
     exact wpS_pure ⟨hg,.inl ⟨_,rfl,MI.good_doneA P ml2 (by simpa using y2)⟩⟩
    ·rw[if_neg y2]
     have y2':ia+k≠a.size:=by simpa using y2
     exact b0h C P hk hg ⟨by omega,m.lb,ml2⟩ (by omega) fun x' y' e1 e2=>by
      rw[hyl]at e2;cases e2
      exact high x' e1
  ·rw[if_neg k0]
   have e0:k=0:=by omega
   subst e0
   exact b0h C P hk hg m (by omega) fun x' y' e1 e2=>by
    rw[hyl]at e2;cases e2
    exact high x' e1
theorem smg{g:Nat}{Q:Unit→SortSt→Prop}(h:∀st',SameG st st'→Q () st'):wpS (model prog w) A E s (D4 g) Q st:=by
 rw[a0X]
 exact wpS_modify (h _ ⟨rfl,rfl,rfl,rfl⟩)
theorem a20{α:Type}{c:Prop} [Decidable c] {m1 m2:StateT SortSt Sem α} {Q:α→SortSt→Prop} (h1:c→wpS (model prog w) A E s m1 Q st) (h2:¬c→wpS (model prog w) A E s m2 Q st):wpS (model prog w) A E s (if c then m1 else m2) Q st:=by
 by_cases z:c
 ·rw[if_pos z];exact h1 z
 ·rw[if_neg z];exact h2 z
abbrev S1:=Option (Array Keyed)×Array Keyed×Nat×Nat×Nat×Nat
theorem a3F{Q:Array Keyed→SortSt→Prop}(C:B6 prog w A s κ lt Dm)(P:MP lt Dm a b)(hk:kindOf st=κ)(ha:1≤a.size)(hb:1≤b.size)(h0:∀x y,a.toList[0]? = some x→b.toList[0]? = some y→lt x y=false)
  (h:∀r st',SameG st st'→p6 lt a.toList b.toList r.toList→Q r st'):wpS (model prog w) A E s (a0Y a b) Q st:=by
 rw[a3E]
 refine wpS_bind (wpS_lift (wpAny_rule ⟨rfl,?_⟩))
 obtain⟨y,hy,hyl,my⟩:=y0 (a:=b) (i:=0) hb
 refine wpS_bind (r8 hy ?_)
 dsimp only
 have m0:ML lt a.toList b.toList [] (a.toList.drop 0) (b.toList.drop 0):=⟨⟨[],[],rfl,rfl,.refl _⟩,.nil,fun x hx=>absurd hx List.not_mem_nil,fun x hx=>absurd hx List.not_mem_nil⟩
 have m1:ML lt a.toList b.toList (#[y]:Array Keyed).toList (a.toList.drop 0) (b.toList.drop 1):=a6U (out := #[]) P m0 hyl fun x hx=>h0 x y hx hyl
 by_cases z:(1 == b.size)=true
 ·rw[if_pos z]
  exact wpS_pure (h _ _ (.refl _) (MI.good_doneB P m1 (by simpa using z)))
 rw[if_neg z]
 have z':1≠b.size:=by simpa using z
 by_cases z2:(0+1 == a.size)=true
 ·rw[if_pos z2]
  exact wpS_pure (h _ _ (.refl _) (MI.good_last P m1 (by simpa using z2)))
 rw[if_neg z2]
 have z2':0+1≠a.size:=by simpa using z2
 refine wpS_bind (wpS_get ?_)
 refine wpS_bind (Q4 (fun(i:Nat) (c:Option (Array Keyed)×Array Keyed×Nat×Nat×Nat) st'=>c.1=none∧SameG st st'∧MI lt a b c.2.1 c.2.2.1 c.2.2.2.1∧i+1≤c.2.2.1+c.2.2.2.1)
  (fun(c:Option (Array Keyed)×Array Keyed×Nat×Nat×Nat) st'=>∃r,c.1=some r∧SameG st st'∧p6 lt a.toList b.toList r.toList) ?_ ?_ ⟨rfl,.refl _,⟨by show 0+1<a.size;omega,by show 1<b.size;omega,m1⟩,by show 0+1≤0+1;omega⟩ ?_)
 ·rintro i ⟨c0,out,ia,ib,mg⟩ st1 hi ⟨e0,hg,m,hp⟩
  dsimp only at *
  refine wpS_bind (Q4 (fun(j:Nat) (c:S1) st'=>c.1=none∧SameG st st'∧MI lt a b c.2.1 c.2.2.1 c.2.2.2.1∧ia+ib+j≤c.2.2.1+c.2.2.2.1)
   (fun(c:S1) st'=>SameG st st'∧((∃r,c.1=some r∧p6 lt a.toList b.toList r.toList)∨(c.1=none∧MI lt a b c.2.1 c.2.2.1 c.2.2.2.1∧ia+ib+1≤c.2.2.1+c.2.2.2.1))) ?_ ?_ ⟨rfl,hg,m,Nat.le_refl _⟩ ?_)
  ·rintro j ⟨d0,out',ja,jb,ac,bc⟩ st2 hj ⟨f0,hg2,m2,hp2⟩
   dsimp only at *
   obtain⟨y2,hy2,hyl2,my2⟩:=y0 (a:=b) (i:=jb) m2.lb
   obtain⟨x2,hx2,hxl2,mx2⟩:=y0 (a:=a) (i:=ja) (by have:=m2.la;omega)
   refine wpS_bind (r8 hy2 (wpS_bind (r8 hx2 (wpS_bind (a0d C (hg2.1.trans hk) (P.db _ my2) (P.da _ mx2) ?_)))))
   dsimp only
   have hla:=m2.la
   have hlb:=m2.lb
   cases bw:lt y2 x2 with
   | true =>
    rw[if_pos rfl]
    have ml:=a6U P m2.ml hyl2 (fun x hx=>by rw[hxl2]at hx;cases hx;exact P.T.asy _ _ (P.db _ my2) (P.da _ mx2) bw)
    refine wpS_bind (r8 hy2 ?_)
    by_cases q:(jb+1 == b.size)=true
    ·rw[if_pos q]
     exact wpS_pure ⟨hg2,.inl ⟨_,rfl,MI.good_doneB P ml (by simpa using q)⟩⟩
    ·rw[if_neg q]
     have q':jb+1≠b.size:=by simpa using q
     have m3:MI lt a b (out'.push y2) ja (jb+1):=⟨hla,by omega,ml⟩
     split
     ·exact wpS_pure ⟨hg2,.inr ⟨rfl,m3,by show ia+ib+1≤ja+(jb+1);omega⟩⟩
     ·exact wpS_pure ⟨rfl,hg2,m3,by show ia+ib+(j+1)≤ja+(jb+1);omega⟩
   | false =>
    rw[if_neg (by simp)]
    have ml:=b0d P m2.ml hxl2 (fun y hy=>by rw[hyl2]at hy;cases hy;exact bw)
    refine wpS_bind (r8 hx2 ?_)
    by_cases q:(ja+1+1 == a.size)=true
    ·rw[if_pos q]
     exact wpS_pure ⟨hg2,.inl ⟨_,rfl,MI.good_last P ml (by simpa using q)⟩⟩
    ·rw[if_neg q]
     have q':ja+1+1≠a.size:=by simpa using q
     have m3:MI lt a b (out'.push x2) (ja+1) jb:=⟨by omega,hlb,ml⟩
     split
     ·exact wpS_pure ⟨hg2,.inr ⟨rfl,m3,by show ia+ib+1≤ja+1+jb;omega⟩⟩
     ·exact wpS_pure ⟨rfl,hg2,m3,by show ia+ib+(j+1)≤ja+1+jb;omega⟩
  ·rintro⟨d0,out',ja,jb,ac,bc⟩ st2 ⟨f0,hg2,m2,hp2⟩
   dsimp only at *
   exact⟨hg2,.inr ⟨f0,m2,by show ia+ib+1≤ja+jb;omega⟩⟩
  ·rintro⟨d0,out',ja,jb,ac,bc⟩ st2 ⟨hg2,⟨r,f0,gr⟩ | ⟨f0,m2,hp2⟩⟩
   ·dsimp only at *
    subst f0
    exact wpS_pure ⟨r,rfl,hg2,gr⟩
   ·dsimp only at *
    subst f0
    dsimp only
    refine wpS_bind (wpS_lift (wpAny_rule ⟨rfl,?_⟩))
    refine wpS_bind (Q4 (fun(j:Nat) (c:GS) st'=>SameG st st'∧c.1=none∧MI lt a b c.2.1 c.2.2.1 c.2.2.2.1∧ja+jb≤c.2.2.1+c.2.2.2.1)
     (fun(c:GS) st'=>SameG st st'∧((∃r,c.1=some r∧p6 lt a.toList b.toList r.toList)∨(c.1=none∧MI lt a b c.2.1 c.2.2.1 c.2.2.2.1∧ja+jb≤c.2.2.1+c.2.2.2.1))) ?_ ?_ ⟨hg2,rfl,m2,Nat.le_refl _⟩ ?_)
    ·rintro j ⟨g0,out2,ka,kb,mg2,ac2,bc2⟩ st3 hj ⟨hg3,f0,m3,hp3⟩
     refine a20 (fun _=>?_) (fun _=>?_)
     ·refine wpS_bind (smg fun st4 g4=>?_)
      exact wpS_mono (b0i (mg:=mg2-1) (ac:=ac2) (bc:=bc2) C P ((hg3.trans g4).1.trans hk) (hg3.trans g4) m3 hp3) (fun r st' q=>by cases r<;>exact q)
     ·refine wpS_bind (smg fun st4 g4=>?_)
      exact wpS_mono (b0i (mg:=mg2) (ac:=ac2) (bc:=bc2) C P ((hg3.trans g4).1.trans hk) (hg3.trans g4) m3 hp3) (fun r st' q=>by cases r<;>exact q)
    ·rintro⟨g0,out2,ka,kb,mg2,ac2,bc2⟩ st3 ⟨hg3,f0,m3,hp3⟩
     exact⟨hg3,.inr ⟨f0,m3,hp3⟩⟩
    ·rintro⟨g0,out2,ka,kb,mg2,ac2,bc2⟩ st3 ⟨hg3,⟨r,f0,gr⟩ | ⟨f0,m3,hp3⟩⟩
     ·have f0:g0=some r:=f0
      subst f0
      exact wpS_pure ⟨r,rfl,hg3,gr⟩
     ·have f0:g0=none:=f0
      have hp3:ja+jb≤ka+kb:=hp3
      subst f0
      refine wpS_bind (smg fun st4 g4=>?_)
      exact wpS_pure ⟨rfl,hg3.trans g4,m3,by show i+1+1≤ka+kb;omega⟩
 ·rintro⟨c0,out,ia,ib,mg⟩ st1 ⟨e0,hg,m,hp⟩
  exfalso
  have h1:=m.la
  have h2:=m.lb
  dsimp only at *
  omega
 ·rintro⟨c0,out,ia,ib,mg⟩ st1 ⟨r,e0,hg,gr⟩
  dsimp only at *
  subst e0
  exact wpS_pure (h r st1 hg gr)
end
def a0Z:Array Keyed→Array Keyed→StateT SortSt Sem (Array Keyed):=sortPriv% PySem.Builtin.mergeHi
abbrev E8(a b out:Array Keyed)(na nb:Nat):Array Keyed:=a.extract 0 na++b.extract 0 nb++out.reverse
abbrev T1(a b out:Array Keyed)(na nb:Nat):Array Keyed:=b.extract 0 nb++a.extract 0 na++out.reverse
theorem a3G(a b:Array Keyed):a0Z a b=(do
 rule "list.sort.merge-hi"
 let total:=a.size+b.size
 let mut na:=a.size-1
 let mut nb:=b.size
 let mut out:Array Keyed := #[← elem' a na]
 if na == 0 then return E8 a b out na nb
 if nb == 1 then return T1 a b out na nb
 let mut minGallop:=gallopOf (← get)
 for _ in [0:total]do
  let mut acount:=0
  let mut bcount:=0
  for _ in [0:total]do
   let some aWins ← lt' (← elem' b (nb-1)) (← elem' a (na-1)) | return E8 a b out na nb
   if aWins then
    na:=na-1;out:=out.push (← elem' a na);acount:=acount+1;bcount:=0
    if na == 0 then return E8 a b out na nb
    if acount≥minGallop then break
   else
    nb:=nb-1;out:=out.push (← elem' b nb);bcount:=bcount+1;acount:=0
    if nb == 1 then return T1 a b out na nb
    if bcount≥minGallop then break
  rule "list.sort.gallop"
  minGallop:=minGallop+1
  for _ in [0:total]do
   if minGallop > 1 then minGallop:=minGallop-1
   D4 minGallop
   let some at_ ← D3 false (← elem' b (nb-1)) a 0 na (na-1) | return E8 a b out na nb
   let k:=na-at_
   acount:=k
   if k > 0 then
    out:=out++(a.extract at_ na).reverse;na:=at_
    if na == 0 then return E8 a b out na nb
   nb:=nb-1;out:=out.push (← elem' b nb)
   if nb == 1 then return T1 a b out na nb
   let some at_ ← D3 true (← elem' a (na-1)) b 0 nb (nb-1) | return E8 a b out na nb
   let k:=nb-at_
   bcount:=k
   if k > 0 then
    out:=out++(b.extract at_ nb).reverse;nb:=at_
    if nb == 1 then return T1 a b out na nb
    if nb == 0 then return E8 a b out na nb
   na:=na-1;out:=out.push (← elem' a na)
   if na == 0 then return E8 a b out na nb
   if acount<7 && bcount<7 then break
  minGallop:=minGallop+1
  D4 minGallop
 unsupported "internal:list.sort.merge-bound"):=rfl
structure MR(lt:Keyed→Keyed→Bool)(aL bL o ra rb:List Keyed):Prop where
 ex:∃pa pb,aL=ra++pa∧bL=rb++pb∧o.Perm (pa++pb)
 so:Srt lt o
 oa:∀x∈o,∀y∈ra,lt x y=false
 ob:∀x∈o,∀y∈rb,lt x y=false
section
variable {lt:Keyed→Keyed→Bool}{aL bL o ra rb u:List Keyed}{x y:Keyed}
theorem Srt.left{l m:List Keyed}(h:Srt lt (l++m)):Srt lt l:=(List.pairwise_append.mp h).1
theorem MR.addA(m:MR lt aL bL o (ra++[x]) rb)(hs:Srt lt (ra++[x]))(h:∀y∈rb,lt x y=false):MR lt aL bL (x::o) ra rb:=by
 obtain⟨pa,pb,e1,e2,p⟩:=m.ex
 have hx:=(List.pairwise_append.mp hs).2.2
 refine⟨⟨x::pa,pb,by rw[e1];simp,e2,p.cons x⟩,List.pairwise_cons.mpr ⟨fun z hz=>m.oa z hz x (by simp),m.so⟩,fun w hw z hz=>?_,fun w hw z hz=>?_⟩
 ·rcases List.mem_cons.mp hw with rfl | hw
  ·exact hx z hz w List.mem_cons_self
  ·exact m.oa w hw z (List.mem_append_left _ hz)
 ·rcases List.mem_cons.mp hw with rfl | hw
  ·exact h z hz
  ·exact m.ob w hw z hz
theorem MR.addB(m:MR lt aL bL o ra (rb++[y]))(hs:Srt lt (rb++[y]))(h:∀x∈ra,lt y x=false):MR lt aL bL (y::o) ra rb:=by
 obtain⟨pa,pb,e1,e2,p⟩:=m.ex
 have hy:=(List.pairwise_append.mp hs).2.2
 refine⟨⟨pa,y::pb,e1,by rw[e2];simp,(p.cons y).trans List.perm_middle.symm⟩,List.pairwise_cons.mpr ⟨fun z hz=>m.ob z hz y (by simp),m.so⟩,fun w hw z hz=>?_,fun w hw z hz=>?_⟩
 ·rcases List.mem_cons.mp hw with rfl | hw
  ·exact h z hz
  ·exact m.oa w hw z hz
 ·rcases List.mem_cons.mp hw with rfl | hw
  ·exact hy z hz w List.mem_cons_self
  ·exact m.ob w hw z (List.mem_append_left _ hz)
theorem MR.addAs:∀{u ra:List Keyed},MR lt aL bL o (ra++u) rb→Srt lt (ra++u)→(∀x∈u,∀y∈rb,lt x y=false)→MR lt aL bL (u++o) ra rb
 | [],ra,m,_,_=>by rw[List.append_nil]at m;exact m
 | x::u,ra,m,hs,h=>by
  have e:ra++x::u=(ra++[x])++u:=by simp
  rw[e]at m hs
  exact MR.addA (MR.addAs m hs fun z hz=>h z (List.mem_cons_of_mem _ hz)) hs.left (h x List.mem_cons_self)
theorem MR.addBs:∀{u rb:List Keyed},MR lt aL bL o ra (rb++u)→Srt lt (rb++u)→(∀y∈u,∀x∈ra,lt y x=false)→MR lt aL bL (u++o) ra rb
 | [],rb,m,_,_=>by rw[List.append_nil]at m;exact m
 | x::u,rb,m,hs,h=>by
  have e:rb++x::u=(rb++[x])++u:=by simp
  rw[e]at m hs
  exact MR.addB (MR.addBs m hs fun z hz=>h z (List.mem_cons_of_mem _ hz)) hs.left (h x List.mem_cons_self)
theorem MR.finB(m:MR lt aL bL o [] rb)(hs:Srt lt rb):p6 lt aL bL (rb++o):=by
 obtain⟨pa,pb,e1,e2,p⟩:=m.ex
 refine⟨?_,hs.app m.so fun x hx y hy=>m.ob y hy x hx⟩
 rw[e1,e2,List.nil_append]
 refine(p.append_left rb).trans ?_
 rw[← List.append_assoc,← List.append_assoc]
 exact List.Perm.append_right pb List.perm_append_comm
theorem MR.finA(m:MR lt aL bL o ra [])(hs:Srt lt ra):p6 lt aL bL (ra++o):=by
 obtain⟨pa,pb,e1,e2,p⟩:=m.ex
 refine⟨?_,hs.app m.so fun x hx y hy=>m.oa y hy x hx⟩
 rw[e1,e2,List.nil_append,List.append_assoc]
 exact p.append_left ra
theorem MR.finF(m:MR lt aL bL o ra [y])(hs:Srt lt ra)(h:∀x∈ra,lt x y=false):p6 lt aL bL ([y]++ra++o):=by
 obtain⟨pa,pb,e1,e2,p⟩:=m.ex
 refine⟨?_,?_⟩
 ·rw[e1,e2]
  refine(p.append_left ([y]++ra)).trans ?_
  refine List.Perm.trans ?_ (List.perm_append_comm (l₁:=ra++pa) (l₂:=[y]++pb)).symm
  simp only[List.append_assoc]
  refine List.Perm.append_left [y] ?_
  rw[← List.append_assoc]
  exact List.perm_append_comm
 ·refine Srt.app (List.pairwise_cons.mpr ⟨fun x hx=>h x hx,hs⟩:Srt lt ([y]++ra)) m.so fun x hx z hz=>?_
  rcases List.mem_append.mp hx with hx | hx
  ·rw[List.mem_singleton.mp hx];exact m.ob z hz y List.mem_cons_self
  ·exact m.oa z hz x hx
end
theorem N8(a:Array Keyed)(i:Nat):(a.extract 0 i).toList=a.toList.take i:=by
 rw[Array.toList_extract,List.extract_eq_take_drop,List.drop_zero,Nat.sub_zero]
theorem a00(a:Array Keyed)(i j:Nat):(a.extract i j).toList=(a.toList.drop i).take (j-i):=by
 rw[Array.toList_extract,List.extract_eq_take_drop]
structure MH(lt:Keyed→Keyed→Bool)(a b out:Array Keyed)(na nb:Nat):Prop where
 la:0<na∧na≤a.size
 lb:1<nb∧nb≤b.size
 mr:MR lt a.toList b.toList out.toList.reverse (a.toList.take na) (b.toList.take nb)
structure MPh(lt:Keyed→Keyed→Bool)(Dm:Keyed→Prop)(a b:Array Keyed):Prop where
 T:TPK lt Dm
 da:∀x∈a.toList,Dm x
 db:∀x∈b.toList,Dm x
 sa:Srt lt a.toList
 sb:Srt lt b.toList
 fb:∀x∈a.toList,∀y,b.toList[0]? = some y→lt x y=false
section
variable {lt:Keyed→Keyed→Bool}{Dm:Keyed→Prop}{a b out:Array Keyed}{na nb:Nat}{x y:Keyed}
theorem Srt.take{l:List Keyed}(h:Srt lt l)(n:Nat):Srt lt (l.take n):=List.Pairwise.sublist (List.take_sublist n l) h
theorem a4a{l:List Keyed}{i:Nat}(h:l[i]? = some x):l.take (i+1)=l.take i++[x]:=by
 rw[List.take_add_one,h]
 rfl
theorem A0{l:List Keyed}{n:Nat}{z:Keyed}(h:z∈l.take n):∃j,j<n∧l[j]? = some z:=by
 obtain⟨j,hj⟩:=List.mem_iff_getElem?.mp h
 by_cases hk:j<n
 ·rw[List.getElem?_take_of_lt hk]at hj
  exact⟨j,hk,hj⟩
 ·rw[List.getElem?_eq_none (by rw[List.length_take];omega)]at hj
  cases hj
theorem MH.good_doneA(P:MPh lt Dm a b)(m:MR lt a.toList b.toList out.toList.reverse (a.toList.take na) (b.toList.take nb))(h:na=0):p6 lt a.toList b.toList (E8 a b out na nb).toList:=by
 subst h
 show p6 _ _ _ (a.extract 0 0++b.extract 0 nb++out.reverse).toList
 rw[Array.toList_append,Array.toList_append,N8,N8,Array.toList_reverse,List.take_zero,List.nil_append]
 rw[List.take_zero]at m
 exact m.finB (P.sb.take nb)
theorem MH.good_doneB(P:MPh lt Dm a b)(m:MR lt a.toList b.toList out.toList.reverse (a.toList.take na) (b.toList.take nb))(h:nb=0):p6 lt a.toList b.toList (E8 a b out na nb).toList:=by
 subst h
 show p6 _ _ _ (a.extract 0 na++b.extract 0 0++out.reverse).toList
 rw[Array.toList_append,Array.toList_append,N8,N8,Array.toList_reverse,List.take_zero,List.append_nil]
 rw[List.take_zero]at m
 exact m.finA (P.sa.take na)
theorem MH.good_first(P:MPh lt Dm a b)(hb:1≤b.size)(m:MR lt a.toList b.toList out.toList.reverse (a.toList.take na) (b.toList.take nb))(h:nb=1):p6 lt a.toList b.toList (T1 a b out na nb).toList:=by
 subst h
 obtain⟨y,_,hy,_⟩:=y0 (a:=b) (i:=0) hb
 have e1:b.toList.take 1=[y]:=by rw[a4a hy,List.take_zero];rfl
 show p6 _ _ _ (b.extract 0 1++a.extract 0 na++out.reverse).toList
 rw[Array.toList_append,Array.toList_append,N8,N8,Array.toList_reverse,e1]
 rw[e1]at m
 exact m.finF (P.sa.take na) fun x hx=>P.fb x (List.mem_of_mem_take hx) y hy
theorem U4{l:List Keyed}{n:Nat}(h0:0<n)(h:l[n-1]? = some x):l.take n=l.take (n-1)++[x]:=by
 have:=a4a h
 rw[show n-1+1=n by omega]at this
 exact this
theorem a6V(P:MPh lt Dm a b)(ha:0<na)(hb:nb≤b.size)(h0:0<nb)(m:MR lt a.toList b.toList out.toList.reverse (a.toList.take na) (b.toList.take nb))(hx:a.toList[na-1]? = some x)(h:∀y,b.toList[nb-1]? = some y→lt x y=false):MR lt a.toList b.toList (out.push x).toList.reverse (a.toList.take (na-1)) (b.toList.take nb):=by
 rw[U4 ha hx]at m
 rw[Array.toList_push,List.reverse_append]
 refine m.addA (by rw[← U4 ha hx];exact P.sa.take _) fun z hz=>?_
 obtain⟨j,hj,e⟩:=A0 hz
 obtain⟨v0,_,ei,_⟩:=y0 (a:=b) (i:=nb-1) (by omega)
 exact P.T.tr _ _ _ (P.db z (List.mem_of_getElem? e)) (P.db _ (List.mem_of_getElem? ei)) (P.da x (List.mem_of_getElem? hx)) (w4 P.T P.db P.sb (by omega) e ei) (h _ ei)
theorem b0j(P:MPh lt Dm a b)(hb:0<nb)(ha:na≤a.size)(h0:0<na)(m:MR lt a.toList b.toList out.toList.reverse (a.toList.take na) (b.toList.take nb))(hy:b.toList[nb-1]? = some y)(h:∀x,a.toList[na-1]? = some x→lt y x=false):MR lt a.toList b.toList (out.push y).toList.reverse (a.toList.take na) (b.toList.take (nb-1)):=by
 rw[U4 hb hy]at m
 rw[Array.toList_push,List.reverse_append]
 refine m.addB (by rw[← U4 hb hy];exact P.sb.take _) fun z hz=>?_
 obtain⟨j,hj,e⟩:=A0 hz
 obtain⟨v0,_,ei,_⟩:=y0 (a:=a) (i:=na-1) (by omega)
 exact P.T.tr _ _ _ (P.da z (List.mem_of_getElem? e)) (P.da _ (List.mem_of_getElem? ei)) (P.db y (List.mem_of_getElem? hy)) (w4 P.T P.da P.sa (by omega) e ei) (h _ ei)
theorem R5{l:List Keyed}{i n:Nat}(h:i≤n):l.take n=l.take i++(l.drop i).take (n-i):=by
 have e1:=(List.take_append_drop i (l.take n)).symm
 rw[List.take_take,Nat.min_eq_left h,List.drop_take]at e1
 exact e1
theorem b1b(P:MPh lt Dm a b){i:Nat}(hi:i≤na)(m:MR lt a.toList b.toList out.toList.reverse (a.toList.take na) (b.toList.take nb))(hy:b.toList[nb-1]? = some y)(h0:0<nb)(h:∀j x,i≤j→j<na→a.toList[j]? = some x→lt x y=false):MR lt a.toList b.toList (out++(a.extract i na).reverse).toList.reverse (a.toList.take i) (b.toList.take nb):=by
 rw[R5 hi]at m
 rw[Array.toList_append,Array.toList_reverse,List.reverse_append,List.reverse_reverse,a00]
 refine MR.addAs m (by rw[← R5 hi];exact P.sa.take _) fun z hz v hv=>?_
 obtain⟨j,hj,e⟩:=X5 hz
 obtain⟨k,hk,e2⟩:=A0 hv
 exact P.T.tr _ _ _ (P.db v (List.mem_of_getElem? e2)) (P.db y (List.mem_of_getElem? hy)) (P.da z (List.mem_of_getElem? e)) (w4 P.T P.db P.sb (by omega) e2 hy) (h (i+j) z (by omega) (by omega) e)
theorem b1c(P:MPh lt Dm a b){i:Nat}(hi:i≤nb)(m:MR lt a.toList b.toList out.toList.reverse (a.toList.take na) (b.toList.take nb))(hx:a.toList[na-1]? = some x)(h0:0<na)(h:∀j y,i≤j→j<nb→b.toList[j]? = some y→lt y x=false):MR lt a.toList b.toList (out++(b.extract i nb).reverse).toList.reverse (a.toList.take na) (b.toList.take i):=by
 rw[R5 (l:=b.toList) hi]at m
 rw[Array.toList_append,Array.toList_reverse,List.reverse_append,List.reverse_reverse,a00]
 refine MR.addBs m (by rw[← R5 hi];exact P.sb.take _) fun z hz v hv=>?_
 obtain⟨j,hj,e⟩:=X5 hz
 obtain⟨k,hk,e2⟩:=A0 hv
 exact P.T.tr _ _ _ (P.da v (List.mem_of_getElem? e2)) (P.da x (List.mem_of_getElem? hx)) (P.db z (List.mem_of_getElem? e)) (w4 P.T P.da P.sa (by omega) e2 hx) (h (i+j) z (by omega) (by omega) e)
end
abbrev GH:=Option (Array Keyed)×Nat×Nat×Array Keyed×Nat×Nat×Nat
abbrev hiC(a b out:Array Keyed)(na nb mg ac bc:Nat):StateT SortSt Sem (ForInStep GH):=do
 let x ← elem' a (na-1)
 if(na-1 == 0)=true then pure (.done (some (E8 a b (out.push x) (na-1) nb),na-1,nb,out.push x,mg,ac,bc))
 else if(decide (ac<7) && decide (bc<7))=true then pure (.done (none,na-1,nb,out.push x,mg,ac,bc))
 else pure (.yield (none,na-1,nb,out.push x,mg,ac,bc))
abbrev hiB(a b out:Array Keyed)(na nb mg ac bc:Nat):StateT SortSt Sem (ForInStep GH):=do
 let y ← elem' b (nb-1)
 if(nb-1 == 1)=true then pure (.done (some (T1 a b (out.push y) na (nb-1)),na,nb-1,out.push y,mg,ac,bc))
 else do
  let x ← elem' a (na-1)
  let r ← D3 true x b 0 (nb-1) (nb-1-1)
  match r with
  | some i =>
   if nb-1-i > 0 then
    (if(i == 1)=true then pure (.done (some (T1 a b (out.push y++(b.extract i (nb-1)).reverse) na i),na,i,out.push y++(b.extract i (nb-1)).reverse,mg,ac,nb-1-i))
    else if(i == 0)=true then pure (.done (some (E8 a b (out.push y++(b.extract i (nb-1)).reverse) na i),na,i,out.push y++(b.extract i (nb-1)).reverse,mg,ac,nb-1-i))
    else hiC a b (out.push y++(b.extract i (nb-1)).reverse) na i mg ac (nb-1-i))
   else hiC a b (out.push y) na (nb-1) mg ac (nb-1-i)
  | _=>pure (.done (some (E8 a b (out.push y) na (nb-1)),na,nb-1,out.push y,mg,ac,bc))
abbrev hiA(a b out:Array Keyed)(na nb mg ac bc:Nat):StateT SortSt Sem (ForInStep GH):=do
 let y ← elem' b (nb-1)
 let r ← D3 false y a 0 na (na-1)
 match r with
 | some i =>
  if na-i > 0 then
   (if(i == 0)=true then pure (.done (some (E8 a b (out++(a.extract i na).reverse) i nb),i,nb,out++(a.extract i na).reverse,mg,na-i,bc))
   else hiB a b (out++(a.extract i na).reverse) i nb mg (na-i) bc)
  else hiB a b out na nb mg (na-i) bc
 | _=>pure (.done (some (E8 a b out na nb),na,nb,out,mg,ac,bc))
section
variable {prog:Program}{w:World}{A:Around}{E:Value→Shared→Prop}{s:Shared}{κ:SortKind}{lt:Keyed→Keyed→Bool}{Dm:Keyed→Prop}{a b out:Array Keyed}{na nb mg ac bc p0:Nat}{st0 st:SortSt}
def PHi(lt:Keyed→Keyed→Bool)(a b:Array Keyed)(p0:Nat)(st0:SortSt):ForInStep GH→SortSt→Prop
 | .done c,st'=>SameG st0 st'∧((∃r,c.1=some r∧p6 lt a.toList b.toList r.toList)∨(c.1=none∧MH lt a b c.2.2.2.1 c.2.1 c.2.2.1∧c.2.1+c.2.2.1≤p0))
 | .yield c,st'=>SameG st0 st'∧c.1=none∧MH lt a b c.2.2.2.1 c.2.1 c.2.2.1∧c.2.1+c.2.2.1≤p0
theorem b0n(P:MPh lt Dm a b)(hg:SameG st0 st)(m:MH lt a b out na nb)(hp:na+nb≤p0)(hle:∀x y,a.toList[na-1]? = some x→b.toList[nb-1]? = some y→lt x y=false):wpS (model prog w) A E s (hiC a b out na nb mg ac bc) (PHi lt a b p0 st0) st:=by
 have la:=m.la
 have lb:=m.lb
 obtain⟨x,hx,hxl,_⟩:=y0 (a:=a) (i:=na-1) (by omega)
 have mr:=a6V P la.1 lb.2 (by omega) m.mr hxl (fun y hy=>hle x y hxl hy)
 refine wpS_bind (r8 hx ?_)
 by_cases z:(na-1 == 0)=true
 ·rw[if_pos z]
  exact wpS_pure ⟨hg,.inl ⟨_,rfl,MH.good_doneA P mr (by simpa using z)⟩⟩
 ·rw[if_neg z]
  have z':na-1≠0:=by simpa using z
  have m':MH lt a b (out.push x) (na-1) nb:=⟨⟨by omega,by omega⟩,lb,mr⟩
  split
  ·exact wpS_pure ⟨hg,.inr ⟨rfl,m',by show na-1+nb≤p0;omega⟩⟩
  ·exact wpS_pure ⟨hg,rfl,m',by show na-1+nb≤p0;omega⟩
theorem b0o(C:B6 prog w A s κ lt Dm)(P:MPh lt Dm a b)(hk:kindOf st=κ)(hg:SameG st0 st)(m:MH lt a b out na nb)(hp:na+nb≤p0)(hle:∀x y,a.toList[na-1]? = some x→b.toList[nb-1]? = some y→lt y x=false):wpS (model prog w) A E s (hiB a b out na nb mg ac bc) (PHi lt a b p0 st0) st:=by
 have la:=m.la
 have lb:=m.lb
 obtain⟨y,hy,hyl,_⟩:=y0 (a:=b) (i:=nb-1) (by omega)
 obtain⟨x,hx,hxl,mx⟩:=y0 (a:=a) (i:=na-1) (by omega)
 have mr:=b0j P (by omega) la.2 la.1 m.mr hyl (fun x hx=>hle x y hx hyl)
 have dx:=P.da x mx
 refine wpS_bind (r8 hy ?_)
 by_cases z:(nb-1 == 1)=true
 ·rw[if_pos z]
  exact wpS_pure ⟨hg,.inl ⟨_,rfl,MH.good_first P (by omega) mr (by simpa using z)⟩⟩
 ·rw[if_neg z]
  have z':nb-1≠1:=by simpa using z
  refine wpS_bind (r8 hx (wpS_bind ?_))
  have at_:∀i,i<nb-1→∃v,b[0+i]? = some v∧b.toList[i]? = some v∧v∈b.toList:=fun i hi=>by
   rw[Nat.zero_add];exact y0 (by omega)
  refine K3 C hk dx (by omega) (fun i=>lt ((b.toList[i]?).getD x) x) (fun i hi=>?_) (fun i j hij hj hb=>?_) fun k hk1 hk2 hk3=>?_
  ·obtain⟨v,h1,h2,h3⟩:=at_ i hi
   exact⟨v,h1,P.db v h3,by rw[h2];rfl⟩
  ·obtain⟨v,h1,h2,h3⟩:=at_ i (by omega)
   obtain⟨u,u1,u2,u3⟩:=at_ j hj
   rw[u2]at hb
   rw[h2]
   show lt v x=true
   cases q:lt v x with
   | true=>rfl
   | false =>
    have:=P.T.tr x v u dx (P.db v h3) (P.db u u3) q (w4 P.T P.db P.sb (by omega) h2 u2)
    have hb:lt u x=true:=hb
    rw[this]at hb;cases hb
  ·dsimp only
   have low:∀j v,j<k→b.toList[j]? = some v→lt x v=false:=fun j v hj hv=>by
    have:=hk2 j hj
    rw[hv]at this
    exact P.T.asy _ _ (P.db v (List.mem_of_getElem? hv)) dx this
   have high:∀j v,k≤j→j<nb-1→b.toList[j]? = some v→lt v x=false:=fun j v h1 h2 hv=>by
    have:=hk3 j h1 h2
    rw[hv]at this
    exact this
   by_cases k0:nb-1-k > 0
   ·rw[if_pos k0]
    have mr2:=b1c P hk1 mr hxl la.1 high
    by_cases y1:(k == 1)=true
    ·rw[if_pos y1]
     exact wpS_pure ⟨hg,.inl ⟨_,rfl,MH.good_first P (by omega) mr2 (by simpa using y1)⟩⟩
    ·rw[if_neg y1]
     have y1':k≠1:=by simpa using y1
     by_cases y2:(k == 0)=true
     ·rw[if_pos y2]
      exact wpS_pure ⟨hg,.inl ⟨_,rfl,MH.good_doneB P mr2 (by simpa using y2)⟩⟩
     ·rw[if_neg y2]
      have y2':k≠0:=by simpa using y2
      exact b0n P hg ⟨la,⟨by omega,by omega⟩,mr2⟩ (by omega) fun x' y' e1 e2=>by
       rw[hxl]at e1;cases e1
       exact low _ y' (by omega) e2
   ·rw[if_neg k0]
    have e0:k=nb-1:=by omega
    subst e0
    exact b0n P hg ⟨la,⟨by omega,by omega⟩,mr⟩ (by omega) fun x' y' e1 e2=>by
     rw[hxl]at e1;cases e1
     exact low _ y' (by omega) e2
theorem b0p(C:B6 prog w A s κ lt Dm)(P:MPh lt Dm a b)(hk:kindOf st=κ)(hg:SameG st0 st)(m:MH lt a b out na nb)(hp:na+nb≤p0):wpS (model prog w) A E s (hiA a b out na nb mg ac bc) (PHi lt a b p0 st0) st:=by
 have la:=m.la
 have lb:=m.lb
 obtain⟨y,hy,hyl,my⟩:=y0 (a:=b) (i:=nb-1) (by omega)
 have dy:=P.db y my
 refine wpS_bind (r8 hy (wpS_bind ?_))
 have at_:∀i,i<na→∃v,a[0+i]? = some v∧a.toList[i]? = some v∧v∈a.toList:=fun i hi=>by
  rw[Nat.zero_add];exact y0 (by omega)
 refine K3 C hk dy (by omega) (fun i=>!lt y ((a.toList[i]?).getD y)) (fun i hi=>?_) (fun i j hij hj hb=>?_) fun k hk1 hk2 hk3=>?_
 ·obtain⟨v,h1,h2,h3⟩:=at_ i hi
  exact⟨v,h1,P.da v h3,by rw[h2];rfl⟩
 ·obtain⟨v,h1,h2,h3⟩:=at_ i (by omega)
  obtain⟨u,u1,u2,u3⟩:=at_ j hj
  rw[u2]at hb
  rw[h2]
  have hb:(!lt y u)=true:=hb
  have hb':lt y u=false:=by simpa using hb
  show(!lt y v)=true
  rw[P.T.tr v u y (P.da v h3) (P.da u u3) dy (w4 P.T P.da P.sa (by omega) h2 u2) hb']
  rfl
 ·dsimp only
  have low:∀j v,j<k→a.toList[j]? = some v→lt y v=false:=fun j v hj hv=>by
   have:=hk2 j hj
   rw[hv]at this
   have this:(!lt y v)=true:=this
   simpa using this
  have high:∀j v,k≤j→j<na→a.toList[j]? = some v→lt v y=false:=fun j v h1 h2 hv=>by
   have:=hk3 j h1 h2
   rw[hv]at this
   have this:(!lt y v)=false:=this
   exact P.T.asy _ _ dy (P.da v (List.mem_of_getElem? hv)) (by simpa using this)
  by_cases k0:na-k > 0
  ·rw[if_pos k0]
   have mr2:=b1b P hk1 m.mr hyl (by omega) high
   by_cases y2:(k == 0)=true
   ·rw[if_pos y2]
    exact wpS_pure ⟨hg,.inl ⟨_,rfl,MH.good_doneA P mr2 (by simpa using y2)⟩⟩
   ·rw[if_neg y2]
    have y2':k≠0:=by simpa using y2
    exact b0o C P hk hg ⟨⟨by omega,by omega⟩,lb,mr2⟩ (by omega) fun x' y' e1 e2=>by
     rw[hyl]at e2;cases e2
     exact low _ x' (by omega) e1
  ·rw[if_neg k0]
   have e0:k=na:=by omega
   subst e0
   exact b0o C P hk hg m (by omega) fun x' y' e1 e2=>by
    rw[hyl]at e2;cases e2
    exact low _ x' (by omega) e1
abbrev S2:=Option (Array Keyed)×Nat×Nat×Array Keyed×Nat×Nat
theorem a3H{Q:Array Keyed→SortSt→Prop}(C:B6 prog w A s κ lt Dm)(P:MPh lt Dm a b)(hk:kindOf st=κ)(ha:1≤a.size)(hb:1≤b.size)(h0:∀x y,a.toList[a.size-1]? = some x→b.toList[b.size-1]? = some y→lt x y=false)
  (h:∀r st',SameG st st'→p6 lt a.toList b.toList r.toList→Q r st'):wpS (model prog w) A E s (a0Z a b) Q st:=by
 rw[a3G]
 refine wpS_bind (wpS_lift (wpAny_rule ⟨rfl,?_⟩))
 obtain⟨x,hx,hxl,mx⟩:=y0 (a:=a) (i:=a.size-1) (by omega)
 refine wpS_bind (r8 hx ?_)
 dsimp only
 have m0:MR lt a.toList b.toList (#[]:Array Keyed).toList.reverse (a.toList.take a.size) (b.toList.take b.size):=⟨⟨[],[],by rw[List.take_of_length_le (by rw[Array.length_toList];exact Nat.le_refl _),List.append_nil],by rw[List.take_of_length_le (by rw[Array.length_toList];exact Nat.le_refl _),List.append_nil],.refl _⟩,.nil,fun x hx=>absurd hx List.not_mem_nil,fun x hx=>absurd hx List.not_mem_nil⟩
 have m1:MR lt a.toList b.toList (#[x]:Array Keyed).toList.reverse (a.toList.take (a.size-1)) (b.toList.take b.size):=a6V (out := #[]) P (by omega) (Nat.le_refl _) (by omega) m0 hxl fun y hy=>h0 x y hxl hy
 by_cases z:(a.size-1 == 0)=true
 ·rw[if_pos z]
  exact wpS_pure (h _ _ (.refl _) (MH.good_doneA P m1 (by simpa using z)))
 rw[if_neg z]
 have z':a.size-1≠0:=by simpa using z
 by_cases z2:(b.size == 1)=true
 ·rw[if_pos z2]
  exact wpS_pure (h _ _ (.refl _) (MH.good_first P (by omega) m1 (by simpa using z2)))
 rw[if_neg z2]
 have z2':b.size≠1:=by simpa using z2
 refine wpS_bind (wpS_get ?_)
 refine wpS_bind (Q4 (fun(i:Nat) (c:Option (Array Keyed)×Nat×Nat×Array Keyed×Nat) st'=>c.1=none∧SameG st st'∧MH lt a b c.2.2.2.1 c.2.1 c.2.2.1∧c.2.1+c.2.2.1+i+1≤a.size+b.size)
  (fun(c:Option (Array Keyed)×Nat×Nat×Array Keyed×Nat) st'=>∃r,c.1=some r∧SameG st st'∧p6 lt a.toList b.toList r.toList) ?_ ?_ ⟨rfl,.refl _,⟨⟨by show 0<a.size-1;omega,by show a.size-1≤a.size;omega⟩,⟨by show 1<b.size;omega,Nat.le_refl _⟩,m1⟩,by show a.size-1+b.size+0+1≤a.size+b.size;omega⟩ ?_)
 ·rintro i ⟨c0,na,nb,out,mg⟩ st1 hi ⟨e0,hg,m,hp⟩
  dsimp only at *
  refine wpS_bind (Q4 (fun(j:Nat) (c:S2) st'=>c.1=none∧SameG st st'∧MH lt a b c.2.2.2.1 c.2.1 c.2.2.1∧c.2.1+c.2.2.1+j≤na+nb)
   (fun(c:S2) st'=>SameG st st'∧((∃r,c.1=some r∧p6 lt a.toList b.toList r.toList)∨(c.1=none∧MH lt a b c.2.2.2.1 c.2.1 c.2.2.1∧c.2.1+c.2.2.1+1≤na+nb))) ?_ ?_ ⟨rfl,hg,m,Nat.le_refl _⟩ ?_)
  ·rintro j ⟨d0,ja,jb,out',ac,bc⟩ st2 hj ⟨f0,hg2,m2,hp2⟩
   dsimp only at *
   have hla:=m2.la
   have hlb:=m2.lb
   obtain⟨y2,hy2,hyl2,my2⟩:=y0 (a:=b) (i:=jb-1) (by omega)
   obtain⟨x2,hx2,hxl2,mx2⟩:=y0 (a:=a) (i:=ja-1) (by omega)
   refine wpS_bind (r8 hy2 (wpS_bind (r8 hx2 (wpS_bind (a0d C (hg2.1.trans hk) (P.db _ my2) (P.da _ mx2) ?_)))))
   dsimp only
   cases bw:lt y2 x2 with
   | true =>
    rw[if_pos rfl]
    have mr:=a6V P hla.1 hlb.2 (by omega) m2.mr hxl2 (fun y hy=>by rw[hyl2]at hy;cases hy;exact P.T.asy _ _ (P.db _ my2) (P.da _ mx2) bw)
    refine wpS_bind (r8 hx2 ?_)
    by_cases q:(ja-1 == 0)=true
    ·rw[if_pos q]
     exact wpS_pure ⟨hg2,.inl ⟨_,rfl,MH.good_doneA P mr (by simpa using q)⟩⟩
    ·rw[if_neg q]
     have q':ja-1≠0:=by simpa using q
     have m3:MH lt a b (out'.push x2) (ja-1) jb:=⟨⟨by omega,by omega⟩,hlb,mr⟩
     split
     ·exact wpS_pure ⟨hg2,.inr ⟨rfl,m3,by show ja-1+jb+1≤na+nb;omega⟩⟩
     ·exact wpS_pure ⟨rfl,hg2,m3,by show ja-1+jb+(j+1)≤na+nb;omega⟩
   | false =>
    rw[if_neg (by simp)]
    have mr:=b0j P (by omega) hla.2 hla.1 m2.mr hyl2 (fun x hx=>by rw[hxl2]at hx;cases hx;exact bw)
    refine wpS_bind (r8 hy2 ?_)
    by_cases q:(jb-1 == 1)=true
    ·rw[if_pos q]
     exact wpS_pure ⟨hg2,.inl ⟨_,rfl,MH.good_first P (by omega) mr (by simpa using q)⟩⟩
    ·rw[if_neg q]
     have q':jb-1≠1:=by simpa using q
     have m3:MH lt a b (out'.push y2) ja (jb-1):=⟨hla,⟨by omega,by omega⟩,mr⟩
     split
     ·exact wpS_pure ⟨hg2,.inr ⟨rfl,m3,by show ja+(jb-1)+1≤na+nb;omega⟩⟩
     ·exact wpS_pure ⟨rfl,hg2,m3,by show ja+(jb-1)+(j+1)≤na+nb;omega⟩
  ·rintro⟨d0,ja,jb,out',ac,bc⟩ st2 ⟨f0,hg2,m2,hp2⟩
   dsimp only at *
   exact⟨hg2,.inr ⟨f0,m2,by show ja+jb+1≤na+nb;omega⟩⟩
  ·rintro⟨d0,ja,jb,out',ac,bc⟩ st2 ⟨hg2,⟨r,f0,gr⟩ | ⟨f0,m2,hp2⟩⟩
   ·have f0:d0=some r:=f0
    subst f0
    exact wpS_pure ⟨r,rfl,hg2,gr⟩
   ·have f0:d0=none:=f0
    have hp2:ja+jb+1≤na+nb:=hp2
    subst f0
    refine wpS_bind (wpS_lift (wpAny_rule ⟨rfl,?_⟩))
    refine wpS_bind (Q4 (fun(j:Nat) (c:GH) st'=>SameG st st'∧c.1=none∧MH lt a b c.2.2.2.1 c.2.1 c.2.2.1∧c.2.1+c.2.2.1≤ja+jb)
     (fun(c:GH) st'=>SameG st st'∧((∃r,c.1=some r∧p6 lt a.toList b.toList r.toList)∨(c.1=none∧MH lt a b c.2.2.2.1 c.2.1 c.2.2.1∧c.2.1+c.2.2.1≤ja+jb))) ?_ ?_ ⟨hg2,rfl,m2,Nat.le_refl _⟩ ?_)
    ·rintro j ⟨g0,ka,kb,out2,mg2,ac2,bc2⟩ st3 hj ⟨hg3,f0,m3,hp3⟩
     refine a20 (fun _=>?_) (fun _=>?_)
     ·refine wpS_bind (smg fun st4 g4=>?_)
      exact wpS_mono (b0p (mg:=mg2-1) (ac:=ac2) (bc:=bc2) C P ((hg3.trans g4).1.trans hk) (hg3.trans g4) m3 hp3) (fun r st' q=>by cases r<;>exact q)
     ·refine wpS_bind (smg fun st4 g4=>?_)
      exact wpS_mono (b0p (mg:=mg2) (ac:=ac2) (bc:=bc2) C P ((hg3.trans g4).1.trans hk) (hg3.trans g4) m3 hp3) (fun r st' q=>by cases r<;>exact q)
    ·rintro⟨g0,ka,kb,out2,mg2,ac2,bc2⟩ st3 ⟨hg3,f0,m3,hp3⟩
     exact⟨hg3,.inr ⟨f0,m3,hp3⟩⟩
    ·rintro⟨g0,ka,kb,out2,mg2,ac2,bc2⟩ st3 ⟨hg3,⟨r,f0,gr⟩ | ⟨f0,m3,hp3⟩⟩
     ·have f0:g0=some r:=f0
      subst f0
      exact wpS_pure ⟨r,rfl,hg3,gr⟩
     ·have f0:g0=none:=f0
      have hp3:ka+kb≤ja+jb:=hp3
      subst f0
      refine wpS_bind (smg fun st4 g4=>?_)
      exact wpS_pure ⟨rfl,hg3.trans g4,m3,by show ka+kb+(i+1)+1≤a.size+b.size;omega⟩
 ·rintro⟨c0,na,nb,out,mg⟩ st1 ⟨e0,hg,m,hp⟩
  exfalso
  have h1:=m.la
  have h2:=m.lb
  dsimp only at *
  omega
 ·rintro⟨c0,na,nb,out,mg⟩ st1 ⟨r,e0,hg,gr⟩
  dsimp only at *
  subst e0
  exact wpS_pure (h r st1 hg gr)
end
theorem a3I(i:Nat):mergeAt' i=(do
 let s ← get
 let (some (sa,na,power),some (sb,nb,_)):=((pendingOf s)[i]?,(pendingOf s)[i+1]?) | unsupported "internal:list.sort.pending"
 set (setPending s (((pendingOf s).setIfInBounds i (sa,na+nb,power)).eraseIdxIfInBounds (i+1)))
 let some k ← D3 false (← elem' (arrOf s) sb) (arrOf s) sa na 0 | return false
 let (sa,na):=(sa+k,na-k)
 if na == 0 then return true
 let some nb ← D3 true (← elem' (arrOf s) (sa+na-1)) (arrOf s) sb nb (nb-1) | return false
 if nb == 0 then return true
 let x:=(arrOf s).extract sa sb
 let y:=(arrOf s).extract sb (sb+nb)
 let merged ← if na≤nb then a0Y x y else a0Z x y
 modify fun s=>setArr s (merged.toList.zipIdx.foldl (fun a (p,j)=>a.setIfInBounds (sa+j) p) (arrOf s))
 return (failedOf (← get)).isNone):=rfl
theorem a21(o:Nat):∀(m:List Keyed) (n:Nat) (arr:Array Keyed),o+n+m.length≤arr.size→((m.zipIdx n).foldl (fun a (q:Keyed×Nat)=>a.setIfInBounds (o+q.2) q.1) arr).toList=arr.toList.take (o+n)++m++arr.toList.drop (o+n+m.length)
 | [],n,arr,h=>by simp
 | p::m,n,arr,h=>by
  rw[List.length_cons]at h
  rw[List.zipIdx_cons,List.foldl_cons]
  have ih:=a21 o m (n+1) (arr.setIfInBounds (o+n) p) (by rw[Array.size_setIfInBounds];omega)
  rw[ih,Array.toList_setIfInBounds]
  have hl:o+n<arr.toList.length:=by rw[Array.length_toList];omega
  have e1:(arr.toList.set (o+n) p).take (o+(n+1))=arr.toList.take (o+n)++[p]:=by
   rw[show o+(n+1)=(o+n)+1 by omega]
   exact(List.take_add_one).trans (by rw[List.getElem?_set_self hl,List.take_set_of_le (Nat.le_refl _)];rfl)
  have e2:(arr.toList.set (o+n) p).drop (o+(n+1)+m.length)=arr.toList.drop (o+n+(m.length+1)):=by
   rw[List.drop_set_of_lt (by omega),show o+(n+1)+m.length=o+n+(m.length+1) by omega]
  rw[e1,e2,List.length_cons]
  simp
section
variable {prog:Program}{w:World}{A:Around}{E:Value→Shared→Prop}{s:Shared}{κ:SortKind}{lt:Keyed→Keyed→Bool}{Dm:Keyed→Prop}{st:SortSt}
theorem a22{arr:Array Keyed}{p u q:List Keyed}{i j:Nat}(e:arr.toList=p++u++q)(hi:p.length=i)(hj:i+u.length=j):(arr.extract i j).toList=u:=by
 rw[a00,e,List.append_assoc,← hi,List.drop_left',← hj]
 ·rw[show i+u.length-p.length=u.length by omega,List.take_left']
  rfl
 ·rfl
theorem Srt.right{l m:List Keyed}(h:Srt lt (l++m)):Srt lt m:=(List.pairwise_append.mp h).2.1
theorem a5G{arr:Array Keyed}{p u q:List Keyed}{i j:Nat}(e:arr.toList=p++u++q)(hi:p.length=i)(hj:j<u.length):arr[i+j]? = some u[j]:=by
 have h1:arr.toList[i+j]? = some u[j]:=by
  rw[e,List.append_assoc,List.getElem?_append_right (by omega),show i+j-p.length=j by omega,List.getElem?_append_left hj,List.getElem?_eq_getElem hj]
 rw[← Array.getElem?_toList]
 exact h1
theorem a3J{Q:Bool→SortSt→Prop}{i sa na sb nb pw pw':Nat}{pre U V post:List Keyed}(C:B6 prog w A s κ lt Dm)(T:TPK lt Dm)(hk:kindOf st=κ)(hf:failedOf st=none)
  (hp1:(pendingOf st)[i]? = some (sa,na,pw)) (hp2:(pendingOf st)[i+1]? = some (sb,nb,pw')) (e:(arrOf st).toList=pre++U++(V++post)) (l0:pre.length=sa) (l1:U.length=na) (l2:V.length=nb) (hsb:sa+na=sb) (ha:1≤na) (hb:1≤nb)
  (dU:∀x∈U,Dm x) (dV:∀x∈V,Dm x) (sU:Srt lt U) (sV:Srt lt V)
  (h:∀(arr':Array Keyed) (g:Nat) (W:List Keyed),W.Perm (U++V)→Srt lt W→arr'.toList=pre++W++post→Q true (SortSt.mk' κ arr' (((pendingOf st).setIfInBounds i (sa,na+nb,pw)).eraseIdxIfInBounds (i+1)) g none)) :
  wpS (model prog w) A E s (mergeAt' i) Q st:=by
 rw[a3I]
 refine wpS_bind (wpS_get ?_)
 rw[hp1,hp2]
 dsimp only
 refine wpS_bind (wpS_modify (f:=fun _=>setPending st (((pendingOf st).setIfInBounds i (sa,na+nb,pw)).eraseIdxIfInBounds (i+1))) ?_)
 have e':(arrOf st).toList=(pre++U)++V++post:=by rw[e];simp
 have lU:(pre++U).length=sb:=by rw[List.length_append];omega
 have aU:∀j (hj:j<U.length),(arrOf st)[sa+j]? = some U[j]:=fun j hj=>a5G e l0 hj
 have aV:∀j (hj:j<V.length),(arrOf st)[sb+j]? = some V[j]:=fun j hj=>a5G e' lU hj
 have hV0:0<V.length:=by omega
 have hUl:U.length-1<U.length:=by omega
 have dy:Dm V[0]:=dV _ (List.getElem_mem hV0)
 have dl:Dm U[U.length-1]:=dU _ (List.getElem_mem hUl)
 have done:∀st',SameG (setPending st (((pendingOf st).setIfInBounds i (sa,na+nb,pw)).eraseIdxIfInBounds (i+1))) st'→Srt lt (U++V)→Q true st':=fun st' g hs=>by
  have:=h (arrOf st) (gallopOf st') (U++V) (.refl _) hs (by rw[e];simp)
  obtain⟨g1,g2,g3,g4⟩:=g
  have e5:st'=SortSt.mk' κ (arrOf st) (((pendingOf st).setIfInBounds i (sa,na+nb,pw)).eraseIdxIfInBounds (i+1)) (gallopOf st') none:=by
   have a1:kindOf st'=κ:=g1.trans hk
   have a2:arrOf st'=arrOf st:=g2
   have a3:pendingOf st'=(((pendingOf st).setIfInBounds i (sa,na+nb,pw)).eraseIdxIfInBounds (i+1)):=g3
   have a4:failedOf st'=none:=g4.trans hf
   rw[← a1,← a2,← a3,← a4]
  rw[e5]
  exact this
 have x0:=aV 0 hV0
 rw[Nat.add_zero]at x0
 refine wpS_bind (r8 x0 (wpS_bind ?_))
 refine K3 C hk dy (by omega) (fun j=>!lt V[0] (U[j]?.getD V[0])) (fun j hj=>?_) (fun j k hjk hkn hb=>?_) fun k hk1 hk2 hk3=>?_
 ·have hj':j<U.length:=by omega
  exact⟨U[j],aU j hj',dU _ (List.getElem_mem hj'),by rw[List.getElem?_eq_getElem hj'];rfl⟩
 ·have hk':k<U.length:=by omega
  have hj':j<U.length:=by omega
  rw[List.getElem?_eq_getElem hk']at hb
  rw[List.getElem?_eq_getElem hj']
  have hb:(!lt V[0] U[k])=true:=hb
  have hb':lt V[0] U[k]=false:=by simpa using hb
  show(!lt V[0] U[j])=true
  rw[T.tr U[j] U[k] V[0] (dU _ (List.getElem_mem hj')) (dU _ (List.getElem_mem hk')) dy (w4 T dU sU hjk (List.getElem?_eq_getElem hj') (List.getElem?_eq_getElem hk')) hb']
  rfl
 dsimp only
 have low:∀j x,j<k→U[j]? = some x→lt V[0] x=false:=fun j x hj hx=>by
  have:=hk2 j hj
  rw[hx]at this
  have this:(!lt V[0] x)=true:=this
  simpa using this
 have high:∀j x,k≤j→U[j]? = some x→lt V[0] x=true:=fun j x hj hx=>by
  have hjl:=(List.getElem?_eq_some_iff.mp hx).1
  have:=hk3 j hj (by omega)
  rw[hx]at this
  have this:(!lt V[0] x)=false:=this
  simpa using this
 have v0:V[0]? = some V[0]:=List.getElem?_eq_getElem hV0
 by_cases z1:(na-k == 0)=true
 ·rw[if_pos z1]
  have z1':na-k=0:=by simpa using z1
  refine wpS_pure (done _ (.refl _) (sU.app sV fun x hx y hy=>?_))
  obtain⟨j,hj⟩:=List.mem_iff_getElem?.mp hx
  obtain⟨j2,hj2⟩:=List.mem_iff_getElem?.mp hy
  have hjl:=(List.getElem?_eq_some_iff.mp hj).1
  exact T.tr _ _ _ (dU x hx) dy (dV y hy) (low j x (by omega) hj) (w4 T dV sV (Nat.zero_le _) v0 hj2)
 rw[if_neg z1]
 have z1':na-k≠0:=by simpa using z1
 have ul:U[U.length-1]? = some U[U.length-1]:=List.getElem?_eq_getElem hUl
 have xl:=aU (U.length-1) hUl
 rw[show sa+(U.length-1)=sa+k+(na-k)-1 by omega]at xl
 refine wpS_bind (r8 xl (wpS_bind ?_))
 refine K3 C hk dl (by omega) (fun j=>lt (V[j]?.getD U[U.length-1]) U[U.length-1]) (fun j hj=>?_) (fun j k hjk hkn hb=>?_) fun n hn1 hn2 hn3=>?_
 ·have hj':j<V.length:=by omega
  exact⟨V[j],aV j hj',dV _ (List.getElem_mem hj'),by rw[List.getElem?_eq_getElem hj'];rfl⟩
 ·have hk':k<V.length:=by omega
  have hj':j<V.length:=by omega
  rw[List.getElem?_eq_getElem hk']at hb
  rw[List.getElem?_eq_getElem hj']
  have hb:lt V[k] U[U.length-1]=true:=hb
  show lt V[j] U[U.length-1]=true
  cases q:lt V[j] U[U.length-1]with
  | true=>rfl
  | false =>
   have:=T.tr _ V[j] V[k] dl (dV _ (List.getElem_mem hj')) (dV _ (List.getElem_mem hk')) q (w4 T dV sV hjk (List.getElem?_eq_getElem hj') (List.getElem?_eq_getElem hk'))
   rw[this]at hb;cases hb
 dsimp only
 have vlow:∀j y,j<n→V[j]? = some y→lt y U[U.length-1]=true:=fun j y hj hy=>by
  have:=hn2 j hj
  rw[hy]at this
  exact this
 have vhigh:∀j y,n≤j→V[j]? = some y→lt y U[U.length-1]=false:=fun j y hj hy=>by
  have hjl:=(List.getElem?_eq_some_iff.mp hy).1
  have:=hn3 j hj (by omega)
  rw[hy]at this
  exact this
 have ulast:∀x∈U,lt U[U.length-1] x=false:=fun x hx=>by
  obtain⟨j,hj⟩:=List.mem_iff_getElem?.mp hx
  have hjl:=(List.getElem?_eq_some_iff.mp hj).1
  exact w4 T dU sU (by omega) hj ul
 by_cases z2:(n == 0)=true
 ·rw[if_pos z2]
  have z2':n=0:=by simpa using z2
  refine wpS_pure (done _ (.refl _) (sU.app sV fun x hx y hy=>?_))
  obtain⟨j2,hj2⟩:=List.mem_iff_getElem?.mp hy
  exact T.tr _ _ _ (dU x hx) dl (dV y hy) (ulast x hx) (vhigh j2 y (by omega) hj2)
 rw[if_neg z2]
 have z2':n≠0:=by simpa using z2
 -- the parts
 have eU:U=U.take k++U.drop k:=(List.take_append_drop k U).symm
 have eV:V=V.take n++V.drop n:=(List.take_append_drop n V).symm
 have lk:(U.take k).length=k:=by rw[List.length_take];omega
 have ld:(U.drop k).length=na-k:=by rw[List.length_drop];omega
 have ln:(V.take n).length=n:=by rw[List.length_take];omega
 have exl:(arrOf st).toList=(pre++U.take k)++U.drop k++(V++post):=by
  rw[List.append_assoc pre (U.take k) (U.drop k),List.take_append_drop]
  exact e
 have eyl:(arrOf st).toList=(pre++U)++V.take n++(V.drop n++post):=by
  rw[List.append_assoc (pre++U) (V.take n),← List.append_assoc (V.take n),List.take_append_drop]
  exact e
 have ex:((arrOf st).extract (sa+k) sb).toList=U.drop k:=a22 exl (by rw[List.length_append,l0,lk]) (by rw[ld];omega)
 have ey:((arrOf st).extract sb (sb+n)).toList=V.take n:=a22 eyl lU (by rw[ln])
 have d2U:∀x∈U.drop k,Dm x:=fun x hx=>dU x (List.mem_of_mem_drop hx)
 have d2V:∀x∈V.take n,Dm x:=fun x hx=>dV x (List.mem_of_mem_take hx)
 have gtU:∀x∈U.drop k,lt V[0] x=true:=fun x hx=>by
  obtain⟨j,hj,e⟩:=C6 hx
  exact high j x hj e
 have ltV:∀y∈V.take n,lt y U[U.length-1]=true:=fun y hy=>by
  obtain⟨j,hj,e⟩:=A0 hy
  exact vlow j y hj e
 have xlast:(U.drop k)[(U.drop k).length-1]? = some U[U.length-1]:=by
  rw[List.getElem?_drop,ld,show k+(na-k-1)=U.length-1 by omega];exact ul
 have yfst:(V.take n)[0]? = some V[0]:=by rw[List.getElem?_take_of_lt (by omega)];exact v0
 have sx:((arrOf st).extract (sa+k) sb).size=(U.drop k).length:=by rw[← Array.length_toList,ex]
 have sy:((arrOf st).extract sb (sb+n)).size=(V.take n).length:=by rw[← Array.length_toList,ey]
 have fin:∀(r:Array Keyed) (st':SortSt),SameG (setPending st (((pendingOf st).setIfInBounds i (sa,na+nb,pw)).eraseIdxIfInBounds (i+1))) st'→p6 lt ((arrOf st).extract (sa+k) sb).toList ((arrOf st).extract sb (sb+n)).toList r.toList →
   wpS (model prog w) A E s (do
    modify fun s=>setArr s (r.toList.zipIdx.foldl (fun a (p,j)=>a.setIfInBounds (sa+k+j) p) (arrOf s))
    let __do_lift ← get
    pure (failedOf __do_lift).isNone) Q st':=fun r st' g ⟨gp,gs⟩=>by
  rw[ex,ey]at gp
  obtain⟨g1,g2,g3,g4⟩:=g
  refine wpS_bind (wpS_modify ?_)
  refine wpS_bind (wpS_get (wpS_pure ?_))
  have hrl:r.toList.length=(na-k)+n:=by rw[gp.length_eq,List.length_append,ld,ln]
  have hsz:(arrOf st).size=sa+na+(nb+post.length):=by
   rw[← Array.length_toList,e];simp only[List.length_append];omega
  have fs:=a21 (sa+k) r.toList 0 (arrOf st) (by rw[hrl];omega)
  have e1:(arrOf st).toList.take (sa+k+0)=pre++U.take k:=by
   rw[Nat.add_zero,e,List.append_assoc,List.take_append,l0,show sa+k-sa=k by omega,List.take_of_length_le (by omega),List.take_append,show k-U.length=0 by omega,List.take_zero,List.append_nil]
  have e2:(arrOf st).toList.drop (sa+k+0+r.toList.length)=V.drop n++post:=by
   rw[hrl,show sa+k+0+(na-k+n)=sb+n by omega,e',List.append_assoc,List.drop_append,lU,show sb+n-sb=n by omega,List.drop_eq_nil_of_le (by omega),List.nil_append,List.drop_append,show n-V.length=0 by omega,List.drop_zero]
  rw[e1,e2]at fs
  have hW:=h ((r.toList.zipIdx.foldl (fun a (q:Keyed×Nat)=>a.setIfInBounds (sa+k+q.2) q.1) (arrOf st))) (gallopOf st') (U.take k++r.toList++V.drop n) ?_ ?_ ?_
  ·have e5:setArr st' (r.toList.zipIdx.foldl (fun a (q:Keyed×Nat)=>a.setIfInBounds (sa+k+q.2) q.1) (arrOf st'))=SortSt.mk' κ (r.toList.zipIdx.foldl (fun a (q:Keyed×Nat)=>a.setIfInBounds (sa+k+q.2) q.1) (arrOf st)) (((pendingOf st).setIfInBounds i (sa,na+nb,pw)).eraseIdxIfInBounds (i+1)) (gallopOf st') none:=by
    have a1:kindOf st'=κ:=g1.trans hk
    have a2:arrOf st'=arrOf st:=g2
    have a3:pendingOf st'=_:=g3
    have a4:failedOf st'=none:=g4.trans hf
    show SortSt.mk' (kindOf st') _ (pendingOf st') (gallopOf st') (failedOf st')=_
    rw[a1,a2,a3,a4]
   have e6:(failedOf (setArr st' (r.toList.zipIdx.foldl (fun a (q:Keyed×Nat)=>a.setIfInBounds (sa+k+q.2) q.1) (arrOf st')))).isNone=true:=by
    show(failedOf st').isNone=true
    rw[show failedOf st'=none from g4.trans hf];rfl
   show Q (failedOf (setArr st' (r.toList.zipIdx.foldl (fun a (q:Keyed×Nat)=>a.setIfInBounds (sa+k+q.2) q.1) (arrOf st')))).isNone (setArr st' (r.toList.zipIdx.foldl (fun a (q:Keyed×Nat)=>a.setIfInBounds (sa+k+q.2) q.1) (arrOf st')))
   rw[e6,e5]
   exact hW
  ·refine((gp.append_left (U.take k)).append_right (V.drop n)).trans ?_
   have e7:U.take k++(U.drop k++V.take n)++V.drop n=U++V:=by
    rw[← List.append_assoc (U.take k),List.take_append_drop,List.append_assoc,List.take_append_drop]
   rw[e7]
  ·have inR:∀x∈r.toList,x∈U.drop k∨x∈V.take n:=fun x hx=>List.mem_append.mp (gp.mem_iff.mp hx)
   refine Srt.app (Srt.app (sU.take k) gs fun x hx y hy=>?_) (sV.drop n) fun x hx y hy=>?_
   ·obtain⟨j,hj,ej⟩:=A0 hx
    have dx:=dU x (List.mem_of_mem_take hx)
    rcases inR y hy with q | q
    ·obtain⟨j2,hj2,ej2⟩:=C6 q
     exact w4 T dU sU (by omega) ej ej2
    ·obtain⟨j2,hj2,ej2⟩:=A0 q
     exact T.tr _ _ _ dx dy (d2V y q) (low j x hj ej) (w4 T dV sV (Nat.zero_le _) v0 ej2)
   ·obtain⟨j2,hj2,ej2⟩:=C6 hy
    have dY:=dV y (List.mem_of_mem_drop hy)
    rcases List.mem_append.mp hx with hx | hx
    ·have dx:=dU x (List.mem_of_mem_take hx)
     exact T.tr _ _ _ dx dl dY (ulast x (List.mem_of_mem_take hx)) (vhigh j2 y hj2 ej2)
    ·rcases inR x hx with q | q
     ·exact T.tr _ _ _ (d2U x q) dl dY (ulast x (List.mem_of_mem_drop q)) (vhigh j2 y hj2 ej2)
     ·obtain⟨j3,hj3,ej3⟩:=A0 q
      exact w4 T dV sV (by omega) ej3 ej2
  ·show(List.foldl _ (arrOf st) r.toList.zipIdx).toList=_
   refine Eq.trans fs ?_
   simp
 by_cases z3:na-k≤n
 ·rw[if_pos z3]
  refine wpS_bind (a3F C ⟨T,by rw[ex];exact d2U,by rw[ey];exact d2V,by rw[ex];exact sU.drop k,by rw[ey];exact sV.take n,fun y hy x hx=>?_⟩ hk (by rw[sx,ld];omega) (by rw[sy,ln];omega) (fun x y hx hy=>?_) fin)
  ·rw[ey]at hy
   rw[ex,sx,xlast]at hx
   cases hx
   exact T.asy _ _ (d2V y hy) dl (ltV y hy)
  ·rw[ex]at hx
   rw[ey,yfst]at hy
   cases hy
   exact T.asy _ _ dy (d2U x (List.mem_of_getElem? hx)) (gtU x (List.mem_of_getElem? hx))
 ·rw[if_neg z3]
  refine wpS_bind (a3H C ⟨T,by rw[ex];exact d2U,by rw[ey];exact d2V,by rw[ex];exact sU.drop k,by rw[ey];exact sV.take n,fun x hx y hy=>?_⟩ hk (by rw[sx,ld];omega) (by rw[sy,ln];omega) (fun x y hx hy=>?_) fin)
  ·rw[ex]at hx
   rw[ey,yfst]at hy
   cases hy
   exact T.asy _ _ dy (d2U x hx) (gtU x hx)
  ·rw[ex,sx,xlast]at hx
   cases hx
   rw[ey]at hy
   exact T.asy _ _ (d2V y (List.mem_of_getElem? hy)) dl (ltV y (List.mem_of_getElem? hy))
end
theorem a2u(lo nrem:Nat):countRun' lo nrem=(do
 let mut n:=1
 for _ in [1:nrem]do
  let some smaller ← ltAt' (lo+n) (lo+n-1) | return none
  if smaller then break
  n:=n+1
 if n == nrem then return some n
 if n > 1 then
  let some rose ← ltAt' lo (lo+n-1) | return none
  if rose then return some n
  reverseSlice' lo (lo+n)
 rule "list.sort.descending-run"
 n:=n+1
 let mut neq:=0
 for _ in [n:nrem]do
  let some smaller ← ltAt' (lo+n) (lo+n-1) | return none
  if smaller then
   if neq > 0 then reverseSlice' (lo+n-(neq+1)) (lo+n)
   neq:=0
  else
   let some larger ← ltAt' (lo+n-1) (lo+n) | return none
   if larger then break
   neq:=neq+1
  n:=n+1
 if neq > 0 then reverseSlice' (lo+n-(neq+1)) (lo+n)
 reverseSlice' lo (lo+n)
 for _ in [n:nrem]do
  let some smaller ← ltAt' (lo+n) (lo+n-1) | return none
  if smaller then break
  n:=n+1
 return some n):=rfl
theorem a1r(lo n ok:Nat):binarySort' lo n ok=(do
 for k in [max ok 1:n]do
  let mut l:=0
  let mut r:=k
  for _ in [0:k]do
   if l≥r then break
   let m:=(l+r)/2
   let some less ← ltAt' (lo+k) (lo+m) | return false
   if less then r:=m else l:=m+1
  moveDown' (lo+k) (lo+l)
 return true):=rfl
def gk(p:Array Keyed)(k:Nat):Keyed:=p.getD k (Value.none,Value.none)
theorem a0z{p:Array Keyed}{k:Nat}(h:k<p.size):p[k]? = some (gk p k):=by unfold gk;simp[Array.getD,h]
theorem a1s(p:Array Keyed)(k:Nat):gk p k=(p[k]?).getD (Value.none,Value.none):=by unfold gk;simp[Array.getD_eq_getD_getElem?]
abbrev E9(p:Array Keyed)(i j:Nat):Array Keyed:=mirror p i j ((j-i)/2)
theorem a0e{p:Array Keyed}{i j:Nat}(hj:j≤p.size)(k:Nat):gk (E9 p i j) k=if i≤k∧k<j then gk p (i+j-1-k)else gk p k:=by
 rw[a1s,E9,getElem?_mirror_all hj]
 split<;>rw[a1s]
theorem a5H{p:Array Keyed}{src d:Nat}(hs:src<p.size)(hd:d≤src)(k:Nat):gk (bubble p src d) k=if k=src-d then gk p src else if src-d<k∧k≤src then gk p (k-1)else gk p k:=by
 rw[a1s,getElem?_bubble hs d hd]
 split
 ·rw[a1s]
 ·split<;>rw[a1s]
structure Rst(a0:Array Keyed)(lo hi:Nat)(a:Array Keyed):Prop where
 pm:a.Perm a0
 out:∀x,(x<lo∨hi≤x)→gk a x=gk a0 x
theorem Rst.refl(a:Array Keyed)(lo hi:Nat):Rst a lo hi a:=⟨.refl _,fun _ _=>rfl⟩
theorem Rst.size{a0 a:Array Keyed}{lo hi:Nat}(h:Rst a0 lo hi a):a.size=a0.size:=h.pm.size_eq
theorem Rst.rev{a0 a:Array Keyed}{lo hi i j:Nat}(h:Rst a0 lo hi a)(hi':lo≤i)(hj:j≤hi)(hs:hi≤a0.size):Rst a0 lo hi (E9 a i j) :=
 ⟨(mirror_perm _ _ _ _).trans h.pm,fun x hx=>by rw[a0e (by rw[h.size];omega),if_neg (by omega)];exact h.out x hx⟩
theorem Rst.bub{a0 a:Array Keyed}{lo hi src d:Nat}(h:Rst a0 lo hi a)(h1:lo≤src-d)(hd:d≤src)(h2:src<hi)(hs:hi≤a0.size):Rst a0 lo hi (bubble a src d) :=
 ⟨(bubble_perm _ _ _).trans h.pm,fun x hx=>by rw[a5H (by rw[h.size];omega) hd,if_neg (by omega),if_neg (by omega)];exact h.out x hx⟩
structure StR(st0:SortSt)(lo hi:Nat)(st:SortSt):Prop where
 k:kindOf st=kindOf st0
 p:pendingOf st=pendingOf st0
 f:failedOf st=failedOf st0
 r:Rst (arrOf st0) lo hi (arrOf st)
def Z2(lt:Keyed→Keyed→Bool)(p:Array Keyed)(lo m:Nat):Prop:=∀i j,i≤j→j<m→lt (gk p (lo+j)) (gk p (lo+i))=false
def DnK(lt:Keyed→Keyed→Bool)(p:Array Keyed)(lo m:Nat):Prop:=∀i j,i≤j→j<m→lt (gk p (lo+i)) (gk p (lo+j))=false
abbrev b1E(lo:Nat):Nat→(Option (Option Nat)×Nat)→StateT SortSt Sem (ForInStep (Option (Option Nat)×Nat)):=fun x __s=>do
 let __x ← ltAt' (lo+__s.snd) (lo+__s.snd-1)
 match __x with
  | some smaller =>
   if smaller=true then pure (ForInStep.done (none,__s.snd))
   else pure (ForInStep.yield (none,__s.snd+1))
  | x=>pure (ForInStep.done (some none,__s.snd))
abbrev b1F(lo:Nat):Nat→(Option (Option Nat)×Nat×Nat)→StateT SortSt Sem (ForInStep (Option (Option Nat)×Nat×Nat)):=fun x __s=>do
 let __x ← ltAt' (lo+__s.snd.fst) (lo+__s.snd.fst-1)
 match __x with
  | some smaller =>
   if smaller=true then
    if __s.snd.snd > 0 then do
     reverseSlice' (lo+__s.snd.fst-(__s.snd.snd+1)) (lo+__s.snd.fst)
     pure (ForInStep.yield (none,__s.snd.fst+1,0))
    else pure (ForInStep.yield (none,__s.snd.fst+1,0))
   else do
    let __x ← ltAt' (lo+__s.snd.fst-1) (lo+__s.snd.fst)
    match __x with
     | some larger =>
      if larger=true then pure (ForInStep.done (none,__s.snd.fst,__s.snd.snd))
      else pure (ForInStep.yield (none,__s.snd.fst+1,__s.snd.snd+1))
     | x=>pure (ForInStep.done (some none,__s.snd.fst,__s.snd.snd))
  | x=>pure (ForInStep.done (some none,__s.snd.fst,__s.snd.snd))
section
variable {prog:Program}{w:World}{A:Around}{E:Value→Shared→Prop}{s:Shared}{κ:SortKind}{lt:Keyed→Keyed→Bool}{Dm:Keyed→Prop}{st0 st:SortSt}{lo n m:Nat}
theorem StR.dmk(R:StR st0 lo m st)(hD:∀x∈(arrOf st0).toList,Dm x){i:Nat}(hi:i<(arrOf st0).size):Dm (gk (arrOf st) i):=by
 refine hD _ (R.r.pm.mem_iff.mp ?_ |> Array.mem_toList_iff.mpr)
 have hs:i<(arrOf st).size:=by rw[R.r.size];exact hi
 have:=a0z hs
 rw[Array.getElem?_eq_getElem hs]at this
 rw[← Option.some.inj this]
 exact Array.getElem_mem hs
theorem a0f{i j:Nat}{Q:Option Bool→SortSt→Prop}(C:B6 prog w A s κ lt Dm)(hk:kindOf st=κ)(hi:i<(arrOf st).size)(hj:j<(arrOf st).size)(di:Dm (gk (arrOf st) i))(dj:Dm (gk (arrOf st) j))(h:Q (some (lt (gk (arrOf st) i) (gk (arrOf st) j))) st):wpS (model prog w) A E s (ltAt' i j) Q st:=by
 rw[ltAt'_eq]
 refine wpS_bind (wpS_get ?_)
 exact wpS_bind (r8 (a0z hi) (wpS_bind (r8 (a0z hj) (a0d C hk di dj h))))
theorem P8{i j:Nat}{Q:Unit→SortSt→Prop}(h:Q () (setArr st (E9 (arrOf st) i j))):wpS (model prog w) A E s (reverseSlice' i j) Q st:=by
 rw[reverseSlice'_eq]
 exact wpS_modify h
theorem StR.rev{hi i j:Nat}(R:StR st0 lo hi st)(h1:lo≤i)(h2:j≤hi)(hs:hi≤(arrOf st0).size):StR st0 lo hi (setArr st (E9 (arrOf st) i j)):=⟨R.k,R.p,R.f,R.r.rev h1 h2 hs⟩
theorem a0g{a:Nat}{Q:Option (Option Nat)×Nat→SortSt→Prop}(C:B6 prog w A s κ lt Dm)(T:TPK lt Dm)(hk:kindOf st0=κ)(hD:∀x∈(arrOf st0).toList,Dm x)(R:StR st0 lo (lo+n) st)(hs:lo+n≤(arrOf st0).size)(h1:1≤a)(h2:a≤n)(u:Z2 lt (arrOf st) lo a)
  (h:∀m,a≤m→m≤n→Z2 lt (arrOf st) lo m→(m<n→lt (gk (arrOf st) (lo+m)) (gk (arrOf st) (lo+m-1))=true)→Q (none,m) st):wpS (model prog w) A E s (forIn [a:n] (none,a) (b1E lo)) Q st:=by
 have dm:∀i,i<lo+n→Dm (gk (arrOf st) i):=fun i hi=>R.dmk hD (by omega)
 have sz:=R.r.size
 refine wpS_forRange (fun i (c:Option (Option Nat)×Nat) st'=>c.1=none∧c.2=i∧st'=st∧Z2 lt (arrOf st) lo i) ?_ ?_ ⟨rfl,rfl,rfl,u⟩
 ·rintro i ⟨c0,c1⟩ st' hi1 hi2 ⟨e0,e1,rfl,u⟩
  dsimp only at e0 e1
  subst e0 e1
  refine wpS_bind (a0f C (R.k.trans hk) (by show lo+c1<_;omega) (by show lo+c1-1<_;omega) (dm _ (by show lo+c1<_;omega)) (dm _ (by show lo+c1-1<_;omega)) ?_)
  dsimp only
  cases c:lt (gk (arrOf st') (lo+c1)) (gk (arrOf st') (lo+c1-1))with
  | true =>
   rw[if_pos rfl]
   exact wpS_pure (h c1 hi1 (by omega) u fun _=>c)
  | false =>
   rw[if_neg (by simp)]
   refine wpS_pure ⟨rfl,rfl,rfl,fun i j hij hj=>?_⟩
   by_cases hjk:j<c1
   ·exact u i j hij hjk
   ·have e:j=c1:=by omega
    subst e
    by_cases hik:i=j
    ·subst hik;exact T.irr _ (dm _ (by omega))
    ·have:=u i (j-1) (by omega) (by omega)
     rw[show lo+(j-1)=lo+j-1 by omega]at this
     exact T.tr _ _ _ (dm _ (by omega)) (dm _ (by omega)) (dm _ (by omega)) this c
 ·rintro⟨c0,c1⟩ st' ⟨e0,e1,rfl,u⟩
  dsimp only at e0 e1
  have e2:max a n=n:=by omega
  rw[e2]at e1 u
  subst e0 e1
  exact h c1 h2 (Nat.le_refl _) u fun z=>absurd z (by omega)
theorem X6(hs:lo+m≤(arrOf st).size)(d:DnK lt (arrOf st) lo m):Z2 lt (arrOf (setArr st (E9 (arrOf st) lo (lo+m)))) lo m:=fun i j hij hj=>by
 have gr:=a0e (p:=arrOf st) (i:=lo) (j:=lo+m) hs
 show lt (gk (E9 (arrOf st) lo (lo+m)) (lo+j)) (gk (E9 (arrOf st) lo (lo+m)) (lo+i))=false
 rw[gr,gr,if_pos (by omega),if_pos (by omega),show lo+(lo+m)-1-(lo+j)=lo+(m-1-j) by omega,show lo+(lo+m)-1-(lo+i)=lo+(m-1-i) by omega]
 exact d _ _ (by omega) (by omega)
def Alk(lt:Keyed→Keyed→Bool)(p:Array Keyed)(lo k q:Nat):Prop:=∀i,k-(q+1)≤i→i<k→lt (gk p (lo+(k-1))) (gk p (lo+i))=false∧lt (gk p (lo+i)) (gk p (lo+(k-1)))=false
theorem a23{hi k q:Nat}(T:TPK lt Dm)(hD:∀x∈(arrOf st0).toList,Dm x)(R:StR st0 lo hi st)(hs:hi≤(arrOf st0).size)(hk:lo+k≤hi)(hq:q+1≤k)(d:DnK lt (arrOf st) lo k)(al:Alk lt (arrOf st) lo k q) :
  DnK lt (E9 (arrOf st) (lo+k-(q+1)) (lo+k)) lo k∧∀i,i<k→lt (gk (E9 (arrOf st) (lo+k-(q+1)) (lo+k)) (lo+i)) (gk (arrOf st) (lo+(k-1)))=false:=by
 have sz:=R.r.size
 have dm:∀i,i<k→Dm (gk (arrOf st) (lo+i)):=fun i hi=>R.dmk hD (by omega)
 have gr:=a0e (p:=arrOf st) (i:=lo+k-(q+1)) (j:=lo+k) (by omega)
 have at_:∀i,i<k→∃j,j<k∧gk (E9 (arrOf st) (lo+k-(q+1)) (lo+k)) (lo+i)=gk (arrOf st) (lo+j)∧(j=i∨(k-(q+1)≤i∧k-(q+1)≤j)):=fun i hi=>by
  rw[gr]
  split
  ·exact⟨k-(q+1)+k-1-i,by omega,by congr 1;omega,.inr ⟨by omega,by omega⟩⟩
  ·exact⟨i,hi,rfl,.inl rfl⟩
 have eqv:∀i,i<k→lt (gk (E9 (arrOf st) (lo+k-(q+1)) (lo+k)) (lo+i)) (gk (arrOf st) (lo+i))=false∧lt (gk (arrOf st) (lo+i)) (gk (E9 (arrOf st) (lo+k-(q+1)) (lo+k)) (lo+i))=false:=fun i hi=>by
  obtain⟨j,hj,e,z⟩:=at_ i hi
  rw[e]
  rcases z with rfl | ⟨z1,z2⟩
  ·exact⟨T.irr _ (dm _ hi),T.irr _ (dm _ hi)⟩
  ·have a:=al i z1 hi
   have b:=al j z2 hj
   exact⟨T.tr _ _ _ (dm _ hi) (dm _ (by omega)) (dm _ hj) a.1 b.2,T.tr _ _ _ (dm _ hj) (dm _ (by omega)) (dm _ hi) b.1 a.2⟩
 have dr:∀i,i<k→Dm (gk (E9 (arrOf st) (lo+k-(q+1)) (lo+k)) (lo+i)):=fun i hi=>by
  obtain⟨j,hj,e,_⟩:=at_ i hi
  rw[e];exact dm j hj
 refine⟨fun i j hij hj=>?_,fun i hi=>?_⟩
 ·exact T.tr _ _ _ (dr j hj) (dm i (by omega)) (dr i (by omega)) (T.tr _ _ _ (dr j hj) (dm j hj) (dm i (by omega)) (eqv j hj).2 (d i j hij hj)) (eqv i (by omega)).1
 ·exact T.tr _ _ _ (dm _ (by omega)) (dm i hi) (dr i hi) (d i (k-1) (by omega) (by omega)) (eqv i hi).1
theorem a5I{a:Nat}{Q:Option (Option Nat)×Nat×Nat→SortSt→Prop}(C:B6 prog w A s κ lt Dm)(T:TPK lt Dm)(hk:kindOf st0=κ)(hD:∀x∈(arrOf st0).toList,Dm x)(R:StR st0 lo (lo+n) st)(hs:lo+n≤(arrOf st0).size)(h1:1≤a)(h2:a≤n)(d:DnK lt (arrOf st) lo a)
  (h:∀k q st',a≤k→k≤n→q+1≤k→StR st0 lo (lo+n) st'→DnK lt (arrOf st') lo k→Alk lt (arrOf st') lo k q→Q (none,k,q) st'):wpS (model prog w) A E s (forIn [a:n] (none,a,0) (b1F lo)) Q st:=by
 refine wpS_forRange (fun i (c:Option (Option Nat)×Nat×Nat) st'=>c.1=none∧c.2.1=i∧c.2.2+1≤i∧StR st0 lo (lo+n) st'∧DnK lt (arrOf st') lo i∧Alk lt (arrOf st') lo i c.2.2) ?_ ?_ ⟨rfl,rfl,h1,R,d,fun i h1 h2=>?_⟩
 ·rintro i ⟨c0,k,q⟩ st1 hi1 hi2 ⟨e0,e1,hq,R1,d1,al⟩
  dsimp only at e0 e1 hq al
  subst e0 e1
  have sz:=R1.r.size
  have dm:∀i,i<lo+n→Dm (gk (arrOf st1) i):=fun i hi=>R1.dmk hD (by omega)
  refine wpS_bind (a0f C (R1.k.trans hk) (by show lo+k<_;omega) (by show lo+k-1<_;omega) (dm _ (by show lo+k<_;omega)) (dm _ (by show lo+k-1<_;omega)) ?_)
  dsimp only
  have ek:lo+k-1=lo+(k-1):=by omega
  rw[ek]
  have ext:∀p':Array Keyed,(∀i,i<k+1→Dm (gk p' (lo+i)))→DnK lt p' lo k→(∀i,i<k→lt (gk p' (lo+i)) (gk p' (lo+k))=false)→DnK lt p' lo (k+1):=fun p' dp d' c i j hij hj=>by
   by_cases hjk:j<k
   ·exact d' i j hij hjk
   ·have e:j=k:=by omega
    subst e
    by_cases hik:i=j
    ·subst hik;exact T.irr _ (dp _ (by omega))
    ·exact c i (by omega)
  have one:∀p':Array Keyed,(∀i,i<k+1→Dm (gk p' (lo+i)))→Alk lt p' lo (k+1) 0:=fun p' dp i h1 h2=>by
   have e:i=k+1-1:=by omega
   rw[e];exact⟨T.irr _ (dp _ (by omega)),T.irr _ (dp _ (by omega))⟩
  cases c:lt (gk (arrOf st1) (lo+k)) (gk (arrOf st1) (lo+(k-1)))with
  | true =>
   rw[if_pos rfl]
   have c':=T.asy _ _ (dm _ (by omega)) (dm _ (by omega)) c
   by_cases hq0:q > 0
   ·rw[if_pos hq0]
    obtain⟨dr,low⟩:=a23 T hD R1 hs (by omega) hq d1 al
    have R2:=R1.rev (i:=lo+k-(q+1)) (j:=lo+k) (by omega) (by omega) hs
    have gr:=a0e (p:=arrOf st1) (i:=lo+k-(q+1)) (j:=lo+k) (by omega)
    have gkk:gk (E9 (arrOf st1) (lo+k-(q+1)) (lo+k)) (lo+k)=gk (arrOf st1) (lo+k):=by rw[gr,if_neg (by omega)]
    have dp:∀i,i<k+1→Dm (gk (E9 (arrOf st1) (lo+k-(q+1)) (lo+k)) (lo+i)):=fun i hi=>R2.dmk hD (by omega)
    refine wpS_bind (P8 (wpS_pure ⟨rfl,rfl,by show 0+1≤k+1;omega,R2,?_,one _ dp⟩))
    exact ext _ dp dr fun i hi=>by
     rw[gkk]
     exact T.tr _ _ _ (dm _ (by omega)) (dm _ (by omega)) (dp i (by omega)) c' (low i hi)
   ·rw[if_neg hq0]
    have dp:∀i,i<k+1→Dm (gk (arrOf st1) (lo+i)):=fun i hi=>dm _ (by omega)
    exact wpS_pure ⟨rfl,rfl,by show 0+1≤k+1;omega,R1,ext _ dp d1 fun i hi=>T.tr _ _ _ (dm _ (by omega)) (dm _ (by omega)) (dm _ (by omega)) c' (d1 i (k-1) (by omega) (by omega)),one _ dp⟩
  | false =>
   rw[if_neg (by simp)]
   refine wpS_bind (a0f C (R1.k.trans hk) (by omega) (by omega) (dm _ (by omega)) (dm _ (by omega)) ?_)
   dsimp only
   cases e:lt (gk (arrOf st1) (lo+(k-1))) (gk (arrOf st1) (lo+k))with
   | true =>
    rw[if_pos rfl]
    exact wpS_pure (h k q st1 hi1 (by omega) hq R1 d1 al)
   | false =>
    rw[if_neg (by simp)]
    refine wpS_pure ⟨rfl,rfl,by show q+1+1≤k+1;omega,R1,ext _ (fun i hi=>dm _ (by omega)) d1 (fun i hi=>T.tr _ _ _ (dm _ (by omega)) (dm _ (by omega)) (dm _ (by omega)) e (d1 i (k-1) (by omega) (by omega))),fun i h1 h2=>?_⟩
    have h1:k+1-(q+1+1)≤i:=h1
    rw[Nat.add_sub_cancel]
    by_cases hik:i=k
    ·subst hik;exact⟨T.irr _ (dm _ (by omega)),T.irr _ (dm _ (by omega))⟩
    ·have a:=al i (by omega) (by omega)
     exact⟨T.tr _ _ _ (dm _ (by omega)) (dm _ (by omega)) (dm _ (by omega)) a.1 c,T.tr _ _ _ (dm _ (by omega)) (dm _ (by omega)) (dm _ (by omega)) e a.2⟩
 ·rintro⟨c0,k,q⟩ st1 ⟨e0,e1,hq,R1,d1,al⟩
  dsimp only at e0 e1 hq al
  have e2:max a n=n:=by omega
  rw[e2]at e1 hq d1 al
  subst e0 e1
  exact h k q st1 h2 (Nat.le_refl _) hq R1 d1 al
 ·have h1':a-(0+1)≤i:=h1
  have e:i=a-1:=by omega
  subst e
  exact⟨T.irr _ (R.dmk hD (by omega)),T.irr _ (R.dmk hD (by omega))⟩
theorem a5J{Q:Option Nat→SortSt→Prop}(C:B6 prog w A s κ lt Dm)(T:TPK lt Dm)(hk:kindOf st=κ)(hD:∀x∈(arrOf st).toList,Dm x)(hs:lo+n≤(arrOf st).size)(hn:1≤n)
  (h:∀k st',1≤k→k≤n→StR st lo (lo+n) st'→Z2 lt (arrOf st') lo k→Q (some k) st'):wpS (model prog w) A E s (countRun' lo n) Q st:=by
 have R:StR st lo (lo+n) st:=⟨rfl,rfl,rfl,.refl _ _ _⟩
 have dm:∀i,i<lo+n→Dm (gk (arrOf st) i):=fun i hi=>R.dmk hD (by omega)
 rw[a2u]
 refine wpS_bind (a0g C T hk hD R hs (Nat.le_refl _) hn (fun i j hij hj=>?_) fun m m1 m2 u z=>?_)
 ·have e:i=j:=by omega
  rw[e];exact T.irr _ (dm _ (by omega))
 dsimp only
 by_cases y:(m == n)=true
 ·rw[if_pos y]
  exact wpS_pure (h m st m1 m2 R u)
 rw[if_neg y]
 have y':m≠n:=by simpa using y
 have zl:=z (by omega)
 rw[show lo+m-1=lo+(m-1) by omega]at zl
 by_cases m0:m > 1
 ·rw[if_pos m0]
  refine wpS_bind (a0f C hk (by omega) (by omega) (dm _ (by omega)) (dm _ (by omega)) ?_)
  dsimp only
  rw[show lo+m-1=lo+(m-1) by omega]
  cases c:lt (gk (arrOf st) lo) (gk (arrOf st) (lo+(m-1)))with
  | true =>
   rw[if_pos rfl]
   exact wpS_pure (h m st m1 m2 R u)
  | false =>
   rw[if_neg (by simp)]
   refine wpS_bind (P8 ?_)
   have R2:=R.rev (i:=lo) (j:=lo+m) (Nat.le_refl _) (by omega) hs
   have gr:=a0e (p:=arrOf st) (i:=lo) (j:=lo+m) (by omega)
   have c0:lt (gk (arrOf st) (lo+0)) (gk (arrOf st) (lo+(m-1)))=false:=c
   have all:∀a b,a<m→b<m→lt (gk (arrOf st) (lo+a)) (gk (arrOf st) (lo+b))=false:=fun a b ha hb =>
    T.tr _ _ _ (dm _ (by omega)) (dm _ (by omega)) (dm _ (by omega)) (u b (m-1) (by omega) (by omega)) (T.tr _ _ _ (dm _ (by omega)) (dm _ (by omega)) (dm _ (by omega)) c0 (u 0 a (by omega) ha))
   have dn:DnK lt (arrOf (setArr st (E9 (arrOf st) lo (lo+m)))) lo (m+1):=fun i j hij hj=>by
    show lt (gk (E9 (arrOf st) lo (lo+m)) (lo+i)) (gk (E9 (arrOf st) lo (lo+m)) (lo+j))=false
    rw[gr,gr]
    by_cases hjm:j<m
    ·rw[if_pos (by omega),if_pos (by omega),show lo+(lo+m)-1-(lo+i)=lo+(m-1-i) by omega,show lo+(lo+m)-1-(lo+j)=lo+(m-1-j) by omega]
     exact all _ _ (by omega) (by omega)
    ·have e:j=m:=by omega
     subst e
     rw[if_neg (show ¬(lo≤lo+j∧lo+j<lo+j) by omega)]
     by_cases hij':i=j
     ·subst hij';rw[if_neg (by omega)];exact T.irr _ (dm _ (by omega))
     ·rw[if_pos (by omega),show lo+(lo+j)-1-(lo+i)=lo+(j-1-i) by omega]
      exact T.tr _ _ _ (dm _ (by omega)) (dm _ (by omega)) (dm _ (by omega)) (T.asy _ _ (dm _ (by omega)) (dm _ (by omega)) zl) (all _ _ (by omega) (by omega))
   refine wpS_bind (wpS_lift (wpAny_rule ⟨rfl,?_⟩))
   refine wpS_bind (a5I C T hk hD R2 hs (by omega) (by omega) dn fun k q st1 k1 k2 hq R1 d1 al=>?_)
   have sz:=R1.r.size
   dsimp only
   by_cases q0:q > 0
   ·rw[if_pos q0]
    obtain⟨dr,_⟩:=a23 T hD R1 hs (by omega) hq d1 al
    have R3:=R1.rev (i:=lo+k-(q+1)) (j:=lo+k) (by omega) (by omega) hs
    have sz3:=R3.r.size
    have R4:=R3.rev (i:=lo) (j:=lo+k) (Nat.le_refl _) (by omega) hs
    refine wpS_bind (P8 (wpS_bind (P8 (wpS_bind (a0g C T hk hD R4 hs (by omega) k2 (X6 (by omega) dr) fun k4 a1 a2 u _=>wpS_pure (h k4 _ (by omega) a2 R4 u))))))
   ·rw[if_neg q0]
    have R4:=R1.rev (i:=lo) (j:=lo+k) (Nat.le_refl _) (by omega) hs
    refine wpS_bind (P8 (wpS_bind (a0g C T hk hD R4 hs (by omega) k2 (X6 (by omega) d1) fun k4 a1 a2 u _=>wpS_pure (h k4 _ (by omega) a2 R4 u))))
 ·rw[if_neg m0]
  have e:m=1:=by omega
  subst e
  have dn:DnK lt (arrOf st) lo (1+1):=fun i j hij hj=>by
   by_cases hij':i=j
   ·subst hij';exact T.irr _ (dm _ (by omega))
   ·have e1:i=0:=by omega
    have e2:j=1:=by omega
    subst e1 e2
    exact T.asy _ _ (dm _ (by omega)) (dm _ (by omega)) zl
  refine wpS_bind (wpS_lift (wpAny_rule ⟨rfl,?_⟩))
  refine wpS_bind (a5I C T hk hD R hs (by omega) (by omega) dn fun k q st1 k1 k2 hq R1 d1 al=>?_)
  have sz:=R1.r.size
  dsimp only
  by_cases q0:q > 0
  ·rw[if_pos q0]
   obtain⟨dr,_⟩:=a23 T hD R1 hs (by omega) hq d1 al
   have R3:=R1.rev (i:=lo+k-(q+1)) (j:=lo+k) (by omega) (by omega) hs
   have sz3:=R3.r.size
   have R4:=R3.rev (i:=lo) (j:=lo+k) (Nat.le_refl _) (by omega) hs
   refine wpS_bind (P8 (wpS_bind (P8 (wpS_bind (a0g C T hk hD R4 hs (by omega) k2 (X6 (by omega) dr) fun k4 a1 a2 u _=>wpS_pure (h k4 _ (by omega) a2 R4 u))))))
  ·rw[if_neg q0]
   have R4:=R1.rev (i:=lo) (j:=lo+k) (Nat.le_refl _) (by omega) hs
   refine wpS_bind (P8 (wpS_bind (a0g C T hk hD R4 hs (by omega) k2 (X6 (by omega) d1) fun k4 a1 a2 u _=>wpS_pure (h k4 _ (by omega) a2 R4 u))))
end
section
variable {prog:Program}{w:World}{A:Around}{E:Value→Shared→Prop}{s:Shared}{κ:SortKind}{lt:Keyed→Keyed→Bool}{Dm:Keyed→Prop}{st0 st:SortSt}{lo n ok hi:Nat}
theorem a6W{Q:Bool→SortSt→Prop}(C:B6 prog w A s κ lt Dm)(T:TPK lt Dm)(hk:kindOf st0=κ)(hD:∀x∈(arrOf st0).toList,Dm x)(R:StR st0 lo hi st)(hs:hi≤(arrOf st0).size)(hn:lo+n≤hi)(h1:1≤ok)(h2:ok≤n)(u:Z2 lt (arrOf st) lo ok)
  (h:∀st',StR st0 lo hi st'→Z2 lt (arrOf st') lo n→Q true st'):wpS (model prog w) A E s (binarySort' lo n ok) Q st:=by
 rw[a1r]
 rw[show max ok 1=ok by omega]
 refine wpS_bind (wpS_mono (wpS_forRange (fun k (c:Option Bool×Unit) st'=>c.1=none∧StR st0 lo hi st'∧Z2 lt (arrOf st') lo k) (Q:=fun(c:Option Bool×Unit) st'=>c.1=none∧StR st0 lo hi st'∧Z2 lt (arrOf st') lo n) ?_ ?_ ⟨rfl,R,u⟩) ?_)
 ·rintro k ⟨c0,c1⟩ st1 hk1 hk2 ⟨e0,R1,u1⟩
  have sz:=R1.r.size
  have dm:∀i,i<n→Dm (gk (arrOf st1) (lo+i)):=fun i hi=>R1.dmk hD (by omega)
  refine wpS_bind (Q4 (fun(i:Nat) (c:Option Bool×Nat×Nat) st'=>c.1=none∧st'=st1∧c.2.1≤c.2.2∧c.2.2≤k∧(∀i,i<c.2.1→lt (gk (arrOf st1) (lo+k)) (gk (arrOf st1) (lo+i))=false)∧(∀i,c.2.2≤i→i<k→lt (gk (arrOf st1) (lo+i)) (gk (arrOf st1) (lo+k))=false)∧c.2.2-c.2.1≤k-i)
   (fun(c:Option Bool×Nat×Nat) st'=>c.1=none∧st'=st1∧c.2.1≤k∧(∀i,i<c.2.1→lt (gk (arrOf st1) (lo+k)) (gk (arrOf st1) (lo+i))=false)∧(∀i,c.2.1≤i→i<k→lt (gk (arrOf st1) (lo+i)) (gk (arrOf st1) (lo+k))=false)) ?_ ?_ ⟨rfl,rfl,Nat.zero_le _,Nat.le_refl _,fun i hi=>absurd hi (Nat.not_lt_zero _),fun i h1 h2=>by have h1:k≤i:=h1;omega,by show k-0≤k-0;omega⟩ ?_)
  ·rintro i ⟨d0,l,r⟩ st2 hi ⟨f0,rfl,a1,a2,a3,a4,a5⟩
   dsimp only at *
   by_cases z:l≥r
   ·rw[if_pos z]
    exact wpS_pure ⟨rfl,rfl,by show l≤k;omega,a3,fun i h1 h2=>a4 i (by have h1:l≤i:=h1;omega) h2⟩
   ·rw[if_neg z]
    refine wpS_bind (a0f C (R1.k.trans hk) (by omega) (by omega) (dm _ (by omega)) (dm _ (by omega)) ?_)
    dsimp only
    cases c:lt (gk (arrOf st2) (lo+k)) (gk (arrOf st2) (lo+(l+r)/2))with
    | true =>
     rw[if_pos rfl]
     refine wpS_pure ⟨rfl,rfl,by show l≤(l+r)/2;omega,by show(l+r)/2≤k;omega,a3,fun i h1 h2=>?_,by show(l+r)/2-l≤k-(i+1);omega⟩
     have h1:(l+r)/2≤i:=h1
     exact T.tr _ _ _ (dm _ (by omega)) (dm _ (by omega)) (dm _ (by omega)) (T.asy _ _ (dm _ (by omega)) (dm _ (by omega)) c) (u1 ((l+r)/2) i h1 h2)
    | false =>
     rw[if_neg (by simp)]
     refine wpS_pure ⟨rfl,rfl,by show(l+r)/2+1≤r;omega,a2,fun i h1=>?_,a4,by show r-((l+r)/2+1)≤k-(i+1);omega⟩
     have h1:i<(l+r)/2+1:=h1
     exact T.tr _ _ _ (dm _ (by omega)) (dm _ (by omega)) (dm _ (by omega)) (u1 i ((l+r)/2) (by omega) (by omega)) c
  ·rintro⟨d0,l,r⟩ st2 ⟨f0,rfl,a1,a2,a3,a4,a5⟩
   dsimp only at *
   exact⟨f0,rfl,by show l≤k;omega,a3,fun i h1 h2=>a4 i (by have h1:l≤i:=h1;omega) h2⟩
  ·rintro⟨d0,l,r⟩ st2 ⟨f0,rfl,a1,a3,a4⟩
   dsimp only at *
   subst f0
   dsimp only
   rw[moveDown'_eq]
   refine wpS_bind (wpS_modify (wpS_pure ?_))
   have R2:StR st0 lo hi (setArr st2 (bubble (arrOf st2) (lo+k) (lo+k-(lo+l)))):=⟨R1.k,R1.p,R1.f,R1.r.bub (by omega) (by omega) (by omega) hs⟩
   refine⟨rfl,R2,fun i j hij hj=>?_⟩
   have gb:=a5H (p:=arrOf st2) (src:=lo+k) (d:=lo+k-(lo+l)) (by omega) (by omega)
   show lt (gk (bubble (arrOf st2) (lo+k) (lo+k-(lo+l))) (lo+j)) (gk (bubble (arrOf st2) (lo+k) (lo+k-(lo+l))) (lo+i))=false
   rw[gb,gb,show lo+k-(lo+k-(lo+l))=lo+l by omega]
   by_cases e:i=j
   ·subst e
    split
    ·exact T.irr _ (dm _ (by omega))
    ·split
     ·rw[show lo+i-1=lo+(i-1) by omega];exact T.irr _ (dm _ (by omega))
     ·exact T.irr _ (dm _ (by omega))
   by_cases hjl:j=l
   ·rw[if_pos (by omega),if_neg (by omega),if_neg (by omega)];exact a3 i (by omega)
   ·rw[if_neg (show ¬lo+j=lo+l by omega)]
    by_cases hil:i=l
    ·rw[if_pos (by omega),if_pos (by omega),show lo+j-1=lo+(j-1) by omega];exact a4 (j-1) (by omega) (by omega)
    ·rw[if_neg (show ¬lo+i=lo+l by omega)]
     by_cases h1:l<j∧j≤k
     ·rw[if_pos (show lo+l<lo+j∧lo+j≤lo+k by omega),show lo+j-1=lo+(j-1) by omega]
      by_cases h2:l<i∧i≤k
      ·rw[if_pos (show lo+l<lo+i∧lo+i≤lo+k by omega),show lo+i-1=lo+(i-1) by omega];exact u1 _ _ (by omega) (by omega)
      ·rw[if_neg (show ¬(lo+l<lo+i∧lo+i≤lo+k) by omega)];exact u1 _ _ (by omega) (by omega)
     ·rw[if_neg (show ¬(lo+l<lo+j∧lo+j≤lo+k) by omega),if_neg (show ¬(lo+l<lo+i∧lo+i≤lo+k) by omega)];exact u1 _ _ hij (by omega)
 ·rintro⟨c0,c1⟩ st1 ⟨e0,R1,u1⟩
  have e2:max ok n=n:=by omega
  rw[e2]at u1
  exact⟨e0,R1,u1⟩
 ·rintro⟨c0,c1⟩ st1 ⟨e0,R1,u1⟩
  dsimp only at e0
  subst e0
  exact wpS_pure (h st1 R1 u1)
end
def PRun(lt:Keyed→Keyed→Bool):List (Nat×Nat×Nat)→List (List Keyed)→Nat→Prop
 | [],[],_=>True
 | p::ps,S::ss,o=>p.1=o∧p.2.1=S.length∧1≤S.length∧Srt lt S∧PRun lt ps ss (o+S.length)
 | _,_,_=>False
section
variable {lt:Keyed→Keyed→Bool}
theorem PRun.len:∀{pl:List (Nat×Nat×Nat)} {segs:List (List Keyed)} {o:Nat},PRun lt pl segs o→pl.length=segs.length∧pl.length≤segs.flatten.length
 | [],[],_,_=>⟨rfl,Nat.le_refl _⟩
 | p::ps,S::ss,o,h=>by
  obtain⟨_,_,h1,_,h2⟩:=h
  have:=PRun.len h2
  simp only[List.length_cons,List.flatten_cons,List.length_append]
  omega
 | [],_::_,_,h=>h.elim
 | _::_,[],_,h=>h.elim
theorem PRun.snoc:∀{pl:List (Nat×Nat×Nat)} {segs:List (List Keyed)} {o:Nat} {c:Nat×Nat×Nat} {S:List Keyed},PRun lt pl segs o→c.1=o+segs.flatten.length→c.2.1=S.length→1≤S.length→Srt lt S→PRun lt (pl++[c]) (segs++[S]) o
 | [],[],o,c,S,_,h1,h2,h3,h4=>⟨by simpa using h1,h2,h3,h4,trivial⟩
 | p::ps,U::ss,o,c,S,h,h1,h2,h3,h4=>by
  obtain⟨a1,a2,a3,a4,a5⟩:=h
  refine⟨a1,a2,a3,a4,PRun.snoc a5 ?_ h2 h3 h4⟩
  rw[h1];simp only[List.flatten_cons,List.length_append];omega
 | [],_::_,_,_,_,h,_,_,_,_=>h.elim
 | _::_,[],_,_,_,h,_,_,_,_=>h.elim
theorem PRun.pow:∀{pl ql:List (Nat×Nat×Nat)} {segs:List (List Keyed)} {o:Nat},PRun lt pl segs o→pl.map (fun p=>(p.1,p.2.1))=ql.map (fun p=>(p.1,p.2.1))→PRun lt ql segs o
 | [],[],[],_,_,_=>trivial
 | p::ps,q::qs,S::ss,o,h,e=>by
  obtain⟨a1,a2,a3,a4,a5⟩:=h
  simp only[List.map_cons]at e
  injection e with e1 e2
  injection e1 with e1 e3
  exact⟨e1▸a1,e3▸a2,a3,a4,PRun.pow a5 e2⟩
 | [],_::_,_,_,_,e=>by cases e
 | _::_,[],_,_,_,e=>by cases e
 | [],[],_::_,_,h,_=>h.elim
 | _::_,_::_,[],_,h,_=>h.elim
theorem PRun.split:∀{pl:List (Nat×Nat×Nat)} {segs:List (List Keyed)} {o i:Nat},PRun lt pl segs o→i+1<pl.length→∃p1 a b p2 s1 U V s2,pl=p1++a::b::p2∧p1.length=i∧segs=s1++U::V::s2∧a.1=o+s1.flatten.length∧a.2.1=U.length∧b.1=a.1+U.length∧b.2.1=V.length∧1≤U.length∧1≤V.length∧Srt lt U∧Srt lt V ∧
  ∀(W:List Keyed) (c:Nat×Nat×Nat),W.length=U.length+V.length→Srt lt W→c.1=a.1→c.2.1=W.length→PRun lt (p1++c::p2) (s1++W::s2) o
 | p::q::ps,S::S'::ss,o,0,h,_=>by
  obtain⟨a1,a2,a3,a4,b1,b2,b3,b4,b5⟩:=h
  refine⟨[],p,q,ps,[],S,S',ss,rfl,rfl,rfl,by simpa using a1,a2,by omega,b2,a3,b3,a4,b4,fun W c hW hs h1 h2=>⟨by rw[h1];exact a1,h2,by omega,hs,?_⟩⟩
  rw[hW,← Nat.add_assoc]
  exact b5
 | p::ps,S::ss,o,i+1,h,hi=>by
  obtain⟨a1,a2,a3,a4,a5⟩:=h
  obtain⟨p1,a,b,p2,s1,U,V,s2,e1,e2,e3,e4,e5,e6,e7,e8,e9,e10,e11,e12⟩:=PRun.split a5 (i:=i) (by rw[List.length_cons]at hi;omega)
  refine⟨p::p1,a,b,p2,S::s1,U,V,s2,by rw[e1];rfl,by rw[List.length_cons,e2],by rw[e3];rfl,by rw[e4];simp only[List.flatten_cons,List.length_append];omega,e5,e6,e7,e8,e9,e10,e11,fun W c hW hs h1 h2=>⟨a1,a2,a3,a4,e12 W c hW hs h1 h2⟩⟩
 | [p],[S],o,0,h,hi=>by simp at hi
 | [p],S::S'::ss,o,0,h,hi=>by simp at hi
 | p::q::ps,[S],o,0,h,_=>by obtain⟨_,_,_,_,h⟩:=h;exact h.elim
 | [],[],_,_,_,hi=>by simp at hi
 | [],_::_,_,_,h,_=>h.elim
 | _::_,[],_,_,h,_=>h.elim
end
structure SI(lt:Keyed→Keyed→Bool)(st0 st:SortSt)(lo:Nat)(l5:List Keyed):Prop where
 k:kindOf st=kindOf st0
 f:failedOf st=none
 pm:(arrOf st).Perm (arrOf st0)
 run:∃segs,(arrOf st).toList=segs.flatten++l5∧segs.flatten.length=lo∧PRun lt (pendingOf st).toList segs 0
section
variable {prog:Program}{w:World}{A:Around}{E:Value→Shared→Prop}{s:Shared}{κ:SortKind}{lt:Keyed→Keyed→Bool}{Dm:Keyed→Prop}{st0 st:SortSt}{lo:Nat}{l5:List Keyed}
theorem SI.psz(I:SI lt st0 st lo l5):(pendingOf st).size≤lo:=by
 obtain⟨segs,_,e2,pr⟩:=I.run
 have:=pr.len.2
 rw[Array.length_toList]at this
 omega
theorem a7Z{i:Nat}{Q:Bool→SortSt→Prop}(C:B6 prog w A s κ lt Dm)(T:TPK lt Dm)(hk:kindOf st0=κ)(hD:∀x∈(arrOf st0).toList,Dm x)(I:SI lt st0 st lo l5)(hi:i+1<(pendingOf st).size)(h:∀st',SI lt st0 st' lo l5→(pendingOf st').size+1=(pendingOf st).size→Q true st'):wpS (model prog w) A E s (mergeAt' i) Q st:=by
 obtain⟨segs,e1,e2,pr⟩:=I.run
 obtain⟨p1,a,b,p2,s1,U,V,s2,f1,f2,f3,f4,f5,f6,f7,f8,f9,f10,f11,f12⟩:=pr.split (i:=i) (by rw[Array.length_toList];exact hi)
 obtain⟨sa,na,pw⟩:=a
 obtain⟨sb,nb,pw'⟩:=b
 dsimp only at f4 f5 f6 f7 f12
 have dmA:∀x∈(arrOf st).toList,Dm x:=fun x hx=>hD x (Array.mem_toList_iff.mpr (I.pm.mem_iff.mp (Array.mem_toList_iff.mp hx)))
 have g1:(pendingOf st)[i]? = some (sa,na,pw):=by
  rw[← Array.getElem?_toList,f1,List.getElem?_append_right (by omega),f2,Nat.sub_self];rfl
 have g2:(pendingOf st)[i+1]? = some (sb,nb,pw'):=by
  rw[← Array.getElem?_toList,f1,List.getElem?_append_right (by omega),f2,show i+1-i=1 by omega];rfl
 have e:(arrOf st).toList=s1.flatten++U++(V++(s2.flatten++l5)):=by
  rw[e1,f3];simp
 refine a3J (pre:=s1.flatten) (U:=U) (V:=V) (post:=s2.flatten++l5) C T (I.k.trans hk) I.f g1 g2 e (by omega) f5.symm f7.symm (by omega) (by omega) (by omega) (fun x hx=>dmA x (by rw[e];simp[hx])) (fun x hx=>dmA x (by rw[e];simp[hx])) f10 f11 fun arr' g W hW hs ea=>?_
 have lW:W.length=U.length+V.length:=by rw[hW.length_eq,List.length_append]
 have ep:(((pendingOf st).setIfInBounds i (sa,na+nb,pw)).eraseIdxIfInBounds (i+1)).toList=p1++(sa,na+nb,pw)::p2:=by
  rw[Array.toList_eraseIdxIfInBounds,Array.toList_setIfInBounds,f1,List.set_append_right _ _ (by omega),f2,Nat.sub_self,List.set_cons_zero,List.eraseIdx_append_of_length_le (by omega),f2,show i+1-i=1 by omega]
  rfl
 refine h _ ⟨I.k.symm▸(by rw[I.k];exact hk.symm),rfl,?_,s1++W::s2,?_,?_,?_⟩ ?_
 ·refine Array.Perm.trans ?_ I.pm
  refine Array.perm_iff_toList_perm.mpr ?_
  show arr'.toList.Perm _
  rw[ea,e]
  refine List.Perm.trans ?_ (List.Perm.of_eq (by simp:s1.flatten++(U++V)++(s2.flatten++l5)=_))
  exact(hW.append_left _).append_right _
 ·show arr'.toList=_
  rw[ea];simp
 ·rw[← e2,f3]
  simp only[List.flatten_append,List.flatten_cons,List.length_append,lW]
  omega
 ·show PRun lt (((pendingOf st).setIfInBounds i (sa,na+nb,pw)).eraseIdxIfInBounds (i+1)).toList _ 0
  rw[ep]
  exact f12 W _ lW hs rfl (by show na+nb=_;omega)
 ·show(((pendingOf st).setIfInBounds i (sa,na+nb,pw)).eraseIdxIfInBounds (i+1)).size+1=_
  rw[← Array.length_toList,ep,← Array.length_toList (xs:=pendingOf st),f1]
  simp
  omega
end
abbrev b1G(pw:Nat):Nat→(Option Unit×Unit)→StateT SortSt Sem (ForInStep (Option Unit×Unit)):=fun x __s_1=>do
 let __do_lift_3 ← get
 match if(pendingOf __do_lift_3).size > 1 then(pendingOf __do_lift_3)[(pendingOf __do_lift_3).size-2]? else none with
  | some (fst,fst_1,older) =>
   if older≤pw then pure (ForInStep.done (none,()))
   else do
    let __do_lift ← mergeAt' ((pendingOf __do_lift_3).size-2)
    if(!__do_lift)=true then pure (ForInStep.done (some (),()))else pure (ForInStep.yield (none,()))
  | x=>pure (ForInStep.done (none,()))
section
variable {prog:Program}{w:World}{A:Around}{E:Value→Shared→Prop}{s:Shared}{κ:SortKind}{lt:Keyed→Keyed→Bool}{Dm:Keyed→Prop}{st0 st:SortSt}{lo n:Nat}{l5:List Keyed}
theorem a5K{N pw:Nat}{Q:Option Unit×Unit→SortSt→Prop}(C:B6 prog w A s κ lt Dm)(T:TPK lt Dm)(hk:kindOf st0=κ)(hD:∀x∈(arrOf st0).toList,Dm x)(I:SI lt st0 st lo l5)(h0:1≤(pendingOf st).size)(h:∀st',SI lt st0 st' lo l5→1≤(pendingOf st').size→Q (none,()) st'):wpS (model prog w) A E s (forIn [:N] (none,()) (b1G pw)) Q st:=by
 refine Q4 (fun i (c:Option Unit×Unit) st'=>c.1=none∧SI lt st0 st' lo l5∧1≤(pendingOf st').size) (fun(c:Option Unit×Unit) st'=>c.1=none∧SI lt st0 st' lo l5∧1≤(pendingOf st').size) ?_ (fun c st h=>h) ⟨rfl,I,h0⟩ ?_
 ·rintro i ⟨c0,c1⟩ st1 hi ⟨e0,I1,h1⟩
  refine wpS_bind (wpS_get ?_)
  by_cases z:(pendingOf st1).size > 1
  ·rw[if_pos z]
   have hz:(pendingOf st1).size-2<(pendingOf st1).size:=by omega
   rw[Array.getElem?_eq_getElem hz]
   obtain⟨q1,q2,q3⟩:=(pendingOf st1)[(pendingOf st1).size-2]
   dsimp only
   refine a20 (fun _=>wpS_pure ⟨rfl,I1,h1⟩) (fun _=>?_)
   refine wpS_bind (a7Z C T hk hD I1 (by omega) fun st2 I2 h2=>?_)
   exact wpS_pure ⟨rfl,I2,by omega⟩
  ·rw[if_neg z]
   exact wpS_pure ⟨rfl,I1,h1⟩
 ·rintro⟨c0,c1⟩ st1 ⟨e0,I1,h1⟩
  dsimp only at e0
  subst e0
  exact h st1 I1 h1
theorem a8w{a b:Array Keyed}{m:Nat}(hs:a.size=b.size)(h:∀x,x<m→gk a x=gk b x):a.toList.take m=b.toList.take m:=by
 apply List.ext_getElem?
 intro i
 by_cases hi:i<m
 ·rw[List.getElem?_take_of_lt hi,List.getElem?_take_of_lt hi,Array.getElem?_toList,Array.getElem?_toList]
  by_cases hz:i<a.size
  ·rw[a0z hz,a0z (by omega),h i hi]
  ·rw[Array.getElem?_eq_none (by omega),Array.getElem?_eq_none (by omega)]
 ·rw[List.getElem?_eq_none (by rw[List.length_take];omega),List.getElem?_eq_none (by rw[List.length_take];omega)]
theorem SI.add(I:SI lt st0 st lo l5){st1:SortSt}(R:StR st lo (arrOf st).size st1)(hn:1≤n)(hl:lo+n≤(arrOf st).size)(u:Z2 lt (arrOf st1) lo n):∃S rest',SI lt st0 st1 lo (S++rest')∧S.length=n∧Srt lt S:=by
 obtain⟨segs,e1,e2,pr⟩:=I.run
 have sz:=R.r.size
 have et:(arrOf st1).toList.take lo=segs.flatten:=by
  rw[a8w sz (fun x hx=>R.r.out x (.inl hx)),e1,← e2,List.take_left]
 have e3:(arrOf st1).toList=segs.flatten++(arrOf st1).toList.drop lo:=by rw[← et,List.take_append_drop]
 refine⟨((arrOf st1).toList.drop lo).take n,((arrOf st1).toList.drop lo).drop n,⟨R.k.trans I.k,R.f.trans I.f,R.r.pm.trans I.pm,segs,by rw[List.take_append_drop];exact e3,e2,by rw[R.p];exact pr⟩,by rw[List.length_take,List.length_drop,Array.length_toList];omega,?_⟩
 refine List.pairwise_iff_getElem.mpr fun i j hi hj hij=>?_
 have hi':=hi
 have hj':=hj
 rw[List.length_take,List.length_drop,Array.length_toList]at hi' hj'
 have at_:∀k,k<n→∀(h:k<(((arrOf st1).toList.drop lo).take n).length),(((arrOf st1).toList.drop lo).take n)[k]=gk (arrOf st1) (lo+k):=fun k hk h=>by
  have e4:(((arrOf st1).toList.drop lo).take n)[k]? = some (gk (arrOf st1) (lo+k)):=by
   rw[List.getElem?_take_of_lt hk,List.getElem?_drop,Array.getElem?_toList,a0z (by omega)]
  rw[List.getElem?_eq_getElem h]at e4
  exact Option.some.inj e4
 rw[at_ i (by omega) hi,at_ j (by omega) hj]
 exact u i j (by omega) (by omega)
theorem SI.push{S:List Keyed}{pw:Nat}(I:SI lt st0 st lo (S++l5))(hn:S.length=n)(h1:1≤n)(hs:Srt lt S):SI lt st0 (setPending st ((pendingOf st).push (lo,n,pw))) (lo+n) l5:=by
 obtain⟨segs,e1,e2,pr⟩:=I.run
 refine⟨I.k,I.f,I.pm,segs++[S],by show(arrOf st).toList=_;rw[e1];simp,by simp only[List.flatten_append,List.flatten_cons,List.flatten_nil,List.length_append,List.length_nil];omega,?_⟩
 show PRun lt ((pendingOf st).push (lo,n,pw)).toList _ 0
 rw[Array.toList_push]
 exact pr.snoc (by show lo=_;omega) (by show n=_;omega) (by omega) hs
theorem SI.pow{f:Nat×Nat×Nat→Nat×Nat×Nat}{i:Nat}(hf:∀p,((f p).1,(f p).2.1)=(p.1,p.2.1))(I:SI lt st0 st lo l5):SI lt st0 (setPending st ((pendingOf st).modify i f)) lo l5:=by
 obtain⟨segs,e1,e2,pr⟩:=I.run
 refine⟨I.k,I.f,I.pm,segs,e1,e2,?_⟩
 show PRun lt ((pendingOf st).modify i f).toList _ 0
 refine pr.pow ?_
 apply List.ext_getElem?
 intro j
 rw[List.getElem?_map,List.getElem?_map,Array.getElem?_toList,Array.getElem?_toList,Array.getElem?_modify]
 split
 ·rename_i z
  cases q:(pendingOf st)[j]? with
  | none=>rfl
  | some p=>simp[hf p]
 ·rfl
end
section
variable {prog:Program}{w:World}{A:Around}{E:Value→Shared→Prop}{s:Shared}{κ:SortKind}{lt:Keyed→Keyed→Bool}{Dm:Keyed→Prop}{st:SortSt}
theorem a6X{p:Prop} [Decidable p] (a:Nat):(if p then a-1 else a)≤a:=by
 split<;>omega
theorem a3K{Q:Unit→SortSt→Prop}(C:B6 prog w A s κ lt Dm)(T:TPK lt Dm)(hk:kindOf st=κ)(hf:failedOf st=none)(hp:pendingOf st = #[])(hD:∀x∈(arrOf st).toList,Dm x)
  (h:∀st',(arrOf st').Perm (arrOf st)→failedOf st'=none→Srt lt (arrOf st').toList→Q () st'):wpS (model prog w) A E s sortRuns' Q st:=by
 rw[sortRuns'_eq]
 refine wpS_bind (wpS_get ?_)
 dsimp only
 have I0:SI lt st st 0 (arrOf st).toList:=⟨rfl,hf,.refl _,[],rfl,rfl,by rw[hp];trivial⟩
 refine wpS_bind (Q4 (fun(i:Nat) (c:Option Unit×Nat) st'=>c.1=none∧i≤c.2∧c.2≤(arrOf st).size∧∃l5,SI lt st st' c.2 l5) (fun(c:Option Unit×Nat) st'=>c.1=none∧∃l5,SI lt st st' (arrOf st).size l5) ?_ ?_ ⟨rfl,Nat.le_refl _,Nat.zero_le _,_,I0⟩ ?_)
 ·rintro i ⟨c0,lo⟩ st1 hi ⟨e0,h1,h2,l5,I⟩
  dsimp only at e0 h1 h2 I
  by_cases z:lo≥(arrOf st).size
  ·rw[if_pos z]
   have e:lo=(arrOf st).size:=by omega
   subst e
   exact wpS_pure ⟨rfl,l5,I⟩
  ·rw[if_neg z]
   have sz:(arrOf st1).size=(arrOf st).size:=I.pm.size_eq
   have hD1:∀x∈(arrOf st1).toList,Dm x:=fun x hx=>hD x (Array.mem_toList_iff.mpr (I.pm.mem_iff.mp (Array.mem_toList_iff.mp hx)))
   refine wpS_bind (a5J C T (I.k.trans hk) hD1 (by omega) (by omega) fun k st2 k1 k2 R u=>?_)
   dsimp only
   have k2:k≤(arrOf st).size-lo:=k2
   have R:StR st1 lo (lo+((arrOf st).size-lo)) st2:=R
   have u:Z2 lt (arrOf st2) lo k:=u
   rw[show lo+((arrOf st).size-lo)=(arrOf st1).size by omega]at R
   -- what follows a run of n
   have go:∀(n:Nat) (st3:SortSt),1≤n→lo+n≤(arrOf st).size→StR st1 lo (arrOf st1).size st3→Z2 lt (arrOf st3) lo n →
     ∃S rest',SI lt st st3 lo (S++rest')∧S.length=n∧Srt lt S:=fun n st3 n1 n2 R3 u3=>I.add R3 n1 (by omega) u3
   by_cases zr:k<minRun' (arrOf st).size (arrOf st).size 0
   ·rw[if_pos zr]
    refine wpS_bind (wpS_lift (wpAny_rule ⟨rfl,?_⟩))
    refine wpS_bind (a6W C T (I.k.trans hk) hD1 R (Nat.le_refl _) (by omega) k1 (by omega) u fun st3 R3 u3=>?_)
    rw[if_neg (by simp)]
    obtain⟨S,rest',I3,hS,sS⟩:=go _ st3 (by omega) (by omega) R3 u3
    refine wpS_bind (wpS_get ?_)
    have n1':1≤min ((arrOf st).size-lo) (minRun' (arrOf st).size (arrOf st).size 0):=by omega
    have n2':lo+min ((arrOf st).size-lo) (minRun' (arrOf st).size (arrOf st).size 0)≤(arrOf st).size:=by omega
    generalize min ((arrOf st).size-lo) (minRun' (arrOf st).size (arrOf st).size 0)=n at *
    cases hb:(pendingOf st3).back? with
    | none =>
     dsimp only
     refine wpS_bind (wpS_modify (wpS_pure ⟨rfl,by show i+1≤lo+n;omega,by show lo+n≤_;omega,rest',I3.push hS (by omega) sS⟩))
    | some q =>
     obtain⟨s1,n1,pw0⟩:=q
     dsimp only
     have hps:1≤(pendingOf st3).size:=by
      by_cases y:(pendingOf st3).size=0
      ·rw[Array.back?_eq_getElem?,y]at hb
       rw[Array.getElem?_eq_none (by omega)]at hb
       cases hb
      ·omega
     refine wpS_bind (a5K C T hk hD I3 hps fun st4 I4 h4=>?_)
     dsimp only
     refine wpS_bind (wpS_modify (wpS_bind (wpS_modify (wpS_pure ⟨rfl,by show i+1≤lo+n;omega,by show lo+n≤_;omega,rest',SI.push (SI.pow (f:=fun x=>(x.1,x.2.1,power' (arrOf st).size (2*s1+n1) (2*s1+n1+n1+n) (arrOf st).size)) (fun p=>rfl) I4) hS (by omega) sS⟩))))
   ·rw[if_neg zr]
    obtain⟨S,rest',I3,hS,sS⟩:=go _ st2 k1 (by omega) R u
    refine wpS_bind (wpS_get ?_)
    cases hb:(pendingOf st2).back? with
    | none =>
     dsimp only
     refine wpS_bind (wpS_modify (wpS_pure ⟨rfl,by show i+1≤lo+k;omega,by show lo+k≤_;omega,rest',I3.push hS (by omega) sS⟩))
    | some q =>
     obtain⟨s1,n1,pw0⟩:=q
     dsimp only
     have hps:1≤(pendingOf st2).size:=by
      by_cases y:(pendingOf st2).size=0
      ·rw[Array.back?_eq_getElem?,y]at hb
       rw[Array.getElem?_eq_none (by omega)]at hb
       cases hb
      ·omega
     refine wpS_bind (a5K C T hk hD I3 hps fun st4 I4 h4=>?_)
     dsimp only
     refine wpS_bind (wpS_modify (wpS_bind (wpS_modify (wpS_pure ⟨rfl,by show i+1≤lo+k;omega,by show lo+k≤_;omega,rest',SI.push (SI.pow (f:=fun x=>(x.1,x.2.1,power' (arrOf st).size (2*s1+n1) (2*s1+n1+n1+k) (arrOf st).size)) (fun p=>rfl) I4) hS (by omega) sS⟩))))
 ·rintro⟨c0,lo⟩ st1 ⟨e0,h1,h2,l5,I⟩
  dsimp only at e0 h1 h2 I
  have e:lo=(arrOf st).size:=by omega
  subst e
  exact⟨e0,l5,I⟩
 ·rintro⟨c0,lo⟩ st1 ⟨e0,l5,I⟩
  dsimp only at e0
  subst e0
  dsimp only
  refine wpS_bind (Q4 (fun(i:Nat) (c:Option Unit×Unit) st'=>c.1=none∧SI lt st st' (arrOf st).size l5∧(pendingOf st').size+i≤(arrOf st).size+1) (fun(c:Option Unit×Unit) st'=>c.1=none∧SI lt st st' (arrOf st).size l5∧(pendingOf st').size≤1) ?_ ?_ ⟨rfl,I,by have:=I.psz;show(pendingOf st1).size+0≤_;omega⟩ ?_)
  ·rintro i ⟨d0,d1⟩ st2 hi ⟨f0,I2,h2⟩
   dsimp only at f0 h2
   refine wpS_bind (wpS_get ?_)
   by_cases z:(pendingOf st2).size≤1
   ·rw[if_pos z]
    exact wpS_pure ⟨rfl,I2,z⟩
   ·rw[if_neg z]
    have key:∀j,j+1<(pendingOf st2).size→wpS (model prog w) A E s (do
      let __do_lift ← mergeAt' j
      if(!__do_lift)=true then pure (ForInStep.done (some (),()))else pure (ForInStep.yield (none,()))) (fun(r:ForInStep (Option Unit×Unit)) st'=>match r with
       | .done c'=>c'.1=none∧SI lt st st' (arrOf st).size l5∧(pendingOf st').size≤1
       | .yield c'=>c'.1=none∧SI lt st st' (arrOf st).size l5∧(pendingOf st').size+(i+1)≤(arrOf st).size+1) st2:=fun j hj =>
     wpS_bind (a7Z C T hk hD I2 hj fun st3 I3 h3=>wpS_pure ⟨rfl,I3,by show(pendingOf st3).size+(i+1)≤_;omega⟩)
    refine wpS_mono (key _ ?_) fun r st' q=>by cases r<;>exact q
    exact Nat.lt_of_le_of_lt (Nat.add_le_add_right (a6X _) 1) (by omega)
  ·rintro⟨d0,d1⟩ st2 ⟨f0,I2,h2⟩
   dsimp only at f0 h2
   exact⟨f0,I2,by show(pendingOf st2).size≤1;omega⟩
  ·rintro⟨d0,d1⟩ st2 ⟨f0,I2,h2⟩
   dsimp only at f0
   subst f0
   refine wpS_pure (h st2 I2.pm I2.f ?_)
   obtain⟨segs,e1,e2,pr⟩:=I2.run
   have sz:(arrOf st2).toList.length=(arrOf st).size:=by rw[Array.length_toList];exact I2.pm.size_eq
   have er:l5=[]:=by
    have:=congrArg List.length e1
    rw[List.length_append,sz,e2]at this
    exact List.eq_nil_of_length_eq_zero (by omega)
   have hl:=pr.len.1
   rw[Array.length_toList]at hl
   rw[e1,er,List.append_nil]
   match segs,pr,hl with
   | [],_,_=>exact List.Pairwise.nil
   | [S],pr,_ =>
    match hq:(pendingOf st2).toList,pr with
    | p::ps,pr =>
     obtain⟨_,_,_,hs,_⟩:=pr
     simpa using hs
   | _::_::_,_,hl=>simp at hl;omega
end
theorem TupPre.uniq{h:Heap}{v:Value}{k l:List Int}(t:TupPre h v k)(t':TupPre h v l)(hl:k.length=l.length):k=l:=by
 obtain⟨a,o,xs,m,vs,rs,e1,ho,_,hd,hx,hi,_⟩:=t
 obtain⟨a',o',xs',m',vs',rs',e2,ho',_,hd',hx',hi',_⟩:=t'
 rw[e1]at e2;cases e2
 rw[ho]at ho';cases ho'
 rw[hd]at hd';cases hd'
 rw[hx]at hx'
 have hv:vs=vs':=(List.append_inj hx' (by rw[hi.length,hi'.length,hl])).1
 rw[← IntsAre.numsOf hi,← IntsAre.numsOf hi',hv]
theorem a5L{α β:Type}(f:α→β){a:List β}{b:List β}(h:a.Perm b):∀l:List α,b=l.map f→∃m:List α,m.Perm l∧a=m.map f:=by
 induction h with
 | nil=>intro l e;exact⟨l,.refl _,e⟩
 | cons x p ih =>
  intro l e
  cases l with
  | nil=>cases e
  | cons y l =>
   rw[List.map_cons]at e
   injection e with e1 e2
   obtain⟨m,p1,q1⟩:=ih l e2
   exact⟨y::m,p1.cons y,by rw[List.map_cons,e1,q1]⟩
 | swap x y r =>
  intro l e
  match l,e with
  | a::b::l,e =>
   rw[List.map_cons,List.map_cons]at e
   injection e with e1 e2
   injection e2 with e2 e3
   exact⟨b::a::l,.swap _ _ _,by rw[List.map_cons,List.map_cons,e1,e2,e3]⟩
 | trans p q ih1 ih2 =>
  intro l e
  obtain⟨m1,p1,q1⟩:=ih2 l e
  obtain⟨m2,p2,q2⟩:=ih1 m1 q1
  exact⟨m2,p2.trans p1,q2⟩
section
variable {X:Cx}{pins:List (Addr×Obj)}{σ:St}{H:Hp}{s:Shared}{A':Around}{E:Value→Shared→Prop}
theorem a1t{D kS:Addr}{vs:List Value}{xs:List V}{e1 e2:Nat}{kA:Array Value}{st:SortSt}{p:List Nat}{P:PySem.Fin→Shared→Prop}(I:Inv X pins σ H s)(fD:FpOk X pins H D)(fk:FpOk X pins H kS)(ne:kS≠D)(hD:s.heap.get? D=some (seqObj "list" #[] e1))(hk:s.heap.get? kS=some (seqObj "list" kA e2))(rv:Vals xs vs)(h64:vs.length<1000)(hkA:kA.size≤vs.length)
  (hout:(arrOf st).map (·.2)=(p.map fun i=>vs.getD i Value.none).toArray) (hf:failedOf st=none) (hp:p.Perm (List.range xs.length))
  (h:∀s',Inv X pins σ (upd H D (.lst (p.map fun i=>xs.getD i .non))) s'→P (.done (.ret .none)) s'):wpAny (model X.prog X.w) A' (ksk_tail D false e1 (.ref kS) st) P E s:=by
 have hlen:=rv.length
 have hsz3:((p.map fun i=>vs.getD i Value.none).toArray).size=vs.length:=by rw[List.size_toArray,List.length_map,hp.length_eq,List.length_range,hlen]
 have s1:=Heap.SameBut.update s.heap kS (Obj.mapSeq fun _=>(#[]:Array Value))
 have na1:(s.heap.update kS (Obj.mapSeq fun _=>(#[]:Array Value))).get? D=some (seqObj "list" #[] e1):=(s1.2 D (Ne.symm ne)).trans hD
 have s2:=Heap.SameBut.update (s.heap.update kS (Obj.mapSeq fun _=>(#[]:Array Value))) D (Obj.mapSeq fun _=>(p.map fun i=>vs.getD i Value.none).toArray)
 obtain⟨c2,hc2⟩:∃c2,((s.heap.update kS (Obj.mapSeq fun _=>(#[]:Array Value))).update D (Obj.mapSeq fun _=>(p.map fun i=>vs.getD i Value.none).toArray)).get? D=some (seqObj "list" (p.map fun i=>vs.getD i Value.none).toArray c2):=⟨_,get?_update_seq na1 fun _=>_⟩
 unfold ksk_tail
 rw[hout,hf]
 dsimp only
 refine wpAny_bind (listUpdate_at hk rfl ?_ (by rw[sizeLine_eq];omega) (Nat.zero_le _))
 refine wpAny_bind (wpAny_letGo ?_)
 refine wpAny_bind (seqEpoch_at na1 rfl ?_)
 refine wpAny_bind (listUpdate_at na1 rfl ?_ (Nat.zero_le _) (Nat.le_trans (Nat.le_of_eq hsz3) (by rw[sizeLine_eq];omega)))
 simp only[bne_self_eq_false,Bool.false_eq_true,if_false]
 refine wpAny_pure (h _ ?_)
 have I2:=I.turnedN (t':=s.toks) (ch:=[kS,D]) (h':=((s.heap.update kS (Obj.mapSeq fun _=>(#[]:Array Value))).update D (Obj.mapSeq fun _=>(p.map fun i=>vs.getD i Value.none).toArray))) (fun b u hb e=>by
  simp only[List.mem_cons,List.not_mem_nil,or_false,not_or]at hb
  exact(s2.2 b hb.2).trans ((s1.2 b hb.1).trans e)) (fun b hb=>by
  simp only[List.mem_cons,List.not_mem_nil,or_false]at hb
  rcases hb with rfl | rfl
  ·exact fk
  ·exact fD)
 refine I2.trackO ?_ hc2 rfl ?_
 ·rintro(z | ⟨z,o,e⟩ | ⟨q,hq,e⟩)
  ·exact z fD.1
  ·rcases fD.2.2.2.1 with y | y
   ·exact z y
   ·exact absurd (Heap.lt_size e) (Nat.not_lt.mpr y)
  ·exact fD.2.2.2.2.2 q hq e
 ·refine⟨?_,p.map fun i=>vs.getD i Value.none,c2,a2i p rv fun i hi=>List.mem_range.mp (hp.mem_iff.mp hi),hc2⟩
  rw[List.length_map,hp.length_eq,List.length_range,hlen,sizeLine_eq]
  omega
theorem a5M{D kS:Addr}{vs keys:List Value}{xs ys:List V}{ks:List (List Int)}{e1 e2:Nat}{P:PySem.Fin→Shared→Prop}(I:Inv X pins σ H s)(fD:FpOk X pins H D)(fk:FpOk X pins H kS)(ne:kS≠D)(hD:s.heap.get? D=some (seqObj "list" #[] e1))(hk:s.heap.get? kS=some (seqObj "list" keys.toArray e2))(rv:Vals xs vs)(rk:Vals ys keys)(hl:keys.length=vs.length)(h64:vs.length<1000)
  (vp:VPs X.K H ys ks) (hd:∀i j,i<ys.length→j<ys.length→i≠j→(ks.getD i []).length=(ks.getD j []).length∧ks.getD i []≠ks.getD j [])
  (h:∀(p:List Nat) s',p.Perm (List.range xs.length)→p.Pairwise (fun i j=>HT.lexLt (ks.getD j []) (ks.getD i [])=false)→Inv X pins σ (upd H D (.lst (p.map fun i=>xs.getD i .non))) s'→P (.done (.ret .none)) s') :
  wpAny (model X.prog X.w) A' (ksk_end D false vs.toArray e1 (.ref kS) keys.toArray) P E s:=by
 have hxl:=rv.length
 have hyl:=rk.length
 have tp:TPs s.heap keys ks:=a37 I rk vp
 unfold ksk_end
 simp only[Bool.false_eq_true,if_false]
 by_cases h2':vs.toArray.size<2
 ·rw[if_pos h2',if_pos h2']
  refine wpAny_bind (wpAny_pure ?_)
  rw[StateT.run_pure]
  refine wpAny_bind (wpAny_pure ?_)
  have hlen:vs.length<2:=by simpa using h2'
  refine a1t (st:=SortSt.mk' general' (keys.toArray.zip vs.toArray) #[] 7 none) (p:=List.range xs.length) I fD fk ne hD hk rv h64 (by simp;omega) ?_ rfl (List.Perm.refl _) fun s' J=>h _ s' (List.Perm.refl _) ?_ J
  ·show(keys.toArray.zip vs.toArray).map (·.2)=_
   rw[hxl]
   match vs,keys,hl,hlen with
   | [],[],_,_=>simp
   | [_],[_],_,_=>simp
  ·match hn:xs.length,(show xs.length<2 by omega)with
   | 0,_=>exact .nil
   | 1,_=>exact List.pairwise_singleton _ _
 ·rw[if_neg h2',if_neg h2']
  have hlen:2≤vs.length:=by simp at h2';omega
  obtain⟨fs,t1,t2,t3⟩:=a35 tp
  refine wpAny_bind (kat_kind (T:=.type "int") t1 (by omega) (fun v hv=>by obtain⟨i,t,rfl⟩:=t3 v hv;exact .of_pure rfl) (by decide) ?_)
  have eb:(Value.type "int" != Value.type "tuple")=true:=by decide +kernel
  rw[eb]
  have hz:(keys.toArray.zip vs.toArray).toList=(List.range vs.length).map fun i=>(keys.getD i Value.none,vs.getD i Value.none):=by
   apply List.ext_getElem?
   intro i
   rw[List.getElem?_map,ksk_zip,List.toList_toArray]
   by_cases hi:i<vs.length
   ·have h1:keys[i]? = some (keys.getD i Value.none):=by rw[List.getD_eq_getElem?_getD,List.getElem?_eq_getElem (by omega)];rfl
    have h2:vs[i]? = some (vs.getD i Value.none):=by rw[List.getD_eq_getElem?_getD,List.getElem?_eq_getElem hi];rfl
    rw[List.getElem?_range hi]
    exact List.getElem?_zip_eq_some.mpr ⟨h1,h2⟩
   ·rw[List.getElem?_eq_none (by simp;omega),List.getElem?_eq_none (by simp;omega)]
    rfl
  let kf:Keyed→List Int:=fun x=>if hx:∃i,i<vs.length∧(keys.getD i Value.none,vs.getD i Value.none)=x then ks.getD (Classical.choose hx) []else[]
  have kfe:∀x,(∃i,i<vs.length∧(keys.getD i Value.none,vs.getD i Value.none)=x)→∃i,i<vs.length∧(keys.getD i Value.none,vs.getD i Value.none)=x∧kf x=ks.getD i []:=fun x hx=>by
   refine⟨Classical.choose hx,(Classical.choose_spec hx).1,(Classical.choose_spec hx).2,?_⟩
   show dite _ _ _=_
   rw[dif_pos hx]
  have kfi:∀i,i<vs.length→kf (keys.getD i Value.none,vs.getD i Value.none)=ks.getD i []:=fun i hi=>by
   obtain⟨j,hj,e,ek⟩:=kfe _ ⟨i,hi,rfl⟩
   rw[ek]
   by_cases z:j=i
   ·rw[z]
   ·have e1:keys.getD j Value.none=keys.getD i Value.none:=(Prod.mk.inj e).1
    obtain⟨hln,_⟩:=hd j i (by omega) (by omega) z
    exact TupPre.uniq (tp.at j (by omega)) (e1▸tp.at i (by omega)) hln
  have T:TPK (fun x y=>HT.lexLt (kf x) (kf y)) (fun x=>∃i,i<vs.length∧(keys.getD i Value.none,vs.getD i Value.none)=x):=⟨fun x _=>a1Q _,fun x y z _ _ _ h1 h2=>a2Y _ _ _ h1 h2,fun x y _ _ h=>a1R _ _ h⟩
  have CO:B6 X.prog X.w A' s (tuples' true) (fun x y=>HT.lexLt (kf x) (kf y)) (fun x=>∃i,i<vs.length∧(keys.getD i Value.none,vs.getD i Value.none)=x):=fun x y hx hy Q hQ=>by
   obtain⟨i,hi,e1,k1⟩:=kfe x hx
   obtain⟨j,hj,e2,k2⟩:=kfe y hy
   have hQ:Q (HT.lexLt (kf x) (kf y)) s:=hQ
   rw[k1,k2]at hQ
   have ex:x.1=keys.getD i Value.none:=by rw[← e1]
   have ey:y.1=keys.getD j Value.none:=by rw[← e2]
   rw[ex,ey]
   by_cases z:i=j
   ·subst z
    refine TupPre.lt_self (tp.at i (by omega)) ?_
    rw[a1Q]at hQ
    exact hQ
   ·obtain⟨e,n⟩:=hd i j (by omega) (by omega) z
    exact TupPre.lt (tp.at i (by omega)) (tp.at j (by omega)) e n hQ
  refine wpAny_bind (wpAny_mono (a3K (E:=E) (st:=SortSt.mk' (tuples' true) (keys.toArray.zip vs.toArray) #[] 7 none) (Q:=fun _ st'=>(arrOf st').Perm (keys.toArray.zip vs.toArray)∧failedOf st'=none∧Srt (fun x y=>HT.lexLt (kf x) (kf y)) (arrOf st').toList) CO T rfl rfl rfl (fun x hx=>?_) fun st' a1 a2 a3=>⟨a1,a2,a3⟩) ?_ fun _ _ x=>x)
  ·have hx:x∈(keys.toArray.zip vs.toArray).toList:=hx
   rw[hz]at hx
   obtain⟨i,hi,e⟩:=List.mem_map.mp hx
   exact⟨i,List.mem_range.mp hi,e⟩
  ·rintro⟨⟨⟩,st'⟩ s' ⟨rfl,hP,hf,hS⟩
   have hP':=Array.perm_iff_toList_perm.mp hP
   rw[hz]at hP'
   obtain⟨p,hp,ep⟩:=a5L (fun i=>(keys.getD i Value.none,vs.getD i Value.none)) hP' (List.range vs.length) rfl
   have hPx:p.Perm (List.range xs.length):=by rw[hxl];exact hp
   have hlt:∀i∈p,i<vs.length:=fun i hi=>List.mem_range.mp (hp.mem_iff.mp hi)
   refine a1t (p:=p) I fD fk ne hD hk rv h64 (by simp;omega) ?_ hf hPx fun s' J=>h _ s' hPx ?_ J
   ·apply Array.toList_inj.mp
    rw[Array.toList_map,show(arrOf st').toList=_ from ep,List.map_map]
    rfl
   ·rw[show(arrOf st').toList=_ from ep]at hS
    have hS:=List.pairwise_map.mp hS
    exact List.Pairwise.imp_of_mem (fun{a b} ha hb hab=>by
     have hab:HT.lexLt (kf (keys.getD b Value.none,vs.getD b Value.none)) (kf (keys.getD a Value.none,vs.getD a Value.none))=false:=hab
     rw[kfi a (hlt a ha),kfi b (hlt b hb)]at hab
     exact hab) hS
theorem a5N{D f:Addr}{vs:List Value}{xs:List V}{n0:Nat}{W:Nat→List V→Hp→Prop}{P:PySem.Fin→Shared→Prop}(I:Inv X pins σ H s)(hD:s.heap.get? D=some (seqObj "list" vs.toArray n0))(fD:FpOk X pins H D)(rv:Vals xs vs)(h64:vs.length<1000)(w0:W 0 [] H)
  (turn:∀i x v ys H' s',xs[i]? = some x→RelV x v→W i ys H'→Inv X pins σ H' s'→(∀b o u,H b=some (.frz o u)→H' b=some (.frz o u))→wpAny (model X.prog X.w) A' (call (.ref f) [v]) (fun w s''=>∃y H2,Inv X pins σ H2 s''∧RelV y w∧W (i+1) (ys++[y]) H2∧Un (E5 X.stack) [] H' H2 s'.heap s''.heap) (fun _ _=>False) s')
  (fin:∀ys H',ys.length=xs.length→W xs.length ys H'→H' D=none→∃ks,VPs X.K H' ys ks∧(∀i j,i<ys.length→j<ys.length→i≠j→(ks.getD i []).length=(ks.getD j []).length∧ks.getD i []≠ks.getD j []) ∧
   ∀(p:List Nat) s',p.Perm (List.range xs.length)→p.Pairwise (fun i j=>HT.lexLt (ks.getD j []) (ks.getD i [])=false)→Inv X pins σ (upd H' D (.lst (p.map fun i=>xs.getD i .non))) s'→P (.done (.ret .none)) s') :
  wpAny (model X.prog X.w) A' (ksk_tree D (.ref f) false) P E s:=by
 have ha:D<s.heap.objs.size:=Heap.lt_size hD
 have s1:=Heap.SameBut.update s.heap D (Obj.mapSeq fun _=>(#[]:Array Value))
 obtain⟨e1,ho1⟩:∃e1,(s.heap.update D (Obj.mapSeq fun _=>(#[]:Array Value))).get? D=some (seqObj "list" #[] e1):=⟨_,get?_update_seq hD fun _ => #[]⟩
 have hkS:((s.heap.update D (Obj.mapSeq fun _=>(#[]:Array Value))).push (seqObj "tuple" vs.toArray 0)).objs.size=s.heap.objs.size+1:=by rw[size_push',Heap.size_update]
 have hxl:=rv.length
 unfold ksk_tree
 refine wpAny_bind (listItems_at hD rfl ?_)
 refine wpAny_bind (listUpdate_at hD rfl ?_ (by rw[List.size_toArray,sizeLine_eq];omega) (Nat.zero_le _))
 refine wpAny_bind (seqEpoch_at ho1 rfl ?_)
 refine wpAny_bind (wpAny_newTuple ?_ (by show vs.length≤_;rw[sizeLine_eq];omega))
 refine wpAny_bind (wpAny_newList ?_ (Nat.zero_le _))
 refine wpAny_holding ?_
 show wpAny (model X.prog X.w) A' (ksk_rest D (.ref f) false vs.toArray e1 (.ref ((s.heap.update D (Obj.mapSeq fun _=>(#[]:Array Value))).push (seqObj "tuple" vs.toArray 0)).objs.size)) P E { s with heap:=((s.heap.update D (Obj.mapSeq fun _=>(#[]:Array Value))).push (seqObj "tuple" vs.toArray 0)).push (seqObj "list" #[] 0) }
 have hkO:(((s.heap.update D (Obj.mapSeq fun _=>(#[]:Array Value))).push (seqObj "tuple" vs.toArray 0)).push (seqObj "list" #[] 0)).get? ((s.heap.update D (Obj.mapSeq fun _=>(#[]:Array Value))).push (seqObj "tuple" vs.toArray 0)).objs.size=some (seqObj "list" #[] 0):=Heap.get?_push_size _ rfl
 have hDO:(((s.heap.update D (Obj.mapSeq fun _=>(#[]:Array Value))).push (seqObj "tuple" vs.toArray 0)).push (seqObj "list" #[] 0)).get? D=some (seqObj "list" #[] e1):=Heap.get?_push_of_some _ (Heap.get?_push_of_some _ ho1)
 have I2:=I.turnedN (t':=s.toks) (ch:=[D]) (h':=((s.heap.update D (Obj.mapSeq fun _=>(#[]:Array Value))).push (seqObj "tuple" vs.toArray 0)).push (seqObj "list" #[] 0)) (fun b u hb e=>Heap.get?_push_of_some _ (Heap.get?_push_of_some _ ((s1.2 b (fun z=>hb (by simp[z]))).trans e))) (fun b hb=>by
  simp only[List.mem_singleton]at hb;rw[hb];exact fD)
 rw[hkS]at hkO ⊢
 have fk:FpOk X pins H (s.heap.objs.size+1):=I.fpOk (Nat.le_succ _) (I.hok.fresh (Nat.le_succ _))
 have ne:s.heap.objs.size+1≠D:=Nat.ne_of_gt (Nat.lt_succ_of_lt ha)
 generalize ((s.heap.update D (Obj.mapSeq fun _=>(#[]:Array Value))).push (seqObj "tuple" vs.toArray 0)).push (seqObj "list" #[] 0)=h2 at *
 generalize s.heap.objs.size+1=kS at *
 have nD:=fD.nstk I
 have nk:=fk.nstk I
 unfold ksk_rest
 refine wpAny_bind (wpAny_rule ?_)
 first
  | rw[List.forIn_toArray]
  | (rw[← Array.forIn_toList];simp only[List.toList_toArray])
  | rw[← Array.forIn_toList]
 refine wpAny_bind (ksk_fold (fun i s'=>∃H' ys kA e,Inv X pins σ H' s'∧W i ys H'∧Vals ys kA∧ys.length=i∧s'.heap.get? kS=some (seqObj "list" kA.toArray e)∧s'.heap.get? D=some (seqObj "list" #[] e1)∧H' kS=none∧H' D=none∧∀b o u,H b=some (.frz o u)→H' b=some (.frz o u)) vs 0 { s with heap:=h2 }
  ⟨H,[],[],0,I2,w0,.nil,rfl,hkO,hDO,fk.1,fD.1,fun _ _ _ e=>e⟩ ?step ?done)
 case step =>
  rintro j v s' hv ⟨H',ys,kA,e,I',wj,rk,ly,ok,od,nk',nd',fz⟩
  simp only[Nat.zero_add]at wj ly ⊢
  obtain⟨x,hx,rx⟩:=a8t rv hv
  have hj:j<vs.length:=(List.getElem?_eq_some_iff.mp hv).1
  have hz:=rk.length
  refine wpAny_bind (wpAny_attempt (wpAny_mono (turn j x v ys H' s' hx rx wj I' fz) (fun u s'' hu=>?_) fun _ _ z=>z.elim))
  obtain⟨y,H3,I3,ry,w3,un⟩:=hu
  have ok3:=un.keep kS _ ok nk' nk (by simp)
  have od3:=un.keep D _ od nd' nD (by simp)
  have s3:=Heap.SameBut.update s''.heap kS (Obj.mapSeq (·.push u))
  obtain⟨c2,hc2⟩:∃c2,(s''.heap.update kS (Obj.mapSeq (·.push u))).get? kS=some (seqObj "list" (kA.toArray.push u) c2):=⟨_,get?_update_seq ok3 (·.push u)⟩
  have nk3:=un.free kS _ ok nk' (by simp)
  have nd3:=un.free D _ od nd' (by simp)
  refine wpAny_bind (listUpdate_at ok3 rfl ?_ (by rw[List.size_toArray,sizeLine_eq];omega) (Nat.le_trans (Nat.le_of_eq (Array.size_push ..)) (by rw[List.size_toArray,sizeLine_eq];omega)))
  refine wpAny_pure ⟨rfl,H3,ys++[y],kA++[u],c2,I3.turnedN (ch:=[kS]) (fun b o hb e=>(s3.2 b (fun z=>hb (by simp[z]))).trans e) (fun b hb=>by
   simp only[List.mem_singleton]at hb;rw[hb];exact fk.to nk3),w3,?_,by rw[List.length_append,ly];rfl,?_,(s3.2 D (Ne.symm ne)).trans od3,nk3,nd3,fun b o u e=>un.frzs _ _ _ (fz b o u e)⟩
  ·exact rk.append (.cons ry .nil)
  ·rw[show(kA++[u]).toArray=kA.toArray.push u by simp];exact hc2
 case done =>
  rintro s' ⟨H',ys,kA,e,I',wj,rk,ly,ok,od,nk',nd',fz⟩
  rw[Nat.zero_add]at wj ly
  rw[← hxl]at wj ly
  obtain⟨ks,vp,hd,q⟩:=fin ys H' ly wj nd'
  refine wpAny_bind (listItems_at ok rfl ?_)
  have:=rk.length
  exact a5M I' (fD.to nd') (fk.to nk') ne od ok rv rk (by omega) h64 vp hd q
end
def a5O(K:PySem.W.Frag)(te:TE)(js:List Nat)(σ:St)(Q:VK)(vs:List V)(H1:Hp):Prop:=∃(a:Addr) (xs:List V),vs=[.ref a]∧SqL K H1 a xs∧xs.length<1000 ∧
 ∀H2:Hp,(∀a o,H1 a=some o→H2 a=some o)→∃W:Nat→List V→Hp→Prop,W 0 [] H2∧(∀i x ys H',xs[i]? = some x→W i ys H'→te (a2A js σ x) H' fun y H''=>W (i+1) (ys++[y]) H'') ∧
  ∀ys H',ys.length=xs.length→W xs.length ys H'→∃ks,VPs K H' ys ks∧(∀i j,i<ys.length→j<ys.length→i≠j→(ks.getD i []).length=(ks.getD j []).length∧ks.getD i []≠ks.getD j []) ∧
   ∀l (p:List Nat),H' l=none→p.Perm (List.range xs.length)→p.Pairwise (fun i j=>HT.lexLt (ks.getD j []) (ks.getD i [])=false)→Q (.ref l) (upd H' l (.lst (p.map fun i=>xs.getD i .non)))
def a5P(K:W.Frag)(ta:TA)(te:TE)(js:List Nat):TE:=fun σ H Q=>ta σ H fun xs H1=>a5O K te js σ Q xs H1
section
variable {X:Cx}
theorem a6Y{k:Nat}{e body:Expr}{params:Arguments}{scope:Scope}{p pos lpos kpos:Pos}{ta:TA}{te:TE}{c P:Addr}{q kn:Str}{Nc:List Str}{js:List Nat}(hr:Room k X.A)(hcalm:X.calm=true)(hg:Gl X "sorted")(hm:X.mg "sorted" = none)(har:PA X [e] ta)
  (hd:defaultsOf params X.env=([],[])) (hcode:X.env.code=.ref c) (C:CodeHd X.base c P) (hbl:X.base.BuiltinsAt X.mg P) (hq:q=X.env.qual ++ "<lambda>") (hT0:TbAt P q X.H₀) (S:CompSc X.env.scope scope X.N Nc 1 js) (hk0:Nc[0]? = some kn) (hloc:scope.names.lookup kn=some .local)
  (hbd:∀cl pm cv ctv v,bindArgs (kla_fn "<lambda>" q params body scope cl pm cv ctv) ⟨[v],[]⟩=pure [(kn,v)]) (hco:scope.isCoroutine=false) (hgen:scope.isGenerator=false)
  (hbody:∀f c' s' H',PE (a4I X X.A.in1.in1 scope q Nc f c' s' H') body te)
  (he:backTo pos (starEach [e] X.env)=(false,eval e X.env)::backTo pos (starEach [] X.env):=by rfl) (hplain:(backTo pos (starEach [e] X.env)).any (·.1)=false:=by rfl) :
  PE X (.Call (.Name "sorted" p) [e] [⟨some "key",.Lambda params body scope lpos,kpos⟩] pos) (a5P X.K ta te js):=by
 intro pins s σ H Q I h
 have hlam:PE X (.Lambda params body scope lpos) (fun σ H Q=>∀f c' oc u pm ctv H',(∀a o,H a=some o→H' a=some o)→H' f=some (.frz (V7 X params body scope q c' pm ctv) (.own f))→H' c'=some (.frz oc u)→a0y oc q→Q (.ref f) H'):=by
  intro pins s σ H Q I h
  obtain⟨qs,tq,hT,hqs⟩:=hT0.now I.base
  exact a6S I hd hcode C hbl hT hqs hq S.free fun f c' oc u pm ctv H' s' I' ex h1 h2 h3=>⟨.ref f,H',I',rfl,h f c' oc u pm ctv H' ex h1 h2 h3⟩
 have hk:=a8m (nm:=some "key") (kpos:=kpos) hlam (a9Z (X:=X))
 refine wpAny_Call_Name_kw (Z5 I hg hm a3D ?_)
 refine callWith_kw (j4 (har pos pins s σ H (a5O X.K te js σ Q) I h) fun us s1 ⟨vs,H1,I1,r1,q1⟩=>?_) he hplain
 obtain⟨a,xs,rfl,hsq,h64,q2⟩:=q1
 refine j4 (hk pos pins s1 σ H1 (fun zs H2=>∃f c' oc u pm ctv,zs=[.ref f]∧(∀a o,H1 a=some o→H2 a=some o)∧H2 f=some (.frz (V7 X params body scope q c' pm ctv) (.own f))∧H2 c'=some (.frz oc u)∧a0y oc q) I1 fun f c' oc u pm ctv H' ex h1 h2 h3=>⟨f,c',oc,u,pm,ctv,rfl,ex,h1,h2,h3⟩) fun ws s2 ⟨zs,H2,I2,r2,q3⟩=>?_
 obtain⟨f,c',oc,u,pm,ctv,rfl,ex,hf,hc',hcq⟩:=q3
 obtain⟨W,w0,step,fin⟩:=q2 H2 ex
 obtain⟨u1,rfl,ru⟩:=r1.one
 obtain⟨u2,rfl,ru2⟩:=r2.one
 cases (show u1=Value.ref a from ru)
 cases (show u2=Value.ref f from ru2)
 obtain⟨its,rv,pl,hz⟩:=I2.list (hsq.ext ex)
 obtain⟨lo,ho,hcl,ln,hdt⟩:=pl.isList
 have hil:=rv.length
 have hh:X.A.handled=none:=I.ok.hd hcalm
 refine call_function_entry_kw kind_sorted plain_sorted entry_sorted (ksk_s1 _ _) ?_
 unfold Builtin.«sorted»
 refine wpAny_bind (m:=checkCount "sorted" 1 1 _) (wpAny_pure ?_)
 refine wpAny_bind (wpAny_collect_seq (A:=X.A.in1) a (.inl rfl) ho hcl hdt (fun h' kp=>?_) (by simp only[List.size_toArray];rw[sizeLine_eq];omega))
 refine wpAny_bind (wpAny_newList ?_ (by show its.length≤_;rw[sizeLine_eq];omega))
 have I3:Inv X pins σ H2 { s2 with heap:=h' }:=I2.kept kp
 have hD:(h'.push (seqObj "list" its.toArray 0)).get? h'.objs.size=some (seqObj "list" its.toArray 0):=Heap.get?_push_size _ rfl
 have fD:FpOk X pins H2 h'.objs.size:=I3.fpOk (Nat.le_refl _) (I3.hok.fresh (Nat.le_refl _))
 have I4:Inv X pins σ H2 { s2 with heap:=h'.push (seqObj "list" its.toArray 0) }:=I3.kept (t':=s2.toks) fun b o e=>Heap.get?_push_of_some (seqObj "list" its.toArray 0) e
 show wpAny _ _ _ _ _ { s2 with heap:=h'.push (seqObj "list" its.toArray 0) }
 refine wpAny_bind (wpAny_holding (wpAny_call_entry_kw slot_list_sort ⟨_,hD,rfl⟩ entry_list_sort ?body (ksk_l1 _ _)))
 case body =>
  show wpAny (model X.prog X.w) X.A.in1.in1 (Builtin.«list.sort» ⟨[.ref h'.objs.size],[(Str.ofString "key",.ref f)]⟩) _ _ _
  rw[ksk_t1]
  have hfr:X.A.in1.in1.frames=some X.stack:=I.ok.frames
  have hdp:X.A.in1.in1.depth<recursionLimit:=by have:=hr.dp;show X.A.depth<_;omega
  refine a5N (W:=W) (xs:=xs) I4 hD fD rv (by omega) w0 (fun i x v ys H' s' hx rx wi I' fz=>?_) (fun ys H' hl wn hnD=>?_)
  ·exact a6T I' hfr hh hdp S hk0 hloc (fz _ _ _ hf) (fz _ _ _ hc') hcq (hbd _ _ _ _ _) hco hgen (hbody f c' s' H') rx (step i x ys H' hx wi)
  ·obtain⟨ks,vp,hd2,q⟩:=fin ys H' hl wn
   exact⟨ks,vp,hd2,fun p s' hp hs J=>⟨_,rfl,wpAny_pure ⟨_,rfl,.ref h'.objs.size,_,J,rfl,q _ p hnD hp hs⟩⟩⟩
end
inductive D where
 | non | bl (b:Bool) | int (i:Int) | str (x:Str) | ty (n:String) | cls (n:Str) | tup (ds:List D) | lst (ds:List D) | scr (ns:List Int) | exc (c:Str) | obj (c:Str) (ns:List Str) (ds:List D)
mutual
def Rp(K:W.Frag)(cl:Str→Addr)(F:Hp):D→V→Prop
 | .non,v=>v=.non
 | .bl b,v=>v=.bl b
 | .int i,v=>v=.int i
 | .str x,v=>v=.str x
 | .ty n,v=>v=.ty n
 | .cls n,v=>v=.ref (cl n)
 | .tup ds,v=>∃a xs,v=.ref a∧F a=some (.tup xs)∧Rps K cl F ds xs
 | .lst ds,v=>∃a xs,v=.ref a∧F a=some (.lst xs)∧Rps K cl F ds xs
 | .scr ns,v=>∃a,v=.ref a∧Scr K F a (ns.map V.int)
 | .exc c,v=>∃a cx,v=.ref a∧F a=some (a4F a (.ref (cl c)) cx)
 | .obj c ns ds,v=>∃a dx xs,v=.ref a∧F a=some (.ins (cl c) dx (ns.zip xs))∧ns.length=xs.length∧Rps K cl F ds xs
def Rps(K:W.Frag)(cl:Str→Addr)(F:Hp):List D→List V→Prop
 | [],vs=>vs=[]
 | d::ds,vs=>∃v r,vs=v::r∧Rp K cl F d v∧Rps K cl F ds r
end
section
variable {K:W.Frag}{cl:Str→Addr}{F F' H H':Hp}
mutual
theorem Rp.mono(g:Same F F'):∀(d:D) (v:V),Rp K cl F d v→Rp K cl F' d v
 | .non,_,h=>by simpa only[Rp]using h
 | .bl _,_,h=>by simpa only[Rp]using h
 | .int _,_,h=>by simpa only[Rp]using h
 | .str _,_,h=>by simpa only[Rp]using h
 | .ty _,_,h=>by simpa only[Rp]using h
 | .cls _,_,h=>by simpa only[Rp]using h
 | .tup ds,v,h=>by
  simp only[Rp]at h ⊢
  obtain⟨a,xs,e,h1,h2⟩:=h
  exact⟨a,xs,e,g _ _ h1,Rps.mono g ds xs h2⟩
 | .lst ds,v,h=>by
  simp only[Rp]at h ⊢
  obtain⟨a,xs,e,h1,h2⟩:=h
  exact⟨a,xs,e,g _ _ h1,Rps.mono g ds xs h2⟩
 | .scr ns,v,h=>by
  simp only[Rp]at h ⊢
  obtain⟨a,e,h1⟩:=h
  exact⟨a,e,h1.same g⟩
 | .exc c,v,h=>by
  simp only[Rp]at h ⊢
  obtain⟨a,cx,e,h1⟩:=h
  exact⟨a,cx,e,g _ _ h1⟩
 | .obj c ns ds,v,h=>by
  simp only[Rp]at h ⊢
  obtain⟨a,dx,xs,e,h1,hl,h2⟩:=h
  exact⟨a,dx,xs,e,g _ _ h1,hl,Rps.mono g ds xs h2⟩
theorem Rps.mono(g:Same F F'):∀(ds:List D) (vs:List V),Rps K cl F ds vs→Rps K cl F' ds vs
 | [],_,h=>by simpa only[Rps]using h
 | d::ds,vs,h=>by
  simp only[Rps]at h ⊢
  obtain⟨v,r,e,h1,h2⟩:=h
  exact⟨v,r,e,Rp.mono g d v h1,Rps.mono g ds r h2⟩
end
theorem Rps.nil:Rps K cl F [] []:=by simp only[Rps]
theorem Rps.cons{d:D}{v:V}{ds:List D}{vs:List V}(h:Rp K cl F d v)(t:Rps K cl F ds vs):Rps K cl F (d::ds) (v::vs):=by simp only[Rps];exact⟨v,vs,rfl,h,t⟩
theorem Rps.inv{d:D}{ds:List D}{vs:List V}(h:Rps K cl F (d::ds) vs):∃v r,vs=v::r∧Rp K cl F d v∧Rps K cl F ds r:=by simpa only[Rps]using h
theorem Rps.inv0{vs:List V}(h:Rps K cl F [] vs):vs=[]:=by simpa only[Rps]using h
theorem Rps.length:∀{ds:List D} {vs:List V},Rps K cl F ds vs→ds.length=vs.length
 | [],vs,h=>by rw[h.inv0];rfl
 | d::ds,vs,h=>by obtain⟨v,r,rfl,_,t⟩:=h.inv;simp[t.length]
theorem Rps.get:∀{ds:List D} {vs:List V} {i:Nat} {d:D},Rps K cl F ds vs→ds[i]? = some d→∃v,vs[i]? = some v∧Rp K cl F d v
 | [],_,_,_,_,e=>by simp at e
 | d::ds,vs,0,x,h,e=>by
  obtain⟨v,r,rfl,h1,_⟩:=h.inv
  simp at e;subst e
  exact⟨v,rfl,h1⟩
 | d::ds,vs,i+1,x,h,e=>by
  obtain⟨v,r,rfl,_,t⟩:=h.inv
  obtain⟨u,h1,h2⟩:=t.get (i:=i) (d:=x) (by simpa using e)
  exact⟨u,by simpa using h1,h2⟩
theorem Rps.get'{ds:List D}{vs:List V}{i:Nat}{v:V}(h:Rps K cl F ds vs)(e:vs[i]? = some v):∃d,ds[i]? = some d∧Rp K cl F d v:=by
 have hi:i<ds.length:=by
  have:=(List.getElem?_eq_some_iff.mp e).1
  rw[h.length];exact this
 obtain⟨u,h1,h2⟩:=h.get (List.getElem?_eq_getElem hi)
 rw[e]at h1;cases h1
 exact⟨_,List.getElem?_eq_getElem hi,h2⟩
theorem Rps.append:∀{ds es:List D} {vs us:List V},Rps K cl F ds vs→Rps K cl F es us→Rps K cl F (ds++es) (vs++us)
 | [],_,_,_,h,t=>by rw[h.inv0];exact t
 | d::ds,_,_,_,h,t=>by obtain⟨v,r,rfl,h1,h2⟩:=h.inv;exact .cons h1 (h2.append t)
theorem Rps.one{d:D}{v:V}(h:Rp K cl F d v):Rps K cl F [d] [v]:=.cons h .nil
theorem Rps.set{d:D}{v:V}(r:Rp K cl F d v):∀{ds:List D} {vs:List V} (i:Nat),Rps K cl F ds vs→Rps K cl F (ds.set i d) (vs.set i v)
 | [],_,_,h=>by rw[h.inv0];exact .nil
 | _::_,_,0,h=>by obtain⟨_,_,rfl,_,h2⟩:=h.inv;exact .cons r h2
 | _::_,_,i+1,h=>by obtain⟨_,_,rfl,h1,h2⟩:=h.inv;exact .cons h1 (h2.set r i)
theorem Rps.drop:∀{ds:List D} {vs:List V} (n:Nat),Rps K cl F ds vs→Rps K cl F (ds.drop n) (vs.drop n)
 | _,_,0,h=>h
 | [],_,_+1,h=>by rw[h.inv0];exact .nil
 | _::_,_,n+1,h=>by obtain⟨_,_,rfl,_,h2⟩:=h.inv;exact h2.drop n
theorem Rps.take:∀{ds:List D} {vs:List V} (n:Nat),Rps K cl F ds vs→Rps K cl F (ds.take n) (vs.take n)
 | _,_,0,h=>.nil
 | [],_,_+1,h=>by rw[h.inv0];exact .nil
 | _::_,_,n+1,h=>by obtain⟨_,_,rfl,h1,h2⟩:=h.inv;exact .cons h1 (h2.take n)
theorem Rps.ints:∀{ns:List Int} {vs:List V},Rps K cl F (ns.map D.int) vs→vs=ns.map V.int
 | [],_,h=>h.inv0
 | n::ns,_,h=>by
  obtain⟨v,r,rfl,h1,h2⟩:=h.inv
  rw[h2.ints]
  simp only[Rp]at h1
  rw[h1];rfl
theorem Rps.ofInts:∀{ns:List Int},Rps K cl F (ns.map D.int) (ns.map V.int)
 | []=>.nil
 | _::_=>.cons (by simp only[Rp]) Rps.ofInts
theorem Rps.strs:∀{bs:List Str} {vs:List V},Rps K cl F (bs.map D.str) vs→vs=bs.map V.str
 | [],_,h=>h.inv0
 | n::ns,_,h=>by
  obtain⟨v,r,rfl,h1,h2⟩:=h.inv
  rw[h2.strs]
  simp only[Rp]at h1
  rw[h1];rfl
end
inductive Sl where | no | fz (d:D) | ow (ds:List D) | hd (ds:List D)
abbrev DE:=List Sl
def Mu(env:DE)(i:Nat):Prop:=∃ds:List D,env[i]? = some (.ow ds)∨env[i]? = some (.hd ds)
def Ow(σ:St)(env:DE)(a:Addr):Prop:=∃(i:Nat) (ds:List D),env[i]? = some (Sl.ow ds)∧σ[i]? = some (some (V.ref a))
structure Rel(K:W.Frag)(cl:Str→Addr)(σ:St)(H F:Hp)(env:DE):Prop where
 sub:Same F H
 len:σ.length=env.length
 fz:∀(i:Nat) (d:D),env[i]? = some (.fz d)→∃v,σ[i]? = some (some v)∧Rp K cl F d v
 mu:∀(i:Nat) (ds:List D),(env[i]? = some (.ow ds)∨env[i]? = some (.hd ds))→∃a xs,σ[i]? = some (some (.ref a))∧H a=some (.lst xs)∧F a=none∧Rps K cl F ds xs
 inj:∀(i j:Nat) (a:Addr),Mu env i→Mu env j→σ[i]? = some (some (.ref a))→σ[j]? = some (some (.ref a))→i=j
structure Frm(σ:St)(H F:Hp)(env:DE)(σ':St)(H' F':Hp)(env':DE):Prop where
 fz:Same F F'
 hid:∀a o,H a=some o→F a=none→¬Ow σ env a→H' a=some o∧F' a=none∧¬Ow σ' env' a
 keep:∀(i:Nat) (ds:List D),env[i]? = some (.hd ds)→env'[i]? = some (.hd ds)∧σ'[i]? = σ[i]?
 dom:∀a,H' a=none→H a=none
structure Gr(H F H' F':Hp):Prop where
 fz:Same F F'
 sub:Same F' H'
 hid:∀a o,H a=some o→F a=none→H' a=some o∧F' a=none
section
variable {K:W.Frag}{cl:Str→Addr}{σ σ' σ'':St}{H H' H'' F F' F'':Hp}{env env' env'':DE}
theorem Frm.refl:Frm σ H F env σ H F env:=⟨Same.refl _,fun _ _ h f o=>⟨h,f,o⟩,fun _ _ h=>⟨h,rfl⟩,fun _ h=>h⟩
theorem Frm.trans(a:Frm σ H F env σ' H' F' env')(b:Frm σ' H' F' env' σ'' H'' F'' env''):Frm σ H F env σ'' H'' F'' env'' :=
 ⟨a.fz.trans b.fz,fun x o h f w=>by obtain⟨h1,f1,w1⟩:=a.hid x o h f w;exact b.hid x o h1 f1 w1,
  fun i ds h=>by obtain⟨h1,e1⟩:=a.keep i ds h;obtain⟨h2,e2⟩:=b.keep i ds h1;exact⟨h2,e2.trans e1⟩,fun x h=>a.dom x (b.dom x h)⟩
theorem Gr.dom(g:Gr H F H' F')(a:Addr)(h:H' a=none):H a=none:=by
 cases e:H a with
 | none=>rfl
 | some o =>
  cases f:F a with
  | none=>rw[(g.hid a o e f).1]at h;cases h
  | some u=>rw[g.sub _ _ (g.fz _ _ f)]at h;cases h
theorem Rel.gr(R:Rel K cl σ H F env)(g:Gr H F H' F'):Rel K cl σ H' F' env :=
 ⟨g.sub,R.len,fun i d h=>by obtain⟨v,e,r⟩:=R.fz i d h;exact⟨v,e,r.mono g.fz⟩,
  fun i ds h=>by obtain⟨a,xs,e,hH,hF,r⟩:=R.mu i ds h;obtain⟨h1,f1⟩:=g.hid a _ hH hF;exact⟨a,xs,e,h1,f1,r.mono g.fz⟩,R.inj⟩
theorem Rel.frm(R:Rel K cl σ H F env)(g:Gr H F H' F'):Frm σ H F env σ H' F' env :=
 ⟨g.fz,fun a o h f w=>by obtain⟨h1,f1⟩:=g.hid a o h f;exact⟨h1,f1,w⟩,fun _ _ h=>⟨h,rfl⟩,g.dom⟩
theorem Gr.refl(s:Same F H):Gr H F H F:=⟨Same.refl _,s,fun _ _ h f=>⟨h,f⟩⟩
theorem Gr.trans(a:Gr H F H' F')(b:Gr H' F' H'' F''):Gr H F H'' F'':=⟨a.fz.trans b.fz,b.sub,fun x o h f=>by obtain⟨h1,f1⟩:=a.hid x o h f;exact b.hid x o h1 f1⟩
theorem Gr.new{p:Addr}{o:HO}(s:Same F H)(hp:H p=none):Gr H F (upd H p o) (upd F p o):=by
 have fp:F p=none:=s.free hp
 refine⟨S9 fp o,fun b u e=>?_,fun a u e f=>?_⟩
 ·by_cases z:b=p
  ·subst z;rw[i5]at e ⊢;exact e
  ·rw[g7 z]at e ⊢;exact s _ _ e
 ·have z:a≠p:=fun z=>by rw[z,hp]at e;cases e
  rw[g7 z,g7 z];exact⟨e,f⟩
theorem Rel.freeze{i:Nat}{ds:List D}(R:Rel K cl σ H F env)(h:env[i]? = some (.ow ds)):∃a F',σ[i]? = some (some (.ref a))∧Frm σ H F env σ H F' (env.set i (.fz (.lst ds)))∧Rel K cl σ H F' (env.set i (.fz (.lst ds)))∧Rp K cl F' (.lst ds) (.ref a):=by
 obtain⟨a,xs,e,hH,hF,r⟩:=R.mu i ds (.inl h)
 have hi:i<env.length:=(List.getElem?_eq_some_iff.mp h).1
 have sF:Same F (upd F a (.lst xs)):=S9 hF _
 have oth:∀j,j≠i→(env.set i (.fz (.lst ds)))[j]? = env[j]?:=fun j hj=>List.getElem?_set_ne (Ne.symm hj)
 have self:(env.set i (.fz (.lst ds)))[i]? = some (.fz (.lst ds)):=List.getElem?_set_self hi
 have mui:∀j,Mu (env.set i (.fz (.lst ds))) j→j≠i∧Mu env j:=fun j ⟨es,q⟩=>by
  by_cases z:j=i
  ·subst z;rw[self]at q;rcases q with q | q<;>cases q
  ·rw[oth j z]at q;exact⟨z,es,q⟩
 have rl:Rp K cl (upd F a (.lst xs)) (.lst ds) (.ref a):=by simp only[Rp];exact⟨a,xs,rfl,i5,r.mono sF⟩
 refine⟨a,upd F a (.lst xs),e,⟨sF,fun b o hb fb w=>?_,fun j es q=>?_,fun _ h=>h⟩,⟨fun b o q=>?_,by rw[List.length_set];exact R.len,fun j d q=>?_,fun j es q=>?_,fun j k b hj hk e1 e2=>R.inj j k b (mui j hj).2 (mui k hk).2 e1 e2⟩,rl⟩
 ·have z:b≠a:=fun z=>w ⟨i,ds,h,by rw[z];exact e⟩
  refine⟨hb,by rw[g7 z];exact fb,fun⟨j,es,q,e1⟩=>?_⟩
  by_cases y:j=i
  ·subst y;rw[self]at q;cases q
  ·rw[oth j y]at q;exact w ⟨j,es,q,e1⟩
 ·have z:j≠i:=fun z=>by subst z;rw[h]at q;cases q
  exact⟨by rw[oth j z];exact q,rfl⟩
 ·by_cases z:b=a
  ·subst z;rw[i5]at q;cases q;exact hH
  ·rw[g7 z]at q;exact R.sub _ _ q
 ·by_cases z:j=i
  ·subst z;rw[self]at q;cases q;exact⟨_,e,rl⟩
  ·rw[oth j z]at q;obtain⟨v,e1,r1⟩:=R.fz j d q;exact⟨v,e1,r1.mono sF⟩
 ·have z:j≠i:=(mui j ⟨es,q⟩).1
  rw[oth j z]at q
  obtain⟨b,ys,e1,h1,f1,r1⟩:=R.mu j es q
  have nb:b≠a:=fun y=>z (R.inj j i b ⟨es,q⟩ ⟨ds,.inl h⟩ e1 (by rw[y];exact e))
  exact⟨b,ys,e1,h1,by rw[g7 nb];exact f1,r1.mono sF⟩
theorem Rel.put{i:Nat}{d:D}{v:V}(R:Rel K cl σ H F env)(hi:i<env.length)(nh:∀ds,env[i]?≠some (.hd ds))(r:Rp K cl F d v):Rel K cl (σ.set i (some v)) H F (env.set i (.fz d)):=by
 refine⟨R.sub,by rw[List.length_set,List.length_set];exact R.len,fun j e q=>?_,fun j es q=>?_,fun j k b hj hk e1 e2=>?_⟩
 ·by_cases z:j=i
  ·subst z
   rw[List.getElem?_set_self hi]at q;cases q
   exact⟨v,List.getElem?_set_self (by rw[R.len];exact hi),r⟩
  ·rw[List.getElem?_set_ne (Ne.symm z)]at q
   obtain⟨u,e1,r1⟩:=R.fz j e q
   exact⟨u,by rw[List.getElem?_set_ne (Ne.symm z)];exact e1,r1⟩
 ·have z:j≠i:=fun z=>by
   subst z
   rw[List.getElem?_set_self hi]at q
   rcases q with q | q<;>cases q
  rw[List.getElem?_set_ne (Ne.symm z)]at q
  obtain⟨a,xs,e1,h1,f1,r1⟩:=R.mu j es q
  exact⟨a,xs,by rw[List.getElem?_set_ne (Ne.symm z)];exact e1,h1,f1,r1⟩
 ·have nz:∀j,Mu (env.set i (.fz d)) j→j≠i∧Mu env j:=fun j ⟨es,q⟩=>by
   by_cases z:j=i
   ·subst z
    rw[List.getElem?_set_self hi]at q
    rcases q with q | q<;>cases q
   ·rw[List.getElem?_set_ne (Ne.symm z)]at q;exact⟨z,es,q⟩
  obtain⟨zj,mj⟩:=nz j hj
  obtain⟨zk,mk⟩:=nz k hk
  rw[List.getElem?_set_ne (Ne.symm zj)]at e1
  rw[List.getElem?_set_ne (Ne.symm zk)]at e2
  exact R.inj j k b mj mk e1 e2
theorem Rel.putO{i:Nat}{ds:List D}{a:Addr}{xs:List V}(R:Rel K cl σ H F env)(hi:i<env.length)(hH:H a=some (.lst xs))(hF:F a=none)(na:∀j,Mu env j→σ[j]?≠some (some (.ref a)))(r:Rps K cl F ds xs):Rel K cl (σ.set i (some (.ref a))) H F (env.set i (.ow ds)):=by
 have his:i<σ.length:=by rw[R.len];exact hi
 have nz:∀j,j≠i→Mu (env.set i (.ow ds)) j→Mu env j:=fun j z ⟨es,q⟩=>by
  rw[List.getElem?_set_ne (Ne.symm z)]at q;exact⟨es,q⟩
 refine⟨R.sub,by rw[List.length_set,List.length_set];exact R.len,fun j e q=>?_,fun j es q=>?_,fun j k b hj hk e1 e2=>?_⟩
 ·have z:j≠i:=fun z=>by subst z;rw[List.getElem?_set_self hi]at q;cases q
  rw[List.getElem?_set_ne (Ne.symm z)]at q
  obtain⟨u,e1,r1⟩:=R.fz j e q
  exact⟨u,by rw[List.getElem?_set_ne (Ne.symm z)];exact e1,r1⟩
 ·by_cases z:j=i
  ·subst z
   rw[List.getElem?_set_self hi]at q
   rcases q with q | q
   ·cases q;exact⟨a,xs,List.getElem?_set_self his,hH,hF,r⟩
   ·cases q
  ·rw[List.getElem?_set_ne (Ne.symm z)]at q
   obtain⟨b,ys,e1,h1,f1,r1⟩:=R.mu j es q
   exact⟨b,ys,by rw[List.getElem?_set_ne (Ne.symm z)];exact e1,h1,f1,r1⟩
 ·by_cases zj:j=i
  ·by_cases zk:k=i
   ·rw[zj,zk]
   ·subst zj
    rw[List.getElem?_set_self his]at e1
    rw[List.getElem?_set_ne (Ne.symm zk)]at e2
    cases e1
    exact absurd e2 (na k (nz k zk hk))
  ·rw[List.getElem?_set_ne (Ne.symm zj)]at e1
   by_cases zk:k=i
   ·subst zk
    rw[List.getElem?_set_self his]at e2
    cases e2
    exact absurd e1 (na j (nz j zj hj))
   ·rw[List.getElem?_set_ne (Ne.symm zk)]at e2
    exact R.inj j k b (nz j zj hj) (nz k zk hk) e1 e2
theorem Frm.put{i:Nat}{d:D}{x:Option V}(nh:∀ds,env[i]?≠some (.hd ds)):Frm σ H F env (σ.set i x) H F (env.set i (.fz d)):=by
 refine⟨Same.refl _,fun a o h f w=>⟨h,f,fun⟨j,ds,q,e⟩=>?_⟩,fun j ds q=>?_,fun _ h=>h⟩
 ·by_cases z:j=i
  ·subst z
   have hj:j<env.length:=by have:=(List.getElem?_eq_some_iff.mp q).1;rwa [List.length_set]at this
   rw[List.getElem?_set_self hj]at q
   cases q
  ·rw[List.getElem?_set_ne (Ne.symm z)]at q e
   exact w ⟨j,ds,q,e⟩
 ·have z:j≠i:=fun z=>by subst z;exact nh ds q
  rw[List.getElem?_set_ne (Ne.symm z),List.getElem?_set_ne (Ne.symm z)]
  exact⟨q,rfl⟩
theorem Frm.putO{i:Nat}{es:List D}{a:Addr}(f:Frm σ H F env σ' H' F' env')(ha:H a=none)(nh:∀ds,env'[i]?≠some (.hd ds)):Frm σ H F env (σ'.set i (some (.ref a))) H' F' (env'.set i (.ow es)):=by
 refine⟨f.fz,fun b o h g w=>?_,fun j ds q=>?_,f.dom⟩
 ·obtain⟨h1,f1,w1⟩:=f.hid b o h g w
  refine⟨h1,f1,fun⟨j,ds,q,e⟩=>?_⟩
  by_cases z:j=i
  ·subst z
   have hj:j<σ'.length:=by have:=(List.getElem?_eq_some_iff.mp e).1;rwa [List.length_set]at this
   rw[List.getElem?_set_self hj]at e
   cases e
   rw[ha]at h;cases h
  ·rw[List.getElem?_set_ne (Ne.symm z)]at q e
   exact w1 ⟨j,ds,q,e⟩
 ·obtain⟨q1,e1⟩:=f.keep j ds q
  have z:j≠i:=fun z=>by subst z;exact nh ds q1
  rw[List.getElem?_set_ne (Ne.symm z),List.getElem?_set_ne (Ne.symm z)]
  exact⟨q1,e1⟩
end
inductive R(α:Type) where | ok (a:α) (e:DE) | ex (c:Str)
inductive RS where | nx (e:DE) | rt (d:D) | ro (ds:List D) | rz (dss:List (List D)) | bk (e:DE) | ct (e:DE) | ex (c:Str)
def bnd{α β:Type}(x:Option (R α))(k:α→DE→Option (R β)):Option (R β):=match x with
 | none=>none
 | some (.ok a e)=>k a e
 | some (.ex c)=>some (.ex c)
def M9{α:Type}(x:Option (R α))(k:α→DE→Option RS):Option RS:=match x with
 | none=>none
 | some (.ok a e)=>k a e
 | some (.ex c)=>some (.ex c)
def Z3{α:Type}(x:Option α)(e:DE):Option (R α):=match x with
 | none=>none
 | some a=>some (.ok a e)
@[simp] theorem W5{α β:Type}(a:α)(e:DE)(k:α→DE→Option (R β)):bnd (some (.ok a e)) k=k a e:=rfl
@[simp] theorem b0q{α β:Type}(c:Str)(k:α→DE→Option (R β)):bnd (some (.ex c)) k=some (.ex c):=rfl
@[simp] theorem b0r{α β:Type}(k:α→DE→Option (R β)):bnd (none:Option (R α)) k=none:=rfl
@[simp] theorem a0h{α:Type}(a:α)(e:DE)(k:α→DE→Option RS):M9 (some (.ok a e)) k=k a e:=rfl
@[simp] theorem b0s{α:Type}(c:Str)(k:α→DE→Option RS):M9 (some (.ex c)) k=some (.ex c):=rfl
@[simp] theorem b0t{α:Type}(k:α→DE→Option RS):M9 (none:Option (R α)) k=none:=rfl
@[simp] theorem X7{α:Type}(a:α)(e:DE):Z3 (some a) e=some (.ok a e):=rfl
@[simp] theorem X8{α:Type}(e:DE):Z3 (none:Option α) e=none:=rfl
structure FX(σ:St)(H F:Hp)(env:DE)(H' F':Hp):Prop where
 fz:Same F F'
 sub:Same F' H'
 hid:∀a o,H a=some o→F a=none→¬Ow σ env a→H' a=some o∧F' a=none
 dom:∀a,H' a=none→H a=none
section
variable {K:W.Frag}{cl:Str→Addr}{E:XK}{σ σ':St}{H H' H1 F F' F1:Hp}{env env' env1:DE}{α β γ δ:Type}
theorem Frm.fx{H2 F2:Hp}(a:Frm σ H F env σ' H1 F1 env1)(b:FX σ' H1 F1 env1 H2 F2):FX σ H F env H2 F2 :=
 ⟨a.fz.trans b.fz,b.sub,fun x o h f w=>by obtain⟨h1,f1,w1⟩:=a.hid x o h f w;exact b.hid x o h1 f1 w1,fun x h=>a.dom x (b.dom x h)⟩
theorem Frm.toFX(a:Frm σ H F env σ' H1 F1 env1)(s:Same F1 H1):FX σ H F env H1 F1:=⟨a.fz,s,fun x o h f w=>by obtain⟨h1,f1,_⟩:=a.hid x o h f w;exact⟨h1,f1⟩,a.dom⟩
abbrev Py(α β:Type):=α→St→Hp→Hp→Hp→DE→β→Prop
def PM(P:Py α β):Prop:=∀a σ H0 H1 H' F' e b,(∀x:Addr,H1 x=none→H0 x=none)→P a σ H1 H' F' e b→P a σ H0 H' F' e b
def Ct(K:W.Frag)(cl:Str→Addr)(E:XK)(P:Py α β)(r:Option (R α))(σ:St)(H F:Hp)(env:DE)(Q:β→Hp→Prop):Prop:=match r with
 | none=>False
 | some (.ok a e)=>∀b H' F',Frm σ H F env σ H' F' e→Rel K cl σ H' F' e→P a σ H H' F' e b→Q b H'
 | some (.ex c)=>∀H' F',FX σ H F env H' F'→E (.ref (cl c)) none H'
def Rz(K:W.Frag)(cl:Str→Addr)(F' H':Hp)(nw:Addr→Prop)(dss:List (List D))(as:List Addr):Prop:=as.Nodup∧as.length=dss.length∧∀(k:Nat) (a:Addr) (ds:List D),as[k]? = some a→dss[k]? = some ds→∃xs,H' a=some (.lst xs)∧F' a=none∧nw a∧Rps K cl F' ds xs
theorem Rz.imp{nw nw':Addr→Prop}{dss:List (List D)}{as:List Addr}(h:Rz K cl F' H' nw dss as)(i:∀a xs,H' a=some (.lst xs)→F' a=none→nw a→nw' a):Rz K cl F' H' nw' dss as :=
 ⟨h.1,h.2.1,fun k a ds e1 e2=>by obtain⟨xs,h1,h2,h3,h4⟩:=h.2.2 k a ds e1 e2;exact⟨xs,h1,h2,i a xs h1 h2 h3,h4⟩⟩
def Cs(K:W.Frag)(cl:Str→Addr)(E:XK)(r:Option RS)(σ:St)(H F:Hp)(env:DE)(N:Ends):Prop:=match r with
 | none=>False
 | some (.nx e)=>∀σ' H' F',Frm σ H F env σ' H' F' e→Rel K cl σ' H' F' e→N.nx σ' H'
 | some (.bk e)=>∀σ' H' F',Frm σ H F env σ' H' F' e→Rel K cl σ' H' F' e→N.bk σ' H'
 | some (.ct e)=>∀σ' H' F',Frm σ H F env σ' H' F' e→Rel K cl σ' H' F' e→N.ct σ' H'
 | some (.rt d)=>∀v H' F',FX σ H F env H' F'→Rp K cl F' d v→N.rt v H'
 | some (.ro ds)=>∀a xs H' F',FX σ H F env H' F'→H' a=some (.lst xs)→F' a=none→(∀o,H a=some o→Ow σ env a)→Rps K cl F' ds xs→N.rt (.ref a) H'
 | some (.rz dss)=>∀p as H' F',FX σ H F env H' F'→H p=none→H' p=some (.tup (as.map V.ref))→F' p=none→Rz K cl F' H' (fun a=>∀o,H a=some o→Ow σ env a) dss as→N.rt (.ref p) H'
 | some (.ex c)=>∀H' F',FX σ H F env H' F'→E (.ref (cl c)) none H'
theorem Ct.mono{P:Py α β}{r:Option (R α)}{Q Q':β→Hp→Prop}(h:Ct K cl E P r σ H F env Q)(q:∀b H',Q b H'→Q' b H'):Ct K cl E P r σ H F env Q':=by
 unfold Ct at h ⊢
 split at h
 ·exact h
 ·exact fun b H' F' f R p=>q _ _ (h b H' F' f R p)
 ·exact h
theorem Ct.from{P2:Py γ δ}{r:Option (R γ)}{Q:δ→Hp→Prop}(f:Frm σ H F env σ H1 F1 env1)(pm:PM P2)(h:Ct K cl E P2 r σ H F env Q):Ct K cl E P2 r σ H1 F1 env1 Q:=by
 unfold Ct at h ⊢
 split at h
 ·exact h
 ·exact fun b H' F' f2 R2 p2=>h b H' F' (f.trans f2) R2 (pm _ _ _ _ _ _ _ _ f.dom p2)
 ·exact fun H' F' x=>h H' F' (f.fx x)
theorem Ct.bnd{P1:Py α β}{P2:Py γ δ}{r:Option (R α)}{k:α→DE→Option (R γ)}{Q:δ→Hp→Prop}(h:Ct K cl E P2 (bnd r k) σ H F env Q)(pm:PM P2) :
  Ct K cl E P1 r σ H F env fun b H1=>∃F1 env1 a,Same F F1∧Rel K cl σ H1 F1 env1∧P1 a σ H H1 F1 env1 b∧Ct K cl E P2 (k a env1) σ H1 F1 env1 Q:=by
 unfold Ct
 rcases r with _ | ⟨a,e⟩ | c
 ·exact h
 ·intro b H1 F1 f R p
  refine⟨F1,e,a,f.fz,R,p,?_⟩
  have h:Ct K cl E P2 (k a e) σ H F env Q:=h
  exact Ct.from f pm h
 ·exact h
theorem Cs.from{r:Option RS}{N:Ends}(f:Frm σ H F env σ' H1 F1 env1)(h:Cs K cl E r σ H F env N):Cs K cl E r σ' H1 F1 env1 N:=by
 unfold Cs at h ⊢
 split at h
 ·exact h
 ·exact fun σ' H' F' f2 R2=>h σ' H' F' (f.trans f2) R2
 ·exact fun σ' H' F' f2 R2=>h σ' H' F' (f.trans f2) R2
 ·exact fun σ' H' F' f2 R2=>h σ' H' F' (f.trans f2) R2
 ·exact fun v H' F' x p=>h v H' F' (f.fx x) p
 ·refine fun a xs H' F' x ha fa nw p=>h a xs H' F' (f.fx x) ha fa (fun o e=>?_) p
  refine Classical.byContradiction fun w=>?_
  cases q:F a with
  | none =>
   obtain⟨h1,f1,w1⟩:=f.hid a o e q w
   exact w1 (nw o h1)
  | some u=>rw[x.fz _ _ (f.fz _ _ q)]at fa;cases fa
 ·refine fun p as H' F' x hp ht fp rz=>h p as H' F' (f.fx x) (f.dom p hp) ht fp (rz.imp fun a xs ha fa nw o e=>?_)
  refine Classical.byContradiction fun w=>?_
  cases q:F a with
  | none =>
   obtain⟨h1,f1,w1⟩:=f.hid a o e q w
   exact w1 (nw o h1)
  | some u=>rw[x.fz _ _ (f.fz _ _ q)]at fa;cases fa
 ·exact fun H' F' x=>h H' F' (f.fx x)
theorem Cs.bnd{P1:Py α β}{r:Option (R α)}{k:α→DE→Option RS}{N:Ends}(h:Cs K cl E (M9 r k) σ H F env N) :
  Ct K cl E P1 r σ H F env fun b H1=>∃F1 env1 a,Frm σ H F env σ H1 F1 env1∧Rel K cl σ H1 F1 env1∧P1 a σ H H1 F1 env1 b∧Cs K cl E (k a env1) σ H F env N:=by
 unfold Ct
 rcases r with _ | ⟨a,e⟩ | c
 ·exact h
 ·intro b H1 F1 f R p
  exact⟨F1,e,a,f,R,p,h⟩
 ·exact h
end
def PZ(K:W.Frag)(cl:Str→Addr):Py D V:=fun d _ _ _ F' _ v=>Rp K cl F' d v
def PAs(K:W.Frag)(cl:Str→Addr):Py (List D) (List V):=fun ds _ _ _ F' _ vs=>Rps K cl F' ds vs
def PB:Py Bool Bool:=fun b _ _ _ _ _ c=>c=b
def PI':Py (Option Int) (Option Int):=fun b _ _ _ _ _ c=>c=b
def PN(K:W.Frag)(cl:Str→Addr):Py (List D) V:=fun ds σ H H' F' e v=>∃a xs,v=.ref a∧H a=none∧H' a=some (.lst xs)∧F' a=none∧(∀j,Mu e j→σ[j]?≠some (some (.ref a)))∧Rps K cl F' ds xs
theorem V8{K cl}:PM (PZ K cl):=fun _ _ _ _ _ _ _ _ _ h=>h
theorem b0u{K cl}:PM (PAs K cl):=fun _ _ _ _ _ _ _ _ _ h=>h
theorem a4K:PM PB:=fun _ _ _ _ _ _ _ _ _ h=>h
theorem b1H:PM PI':=fun _ _ _ _ _ _ _ _ _ h=>h
theorem a01{K cl}:PM (PN K cl):=fun _ _ _ _ _ _ _ _ g ⟨a,xs,e,h,r⟩=>⟨a,xs,e,g a h,r⟩
abbrev ZF:=DE→Option (R D)
abbrev NF:=DE→Option (R (List D))
abbrev AF:=DE→Option (R (List D))
abbrev BF:=DE→Option (R Bool)
abbrev OF:=DE→Option (R (Option Int))
abbrev SF:=DE→Option RS
section
variable (K:W.Frag)(cl:Str→Addr)(E:XK)
def t7(t:TE)(f:ZF):Prop:=∀σ H Q env F,Rel K cl σ H F env→Ct K cl E (PZ K cl) (f env) σ H F env Q→t σ H Q
def RfN(t:TE)(f:NF):Prop:=∀σ H Q env F,Rel K cl σ H F env→Ct K cl E (PN K cl) (f env) σ H F env Q→t σ H Q
def RfA(t:TA)(f:AF):Prop:=∀σ H Q env F,Rel K cl σ H F env→Ct K cl E (PAs K cl) (f env) σ H F env Q→t σ H Q
def P9(t:TT)(f:BF):Prop:=∀σ H Q env F,Rel K cl σ H F env→Ct K cl E PB (f env) σ H F env Q→t σ H Q
def RfO(t:TO)(f:OF):Prop:=∀σ H Q env F,Rel K cl σ H F env→Ct K cl E PI' (f env) σ H F env Q→t σ H Q
def RfS(t:TS)(f:SF):Prop:=∀(N:Ends) σ H env F,Rel K cl σ H F env→Cs K cl E (f env) σ H F env N→t N σ H
end
def eC(d:D):ZF:=fun e=>some (.ok d e)
def eV(i:Nat):ZF:=fun e=>match e[i]? with
 | some (.fz d)=>some (.ok d e)
 | some (.ow ds)=>some (.ok (.lst ds) (e.set i (.fz (.lst ds))))
 | _=>none
def look(e:DE)(i:Nat):Option D:=match e[i]? with
 | some (.fz d)=>some d
 | some (.ow ds)=>some (.lst ds)
 | some (.hd ds)=>some (.lst ds)
 | _=>none
def Rb(K:W.Frag)(cl:Str→Addr)(F H:Hp)(d:D)(v:V):Prop:=Rp K cl F d v∨∃a xs ds,v=.ref a∧d=.lst ds∧H a=some (.lst xs)∧Rps K cl F ds xs
section
variable {K:W.Frag}{cl:Str→Addr}{E:XK}{σ:St}{H F:Hp}{env:DE}
theorem Rel.look{i:Nat}{d:D}(R:Rel K cl σ H F env)(h:look env i=some d):∃v,σ[i]? = some (some v)∧Rb K cl F H d v:=by
 unfold L2.look at h
 split at h
 ·rename_i q;cases h;obtain⟨v,e,r⟩:=R.fz i d q;exact⟨v,e,.inl r⟩
 ·rename_i ds q;cases h;obtain⟨a,xs,e,hH,_,r⟩:=R.mu i ds (.inl q);exact⟨_,e,.inr ⟨a,xs,ds,rfl,rfl,hH,r⟩⟩
 ·rename_i ds q;cases h;obtain⟨a,xs,e,hH,_,r⟩:=R.mu i ds (.inr q);exact⟨_,e,.inr ⟨a,xs,ds,rfl,rfl,hH,r⟩⟩
 ·cases h
theorem c7{v:V}{d:D}(h:∀F,Rp K cl F d v:=by intro F;simp only[Rp]):t7 K cl E (tC v) (eC d):=fun σ H Q env F R h'=>h' v H F Frm.refl R (h F)
theorem b9{i:Nat}:t7 K cl E (D2 i) (eV i):=by
 intro σ H Q env F R h
 unfold eV at h
 split at h
 ·rename_i d q
  obtain⟨v,e,r⟩:=R.fz i d q
  exact⟨v,e,h v H F Frm.refl R r⟩
 ·rename_i ds q
  obtain⟨a,F',e,fr,R',r⟩:=R.freeze q
  exact⟨_,e,h _ H F' fr R' r⟩
 ·exact h.elim
end
def OpOk(K:W.Frag)(cl:Str→Addr)(r:R2)(g:D→D→Option D):Prop:=∀x y d e z H F Q,Same F H→Rb K cl F H d x→Rb K cl F H e y→g d e=some z→(∀v H' F',Gr H F H' F'→Rp K cl F' z v→Q v H')→r x y H Q
def eB(g:D→D→Option D)(f k:ZF):ZF:=fun e=>bnd (f e) fun d e1=>bnd (k e1) fun d' e2=>Z3 (g d d') e2
def p7(g:D→D→Option D)(i:Nat)(k:ZF):ZF:=fun e=>match look e i with
 | none=>none
 | some _=>bnd (k e) fun d' e2=>match look e2 i with
  | some d=>Z3 (g d d') e2
  | none=>none
def eBW(g:D→D→Option D)(f:ZF)(j:Nat):ZF:=fun e=>bnd (f e) fun d e2=>match look e2 j with
 | some d'=>Z3 (g d d') e2
 | none=>none
def a24(g:D→D→Option D)(i j:Nat):ZF:=fun e=>match look e i,look e j with
 | some d,some d'=>Z3 (g d d') e
 | _,_=>none
section
variable {K:W.Frag}{cl:Str→Addr}{E:XK}{r:R2}{g:D→D→Option D}{ta tb:TE}{f k:ZF}{i j:Nat}
theorem OpOk.fin{σ:St}{H F:Hp}{env:DE}{x y:V}{d e:D}{Q:VK}(ok:OpOk K cl r g)(R:Rel K cl σ H F env)(hx:Rb K cl F H d x)(hy:Rb K cl F H e y)(h:Ct K cl E (PZ K cl) (Z3 (g d e) env) σ H F env Q):r x y H Q:=by
 cases hz:g d e with
 | none=>rw[hz]at h;exact h.elim
 | some z =>
  rw[hz]at h
  exact ok x y d e z H F Q R.sub hx hy hz fun v H' F' gr p=>h v H' F' (R.frm gr) (R.gr gr) p
theorem b0(ok:OpOk K cl r g)(ha:t7 K cl E ta f)(hb:t7 K cl E tb k):t7 K cl E (tOp r ta tb) (eB g f k):=by
 intro σ H Q env F R h
 refine ha σ H _ env F R ((Ct.bnd h V8).mono fun x H1 ⟨F1,e1,d,s1,R1,p1,h1⟩=>?_)
 refine hb σ H1 _ e1 F1 R1 ((Ct.bnd h1 V8).mono fun y H2 ⟨F2,e2,e,s2,R2,p2,h2⟩=>?_)
 exact ok.fin R2 (.inl (Rp.mono s2 _ _ p1)) (.inl p2) h2
theorem r9(ok:OpOk K cl r g)(hb:t7 K cl E tb k):t7 K cl E (tOp r (D2 i) tb) (p7 g i k):=by
 intro σ H Q env F R h
 unfold p7 at h
 cases q:look env i with
 | none=>rw[q]at h;exact h.elim
 | some d0 =>
  rw[q]at h
  obtain⟨x,e0,_⟩:=R.look q
  refine⟨x,e0,hb σ H _ env F R ((Ct.bnd h V8).mono fun y H2 ⟨F2,e2,e,s2,R2,p2,h2⟩=>?_)⟩
  cases q2:look e2 i with
  | none=>rw[q2]at h2;exact h2.elim
  | some d =>
   rw[q2]at h2
   obtain⟨x',e',rb⟩:=R2.look q2
   rw[e0]at e';cases e'
   exact ok.fin R2 rb (.inl p2) h2
theorem b0w(ok:OpOk K cl r g)(ha:t7 K cl E ta f):t7 K cl E (tOp r ta (D2 j)) (eBW g f j):=by
 intro σ H Q env F R h
 refine ha σ H _ env F R ((Ct.bnd h V8).mono fun x H1 ⟨F1,e1,d,s1,R1,p1,h1⟩=>?_)
 cases q:look e1 j with
 | none=>rw[q]at h1;exact h1.elim
 | some d' =>
  rw[q]at h1
  obtain⟨y,e,rb⟩:=R1.look q
  exact⟨y,e,ok.fin R1 (.inl p1) rb h1⟩
theorem a8x(ok:OpOk K cl r g):t7 K cl E (tOp r (D2 i) (D2 j)) (a24 g i j):=by
 intro σ H Q env F R h
 unfold a24 at h
 cases q:look env i with
 | none=>rw[q]at h;exact h.elim
 | some d =>
  cases q2:look env j with
  | none=>rw[q,q2]at h;exact h.elim
  | some d' =>
   rw[q,q2]at h
   obtain⟨x,e,rb⟩:=R.look q
   obtain⟨y,e',rb'⟩:=R.look q2
   exact⟨x,e,y,e',ok.fin R rb rb' h⟩
end
section
variable {K:W.Frag}{cl:Str→Addr}{E:XK}
theorem Rb.int{F H:Hp}{i:Int}{v:V}(h:Rb K cl F H (.int i) v):v=.int i:=by
 rcases h with h | ⟨_,_,_,_,z,_⟩
 ·simpa only[Rp]using h
 ·cases z
theorem Rb.bl{F H:Hp}{i:Bool}{v:V}(h:Rb K cl F H (.bl i) v):v=.bl i:=by
 rcases h with h | ⟨_,_,_,_,z,_⟩
 ·simpa only[Rp]using h
 ·cases z
theorem Rb.str{F H:Hp}{i:Str}{v:V}(h:Rb K cl F H (.str i) v):v=.str i:=by
 rcases h with h | ⟨_,_,_,_,z,_⟩
 ·simpa only[Rp]using h
 ·cases z
theorem Rb.non{F H:Hp}{v:V}(h:Rb K cl F H .non v):v=.non:=by
 rcases h with h | ⟨_,_,_,_,z,_⟩
 ·simpa only[Rp]using h
 ·cases z
theorem Rb.lst{F H:Hp}{ds:List D}{v:V}(s:Same F H)(h:Rb K cl F H (.lst ds) v):∃a xs,v=.ref a∧H a=some (.lst xs)∧Rps K cl F ds xs:=by
 rcases h with h | ⟨a,xs,ds',e,z,h,r⟩
 ·simp only[Rp]at h
  obtain⟨a,xs,e,h,r⟩:=h
  exact⟨a,xs,e,s _ _ h,r⟩
 ·cases z;exact⟨a,xs,e,h,r⟩
theorem Rb.tup{F H:Hp}{ds:List D}{v:V}(s:Same F H)(h:Rb K cl F H (.tup ds) v):∃a xs,v=.ref a∧H a=some (.tup xs)∧Rps K cl F ds xs:=by
 rcases h with h | ⟨_,_,_,_,z,_⟩
 ·simp only[Rp]at h
  obtain⟨a,xs,e,h,r⟩:=h
  exact⟨a,xs,e,s _ _ h,r⟩
 ·cases z
theorem Rb.scr{F H:Hp}{ns:List Int}{v:V}(s:Same F H)(h:Rb K cl F H (.scr ns) v):∃a,v=.ref a∧Scr K H a (ns.map V.int):=by
 rcases h with h | ⟨_,_,_,_,z,_⟩
 ·simp only[Rp]at h
  obtain⟨a,e,h⟩:=h
  exact⟨a,e,h.same s⟩
 ·cases z
def gI(C:Int→Int→Prop) [∀i j,Decidable (C i j)] (g:Int→Int→D):D→D→Option D
 | .int i,.int j=>if C i j then some (g i j)else none
 | _,_=>none
def gI0(g:Int→Int→D):D→D→Option D
 | .int i,.int j=>some (g i j)
 | _,_=>none
theorem a4L{C:Int→Int→Prop} [∀i j,Decidable (C i j)] {g:Int→Int→V} {g':Int→Int→D} (hg:∀F i j,Rp K cl F (g' i j) (g i j)):OpOk K cl (rI C g) (gI C g'):=by
 intro x y d e z H F Q s hx hy h q
 unfold gI at h
 split at h
 ·rename_i i j
  split at h
  ·rename_i c;cases h
   exact⟨i,j,hx.int,hy.int,c,q _ H F (.refl s) (hg F i j)⟩
  ·cases h
 ·cases h
theorem a2B{g:Int→Int→V}{g':Int→Int→D}(hg:∀F i j,Rp K cl F (g' i j) (g i j)):OpOk K cl (rI0 g) (gI0 g'):=by
 intro x y d e z H F Q s hx hy h q
 unfold gI0 at h
 split at h
 ·rename_i i j
  cases h
  exact⟨i,j,hx.int,hy.int,q _ H F (.refl s) (hg F i j)⟩
 ·cases h
end
section
variable {K:W.Frag}{cl:Str→Addr}{E:XK}{σ:St}{H F:Hp}{env:DE}
theorem Rel.newN{p:Addr}{o:HO}(R:Rel K cl σ H F env)(hp:H p=none):Rel K cl σ (upd H p o) F env∧Frm σ H F env σ (upd H p o) F env:=by
 have fp:F p=none:=R.sub.free hp
 have ne:∀a u,H a=some u→a≠p:=fun a u h z=>by rw[z,hp]at h;cases h
 refine⟨⟨R.sub.trans (S9 hp _),R.len,R.fz,fun i ds h=>?_,R.inj⟩,⟨Same.refl _,fun a u h f w=>?_,fun _ _ h=>⟨h,rfl⟩,fun a h=>?_⟩⟩
 ·obtain⟨a,xs,e,hH,hF,r⟩:=R.mu i ds h
  exact⟨a,xs,e,by rw[g7 (ne _ _ hH)];exact hH,hF,r⟩
 ·exact⟨by rw[g7 (ne _ _ h)];exact h,f,w⟩
 ·by_cases z:a=p
  ·rw[z];exact hp
  ·rw[g7 z]at h;exact h
theorem Ct.newN{p:Addr}{xs:List V}{ds:List D}{Q:VK}(R:Rel K cl σ H F env)(hp:H p=none)(r:Rps K cl F ds xs)(h:Ct K cl E (PN K cl) (some (.ok ds env)) σ H F env Q):Q (.ref p) (upd H p (.lst xs)):=by
 obtain⟨R',f⟩:=R.newN (o:=.lst xs) hp
 refine h _ _ F f R' ⟨p,xs,rfl,hp,i5,R.sub.free hp,fun j mj e=>?_,r⟩
 obtain⟨ds',q⟩:=mj
 obtain⟨a,ys,e1,hH,_⟩:=R.mu j ds' q
 rw[e]at e1;cases e1
 rw[hp]at hH;cases hH
def zN(f:NF):ZF:=fun e=>bnd (f e) fun ds e1=>some (.ok (.lst ds) e1)
theorem a2C{t:TE}{f:NF}(h:RfN K cl E t f):t7 K cl E t (zN f):=by
 intro σ H Q env F R q
 refine h σ H Q env F R ?_
 unfold zN at q
 rcases hf:f env with _ | ⟨ds,e1⟩ | c
 ·rw[hf]at q;exact q
 ·rw[hf]at q
  rintro b H' F' fr R' ⟨a,xs,rfl,hn,hH,hF,nm,r⟩
  have sF:Same F' (upd F' a (.lst xs)):=S9 hF _
  refine q _ H' (upd F' a (.lst xs)) ⟨fr.fz.trans sF,fun b o hb fb w=>?_,fr.keep,fr.dom⟩ ⟨fun b o z=>?_,R'.len,fun i d z=>?_,fun i es z=>?_,R'.inj⟩ (by show Rp K cl _ (.lst ds) _;simp only[Rp];exact⟨a,xs,rfl,i5,r.mono sF⟩)
  ·obtain⟨h1,f1,w1⟩:=fr.hid b o hb fb w
   have nb:b≠a:=fun z=>by rw[z,hn]at hb;cases hb
   exact⟨h1,by rw[g7 nb];exact f1,w1⟩
  ·by_cases y:b=a
   ·subst y;rw[i5]at z;cases z;exact hH
   ·rw[g7 y]at z;exact R'.sub _ _ z
  ·obtain⟨v,e,r1⟩:=R'.fz i d z
   exact⟨v,e,r1.mono sF⟩
  ·obtain⟨b,ys,e,h1,f1,r1⟩:=R'.mu i es z
   have nb:b≠a:=fun y=>nm i ⟨es,z⟩ (by rw[e,y])
   exact⟨b,ys,e,h1,by rw[g7 nb];exact f1,r1.mono sF⟩
 ·rw[hf]at q;exact q
def aN:AF:=fun e=>some (.ok [] e)
def aC(f:ZF)(k:AF):AF:=fun e=>bnd (f e) fun d e1=>bnd (k e1) fun ds e2=>some (.ok (d::ds) e2)
theorem g6:RfA K cl E W9 aN:=fun σ H Q env F R h=>h [] H F Frm.refl R .nil
theorem a8{te:TE}{ta:TA}{f:ZF}{k:AF}(hf:t7 K cl E te f)(hk:RfA K cl E ta k):RfA K cl E (K1 te ta) (aC f k):=by
 intro σ H Q env F R h
 refine hf σ H _ env F R ((Ct.bnd h b0u).mono fun x H1 ⟨F1,e1,d,s1,R1,p1,h1⟩=>?_)
 refine hk σ H1 _ e1 F1 R1 ((Ct.bnd h1 b0u).mono fun xs H2 ⟨F2,e2,ds,s2,R2,p2,h2⟩=>?_)
 exact h2 (x::xs) H2 F2 Frm.refl R2 (.cons (Rp.mono s2 _ _ p1) p2)
def eT(f:AF):ZF:=fun e=>bnd (f e) fun ds e1=>if ds.length≤sizeLine then some (.ok (.tup ds) e1)else none
def eL(f:AF):NF:=fun e=>bnd (f e) fun ds e1=>if ds.length≤sizeLine then some (.ok ds e1)else none
theorem m9{ta:TA}{f:AF}(hf:RfA K cl E ta f):t7 K cl E (a6F ta) (eT f):=by
 intro σ H Q env F R h
 refine hf σ H _ env F R ((Ct.bnd h V8).mono fun xs H1 ⟨F1,e1,ds,s1,R1,p1,h1⟩=>?_)
 have hl:ds.length=xs.length:=Rps.length p1
 split at h1
 ·rename_i z
  refine⟨by rw[← hl];exact z,fun p hp=>?_⟩
  have g:Gr H1 F1 (upd H1 p (.tup xs)) (upd F1 p (.tup xs)):=.new R1.sub hp
  exact h1 _ _ _ (R1.frm g) (R1.gr g) (by show Rp K cl _ (.tup ds) _;simp only[Rp];exact⟨p,xs,rfl,i5,Rps.mono g.fz _ _ p1⟩)
 ·exact h1.elim
theorem X9{ta:TA}{f:AF}(hf:RfA K cl E ta f):RfN K cl E (a9X ta) (eL f):=by
 intro σ H Q env F R h
 refine hf σ H _ env F R ((Ct.bnd h a01).mono fun xs H1 ⟨F1,e1,ds,s1,R1,p1,h1⟩=>?_)
 have hl:ds.length=xs.length:=Rps.length p1
 split at h1
 ·rename_i z
  exact⟨by rw[← hl];exact z,fun p hp=>Ct.newN R1 hp p1 h1⟩
 ·exact h1.elim
def bZ(f:ZF):BF:=fun e=>bnd (f e) fun d e1=>match d with
 | .bl b=>some (.ok b e1)
 | _=>none
theorem L5{t:TE}{f:ZF}(hf:t7 K cl E t f):P9 K cl E (tB t) (bZ f):=by
 intro σ H Q env F R h
 refine hf σ H _ env F R ((Ct.bnd h a4K).mono fun x H1 ⟨F1,e1,d,s1,R1,p1,h1⟩=>?_)
 split at h1
 ·rename_i b
  have:x=.bl b:=by have:=(show Rp K cl F1 (.bl b) x from p1);simpa only[Rp]using this
  exact⟨b,this,h1 b H1 F1 Frm.refl R1 rfl⟩
 ·exact h1.elim
theorem v5{t:TE}{f:ZF}(hf:t7 K cl E t f):P9 K cl E (a7O t) (bZ f):=L5 hf
def J6(f:BF):BF:=fun e=>bnd (f e) fun b e1=>some (.ok (!b) e1)
def a1S(f k:BF):BF:=fun e=>bnd (f e) fun b e1=>if b=true then k e1 else some (.ok false e1)
def W6(f k:BF):BF:=fun e=>bnd (f e) fun b e1=>if b=true then some (.ok true e1)else k e1
theorem M1{t:TT}{f:BF}(hf:P9 K cl E t f):P9 K cl E (a9M t) (J6 f):=by
 intro σ H Q env F R h
 refine hf σ H _ env F R ((Ct.bnd h a4K).mono fun x H1 ⟨F1,e1,d,s1,R1,p1,h1⟩=>?_)
 cases (show x=d from p1)
 exact h1 _ H1 F1 Frm.refl R1 rfl
theorem a4c{t u:TT}{f k:BF}(hf:P9 K cl E t f)(hk:P9 K cl E u k):P9 K cl E (a9L t u) (a1S f k):=by
 intro σ H Q env F R h
 refine hf σ H _ env F R ((Ct.bnd h a4K).mono fun x H1 ⟨F1,e1,d,s1,R1,p1,h1⟩=>?_)
 cases (show x=d from p1)
 by_cases z:x=true
 ·rw[if_pos z]at h1 ⊢;exact hk σ H1 Q e1 F1 R1 h1
 ·rw[if_neg z]at h1 ⊢;exact h1 _ H1 F1 Frm.refl R1 rfl
theorem T2{t u:TT}{f k:BF}(hf:P9 K cl E t f)(hk:P9 K cl E u k):P9 K cl E (tOr t u) (W6 f k):=by
 intro σ H Q env F R h
 refine hf σ H _ env F R ((Ct.bnd h a4K).mono fun x H1 ⟨F1,e1,d,s1,R1,p1,h1⟩=>?_)
 cases (show x=d from p1)
 by_cases z:x=true
 ·rw[if_pos z]at h1 ⊢;exact h1 _ H1 F1 Frm.refl R1 rfl
 ·rw[if_neg z]at h1 ⊢;exact hk σ H1 Q e1 F1 R1 h1
def a6Z(f:ZF):ZF:=fun e=>bnd (f e) fun d e1=>match d with
 | .bl b=>some (.ok (.bl (!b)) e1)
 | _=>none
def a1T(f k:ZF):ZF:=fun e=>bnd (f e) fun d e1=>match d with
 | .bl b=>if b=true then k e1 else some (.ok (.bl false) e1)
 | _=>none
theorem b0x{t:TE}{f:ZF}(hf:t7 K cl E t f):t7 K cl E (a7K t) (a6Z f):=by
 intro σ H Q env F R h
 refine hf σ H _ env F R ((Ct.bnd h V8).mono fun x H1 ⟨F1,e1,d,s1,R1,p1,h1⟩=>?_)
 split at h1
 ·rename_i b
  have:x=.bl b:=by have:=(show Rp K cl F1 (.bl b) x from p1);simpa only[Rp]using this
  exact⟨b,this,h1 _ H1 F1 Frm.refl R1 (by show Rp K cl F1 (.bl _) _;simp only[Rp])⟩
 ·exact h1.elim
theorem a25{t u:TE}{f k:ZF}(hf:t7 K cl E t f)(hk:t7 K cl E u k):t7 K cl E (a7J t u) (a1T f k):=by
 intro σ H Q env F R h
 refine hf σ H _ env F R ((Ct.bnd h V8).mono fun x H1 ⟨F1,e1,d,s1,R1,p1,h1⟩=>?_)
 split at h1
 ·rename_i b
  have:x=.bl b:=by have:=(show Rp K cl F1 (.bl b) x from p1);simpa only[Rp]using this
  refine⟨b,this,?_⟩
  by_cases z:b=true
  ·rw[if_pos z]at h1 ⊢;exact hk σ H1 Q e1 F1 R1 h1
  ·rw[if_neg z]at h1 ⊢;exact h1 _ H1 F1 Frm.refl R1 (by show Rp K cl F1 (.bl _) _;simp only[Rp])
 ·exact h1.elim
def a4M(K:W.Frag)(cl:Str→Addr)(r:List V→Hp→VK→Prop)(g:List D→Option D):Prop:=∀xs ds z H F Q,Same F H→Rps K cl F ds xs→g ds=some z→(∀v H' F',Gr H F H' F'→Rp K cl F' z v→Q v H')→r xs H Q
def CbOk1(K:W.Frag)(cl:Str→Addr)(r:List V→Hp→VK→Prop)(g:D→Option D):Prop:=∀x d z H F Q,Same F H→Rb K cl F H d x→g d=some z→(∀v H' F',Gr H F H' F'→Rp K cl F' z v→Q v H')→r [x] H Q
def U5(g:List D→Option D)(f:AF):ZF:=fun e=>bnd (f e) fun ds e1=>Z3 (g ds) e1
def C7(g:D→Option D)(i:Nat):ZF:=fun e=>match look e i with
 | some d=>Z3 (g d) e
 | none=>none
theorem R6{r:List V→Hp→VK→Prop}{g:List D→Option D}{t:TA}{f:AF}(ok:a4M K cl r g)(hf:RfA K cl E t f):t7 K cl E (tCB r t) (U5 g f):=by
 intro σ H Q env F R h
 refine hf σ H _ env F R ((Ct.bnd h V8).mono fun x H1 ⟨F1,e1,d,s1,R1,p1,h1⟩=>?_)
 cases hz:g d with
 | none=>rw[hz]at h1;exact h1.elim
 | some z =>
  rw[hz]at h1
  exact ok x d z H1 F1 Q R1.sub p1 hz fun v H' F' gr p=>h1 v H' F' (R1.frm gr) (R1.gr gr) p
theorem F5{r:List V→Hp→VK→Prop}{g:D→Option D}{i:Nat}(ok:CbOk1 K cl r g):t7 K cl E (tCB r (K1 (D2 i) W9)) (C7 g i):=by
 intro σ H Q env F R h
 unfold C7 at h
 cases q:look env i with
 | none=>rw[q]at h;exact h.elim
 | some d =>
  rw[q]at h
  obtain⟨x,e,rb⟩:=R.look q
  refine⟨x,e,?_⟩
  cases hz:g d with
  | none=>simp only[hz,X8]at h;exact h.elim
  | some z =>
   simp only[hz,X7]at h
   exact ok x d z H F Q R.sub rb hz fun v H' F' gr p=>h v H' F' (R.frm gr) (R.gr gr) p
def g1(g:D→Option D):List D→Option D
 | [d]=>g d
 | _=>none
theorem CbOk1.cb{r:List V→Hp→VK→Prop}{g:D→Option D}(ok:CbOk1 K cl r g):a4M K cl r (g1 g):=by
 intro xs ds z H F Q s hx h q
 unfold g1 at h
 split at h
 ·obtain⟨v,r,rfl,h1,h2⟩:=hx.inv
  rw[h2.inv0]
  exact ok v _ z H F Q s (.inl h1) h q
 ·cases h
def b0y(K:W.Frag)(cl:Str→Addr)(r:List V→Hp→VK→Prop)(g:D→Option (List D)):Prop:=∀x d zs H F Q,Same F H→Rb K cl F H d x→g d=some zs→(∀p xs,H p=none→Rps K cl F zs xs→Q (.ref p) (upd H p (.lst xs)))→r [x] H Q
def nCV(g:D→Option (List D))(i:Nat):NF:=fun e=>match look e i with
 | some d=>Z3 (g d) e
 | none=>none
theorem b0z{r:List V→Hp→VK→Prop}{g:D→Option (List D)}{i:Nat}(ok:b0y K cl r g):RfN K cl E (tCB r (K1 (D2 i) W9)) (nCV g i):=by
 intro σ H Q env F R h
 unfold nCV at h
 cases q:look env i with
 | none=>rw[q]at h;exact h.elim
 | some d =>
  rw[q]at h
  obtain⟨x,e,rb⟩:=R.look q
  refine⟨x,e,?_⟩
  cases hz:g d with
  | none=>simp only[hz,X8]at h;exact h.elim
  | some z =>
   simp only[hz,X7]at h
   exact ok x d z H F Q R.sub rb hz fun p xs hp r=>Ct.newN R hp r h
def b0A(K:W.Frag)(cl:Str→Addr)(r:R2)(g:D→D→Option (List D)):Prop:=∀x y d e zs H F Q,Same F H→Rb K cl F H d x→Rb K cl F H e y→g d e=some zs→(∀p xs,H p=none→Rps K cl F zs xs→Q (.ref p) (upd H p (.lst xs)))→r x y H Q
def nB(g:D→D→Option (List D))(f k:ZF):NF:=fun e=>bnd (f e) fun d e1=>bnd (k e1) fun d' e2=>Z3 (g d d') e2
theorem a71{r:R2}{g:D→D→Option (List D)}{ta tb:TE}{f k:ZF}(ok:b0A K cl r g)(ha:t7 K cl E ta f)(hb:t7 K cl E tb k):RfN K cl E (tOp r ta tb) (nB g f k):=by
 intro σ H Q env F R h
 refine ha σ H _ env F R ((Ct.bnd h a01).mono fun x H1 ⟨F1,e1,d,s1,R1,p1,h1⟩=>?_)
 refine hb σ H1 _ e1 F1 R1 ((Ct.bnd h1 a01).mono fun y H2 ⟨F2,e2,e,s2,R2,p2,h2⟩=>?_)
 cases hz:g d e with
 | none=>rw[hz]at h2;exact h2.elim
 | some z =>
  rw[hz]at h2
  exact ok x y d e z H2 F2 Q R2.sub (.inl (Rp.mono s2 _ _ p1)) (.inl p2) hz fun p xs hp r=>Ct.newN R2 hp r h2
end
section
variable {K:W.Frag}{cl:Str→Addr}{E:XK}{σ:St}{H F:Hp}{env:DE}
instance decMul(i j:Int):Decidable (IntMulOk i j):=by unfold IntMulOk;infer_instance
instance decPow(i j:Int):Decidable (a1L i j):=by unfold a1L;infer_instance
abbrev p5:=gI0 fun i j=>.int (i+j)
abbrev v7:=gI0 fun i j=>.int (i-j)
abbrev E3:=gI IntMulOk fun i j=>.int (i*j)
abbrev B7:=gI (fun _ j=>0<j∧j.natAbs.log2<9000) fun i j=>.int (i/j)
abbrev w6:=gI (fun _ j=>0<j) fun i j=>.int (i%j)
abbrev Y0:=gI a1L fun i j=>.int (i ^ j.toNat)
abbrev gLt:=gI0 fun i j=>.bl (decide (i<j))
abbrev gGt:=gI0 fun i j=>.bl (decide (j<i))
theorem t8:OpOk K cl (rI0 fun i j=>.int (i+j)) p5:=a2B fun F i j=>by simp only[Rp]
theorem J7:OpOk K cl (rI0 fun i j=>.int (i-j)) v7:=a2B fun F i j=>by simp only[Rp]
theorem T3:OpOk K cl (rI IntMulOk fun i j=>.int (i*j)) E3:=a4L fun F i j=>by simp only[Rp]
theorem J8:OpOk K cl (rI (fun _ j=>0<j∧j.natAbs.log2<9000) fun i j=>.int (i/j)) B7:=a4L fun F i j=>by simp only[Rp]
theorem C8:OpOk K cl (rI (fun _ j=>0<j) fun i j=>.int (i%j)) w6:=a4L fun F i j=>by simp only[Rp]
theorem a5R:OpOk K cl (rI a1L fun i j=>.int (i ^ j.toNat)) Y0:=a4L fun F i j=>by simp only[Rp]
theorem a4N:OpOk K cl (rI0 fun i j=>.bl (decide (i<j))) gLt:=a2B fun F i j=>by simp only[Rp]
theorem a1u:OpOk K cl (rI0 fun i j=>.bl (decide (j<i))) gGt:=a2B fun F i j=>by simp only[Rp]
def toV:D→Option V
 | .non=>some .non
 | .bl b=>some (.bl b)
 | .int i=>some (.int i)
 | .str x=>some (.str x)
 | _=>none
theorem Rb.toV{d:D}{v u:V}(h:Rb K cl F H d v)(e:toV d=some u):v=u:=by
 cases d with
 | non=>cases e;exact h.non
 | bl b=>cases e;exact h.bl
 | int i=>cases e;exact h.int
 | str x=>cases e;exact h.str
 | _=>cases e
def u6(neg:Bool)(d e:D):Option D:=match toV d,toV e with
 | some x,some y=>if a2O x y=true then some (.bl (if neg then !decide (x=y)else decide (x=y)))else none
 | _,_=>none
theorem K4:OpOk K cl rEq (u6 false):=by
 intro x y d e z H F Q s hx hy h q
 unfold u6 at h
 split at h
 ·rename_i u w hu hw
  split at h
  ·rename_i c;cases h
   rw[hx.toV hu,hy.toV hw]
   exact⟨c,q _ H F (.refl s) (by simp only[Rp];rfl)⟩
  ·cases h
 ·cases h
theorem a1v:OpOk K cl rNe (u6 true):=by
 intro x y d e z H F Q s hx hy h q
 unfold u6 at h
 split at h
 ·rename_i u w hu hw
  split at h
  ·rename_i c;cases h
   rw[hx.toV hu,hy.toV hw]
   exact⟨c,q _ H F (.refl s) (by simp only[Rp];rfl)⟩
  ·cases h
 ·cases h
@[simp] theorem a8y(neg:Bool)(a b:Int):u6 neg (.int a) (.int b)=some (.bl (if neg then !decide (a=b)else decide (a=b))):=by
 unfold u6 toV
 simp only[a2O,if_true,V.int.injEq]
@[simp] theorem a8z(neg:Bool)(a b:Str):u6 neg (.str a) (.str b)=some (.bl (if neg then !decide (a=b)else decide (a=b))):=by
 unfold u6 toV
 simp only[a2O,if_true,V.str.injEq]
def K8(neg:Bool)(d e:D):Option D:=match d,e with
 | .non,.non=>some (.bl (!neg))
 | _,.non=>some (.bl neg)
 | _,_=>none
theorem Rb.notNon{d:D}{v:V}(h:Rb K cl F H d v)(n:d≠.non):v≠.non:=by
 rcases h with h | ⟨_,_,_,rfl,_⟩
 ·cases d<;>simp only[Rp]at h
  ·exact absurd rfl n
  all_goals first | (rw[h];intro z;cases z) | (obtain⟨_,_,rfl,_⟩:=h;intro z;cases z) | (obtain⟨_,rfl,_⟩:=h;intro z;cases z) | (obtain⟨_,_,_,rfl,_⟩:=h;intro z;cases z)
 ·intro z;cases z
theorem b0B:OpOk K cl (fun x y H Q=>y=.non∧Q (.bl (decide (x=.non))) H) (K8 false):=by
 intro x y d e z H F Q s hx hy h q
 unfold K8 at h
 split at h
 ·cases h;rw[hx.non];exact⟨hy.non,q _ H F (.refl s) (by simp[Rp])⟩
 ·rename_i n;cases h
  exact⟨hy.non,q _ H F (.refl s) (by simp only[Rp];rw[decide_eq_false (hx.notNon n)])⟩
 ·cases h
theorem a4d:OpOk K cl (fun x y H Q=>y=.non∧Q (.bl (!decide (x=.non))) H) (K8 true):=by
 intro x y d e z H F Q s hx hy h q
 unfold K8 at h
 split at h
 ·cases h;rw[hx.non];exact⟨hy.non,q _ H F (.refl s) (by simp[Rp])⟩
 ·rename_i n;cases h
  exact⟨hy.non,q _ H F (.refl s) (by simp only[Rp];rw[decide_eq_false (hx.notNon n)];rfl)⟩
 ·cases h
theorem Rps.atI{ds:List D}{xs:List V}{i:Int}{d:D}(h:Rps K cl F ds xs)(e:atI ds i=some d):∃v,L2.atI xs i=some v∧Rp K cl F d v:=by
 unfold L2.atI at e ⊢
 rw[← h.length]
 cases q:M8 ds.length i with
 | none=>rw[q]at e;cases e
 | some j=>rw[q]at e;exact h.get e
def j7(d e:D):Option D:=match d,e with
 | .lst ds,.int i=>atI ds i
 | .scr ns,.int i=>(atI ns i).map .int
 | _,_=>none
def d6(d e:D):Option D:=match d,e with
 | .tup ds,.int i=>atI ds i
 | _,_=>none
theorem a8A{α β:Type}(f:α→β)(xs:List α)(i:Int):atI (xs.map f) i=(atI xs i).map f:=by
 unfold L2.atI
 rw[List.length_map]
 cases M8 xs.length i with
 | none=>rfl
 | some j=>simp
theorem t4:OpOk K cl (a6H K) j7:=by
 intro x y d e z H F Q s hx hy h q
 unfold j7 at h
 split at h
 ·obtain⟨a,xs,rfl,hH,r⟩:=hx.lst s
  obtain⟨v,e,p⟩:=r.atI h
  exact⟨a,xs,_,v,rfl,hy.int,.of hH,e,q v H F (.refl s) p⟩
 ·rename_i ns i
  obtain⟨a,rfl,hS⟩:=hx.scr s
  cases hz:atI ns i with
  | none=>rw[hz]at h;cases h
  | some n =>
   rw[hz]at h;cases h
   exact⟨a,_,_,.int n,rfl,hy.int,hS.seq,by rw[a8A,hz];rfl,q _ H F (.refl s) (by simp only[Rp])⟩
 ·cases h
theorem g5:OpOk K cl (a6I K) d6:=by
 intro x y d e z H F Q s hx hy h q
 unfold d6 at h
 split at h
 ·obtain⟨a,xs,rfl,hH,r⟩:=hx.tup s
  obtain⟨v,e,p⟩:=r.atI h
  exact⟨a,xs,_,v,rfl,hy.int,.of hH,e,q v H F (.refl s) p⟩
 ·cases h
def Q7:D→D→Bool
 | .non,.non=>true
 | .bl a,.bl b=>a == b
 | .bl a,.int b=>(if a then 1 else 0) == b
 | .int a,.bl b=>a == (if b then 1 else 0)
 | .int a,.int b=>a == b
 | .str a,.str b=>a == b
 | _,_=>false
def a4O:List D→List D→Bool
 | [],[]=>true
 | x::xs,y::ys=>Q7 x y && a4O xs ys
 | _,_=>false
def j5:D→Bool
 | .non=>true
 | .bl _=>true
 | .int _=>true
 | .str _=>true
 | _=>false
theorem Rp.flat{d:D}{v:V}(h:Rp K cl F d v)(f:j5 d=true):toV d=some v∧O9 v=true:=by
 cases d<;>simp only[Rp]at h<;>first | (subst h;exact⟨rfl,rfl⟩) | cases f
theorem Rps.flat:∀{ds:List D} {vs:List V},Rps K cl F ds vs→ds.all j5=true→vs.all O9=true
 | [],_,h,_=>by rw[h.inv0];rfl
 | d::ds,_,h,f=>by
  obtain⟨v,r,rfl,h1,h2⟩:=h.inv
  rw[List.all_cons,Bool.and_eq_true]at f
  rw[List.all_cons,(h1.flat f.1).2,h2.flat f.2];rfl
theorem Rp.eq{d e:D}{v u:V}(h:Rp K cl F d v)(g:Rp K cl F e u)(fd:j5 d=true)(fe:j5 e=true):eqV v u=Q7 d e:=by
 have h1:=(h.flat fd).1
 have h2:=(g.flat fe).1
 cases d<;>cases e<;>first | (cases h1;cases h2;rfl) | (cases fd;done) | (cases fe;done)
theorem Rps.eq:∀{ds es:List D} {vs us:List V},Rps K cl F ds vs→Rps K cl F es us→ds.all j5=true→es.all j5=true→a6N vs us=a4O ds es
 | [],[],_,_,h,g,_,_=>by rw[h.inv0,g.inv0];rfl
 | [],_::_,_,_,h,g,_,_=>by rw[h.inv0];obtain⟨_,_,rfl,_,_⟩:=g.inv;rfl
 | _::_,[],_,_,h,g,_,_=>by rw[g.inv0];obtain⟨_,_,rfl,_,_⟩:=h.inv;rfl
 | d::ds,e::es,_,_,h,g,fd,fe=>by
  obtain⟨v,r,rfl,h1,h2⟩:=h.inv
  obtain⟨u,r',rfl,g1,g2⟩:=g.inv
  rw[List.all_cons,Bool.and_eq_true]at fd fe
  unfold a6N a4O
  rw[h1.eq g1 fd.1 fe.1,h2.eq g2 fd.2 fe.2]
def a02(d e:D):Option (List D):=match d,e with
 | .lst ds,.lst es=>if ds.length+es.length≤sizeLine then some (ds++es)else none
 | _,_=>none
theorem a5S:b0A K cl a95 a02:=by
 intro x y d e zs H F Q s hx hy h q
 unfold a02 at h
 split at h
 ·split at h
  ·rename_i c;cases h
   obtain⟨a,xs,rfl,hH,r⟩:=hx.lst s
   obtain⟨b,ys,rfl,hH',r'⟩:=hy.lst s
   exact⟨a,b,xs,ys,rfl,rfl,hH,hH',by rw[← r.length,← r'.length];exact c,fun p hp=>q p _ hp (r.append r')⟩
  ·cases h
 ·cases h
theorem Rps.rep{ds:List D}{xs:List V}(h:Rps K cl F ds xs):∀n:Nat,Rps K cl F (List.replicate n ds).flatten (List.replicate n xs).flatten
 | 0=>.nil
 | n+1=>by rw[List.replicate_succ,List.replicate_succ,List.flatten_cons,List.flatten_cons];exact h.append (h.rep n)
def p8:D→Option D
 | .lst ds=>some (.int ds.length)
 | .tup ds=>some (.int ds.length)
 | .scr ns=>some (.int ns.length)
 | _=>none
theorem w8:CbOk1 K cl (a33 K) p8:=by
 intro x d z H F Q s hx h q
 unfold p8 at h
 split at h
 ·cases h
  obtain⟨a,xs,rfl,hH,r⟩:=hx.lst s
  exact⟨a,xs,rfl,.inl (.of hH),q _ H F (.refl s) (by simp only[Rp];rw[r.length])⟩
 ·cases h
  obtain⟨a,xs,rfl,hH,r⟩:=hx.tup s
  exact⟨a,xs,rfl,.inr (.of hH),q _ H F (.refl s) (by simp only[Rp];rw[r.length])⟩
 ·cases h
  obtain⟨a,rfl,hS⟩:=hx.scr s
  exact⟨a,_,rfl,.inl hS.seq,q _ H F (.refl s) (by simp only[Rp];rw[List.length_map])⟩
 ·cases h
def a1w:D→Option (List D)
 | .lst ds=>some ds
 | .tup ds=>some ds
 | .scr ns=>some (ns.map .int)
 | _=>none
theorem a8B:b0y K cl (a34 K) a1w:=by
 intro x d zs H F Q s hx h q
 unfold a1w at h
 split at h
 ·cases h
  obtain⟨a,xs,rfl,hH,r⟩:=hx.lst s
  exact⟨a,xs,rfl,.inl (.of hH),fun p hp=>q p _ hp r⟩
 ·cases h
  obtain⟨a,xs,rfl,hH,r⟩:=hx.tup s
  exact⟨a,xs,rfl,.inr (.of hH),fun p hp=>q p _ hp r⟩
 ·cases h
  obtain⟨a,rfl,hS⟩:=hx.scr s
  exact⟨a,_,rfl,.inl hS.seq,fun p hp=>q p _ hp Rps.ofInts⟩
 ·cases h
end
inductive R1 where | ret (d:D) | own (ds:List D) | owz (dss:List (List D)) | ex (c:Str)
def i4(K:W.Frag)(cl:Str→Addr)(g:List D→Option R1):Sp:=fun vs H Q E=>∃ds F,Same F H∧Rps K cl F ds vs∧match g ds with
 | none=>False
 | some (.ret d)=>∀v H' F',Gr H F H' F'→Rp K cl F' d v→Q v H'
 | some (.own es)=>∀a xs H' F',Gr H F H' F'→H a=none→H' a=some (.lst xs)→F' a=none→Rps K cl F' es xs→Q (.ref a) H'
 | some (.owz dss)=>∀p as H' F',Gr H F H' F'→H p=none→H' p=some (.tup (as.map V.ref))→F' p=none→Rz K cl F' H' (fun a=>H a=none) dss as→Q (.ref p) H'
 | some (.ex c)=>∀H' F',Gr H F H' F'→E (.ref (cl c)) none H'
def toZ(r:Option R1)(e:DE):Option (R D):=match r with
 | none=>none
 | some (.ret d)=>some (.ok d e)
 | some (.own ds)=>some (.ok (.lst ds) e)
 | some (.owz _)=>none
 | some (.ex c)=>some (.ex c)
def a03(r:Option R1)(e:DE):Option (R D):=match r with
 | some (.ret d)=>some (.ok d e)
 | some (.own ds)=>some (.ok (.lst ds) e)
 | _=>none
def h9(g:List D→Option R1)(f:AF):ZF:=fun e=>bnd (f e) fun ds e1=>a03 (g ds) e1
def put(i:Nat)(s:Sl)(e:DE):Option RS:=match e[i]? with
 | none=>none
 | some (.hd _)=>none
 | some _=>some (.nx (e.set i s))
def a4P(i:Nat)(r:Option R1)(e:DE):Option RS:=match r with
 | none=>none
 | some (.ret d)=>put i (.fz d) e
 | some (.own ds)=>put i (.ow ds) e
 | some (.owz _)=>none
 | some (.ex c)=>some (.ex c)
def a1x(i:Nat)(r:Option R1)(e:DE):Option RS:=match r with
 | some (.ret d)=>put i (.fz d) e
 | some (.own ds)=>put i (.ow ds) e
 | _=>none
def a2D(r:Option R1):Option RS:=match r with
 | none=>none
 | some (.ret d)=>some (.rt d)
 | some (.own ds)=>some (.ro ds)
 | some (.owz dss)=>some (.rz dss)
 | some (.ex c)=>some (.ex c)
def a5T(r:Option R1):Option RS:=match r with
 | some (.ret d)=>some (.rt d)
 | some (.own ds)=>some (.ro ds)
 | _=>none
def A5:SF:=fun e=>some (.nx e)
def d7(f k:SF):SF:=fun e=>match f e with
 | some (.nx e1)=>k e1
 | r=>r
def u7(i:Nat)(f:ZF):SF:=fun e=>M9 (f e) fun d e1=>put i (.fz d) e1
def n6(i:Nat)(f:NF):SF:=fun e=>M9 (f e) fun ds e1=>put i (.ow ds) e1
def B5(i:Nat)(g:List D→Option R1)(f:AF):SF:=fun e=>M9 (f e) fun ds e1=>a1x i (g ds) e1
def l9(f:ZF):SF:=fun e=>M9 (f e) fun d _=>some (.rt d)
def a4Q(f:NF):SF:=fun e=>M9 (f e) fun ds _=>some (.ro ds)
def Y1(i:Nat):SF:=fun e=>match e[i]? with
 | some (.fz d)=>some (.rt d)
 | some (.ow ds)=>some (.ro ds)
 | _=>none
def x3(c:BF)(f k:SF):SF:=fun e=>M9 (c e) fun b e1=>if b=true then f e1 else k e1
def y6(i:Nat)(f:ZF):SF:=fun e=>match look e i with
 | some (.lst _)=>M9 (f e) fun d e1=>match e1[i]? with
  | some (.ow ds)=>if ds.length<sizeLine then some (.nx (e1.set i (.ow (ds++[d]))))else none
  | _=>none
 | _=>none
def V9(i:Nat)(k:ZF)(f:ZF):SF:=fun e=>M9 (f e) fun d e1=>match look e1 i with
 | none=>none
 | some _=>M9 (k e1) fun j e2=>match e2[i]?,j with
  | some (.ow ds),.int j=>match M8 ds.length j with
   | some n=>some (.nx (e2.set i (.ow (ds.set n d))))
   | none=>none
  | _,_=>none
section
variable {K:W.Frag}{cl:Str→Addr}{E:XK}{σ:St}{H F:Hp}{env:DE}
theorem Gr.fx{H' F':Hp}(g:Gr H F H' F'):FX σ H F env H' F':=⟨g.fz,g.sub,fun a o h f _=>g.hid a o h f,g.dom⟩
theorem b0C{g:List D→Option R1}{ds:List D}{vs:List V}{Q:VK}(R:Rel K cl σ H F env)(p:Rps K cl F ds vs)(h:Ct K cl E (PZ K cl) (toZ (g ds) env) σ H F env Q):i4 K cl g (vs++[]) H Q E:=by
 rw[List.append_nil]
 refine⟨ds,F,R.sub,p,?_⟩
 unfold toZ at h
 split at h
 ·exact h.elim
 ·exact fun v H' F' gr r=>h v H' F' (R.frm gr) (R.gr gr) r
 ·rename_i es _
  intro a xs H' F' gr ha hH hF r
  have sF:Same F' (upd F' a (.lst xs)):=S9 hF _
  have gr':Gr H F H' (upd F' a (.lst xs)):=by
   refine⟨gr.fz.trans sF,fun b o z=>?_,fun b o hb fb=>?_⟩
   ·by_cases y:b=a
    ·subst y;rw[i5]at z;cases z;exact hH
    ·rw[g7 y]at z;exact gr.sub _ _ z
   ·obtain⟨h1,f1⟩:=gr.hid b o hb fb
    have nb:b≠a:=fun z=>by rw[z,ha]at hb;cases hb
    exact⟨h1,by rw[g7 nb];exact f1⟩
  exact h _ H' _ (R.frm gr') (R.gr gr') (by show Rp K cl _ (.lst es) _;simp only[Rp];exact⟨a,xs,rfl,i5,r.mono sF⟩)
 ·exact h.elim
 ·exact fun H' F' gr=>h H' F' gr.fx
theorem a8C{r:Option R1}{e:DE}{P:Py D V}{Q:VK}(h:Ct K cl E P (a03 r e) σ H F env Q):toZ r e=a03 r e∧∀c,r≠some (.ex c):=by
 unfold a03 at h
 split at h
 ·exact⟨rfl,fun c z=>by cases z⟩
 ·exact⟨rfl,fun c z=>by cases z⟩
 ·exact h.elim
theorem l3{g:List D→Option R1}{t:TA}{f:AF}(hf:RfA K cl E t f):t7 K cl E (a0w (i4 K cl g) [] E0 t) (h9 g f):=by
 intro σ H Q env F R h
 refine hf σ H _ env F R ((Ct.bnd h V8).mono fun vs H1 ⟨F1,e1,ds,s1,R1,p1,h1⟩=>?_)
 refine b0C R1 p1 ?_
 obtain⟨z,n⟩:=a8C h1
 rw[z]
 unfold Ct at h1 ⊢
 split at h1
 ·exact h1
 ·exact h1
 ·rename_i c q
  exact absurd q (by unfold a03;split<;>intro y<;>cases y)
theorem A6:RfS K cl E a7L A5:=fun N σ H env F R h=>h σ H F Frm.refl R
theorem g8{t u:TS}{f k:SF}(hf:RfS K cl E t f)(hk:RfS K cl E u k):RfS K cl E (a9O t u) (d7 f k):=by
 intro N σ H env F R h
 refine hf _ σ H env F R ?_
 unfold d7 at h
 split at h
 ·rename_i e1 q
  rw[q]
  intro σ' H' F' fr R'
  exact hk N σ' H' e1 F' R' (h.from fr)
 ·rename_i n
  unfold Cs at h ⊢
  split at h
  ·exact h
  ·rename_i e q;exact absurd q (n e)
  all_goals exact h
theorem a4R{i:Nat}{s:Sl}{e:DE}{N:Ends}{σ0:St}{H0 F0:Hp}{env0:DE}(h:Cs K cl E (put i s e) σ0 H0 F0 env0 N):i<e.length∧(∀ds,e[i]?≠some (.hd ds))∧Cs K cl E (some (.nx (e.set i s))) σ0 H0 F0 env0 N:=by
 unfold put at h
 split at h
 ·exact h.elim
 ·exact h.elim
 ·rename_i z n q
  exact⟨(List.getElem?_eq_some_iff.mp q).1,fun ds y=>by rw[q]at y;cases y;exact n ds rfl,h⟩
theorem C9{i:Nat}{t:TE}{f:ZF}(hf:t7 K cl E t f):RfS K cl E (Z8 t (Q9 i)) (u7 i f):=by
 intro N σ H env F R h
 refine hf σ H _ env F R ((Cs.bnd h).mono fun x H1 ⟨F1,e1,d,fr,R1,p1,h1⟩=>?_)
 obtain⟨hi,nh,h2⟩:=a4R h1
 exact h2 _ H1 F1 (fr.trans (Frm.put nh)) (R1.put hi nh p1)
theorem A7{i:Nat}{t:TE}{f:NF}(hf:RfN K cl E t f):RfS K cl E (Z8 t (Q9 i)) (n6 i f):=by
 intro N σ H env F R h
 refine hf σ H _ env F R ((Cs.bnd h).mono fun x H1 ⟨F1,e1,ds,fr,R1,p1,h1⟩=>?_)
 obtain⟨a,xs,rfl,hn,hH,hF,nm,r⟩:=p1
 obtain⟨hi,nh,h2⟩:=a4R h1
 exact h2 _ H1 F1 (fr.putO hn nh) (R1.putO hi hH hF nm r)
theorem m4{t:TE}{f:ZF}(hf:t7 K cl E t f):RfS K cl E (a2M t) (l9 f):=by
 intro N σ H env F R h
 exact hf σ H _ env F R ((Cs.bnd h).mono fun x H1 ⟨F1,e1,d,fr,R1,p1,h1⟩=>h1 x H1 F1 (fr.toFX R1.sub) p1)
theorem a8D{t:TE}{f:NF}(hf:RfN K cl E t f):RfS K cl E (a2M t) (a4Q f):=by
 intro N σ H env F R h
 refine hf σ H _ env F R ((Cs.bnd h).mono fun x H1 ⟨F1,e1,ds,fr,R1,p1,h1⟩=>?_)
 obtain⟨a,xs,rfl,hn,hH,hF,nm,r⟩:=p1
 exact h1 a xs H1 F1 (fr.toFX R1.sub) hH hF (fun o e=>by rw[hn]at e;cases e) r
theorem a4f{i:Nat}:RfS K cl E (a2M (D2 i)) (Y1 i):=by
 intro N σ H env F R h
 unfold Y1 at h
 split at h
 ·rename_i d q
  obtain⟨v,e,r⟩:=R.fz i d q
  exact⟨v,e,h v H F (Frm.refl.toFX R.sub) r⟩
 ·rename_i ds q
  obtain⟨a,xs,e,hH,hF,r⟩:=R.mu i ds (.inl q)
  exact⟨_,e,h a xs H F (Frm.refl.toFX R.sub) hH hF (fun o _=>⟨i,ds,q,e⟩) r⟩
 ·exact h.elim
theorem t9{c:TT}{t u:TS}{b:BF}{f k:SF}(hc:P9 K cl E c b)(hf:RfS K cl E t f)(hk:RfS K cl E u k):RfS K cl E (a9P c t u) (x3 b f k):=by
 intro N σ H env F R h
 refine hc σ H _ env F R ((Cs.bnd h).mono fun x H1 ⟨F1,e1,d,fr,R1,p1,h1⟩=>?_)
 cases (show x=d from p1)
 by_cases z:x=true
 ·rw[if_pos z]at h1 ⊢;exact hf N σ H1 e1 F1 R1 (h1.from fr)
 ·rw[if_neg z]at h1 ⊢;exact hk N σ H1 e1 F1 R1 (h1.from fr)
theorem L6{i:Nat}{g:List D→Option R1}{t:TA}{f:AF}(hf:RfA K cl E t f):RfS K cl E (Z8 (a0w (i4 K cl g) [] E0 t) (Q9 i)) (B5 i g f):=by
 intro N σ H env F R h
 refine hf σ H _ env F R ((Cs.bnd h).mono fun vs H1 ⟨F1,e1,ds,fr,R1,p1,h1⟩=>?_)
 show i4 K cl g (vs++[]) H1 _ E0
 rw[List.append_nil]
 refine⟨ds,F1,R1.sub,p1,?_⟩
 unfold a1x at h1
 split at h1
 ·rename_i q;rw[q]
  obtain⟨hi,nh,h2⟩:=a4R h1
  exact fun v H' F' gr r=>h2 _ H' F' ((fr.trans (R1.frm gr)).trans (Frm.put nh)) ((R1.gr gr).put hi nh r)
 ·rename_i q;rw[q]
  obtain⟨hi,nh,h2⟩:=a4R h1
  intro a xs H' F' gr ha hH hF r
  refine h2 _ H' F' ((fr.trans (R1.frm gr)).putO (fr.dom a ha) nh) ((R1.gr gr).putO hi hH hF (fun j mj e=>?_) r)
  obtain⟨es,q⟩:=mj
  obtain⟨b,ys,e',hb,_⟩:=R1.mu j es q
  rw[e]at e';cases e'
  rw[ha]at hb;cases hb
 ·exact h1.elim
theorem Rel.change{i:Nat}{ds es:List D}{a:Addr}{ys:List V}(R:Rel K cl σ H F env)(h:env[i]? = some (.ow ds))(e:σ[i]? = some (some (.ref a)))(r:Rps K cl F es ys) :
  Rel K cl σ (upd H a (.lst ys)) F (env.set i (.ow es))∧Frm σ H F env σ (upd H a (.lst ys)) F (env.set i (.ow es)):=by
 obtain⟨a',xs,e',hH,hF,_⟩:=R.mu i ds (.inl h)
 rw[e]at e';cases e'
 have hi:i<env.length:=(List.getElem?_eq_some_iff.mp h).1
 have self:(env.set i (.ow es))[i]? = some (.ow es):=List.getElem?_set_self hi
 have oth:∀j,j≠i→(env.set i (.ow es))[j]? = env[j]?:=fun j hj=>List.getElem?_set_ne (Ne.symm hj)
 have mui:∀j,Mu (env.set i (.ow es)) j→Mu env j:=fun j ⟨fs,q⟩=>by
  by_cases z:j=i
  ·subst z;exact⟨ds,.inl h⟩
  ·rw[oth j z]at q;exact⟨fs,q⟩
 refine⟨⟨fun b o q=>?_,by rw[List.length_set];exact R.len,fun j d q=>?_,fun j fs q=>?_,fun j k b hj hk=>R.inj j k b (mui j hj) (mui k hk)⟩,⟨Same.refl _,fun b o hb fb w=>?_,fun j fs q=>?_,fun b q=>?_⟩⟩
 ·have z:b≠a:=fun z=>by rw[z,hF]at q;cases q
  rw[g7 z];exact R.sub _ _ q
 ·have z:j≠i:=fun z=>by subst z;rw[self]at q;cases q
  rw[oth j z]at q;exact R.fz j d q
 ·by_cases z:j=i
  ·subst z
   rw[self]at q
   rcases q with q | q
   ·cases q;exact⟨a,ys,e,i5,hF,r⟩
   ·cases q
  ·rw[oth j z]at q
   obtain⟨b,zs,e1,h1,f1,r1⟩:=R.mu j fs q
   have nb:b≠a:=fun y=>z (R.inj j i b ⟨fs,q⟩ ⟨ds,.inl h⟩ e1 (by rw[y];exact e))
   exact⟨b,zs,e1,by rw[g7 nb];exact h1,f1,r1⟩
 ·have z:b≠a:=fun z=>w ⟨i,ds,h,by rw[z];exact e⟩
  refine⟨by rw[g7 z];exact hb,fb,fun⟨j,fs,q,e1⟩=>?_⟩
  by_cases y:j=i
  ·subst y;rw[e]at e1;cases e1;exact z rfl
  ·rw[oth j y]at q;exact w ⟨j,fs,q,e1⟩
 ·have z:j≠i:=fun z=>by subst z;rw[h]at q;cases q
  exact⟨by rw[oth j z];exact q,rfl⟩
 ·by_cases z:b=a
  ·rw[z,i5]at q;cases q
  ·rw[g7 z]at q;exact q
theorem G3{i:Nat}{t:TE}{f:ZF}(hf:t7 K cl E t f):RfS K cl E (a4v (tBM K "list" a30 (D2 i) (K1 t W9))) (y6 i f):=by
 intro N σ H env F R h
 unfold y6 at h
 split at h
 ·rename_i ds0 q
  obtain⟨x,e0,rb⟩:=R.look q
  obtain⟨a0,xs0,rfl,hH0,_⟩:=rb.lst R.sub
  refine⟨_,e0,.inl ⟨rfl,xs0,.of hH0⟩,?_⟩
  ·refine hf σ H _ env F R ((Cs.bnd h).mono fun y H1 ⟨F1,e1,d,fr,R1,p1,h1⟩=>?_)
   split at h1
   ·rename_i ds q1
    split at h1
    ·rename_i c
     obtain⟨a,xs,e,hH,hF,r⟩:=R1.mu i ds (.inl q1)
     rw[e0]at e;cases e
     obtain⟨R2,f2⟩:=R1.change q1 e0 (r.append (.one p1))
     exact⟨_,xs,y,rfl,rfl,hH,by rw[← r.length];exact c,h1 σ _ F1 (fr.trans f2) R2⟩
    ·exact h1.elim
   ·exact h1.elim
 ·exact h.elim
theorem a1y{i:Nat}{t u:TE}{f k:ZF}(hf:t7 K cl E t f)(hk:t7 K cl E u k):RfS K cl E (Z8 t (a9S (D2 i) u a7S)) (V9 i k f):=by
 intro N σ H env F R h
 refine hf σ H _ env F R ((Cs.bnd h).mono fun x H1 ⟨F1,e1,d,fr,R1,p1,h1⟩=>?_)
 cases q:look e1 i with
 | none=>simp only[q]at h1;exact h1.elim
 | some d0 =>
  simp only[q]at h1
  obtain⟨o,e0,_⟩:=R1.look q
  refine⟨o,e0,hk σ H1 _ e1 F1 R1 ((Cs.bnd (h1.from fr)).mono fun y H2 ⟨F2,e2,j,fr2,R2,p2,h2⟩=>?_)⟩
  split at h2
  ·rename_i _ _ ds j q2
   split at h2
   ·rename_i n hn
    obtain⟨a,xs,e,hH,hF,r⟩:=R2.mu i ds (.inl q2)
    rw[e0]at e;cases e
    obtain⟨R3,f3⟩:=R2.change q2 e0 (r.set (Rp.mono fr2.fz _ _ p1) n)
    have hy:y=.int j:=by have:=(show Rp K cl F2 (.int j) y from p2);simpa only[Rp]using this
    exact⟨a,xs,j,n,rfl,hy,hH,by rw[← r.length];exact hn,h2 σ _ F2 (fr2.trans f3) R3⟩
   ·exact h2.elim
  ·exact h2.elim
end
abbrev GF:=D→DE→Option DE
def g9(i:Nat):GF:=fun d e=>match e[i]? with
 | none=>none
 | some (.hd _)=>none
 | some _=>some (e.set i (.fz d))
def Y2:List GF→List D→DE→Option DE
 | [],[],e=>some e
 | b::bs,d::ds,e=>match b d e with
  | none=>none
  | some e1=>Y2 bs ds e1
 | _,_,_=>none
def F6(bs:List GF):GF:=fun d e=>match d with
 | .tup ds=>Y2 bs ds e
 | _=>none
section
variable (K:W.Frag)(cl:Str→Addr)
def T4(k:Nat)(g:TG)(b:GF):Prop:=∀v σ H Q d env env' F,Rel K cl σ H F env→Rp K cl F d v→b d env=some env'→(∀σ',σ'.drop k=σ.drop k→σ'.length=σ.length→Frm σ H F env σ' H F env'→Rel K cl σ' H F env'→Q σ' H)→g v σ H Q
def a4S(k:Nat)(t:Z7)(bs:List GF):Prop:=∀vs σ H Q ds env env' F,Rel K cl σ H F env→Rps K cl F ds vs→Y2 bs ds env=some env'→(∀σ',σ'.drop k=σ.drop k→σ'.length=σ.length→Frm σ H F env σ' H F env'→Rel K cl σ' H F env'→Q σ' H)→t vs σ H Q
end
section
variable {K:W.Frag}{cl:Str→Addr}{E:XK}{σ:St}{H F:Hp}{env:DE}{k:Nat}
theorem a60{α:Type}{l:List α}{i k:Nat}{x:α}(h:i<k):(l.set i x).drop k=l.drop k:=by
 apply List.ext_getElem?
 intro j
 rw[List.getElem?_drop,List.getElem?_drop,List.getElem?_set_ne (by omega)]
theorem i8{i:Nat}(hi:i<k):T4 K cl k (Q9 i) (g9 i):=by
 intro v σ H Q d env env' F R p h q
 unfold g9 at h
 split at h
 ·cases h
 ·cases h
 ·rename_i z n e
  cases h
  have nh:∀ds,env[i]?≠some (.hd ds):=fun ds y=>by rw[e]at y;cases y;exact n ds rfl
  exact q _ (a60 hi) List.length_set (Frm.put nh) (R.put (List.getElem?_eq_some_iff.mp e).1 nh p)
theorem N9:a4S K cl k a6B []:=by
 intro vs σ H Q ds env env' F R p h q
 cases ds with
 | nil=>cases h;exact⟨p.inv0,q σ rfl rfl Frm.refl R⟩
 | cons _ _=>cases h
theorem u0{t:TG}{u:Z7}{b:GF}{bs:List GF}(h1:T4 K cl k t b)(h2:a4S K cl k u bs):a4S K cl k (a1c t u) (b::bs):=by
 intro vs σ H Q ds env env' F R p h q
 cases ds with
 | nil=>cases h
 | cons d ds =>
  obtain⟨v,r,rfl,p1,p2⟩:=p.inv
  unfold Y2 at h
  split at h
  ·cases h
  ·rename_i e1 hb
   refine⟨v,r,rfl,h1 v σ H _ d env e1 F R p1 hb fun σ1 d1 l1 f1 R1=>?_⟩
   exact h2 r σ1 H _ ds e1 env' F R1 p2 h fun σ2 d2 l2 f2 R2=>q σ2 (d2.trans d1) (l2.trans l1) (f1.trans f2) R2
theorem a2j:∀{bs:List GF} {ds:List D} {e e':DE},Y2 bs ds e=some e'→ds.length=bs.length
 | [],[],_,_,_=>rfl
 | [],_::_,_,_,h=>by cases h
 | _::_,[],_,_,h=>by cases h
 | b::bs,d::ds,e,e',h=>by
  unfold Y2 at h
  split at h
  ·cases h
  ·simp[a2j h]
theorem O0{t:Z7}{bs:List GF}{n:Nat}(h:a4S K cl k t bs)(hn:bs.length=n):T4 K cl k (a4w K n t) (F6 bs):=by
 intro v σ H Q d env env' F R p e q
 unfold F6 at e
 split at e
 ·rename_i ds
  simp only[Rp]at p
  obtain⟨a,xs,rfl,hF,r⟩:=p
  exact⟨a,xs,rfl,.of (R.sub _ _ hF),by rw[← r.length,a2j e,hn],h xs σ H Q ds env env' F R r e q⟩
 ·cases e
def T5(f:ZF)(b:GF):SF:=fun e=>M9 (f e) fun d e1=>match b d e1 with
 | none=>none
 | some e2=>some (.nx e2)
theorem a0l{t:TE}{g:TG}{f:ZF}{b:GF}(hf:t7 K cl E t f)(hg:T4 K cl k g b):RfS K cl E (Z8 t g) (T5 f b):=by
 intro N σ H env F R h
 refine hf σ H _ env F R ((Cs.bnd h).mono fun x H1 ⟨F1,e1,d,fr,R1,p1,h1⟩=>?_)
 split at h1
 ·exact h1.elim
 ·rename_i e2 hb
  exact hg x σ H1 _ d e1 e2 F1 R1 p1 hb fun σ' _ _ f2 R2=>h1 σ' H1 F1 (fr.trans f2) R2
def x4(b:GF)(body:SF):List D→DE→Option RS
 | [],e=>some (.nx e)
 | d::ds,e=>match b d e with
  | none=>none
  | some e1=>match body e1 with
   | some (.nx e2)=>x4 b body ds e2
   | some (.ct e2)=>x4 b body ds e2
   | some (.bk e2)=>some (.nx e2)
   | r=>r
theorem a04{b:GF}{body:SF}{g:TG}{tb:TS}{d:D}{x:V}{ds:List D}{e1:DE}{N:Ends}{σ1:St}{H1 F1:Hp}{Pv:St→Hp→Prop}(hb:RfS K cl E tb body)(hg:T4 K cl k g b)
  (f1:Frm σ H F env σ1 H1 F1 e1) (R1:Rel K cl σ1 H1 F1 e1) (p:Rp K cl F1 d x) (h:Cs K cl E (x4 b body (d::ds) e1) σ H F env N)
  (hP:∀σ' H' F' e',Frm σ H F env σ' H' F' e'→Rel K cl σ' H' F' e'→Cs K cl E (x4 b body ds e') σ H F env N→Pv σ' H') :
  g x σ1 H1 fun σ2 H2=>tb { N with nx:=Pv,ct:=Pv,bk:=N.nx } σ2 H2:=by
 unfold x4 at h
 split at h
 ·exact h.elim
 ·rename_i e2 hbd
  refine hg x σ1 H1 _ d e1 e2 F1 R1 p hbd fun σ2 _ _ f2 R2=>?_
  refine hb _ σ2 H1 e2 F1 R2 ?_
  split at h
  ·rename_i e3 q;rw[q]
   exact fun σ' H' F' f3 R3=>hP σ' H' F' e3 ((f1.trans f2).trans f3) R3 h
  ·rename_i e3 q;rw[q]
   exact fun σ' H' F' f3 R3=>hP σ' H' F' e3 ((f1.trans f2).trans f3) R3 h
  ·rename_i e3 q;rw[q]
   exact fun σ' H' F' f3 R3=>h σ' H' F' ((f1.trans f2).trans f3) R3
  ·rename_i n1 n2 n3
   have h2:=h.from (f1.trans f2)
   unfold Cs at h2 ⊢
   split at h2
   ·exact h2
   ·rename_i e q;exact absurd q (n1 e)
   ·rename_i e q;exact absurd q (n3 e)
   ·rename_i e q;exact absurd q (n2 e)
   ·exact h2
   ·exact h2
   ·exact h2
   ·exact h2
theorem U6{α:Type}{l:List α}{i:Nat}{x:α}(h:l[i]? = some x):l.drop i=x::l.drop (i+1):=by
 obtain⟨hi,e⟩:=List.getElem?_eq_some_iff.mp h
 rw[← e];exact List.drop_eq_getElem_cons hi
theorem a61{b:GF}{body:SF}{g:TG}{tb:TS}{ds:List D}{xs:List V}{a:Addr}{N:Ends}(hb:RfS K cl E tb body)(hg:T4 K cl k g b)(R:Rel K cl σ H F env)
  (hl:∀σ' H' F' e',Frm σ H F env σ' H' F' e'→Rel K cl σ' H' F' e'→SqL K H' a xs) (r:Rps K cl F ds xs) (h:Cs K cl E (x4 b body ds env) σ H F env N) :
  ∃W:Nat→Nat→St→Hp→Prop,(∃m,W 0 m σ H)∧∀i m σ H,W i m σ H →
   ((Itl K a).stop i H∧N.nx σ H)∨((Itl K a).go i H∧∃M:St→Hp→Prop,(∀σ' H',M σ' H'→∃m',m'<m∧W (i+1) m' σ' H')∧∀x H',(Itl K a).yld i H x H'→g x σ H' fun σ2 H2=>tb { N with nx:=M,ct:=M,bk:=N.nx } σ2 H2):=by
 refine a6D (xs:=xs) (fun i σ' H'=>∃F' e',Frm σ H F env σ' H' F' e'∧Rel K cl σ' H' F' e'∧Cs K cl E (x4 b body (ds.drop i) e') σ H F env N) ⟨F,env,Frm.refl,R,h⟩ (fun i σ' H' _ ⟨F',e',f,R',_⟩=>hl σ' H' F' e' f R') (fun i x σ' H' hx ⟨F',e',f,R',h'⟩=>?_) (fun σ' H' ⟨F',e',f,R',h'⟩=>?_)
 ·obtain⟨d,hd,p⟩:=r.get' hx
  rw[U6 hd]at h'
  exact a04 hb hg f R' (Rp.mono f.fz _ _ p) h' fun σ2 H2 F2 e2 f2 R2 h2=>⟨F2,e2,f2,R2,h2⟩
 ·rw[← r.length,List.drop_length]at h'
  exact h' σ' H' F' f R'
theorem b1I{b:GF}{body:SF}{g:TG}{tb:TS}{ds:List D}{xs:List V}{a:Addr}{N:Ends}(hb:RfS K cl E tb body)(hg:T4 K cl k g b)(R:Rel K cl σ H F env)
  (hl:∀σ' H' F' e',Frm σ H F env σ' H' F' e'→Rel K cl σ' H' F' e'→SqT K H' a xs) (r:Rps K cl F ds xs) (h:Cs K cl E (x4 b body ds env) σ H F env N) :
  ∃W:Nat→Nat→St→Hp→Prop,(∃m,W 0 m σ H)∧∀i m σ H,W i m σ H →
   ((Itt K a).stop i H∧N.nx σ H)∨((Itt K a).go i H∧∃M:St→Hp→Prop,(∀σ' H',M σ' H'→∃m',m'<m∧W (i+1) m' σ' H')∧∀x H',(Itt K a).yld i H x H'→g x σ H' fun σ2 H2=>tb { N with nx:=M,ct:=M,bk:=N.nx } σ2 H2):=by
 refine a8j (xs:=xs) (fun i σ' H'=>∃F' e',Frm σ H F env σ' H' F' e'∧Rel K cl σ' H' F' e'∧Cs K cl E (x4 b body (ds.drop i) e') σ H F env N) ⟨F,env,Frm.refl,R,h⟩ (fun i σ' H' _ ⟨F',e',f,R',_⟩=>hl σ' H' F' e' f R') (fun i x σ' H' hx ⟨F',e',f,R',h'⟩=>?_) (fun σ' H' ⟨F',e',f,R',h'⟩=>?_)
 ·obtain⟨d,hd,p⟩:=r.get' hx
  rw[U6 hd]at h'
  exact a04 hb hg f R' (Rp.mono f.fz _ _ p) h' fun σ2 H2 F2 e2 f2 R2 h2=>⟨F2,e2,f2,R2,h2⟩
 ·rw[← r.length,List.drop_length]at h'
  exact h' σ' H' F' f R'
def seqL:D→Option (List D)
 | .lst ds=>some ds
 | .scr ns=>some (ns.map .int)
 | _=>none
theorem Rp.seqL{d:D}{ds:List D}{v:V}(p:Rp K cl F d v)(s:L2.seqL d=some ds):∃a xs,v=.ref a∧Rps K cl F ds xs∧∀H',Same F H'→SqL K H' a xs:=by
 unfold L2.seqL at s
 split at s
 ·cases s;simp only[Rp]at p
  obtain⟨a,xs,e,h,r⟩:=p
  exact⟨a,xs,e,r,fun H' g=>.of (g _ _ h)⟩
 ·cases s;simp only[Rp]at p
  obtain⟨a,e,h⟩:=p
  exact⟨a,_,e,Rps.ofInts,fun H' g=>(h.same g).seq⟩
 ·cases s
def a0A(f:ZF)(b:GF)(body:SF):SF:=fun e=>M9 (f e) fun d e1=>match d with
 | .tup ds=>x4 b body ds e1
 | _=>none
theorem a4g{t:TE}{g:TG}{tb:TS}{f:ZF}{b:GF}{body:SF}(hf:t7 K cl E t f)(hg:T4 K cl k g b)(hb:RfS K cl E tb body):RfS K cl E (a4A (a9T K t) g tb) (a0A f b body):=by
 intro N σ H env F R h
 refine hf σ H _ env F R ((Cs.bnd h).mono fun x H1 ⟨F1,e1,d,fr,R1,p1,h1⟩=>?_)
 split at h1
 ·have p1:=(show Rp K cl F1 (.tup _) x from p1)
  simp only[Rp]at p1
  obtain⟨a,xs,rfl,hF,r⟩:=p1
  exact⟨a,rfl,⟨xs,.of (R1.sub _ _ hF)⟩,b1I hb hg R1 (fun σ' H' F' e' f2 R2=>.of (R2.sub _ _ (f2.fz _ _ hF))) r (h1.from fr)⟩
 ·exact h1.elim
def Q5(lo:Int)(n:Nat):List D:=(List.range n).map fun(i:Nat)=>.int (lo+(i:Int))
theorem a5U{lo:Int}{n i:Nat}(h:i<n):(Q5 lo n).drop i=.int (lo+i)::(Q5 lo n).drop (i+1):=U6 (by unfold Q5;rw[List.getElem?_map,List.getElem?_range h];rfl)
theorem a62{lo:Int}{n:Nat}:(Q5 lo n).length=n:=by unfold Q5;rw[List.length_map,List.length_range]
theorem b1J{b:GF}{body:SF}{g:TG}{tb:TS}{lo:Int}{n:Nat}{N:Ends}(hb:RfS K cl E tb body)(hg:T4 K cl k g b)(R:Rel K cl σ H F env)(h:Cs K cl E (x4 b body (Q5 lo n) env) σ H F env N) :
  ∃W:Nat→Nat→St→Hp→Prop,(∃m,W 0 m σ H)∧∀i m σ H,W i m σ H →
   ((Itr lo n).stop i H∧N.nx σ H)∨((Itr lo n).go i H∧∃M:St→Hp→Prop,(∀σ' H',M σ' H'→∃m',m'<m∧W (i+1) m' σ' H')∧∀x H',(Itr lo n).yld i H x H'→g x σ H' fun σ2 H2=>tb { N with nx:=M,ct:=M,bk:=N.nx } σ2 H2):=by
 refine a5l (fun i σ' H'=>∃F' e',Frm σ H F env σ' H' F' e'∧Rel K cl σ' H' F' e'∧Cs K cl E (x4 b body ((Q5 lo n).drop i) e') σ H F env N) ⟨F,env,Frm.refl,R,h⟩ (fun i σ' H' hx ⟨F',e',f,R',h'⟩=>?_) (fun σ' H' ⟨F',e',f,R',h'⟩=>?_)
 ·rw[a5U hx]at h'
  exact a04 hb hg f R' (by simp only[Rp]) h' fun σ2 H2 F2 e2 f2 R2 h2=>⟨F2,e2,f2,R2,h2⟩
 ·rw[show(Q5 lo n).drop n=[]from List.drop_eq_nil_of_le (by rw[a62];exact Nat.le_refl _)]at h'
  exact h' σ' H' F' f R'
def a0m(ds:List D):Option (Int×Nat):=match ds with
 | [.int j]=>if -(2 ^ 62)≤j∧j<2 ^ 62 then some (0,j.toNat)else none
 | _=>none
theorem a8E{ds:List D}{vs:List V}{lo:Int}{n:Nat}(h:a0m ds=some (lo,n))(p:Rps K cl F ds vs):∃j:Int,vs=[.int j]∧-(2 ^ 62)≤j∧j<2 ^ 62∧lo=0∧n=j.toNat:=by
 unfold a0m at h
 split at h
 ·rename_i j
  split at h
  ·rename_i c;cases h
   exact⟨j,(Rps.ints (ns:=[j]) p),c.1,c.2,rfl,rfl⟩
  ·cases h
 ·cases h
def Y3(rg:List D→Option (Int×Nat))(f:AF)(b:GF)(body:SF):SF:=fun e=>M9 (f e) fun ds e1=>match rg ds with
 | none=>none
 | some (lo,n)=>x4 b body (Q5 lo n) e1
theorem a27{t:TA}{g:TG}{tb:TS}{f:AF}{b:GF}{body:SF}(hf:RfA K cl E t f)(hg:T4 K cl k g b)(hb:RfS K cl E tb body):RfS K cl E (a4A (a7M t) g tb) (Y3 a0m f b body):=by
 intro N σ H env F R h
 refine hf σ H _ env F R ((Cs.bnd h).mono fun x H1 ⟨F1,e1,ds,fr,R1,p1,h1⟩=>?_)
 split at h1
 ·exact h1.elim
 ·rename_i lo n hs
  obtain⟨j,e,c1,c2,rfl,rfl⟩:=a8E hs p1
  exact⟨j,e,c1,c2,b1J hb hg R1 (h1.from fr)⟩
def L4(c:BF)(body:SF):Nat→SF
 | 0,_=>none
 | n+1,e=>M9 (c e) fun b e1=>if b=true then(match body e1 with
   | some (.nx e2)=>L4 c body n e2
   | some (.ct e2)=>L4 c body n e2
   | some (.bk e2)=>some (.nx e2)
   | r=>r)else some (.nx e1)
theorem a28{tc:TT}{tb:TS}{c:BF}{body:SF}{n:Nat}(hc:P9 K cl E tc c)(hb:RfS K cl E tb body):RfS K cl E (a5h tc tb) (L4 c body n):=by
 intro N σ H env F R h
 refine⟨fun m σ' H'=>∃F' e',Rel K cl σ' H' F' e'∧Cs K cl E (L4 c body m e') σ' H' F' e' N,⟨n,F,env,R,h⟩,?_⟩
 rintro m σ1 H1 ⟨F1,e1,R1,h1⟩
 cases m with
 | zero=>exact h1.elim
 | succ m =>
  refine hc σ1 H1 _ e1 F1 R1 ((Cs.bnd h1).mono fun x H2 ⟨F2,e2,d,f2,R2,p2,h2⟩=>?_)
  cases (show x=d from p2)
  by_cases z:x=true
  ·rw[if_pos z]at h2 ⊢
   refine⟨fun σ' H'=>∃F' e',Rel K cl σ' H' F' e'∧Cs K cl E (L4 c body m e') σ' H' F' e' N,fun σ' H' q=>⟨m,Nat.lt_succ_self m,q⟩,?_⟩
   refine hb _ σ1 H2 e2 F2 R2 ?_
   split at h2
   ·rename_i e3 q;rw[q]
    exact fun σ' H' F' f3 R3=>⟨F',e3,R3,h2.from (f2.trans f3)⟩
   ·rename_i e3 q;rw[q]
    exact fun σ' H' F' f3 R3=>⟨F',e3,R3,h2.from (f2.trans f3)⟩
   ·rename_i e3 q;rw[q]
    exact fun σ' H' F' f3 R3=>h2 σ' H' F' (f2.trans f3) R3
   ·rename_i n1 n2 n3
    have h3:=h2.from f2
    unfold Cs at h3 ⊢
    split at h3
    ·exact h3
    ·rename_i e q;exact absurd q (n1 e)
    ·rename_i e q;exact absurd q (n3 e)
    ·rename_i e q;exact absurd q (n2 e)
    ·exact h3
    ·exact h3
    ·exact h3
    ·exact h3
  ·rw[if_neg z]at h2 ⊢;exact h2 σ1 H2 F2 f2 R2
end
section
variable {K:W.Frag}{cl:Str→Addr}{E:XK}{σ:St}{H F:Hp}{env:DE}{k:Nat}
def unhide(i:Nat)(ds:List D)(r:Option RS):Option RS:=match r with
 | some (.nx e)=>some (.nx (e.set i (.ow ds)))
 | some (.bk _)=>none
 | some (.ct _)=>none
 | r=>r
theorem Rel.hide{i:Nat}{ds:List D}(R:Rel K cl σ H F env)(h:env[i]? = some (.ow ds)):Rel K cl σ H F (env.set i (.hd ds)):=by
 have hi:i<env.length:=(List.getElem?_eq_some_iff.mp h).1
 have self:(env.set i (.hd ds))[i]? = some (.hd ds):=List.getElem?_set_self hi
 have oth:∀j,j≠i→(env.set i (.hd ds))[j]? = env[j]?:=fun j hj=>List.getElem?_set_ne (Ne.symm hj)
 have mui:∀(j:Nat) (fs:List D),(env.set i (.hd ds))[j]? = some (.ow fs)∨(env.set i (.hd ds))[j]? = some (.hd fs)→env[j]? = some (.ow fs)∨env[j]? = some (.hd fs):=fun j fs q=>by
  by_cases z:j=i
  ·subst z;rw[self]at q;rcases q with q | q<;>cases q;exact .inl h
  ·rw[oth j z]at q;exact q
 refine⟨R.sub,by rw[List.length_set];exact R.len,fun j d q=>?_,fun j fs q=>R.mu j fs (mui j fs q),fun j l b ⟨fs,q⟩ ⟨gs,q'⟩=>R.inj j l b ⟨fs,mui j fs q⟩ ⟨gs,mui l gs q'⟩⟩
 have z:j≠i:=fun z=>by subst z;rw[self]at q;cases q
 rw[oth j z]at q;exact R.fz j d q
theorem Ow.hide{i:Nat}{ds:List D}{a:Addr}(w:Ow σ (env.set i (.hd ds)) a):Ow σ env a:=by
 obtain⟨j,fs,q,e⟩:=w
 by_cases z:j=i
 ·subst z
  have hj:j<env.length:=by have:=(List.getElem?_eq_some_iff.mp q).1;rwa [List.length_set]at this
  rw[List.getElem?_set_self hj]at q;cases q
 ·rw[List.getElem?_set_ne (Ne.symm z)]at q;exact⟨j,fs,q,e⟩
theorem Rel.unhide{i:Nat}{ds:List D}(R:Rel K cl σ H F env)(h:env[i]? = some (.hd ds)):Rel K cl σ H F (env.set i (.ow ds)):=by
 have hi:i<env.length:=(List.getElem?_eq_some_iff.mp h).1
 have self:(env.set i (.ow ds))[i]? = some (.ow ds):=List.getElem?_set_self hi
 have oth:∀j,j≠i→(env.set i (.ow ds))[j]? = env[j]?:=fun j hj=>List.getElem?_set_ne (Ne.symm hj)
 have mui:∀(j:Nat) (fs:List D),(env.set i (.ow ds))[j]? = some (.ow fs)∨(env.set i (.ow ds))[j]? = some (.hd fs)→env[j]? = some (.ow fs)∨env[j]? = some (.hd fs):=fun j fs q=>by
  by_cases z:j=i
  ·subst z;rw[self]at q;rcases q with q | q<;>cases q;exact .inr h
  ·rw[oth j z]at q;exact q
 refine⟨R.sub,by rw[List.length_set];exact R.len,fun j d q=>?_,fun j fs q=>R.mu j fs (mui j fs q),fun j l b ⟨fs,q⟩ ⟨gs,q'⟩=>R.inj j l b ⟨fs,mui j fs q⟩ ⟨gs,mui l gs q'⟩⟩
 have z:j≠i:=fun z=>by subst z;rw[self]at q;cases q
 rw[oth j z]at q;exact R.fz j d q
theorem Cs.hide{i:Nat}{ds:List D}{r:Option RS}{N:Ends}(R:Rel K cl σ H F env)(h:env[i]? = some (.ow ds))(c:Cs K cl E (unhide i ds r) σ H F env N):Cs K cl E r σ H F (env.set i (.hd ds)) N:=by
 have hi:i<env.length:=(List.getElem?_eq_some_iff.mp h).1
 have self:(env.set i (.hd ds))[i]? = some (.hd ds):=List.getElem?_set_self hi
 have fx:∀{H' F'},FX σ H F (env.set i (.hd ds)) H' F'→FX σ H F env H' F':=fun x=>⟨x.fz,x.sub,fun a o h f w=>x.hid a o h f fun y=>w y.hide,x.dom⟩
 rcases r with _ | r
 ·exact c
 cases r with
 | nx e =>
  intro σ' H' F' f R'
  obtain⟨q,eσ⟩:=f.keep i ds self
  refine c σ' H' F' ⟨f.fz,fun a o ha fa w=>?_,fun j fs q'=>?_,f.dom⟩ (R'.unhide q)
  ·obtain⟨h1,f1,w1⟩:=f.hid a o ha fa fun y=>w y.hide
   refine⟨h1,f1,fun⟨j,fs,q2,e2⟩=>?_⟩
   by_cases z:j=i
   ·subst z
    rw[eσ]at e2
    exact w ⟨j,ds,h,e2⟩
   ·rw[List.getElem?_set_ne (Ne.symm z)]at q2
    exact w1 ⟨j,fs,q2,e2⟩
  ·have z:j≠i:=fun z=>by subst z;rw[h]at q';cases q'
   obtain⟨q2,e2⟩:=f.keep j fs (by rw[List.getElem?_set_ne (Ne.symm z)];exact q')
   exact⟨by rw[List.getElem?_set_ne (Ne.symm z)];exact q2,e2⟩
 | bk e=>exact c.elim
 | ct e=>exact c.elim
 | rt d=>exact fun v H' F' x p=>c v H' F' (fx x) p
 | ro es=>exact fun a xs H' F' x ha fa nw p=>c a xs H' F' (fx x) ha fa (fun o e=>(nw o e).hide) p
 | rz dss=>exact fun p as H' F' x hp ht fp rz=>c p as H' F' (fx x) hp ht fp (rz.imp fun a xs ha fa nw o e=>(nw o e).hide)
 | ex n=>exact fun H' F' x=>c H' F' (fx x)
def P3(i:Nat)(b:GF)(body:SF):SF:=fun e=>match e[i]? with
 | some (.fz d)=>(match seqL d with
  | none=>none
  | some ds=>x4 b body ds e)
 | some (.ow ds)=>unhide i ds (x4 b body ds (e.set i (.hd ds)))
 | some (.hd ds)=>x4 b body ds e
 | _=>none
theorem Rel.hid_stays{i:Nat}{ds:List D}(R:Rel K cl σ H F env)(h:env[i]? = some (.hd ds)):∃a xs,σ[i]? = some (some (.ref a))∧Rps K cl F ds xs∧H a=some (.lst xs)∧∀σ' H' F' e',Frm σ H F env σ' H' F' e'→H' a=some (.lst xs):=by
 obtain⟨a,xs,e,hH,hF,r⟩:=R.mu i ds (.inr h)
 refine⟨a,xs,e,r,hH,fun σ' H' F' e' f=>(f.hid a _ hH hF fun⟨j,fs,q,e'⟩=>?_).1⟩
 have z:i=j:=R.inj i j a ⟨ds,.inr h⟩ ⟨fs,.inl q⟩ e e'
 subst z;rw[h]at q;cases q
theorem a0B{i:Nat}{g:TG}{tb:TS}{b:GF}{body:SF}(hg:T4 K cl k g b)(hb:RfS K cl E tb body):RfS K cl E (a4A (a2x K (D2 i)) g tb) (P3 i b body):=by
 intro N σ H env F R h
 unfold P3 at h
 split at h
 ·rename_i d q
  split at h
  ·exact h.elim
  ·rename_i ds hs
   obtain⟨v,e,p⟩:=R.fz i d q
   obtain⟨a,xs,rfl,r,hl⟩:=Rp.seqL p hs
   exact⟨_,e,a,rfl,⟨xs,hl H R.sub⟩,a61 hb hg R (fun σ' H' F' e' f2 R2=>hl H' (f2.fz.trans R2.sub)) r h⟩
 ·rename_i ds q
  have hi:i<env.length:=(List.getElem?_eq_some_iff.mp q).1
  have R':=R.hide q
  obtain⟨a,xs,e,r,hH,st⟩:=R'.hid_stays (i:=i) (ds:=ds) (List.getElem?_set_self hi)
  exact⟨_,e,a,rfl,⟨xs,.of hH⟩,a61 hb hg R' (fun σ' H' F' e' f2 R2=>.of (st σ' H' F' e' f2)) r (h.hide R q)⟩
 ·rename_i ds q
  obtain⟨a,xs,e,r,hH,st⟩:=R.hid_stays q
  exact⟨_,e,a,rfl,⟨xs,.of hH⟩,a61 hb hg R (fun σ' H' F' e' f2 R2=>.of (st σ' H' F' e' f2)) r h⟩
 ·exact h.elim
def a1U(e:DE):Bool:=e.all fun s=>match s with
 | .hd _=>false
 | _=>true
def b0D(n i:Nat)(exm:Str→Bool)(body suite:SF):SF:=fun e=>match body e with
 | some (.ex c)=>if(exm c && a1U e)=true then(match suite ((List.replicate n Sl.no).set i (.fz (.exc c)))with
   | some (.nx e2)=>put i .no e2
   | some (.rt d)=>some (.rt d)
   | some (.ro ds)=>some (.ro ds)
   | _=>none)else none
 | r=>r
theorem Rel.drop{i:Nat}(R:Rel K cl σ H F env)(nh:∀ds,env[i]?≠some (.hd ds)):Rel K cl (σ.set i none) H F (env.set i .no)∧Frm σ H F env (σ.set i none) H F (env.set i .no):=by
 have key:∀(j:Nat) (s:Sl),(env.set i .no)[j]? = some s→s≠.no→j≠i∧env[j]? = some s:=fun j s q ns=>by
  by_cases z:j=i
  ·subst z
   have hj:j<env.length:=by have:=(List.getElem?_eq_some_iff.mp q).1;rwa [List.length_set]at this
   rw[List.getElem?_set_self hj]at q;cases q;exact absurd rfl ns
  ·rw[List.getElem?_set_ne (Ne.symm z)]at q;exact⟨z,q⟩
 have muk:∀j,Mu (env.set i .no) j→j≠i∧Mu env j:=fun j ⟨ds,q⟩=>by
  rcases q with q | q
  ·obtain⟨z,q⟩:=key j _ q (fun z=>by cases z);exact⟨z,ds,.inl q⟩
  ·obtain⟨z,q⟩:=key j _ q (fun z=>by cases z);exact⟨z,ds,.inr q⟩
 refine⟨⟨R.sub,by rw[List.length_set,List.length_set];exact R.len,fun j d q=>?_,fun j ds q=>?_,fun j l b hj hl e1 e2=>?_⟩,⟨Same.refl _,fun a o h f w=>⟨h,f,fun⟨j,ds,q,e⟩=>?_⟩,fun j ds q=>?_,fun _ h=>h⟩⟩
 ·obtain⟨z,q⟩:=key j _ q (fun z=>by cases z)
  obtain⟨v,e,p⟩:=R.fz j d q
  exact⟨v,by rw[List.getElem?_set_ne (Ne.symm z)];exact e,p⟩
 ·have:j≠i∧(env[j]? = some (.ow ds)∨env[j]? = some (.hd ds)):=by
   rcases q with q | q
   ·obtain⟨z,q⟩:=key j _ q (fun z=>by cases z);exact⟨z,.inl q⟩
   ·obtain⟨z,q⟩:=key j _ q (fun z=>by cases z);exact⟨z,.inr q⟩
  obtain⟨z,q⟩:=this
  obtain⟨a,xs,e,r⟩:=R.mu j ds q
  exact⟨a,xs,by rw[List.getElem?_set_ne (Ne.symm z)];exact e,r⟩
 ·obtain⟨zj,mj⟩:=muk j hj
  obtain⟨zl,ml⟩:=muk l hl
  rw[List.getElem?_set_ne (Ne.symm zj)]at e1
  rw[List.getElem?_set_ne (Ne.symm zl)]at e2
  exact R.inj j l b mj ml e1 e2
 ·obtain⟨z,q⟩:=key j _ q (fun z=>by cases z)
  rw[List.getElem?_set_ne (Ne.symm z)]at e
  exact w ⟨j,ds,q,e⟩
 ·have z:j≠i:=fun z=>by subst z;exact nh ds q
  rw[List.getElem?_set_ne (Ne.symm z),List.getElem?_set_ne (Ne.symm z)]
  exact⟨q,rfl⟩
end
section
variable {K:W.Frag}{cl:Str→Addr}{E:XK}{σ:St}{H F:Hp}{env:DE}{k:Nat}
def Y4:Option Sl→Sl
 | some (.fz d)=>.fz d
 | some (.ow ds)=>.hd ds
 | some (.hd ds)=>.hd ds
 | _=>.no
def m5(k:Nat)(js:List Nat)(e:DE):DE:=List.replicate k .no++js.map fun j=>Y4 e[j]?
def t5(b:GF)(c:BF)(el:ZF)(ec:DE)(eo:DE):List D→List D→Option (R (List D))
 | [],acc=>some (.ok acc eo)
 | d::ds,acc=>match b d ec with
  | none=>none
  | some e1=>bnd (c e1) fun t e2=>if t=true then bnd (el e2) fun y _=>if acc.length<sizeLine then t5 b c el ec eo ds (acc++[y])else none
   else t5 b c el ec eo ds acc
theorem U7{js:List Nat}{e:DE}{i:Nat}{s:Sl}(h:(m5 k js e)[i]? = some s)(n:s≠.no):k≤i∧∃j,js[i-k]? = some j∧Y4 e[j]? = s:=by
 unfold m5 at h
 by_cases z:i<k
 ·rw[List.getElem?_append_left (by rw[List.length_replicate];exact z),List.getElem?_replicate,if_pos z]at h
  cases h;exact absurd rfl n
 ·rw[List.getElem?_append_right (by rw[List.length_replicate];omega),List.length_replicate,List.getElem?_map]at h
  cases q:js[i-k]? with
  | none=>rw[q]at h;cases h
  | some j=>rw[q]at h;cases h;exact⟨by omega,j,rfl,rfl⟩
theorem R7{js:List Nat}{i j:Nat}{v:V}(hk:k≤i)(hj:js[i-k]? = some j)(h:σ[j]? = some (some v)):(m7 k js σ)[i]? = some (some v):=by
 unfold m7
 rw[List.getElem?_append_right (by rw[List.length_replicate];exact hk),List.length_replicate,List.getElem?_map,hj]
 simp[h]
theorem Rel.comp{js:List Nat}(R:Rel K cl σ H F env)(nd:js.Nodup):Rel K cl (m7 k js σ) H F (m5 k js env):=by
 have cap:∀{j:Nat} {ds:List D},Y4 env[j]? = .hd ds→env[j]? = some (.ow ds)∨env[j]? = some (.hd ds):=fun{j ds} h=>by
  unfold Y4 at h
  split at h
  ·cases h
  ·rename_i q;cases h;exact .inl q
  ·rename_i q;cases h;exact .inr q
  ·cases h
 have noow:∀{j:Nat} {ds:List D},Y4 env[j]?≠.ow ds:=fun{j ds} h=>by
  unfold Y4 at h
  split at h<;>cases h
 have mu':∀(i:Nat) (ds:List D),((m5 k js env)[i]? = some (.ow ds)∨(m5 k js env)[i]? = some (.hd ds))→k≤i∧∃j,js[i-k]? = some j∧(env[j]? = some (.ow ds)∨env[j]? = some (.hd ds)):=fun i ds q=>by
  rcases q with q | q
  ·obtain⟨hk,j,hj,c⟩:=U7 q (fun z=>by cases z);exact absurd c noow
  ·obtain⟨hk,j,hj,c⟩:=U7 q (fun z=>by cases z);exact⟨hk,j,hj,cap c⟩
 refine⟨R.sub,?_,fun i d q=>?_,fun i ds q=>?_,fun i l b ⟨ds,q⟩ ⟨es,q'⟩ e1 e2=>?_⟩
 ·unfold m7 m5
  rw[List.length_append,List.length_append,List.length_replicate,List.length_replicate,List.length_map,List.length_map]
 ·obtain⟨hk,j,hj,c⟩:=U7 q (fun z=>by cases z)
  have:env[j]? = some (.fz d):=by
   unfold Y4 at c
   split at c
   ·rename_i q;cases c;exact q
   all_goals cases c
  obtain⟨v,e,p⟩:=R.fz j d this
  exact⟨v,R7 hk hj e,p⟩
 ·obtain⟨hk,j,hj,c⟩:=mu' i ds q
  obtain⟨a,xs,e,r⟩:=R.mu j ds c
  exact⟨a,xs,R7 hk hj e,r⟩
 ·obtain⟨hk,j,hj,c⟩:=mu' i ds q
  obtain⟨hl,m,hm,c'⟩:=mu' l es q'
  obtain⟨a,xs,e,_⟩:=R.mu j ds c
  obtain⟨a',xs',e',_⟩:=R.mu m es c'
  have h1:=R7 (k:=k) hk hj e
  have h2:=R7 (k:=k) hl hm e'
  rw[e1]at h1;cases h1
  rw[e2]at h2;cases h2
  have jm:j=m:=R.inj j m b ⟨ds,c⟩ ⟨es,c'⟩ e e'
  subst jm
  obtain⟨hi',ei⟩:=List.getElem?_eq_some_iff.mp hj
  obtain⟨hl',el⟩:=List.getElem?_eq_some_iff.mp hm
  have:i-k=l-k:=(List.getElem_inj nd).mp (ei.trans el.symm)
  omega
def NoOw(e:DE):Prop:=∀(i:Nat) (ds:List D),e[i]?≠some (.ow ds)
theorem a2k{js:List Nat}{e:DE}:NoOw (m5 k js e):=fun i ds q=>by
 obtain⟨hk,j,hj,c⟩:=U7 q (fun z=>by cases z)
 unfold Y4 at c
 split at c<;>cases c
theorem NoOw.not{e:DE}(n:NoOw e){σ:St}{a:Addr}:¬Ow σ e a:=fun⟨i,ds,q,_⟩=>n i ds q
theorem Frm.gr{σ':St}{H' F':Hp}{env':DE}(f:Frm σ H F env σ' H' F' env')(n:NoOw env)(s:Same F' H'):Gr H F H' F':=⟨f.fz,s,fun a o h g=>by obtain⟨h1,f1,_⟩:=f.hid a o h g n.not;exact⟨h1,f1⟩⟩
theorem FX.gr{H' F':Hp}(f:FX σ H F env H' F')(n:NoOw env):Gr H F H' F':=⟨f.fz,f.sub,fun a o h g=>f.hid a o h g n.not⟩
structure Grow(K:W.Frag)(cl:Str→Addr)(σ:St)(H0 F0:Hp)(env:DE)(B:Addr)(acc:List D)(ys:List V)(H F:Hp):Prop where
 rel:Rel K cl σ H F env
 frm:Frm σ H0 F0 env σ H F env
 new:H0 B=none
 at_:H B=some (.lst ys)
 un:F B=none
 far:∀j,Mu env j→σ[j]?≠some (some (.ref B))
 rps:Rps K cl F acc ys
 stay:∀a o,H0 a=some o→F0 a=none→H a=some o∧F a=none
theorem Grow.start{B:Addr}(R:Rel K cl σ H F env)(hB:H B=none):Grow K cl σ H F env B [] [] (upd H B (.lst [])) F:=by
 obtain⟨R',f⟩:=R.newN (o:=.lst []) hB
 refine⟨R',f,hB,i5,R.sub.free hB,fun j ⟨ds,q⟩ e=>?_,.nil,fun a o h f=>⟨by rw[g7 (fun z=>by rw[z,hB]at h;cases h)];exact h,f⟩⟩
 obtain⟨a,ys,e1,hH,_⟩:=R.mu j ds q
 rw[e]at e1;cases e1
 rw[hB]at hH;cases hH
theorem Grow.gr{B:Addr}{acc:List D}{ys:List V}{H0 F0 H' F':Hp}(g:Grow K cl σ H0 F0 env B acc ys H F)(r:Gr H F H' F'):Grow K cl σ H0 F0 env B acc ys H' F' :=
 ⟨g.rel.gr r,g.frm.trans (g.rel.frm r),g.new,(r.hid B _ g.at_ g.un).1,(r.hid B _ g.at_ g.un).2,g.far,g.rps.mono r.fz,fun a o h f=>by obtain⟨h1,f1⟩:=g.stay a o h f;exact r.hid a o h1 f1⟩
theorem Grow.push{B:Addr}{acc:List D}{ys:List V}{H0 F0:Hp}{d:D}{y:V}(g:Grow K cl σ H0 F0 env B acc ys H F)(p:Rp K cl F d y):Grow K cl σ H0 F0 env B (acc++[d]) (ys++[y]) (upd H B (.lst (ys++[y]))) F:=by
 have ne:∀a o,F a=some o→a≠B:=fun a o h z=>by rw[z,g.un]at h;cases h
 refine⟨⟨fun a o h=>by rw[g7 (ne a o h)];exact g.rel.sub _ _ h,g.rel.len,g.rel.fz,fun j ds q=>?_,g.rel.inj⟩,⟨g.frm.fz,fun a o h f w=>?_,g.frm.keep,fun a h=>?_⟩,g.new,i5,g.un,g.far,g.rps.append (.one p),fun a o h f=>by rw[g7 (fun z=>by rw[z,g.new]at h;cases h)];exact g.stay a o h f⟩
 ·obtain⟨a,xs,e,hH,r⟩:=g.rel.mu j ds q
  have z:a≠B:=fun z=>g.far j ⟨ds,q⟩ (by rw[e,z])
  exact⟨a,xs,e,by rw[g7 z];exact hH,r⟩
 ·have z:a≠B:=fun z=>by rw[z,g.new]at h;cases h
  rw[g7 z];exact g.frm.hid a o h f w
 ·by_cases z:a=B
  ·rw[z,i5]at h;cases h
  ·rw[g7 z]at h;exact g.frm.dom a h
theorem a5V{b:GF}{c:BF}{el:ZF}{g:TG}{tf:TT}{te:TE}{js:List Nat}{B:Addr}{d:D}{x:V}{ds acc:List D}{ys:List V}{H0 F0:Hp}{Q:VK}{Pv:List V→Hp→Prop}(nd:js.Nodup)
  (hg:T4 K cl k g b) (hc:P9 K cl E tf c) (he:t7 K cl E te el) (gw:Grow K cl σ H0 F0 env B acc ys H F) (p:Rp K cl F d x)
  (h:Ct K cl E (PN K cl) (t5 b c el (m5 k js env) env (d::ds) acc) σ H0 F0 env Q)
  (hP:∀acc' ys' H' F',Grow K cl σ H0 F0 env B acc' ys' H' F'→Ct K cl E (PN K cl) (t5 b c el (m5 k js env) env ds acc') σ H0 F0 env Q→Pv ys' H') :
  g x (m7 k js σ) H fun σ2 H2=>(σ2.drop k=(m7 k js σ).drop k∧σ2.length=(m7 k js σ).length)∧tf σ2 H2 fun t H3 =>
   if t=true then te σ2 H3 fun y H4=>H4 B=some (.lst ys)∧ys.length<sizeLine∧Pv (ys++[y]) (upd H4 B (.lst (ys++[y])))else Pv ys H3:=by
 unfold t5 at h
 have Rc:Rel K cl (m7 k js σ) H F (m5 k js env):=gw.rel.comp nd
 split at h
 ·exact h.elim
 ·rename_i e1 hb
  refine hg x _ H _ d _ e1 F Rc p hb fun σ2 d2 l2 f2 R2=>⟨⟨d2,l2⟩,?_⟩
  have n1:NoOw (m5 k js env):=a2k
  -- ways out by an exception
  have exc:∀{H' F':Hp} {σ':St} {e':DE} {H'' F'':Hp} {n:Str},Frm (m7 k js σ) H F (m5 k js env) σ' H' F' e'→FX σ' H' F' e' H'' F''→(∀H' F',FX σ H0 F0 env H' F'→E (.ref (cl n)) none H')→E (.ref (cl n)) none H'':=fun{H' F' σ' e' H'' F'' n} f fx q=>by
   have gr:Gr H F H'' F'':=(f.fx fx).gr n1
   exact q _ _ (gw.frm.fx gr.fx)
  refine hc σ2 H _ e1 F R2 ?_
  cases hce:c e1 with
  | none=>rw[hce]at h;exact h.elim
  | some rc =>
   rw[hce]at h
   cases rc with
   | ex n=>exact fun H' F' fx=>exc f2 fx h
   | ok t e2 =>
    intro t' H3 F3 f3 R3 ht
    have ht:t'=t:=ht
    subst ht
    have h:Ct K cl E (PN K cl) (if t'=true then bnd (el e2) fun y _=>if acc.length<sizeLine then t5 b c el (m5 k js env) env ds (acc++[y])else none else t5 b c el (m5 k js env) env ds acc) σ H0 F0 env Q:=h
    have gr3:Gr H F H3 F3:=(f2.trans f3).gr n1 R3.sub
    by_cases z:t'=true
    ·rw[if_pos z]at h ⊢
     refine he σ2 H3 _ e2 F3 R3 ?_
     cases hel:el e2 with
     | none=>rw[hel]at h;exact h.elim
     | some re =>
      rw[hel]at h
      cases re with
      | ex n=>exact fun H' F' fx=>exc (f2.trans f3) fx h
      | ok y e3 =>
       intro v H4 F4 f4 R4 hv
       have h:Ct K cl E (PN K cl) (if acc.length<sizeLine then t5 b c el (m5 k js env) env ds (acc++[y])else none) σ H0 F0 env Q:=h
       split at h
       ·rename_i hlen
        have gr4:Gr H F H4 F4:=((f2.trans f3).trans f4).gr n1 R4.sub
        have gw4:=gw.gr gr4
        exact⟨gw4.at_,by rw[← gw4.rps.length];exact hlen,hP _ _ _ _ (gw4.push hv) h⟩
       ·exact h.elim
    ·rw[if_neg z]at h ⊢
     exact hP _ _ _ _ (gw.gr gr3) h
theorem a63{b:GF}{c:BF}{el:ZF}{js:List Nat}{B:Addr}{acc:List D}{ys:List V}{H0 F0:Hp}{Q:VK}(gw:Grow K cl σ H0 F0 env B acc ys H F)(h:Ct K cl E (PN K cl) (t5 b c el (m5 k js env) env [] acc) σ H0 F0 env Q):Q (.ref B) H :=
 h _ H F gw.frm gw.rel ⟨B,ys,rfl,gw.new,gw.at_,gw.un,gw.far,gw.rps⟩
theorem a2E{b:GF}{c:BF}{el:ZF}{g:TG}{tf:TT}{te:TE}{js:List Nat}{ds:List D}{xs:List V}{a B:Addr}{Q:VK}(nd:js.Nodup)(hg:T4 K cl k g b)(hc:P9 K cl E tf c)(he:t7 K cl E te el)(R:Rel K cl σ H F env)(hB:H B=none)
  (hl:∀H' F',Same F F'→Same F' H'→(∀a o,H a=some o→F a=none→H' a=some o∧F' a=none)→SqL K H' a xs) (r:Rps K cl F ds xs) (h:Ct K cl E (PN K cl) (t5 b c el (m5 k js env) env ds []) σ H F env Q) :
  a0c (Itl K a) g tf te k (m7 k js σ) B (fun H'=>Q (.ref B) H') H:=by
 refine a5D (xs:=xs) (fun i ys H'=>∃F' acc,Grow K cl σ H F env B acc ys H' F'∧Ct K cl E (PN K cl) (t5 b c el (m5 k js env) env (ds.drop i) acc) σ H F env Q) ⟨F,[],.start R hB,h⟩ (fun i ys H' _ ⟨F',acc,gw,_⟩=>hl H' F' gw.frm.fz gw.rel.sub gw.stay) (fun i x ys H' hx ⟨F',acc,gw,h'⟩=>?_) (fun ys H' ⟨F',acc,gw,h'⟩=>?_)
 ·obtain⟨d,hd,p⟩:=r.get' hx
  rw[U6 hd]at h'
  exact a5V (Pv:=fun ys' H2=>∃F' acc,Grow K cl σ H F env B acc ys' H2 F'∧Ct K cl E (PN K cl) (t5 b c el (m5 k js env) env (ds.drop (i+1)) acc) σ H F env Q) nd hg hc he gw (Rp.mono gw.frm.fz _ _ p) h' fun acc' ys' H2 F2 gw2 h2=>⟨F2,acc',gw2,h2⟩
 ·rw[← r.length,List.drop_length]at h'
  exact a63 gw h'
def R8:BF:=fun e=>some (.ok true e)
theorem a05:P9 K cl E a7W R8:=fun σ H Q env F R h=>h true H F Frm.refl R rfl
def R9(k:Nat)(js:List Nat)(f:ZF)(b:GF)(c:BF)(el:ZF):NF:=fun e=>bnd (f e) fun d e1=>match seqL d with
 | none=>none
 | some ds=>t5 b c el (m5 k js e1) e1 ds []
def Q0(i:Nat)(k:Nat)(js:List Nat)(b:GF)(c:BF)(el:ZF):NF:=fun e=>match look e i with
 | some d=>(match seqL d with
  | none=>none
  | some ds=>t5 b c el (m5 k js e) e ds [])
 | none=>none
theorem a4h{t:TE}{g:TG}{tf:TT}{te:TE}{js:List Nat}{f:ZF}{b:GF}{c:BF}{el:ZF}(nd:js.Nodup)(hf:t7 K cl E t f)(hg:T4 K cl k g b)(hc:P9 K cl E tf c)(he:t7 K cl E te el):RfN K cl E (a2z (a2x K t) g tf te k js) (R9 k js f b c el):=by
 intro σ H Q env F R h
 refine hf σ H _ env F R ((Ct.bnd h a01).mono fun x H1 ⟨F1,e1,d,s1,R1,p1,h1⟩=>?_)
 split at h1
 ·exact h1.elim
 ·rename_i ds hs
  obtain⟨a,xs,rfl,r,hl⟩:=Rp.seqL p1 hs
  exact⟨a,rfl,⟨xs,hl H1 R1.sub⟩,fun B hB=>a2E nd hg hc he R1 hB (fun H' F' f2 s2 _=>hl H' (f2.trans s2)) r h1⟩
theorem a06{i:Nat}{g:TG}{tf:TT}{te:TE}{js:List Nat}{b:GF}{c:BF}{el:ZF}(nd:js.Nodup)(hg:T4 K cl k g b)(hc:P9 K cl E tf c)(he:t7 K cl E te el):RfN K cl E (a2z (a2x K (D2 i)) g tf te k js) (Q0 i k js b c el):=by
 intro σ H Q env F R h
 unfold Q0 look at h
 cases q:env[i]? with
 | none=>rw[q]at h;exact h.elim
 | some s =>
  rw[q]at h
  cases s with
  | no=>exact h.elim
  | fz d =>
   have h:Ct K cl E (PN K cl) (match seqL d with
    | none=>none
    | some ds=>t5 b c el (m5 k js env) env ds []) σ H F env Q:=h
   split at h
   ·exact h.elim
   ·rename_i ds hs
    obtain⟨v,e,p⟩:=R.fz i d q
    obtain⟨a,xs,rfl,r,hl⟩:=Rp.seqL p hs
    exact⟨_,e,a,rfl,⟨xs,hl H R.sub⟩,fun B hB=>a2E nd hg hc he R hB (fun H' F' f2 s2 _=>hl H' (f2.trans s2)) r h⟩
  | ow ds =>
   have h:Ct K cl E (PN K cl) (t5 b c el (m5 k js env) env ds []) σ H F env Q:=h
   obtain⟨a,xs,e,hH,hF,r⟩:=R.mu i ds (.inl q)
   exact⟨_,e,a,rfl,⟨xs,.of hH⟩,fun B hB=>a2E nd hg hc he R hB (fun H' F' _ _ st=>.of (st a _ hH hF).1) r h⟩
  | hd ds =>
   have h:Ct K cl E (PN K cl) (t5 b c el (m5 k js env) env ds []) σ H F env Q:=h
   obtain⟨a,xs,e,hH,hF,r⟩:=R.mu i ds (.inr q)
   exact⟨_,e,a,rfl,⟨xs,.of hH⟩,fun B hB=>a2E nd hg hc he R hB (fun H' F' _ _ st=>.of (st a _ hH hF).1) r h⟩
theorem a4T{i:Nat}{wi:TI}{g:TG}{tf:TT}{te:TE}{js:List Nat}{f:NF}(h:RfN K cl E (a2z wi g tf te k js) f):RfS K cl E (a2X i wi g tf te k js) (n6 i f):=fun N σ H env F R q=>A7 h N σ H env F R q
end
def fD(n m:Nat)(body:SF)(ds:List D):Option R1:=if ds.length=m then(match body (ds.map .fz++List.replicate (n-ds.length) .no)with
 | some (.nx _)=>some (.ret .non)
 | some (.rt d)=>some (.ret d)
 | some (.ro es)=>some (.own es)
 | some (.rz dss)=>some (.owz dss)
 | some (.ex c)=>some (.ex c)
 | _=>none)else none
section
variable {P:Program}{w:World}{K:W.Frag}{mg:Str→Option Value}{base:Heap}{cl:Str→Addr}
theorem a5W{N:List Str}{vs:List V}{ds:List D}{H F:Hp}(s:Same F H)(p:Rps K cl F ds vs):Rel K cl (start N vs) H F (ds.map .fz++List.replicate (N.length-ds.length) .no)∧NoOw (ds.map .fz++List.replicate (N.length-ds.length) .no):=by
 have key:∀(i:Nat) (t:Sl),(ds.map Sl.fz++List.replicate (N.length-ds.length) .no)[i]? = some t→t≠.no→∃d,ds[i]? = some d∧t=.fz d:=fun i t q n=>by
  by_cases z:i<ds.length
  ·rw[List.getElem?_append_left (by rw[List.length_map];exact z),List.getElem?_map]at q
   cases hd:ds[i]? with
   | none=>rw[hd]at q;cases q
   | some d=>rw[hd]at q;cases q;exact⟨d,rfl,rfl⟩
  ·rw[List.getElem?_append_right (by rw[List.length_map];omega),List.getElem?_replicate]at q
   split at q
   ·cases q;exact absurd rfl n
   ·cases q
 have no:NoOw (ds.map .fz++List.replicate (N.length-ds.length) .no):=fun i es q=>by
  obtain⟨d,_,z⟩:=key i _ q (fun z=>by cases z);cases z
 refine⟨⟨s,?_,fun i d q=>?_,fun i es q=>?_,fun i j b ⟨es,q⟩ _ _ _=>?_⟩,no⟩
 ·unfold start
  rw[List.length_append,List.length_append,List.length_map,List.length_map,List.length_replicate,List.length_replicate,p.length]
 ·obtain⟨d',hd,z⟩:=key i _ q (fun z=>by cases z)
  cases z
  obtain⟨v,hv,r⟩:=p.get hd
  refine⟨v,?_,r⟩
  unfold start
  rw[List.getElem?_append_left (by rw[List.length_map];exact(List.getElem?_eq_some_iff.mp hv).1),List.getElem?_map,hv];rfl
 ·rcases q with q | q
  ·obtain⟨d,_,z⟩:=key i _ q (fun z=>by cases z);cases z
  ·obtain⟨d,_,z⟩:=key i _ q (fun z=>by cases z);cases z
 ·rcases q with q | q
  ·obtain⟨d,_,z⟩:=key i _ q (fun z=>by cases z);cases z
  ·obtain⟨d,_,z⟩:=key i _ q (fun z=>by cases z);cases z
theorem a0C{n m:Nat}{body:SF}{vs:List V}{H:Hp}{Q:VK}{E:XK}(h:i4 K cl (fD n m body) vs H Q E):vs.length=m:=by
 obtain⟨ds,F,s,p,h⟩:=h
 unfold fD at h
 by_cases z:ds.length=m
 ·rw[← p.length];exact z
 ·rw[if_neg z]at h;exact h.elim
theorem S0{N:List Str}{m:Nat}{body:SF}{t:TS}{vs:List V}{H:Hp}{Q:VK}{E:XK}(hb:RfS K cl E t body)(h:i4 K cl (fD N.length m body) vs H Q E):t { nx:=fun _ H'=>Q .non H',rt:=Q } (start N vs) H:=by
 obtain⟨ds,F,s,p,h⟩:=h
 obtain⟨R,no⟩:=a5W (N:=N) s p
 refine hb _ _ H _ F R ?_
 unfold fD at h
 by_cases z:ds.length=m
 ·rw[if_pos z]at h
  cases r:body (ds.map .fz++List.replicate (N.length-ds.length) .no)with
  | none=>rw[r]at h;exact h.elim
  | some rs =>
   rw[r]at h
   cases rs with
   | nx e=>exact fun σ' H' F' f R'=>h .non H' F' (f.gr no R'.sub) (by simp only[Rp])
   | rt d=>exact fun v H' F' x q=>h v H' F' (x.gr no) q
   | ro es =>
    refine fun a xs H' F' x ha fa nw q=>h a xs H' F' (x.gr no) ?_ ha fa q
    cases e:H a with
    | none=>rfl
    | some o=>exact absurd (nw o e) no.not
   | rz dss =>
    refine fun p as H' F' x hp ht fp rz=>h p as H' F' (x.gr no) hp ht fp (rz.imp fun a xs ha fa nw=>?_)
    cases e:H a with
    | none=>rfl
    | some o=>exact absurd (nw o e) no.not
   | bk e=>exact h.elim
   | ct e=>exact h.elim
   | ex c=>exact fun H' F' x=>h H' F' (x.gr no)
 ·rw[if_neg z]at h;exact h.elim
theorem Fun.okD{x qual:Str}{st:Stmt}{f:Addr}{fd:FuncData}{N ps:List Str}{k:Nat}{body:SF}(F:Fun K x qual st f fd)(S:FnScope N ps (c8 st))
  (hbody:∀(cdv:Value) (A:Around) (outer:List Env) (s:Shared) (H:Hp) (E:XK),Room k (A.deeper (envOfC qual (c8 st) s.heap.objs.size f cdv)) →
   ∃t,PSs (Q3 (v8 P w) P w K mg base N qual (c8 st) f cdv A outer s H E) (i7 st) t∧RfS K cl E t body):FnOk P w K mg base (v8 P w) (k+1) f fd ps (i4 K cl (fD N.length ps.length body)) :=
 F.okE S (fun vs H Q E h=>a0C h) fun cdv A outer s H vs Q E hr h=>by
  obtain⟨t,h1,h2⟩:=hbody cdv A outer s H E hr
  exact⟨t,h1,S0 h2 h⟩
theorem FunD.okD{x qual:Str}{st:Stmt}{dT f:Addr}{fd:FuncData}{N ps:List Str}{k:Nat}{body:SF}(F:FunD K x qual st dT f fd)(S:FnScope N ps (c8 st))
  (hbody:∀(cdv:Value) (A:Around) (outer:List Env) (s:Shared) (H:Hp) (E:XK),Room k (A.deeper (envOfC qual (c8 st) s.heap.objs.size f cdv)) →
   ∃t,PSs (Q3 (v8 P w) P w K mg base N qual (c8 st) f cdv A outer s H E) (i7 st) t∧RfS K cl E t body):FnOk P w K mg base (v8 P w) (k+1) f fd ps (i4 K cl (fD N.length ps.length body)) :=
 F.okE S (fun vs H Q E h=>a0C h) fun cdv A outer s H vs Q E hr h=>by
  obtain⟨t,h1,h2⟩:=hbody cdv A outer s H E hr
  exact⟨t,h1,S0 h2 h⟩
theorem a8F{g:List D→Option R1}{vs:List V}{H:Hp}{Q:VK}{E:XK}{a:Addr}{ns:List Int}(e:vs=[.ref a])(h:Scr K H a (ns.map V.int))(q:∀H',Q (.bl true) H')(m:g [.scr ns]=some (.ret (.bl true))):i4 K cl g vs H Q E:=by
 refine⟨[.scr ns],H,Same.refl _,?_,?_⟩
 ·rw[e];exact .one (by simp only[Rp];exact⟨a,rfl,h⟩)
 ·rw[m]
  intro v H' F' _ p
  have p:Rp K cl F' (.bl true) v:=p
  simp only[Rp]at p
  rw[p];exact q H'
def tyN:D→Option String
 | .non=>some "NoneType"
 | .bl _=>some "bool"
 | .int _=>some "int"
 | .str _=>some "str"
 | .lst _=>some "list"
 | .tup _=>some "tuple"
 | _=>none
theorem a4i{K:W.Frag}(t n:String)(ht:t∈["NoneType","bool","int","str","list","tuple"])(hn:n∈["bool","int","str","list","tuple"]):W.kitOne K (.type t) (.type n)=some (t == n || (t == "bool" && n == "int")):=by
 simp only[List.mem_cons,List.not_mem_nil,or_false]at ht hn
 rcases ht with rfl | rfl | rfl | rfl | rfl | rfl<;>rcases hn with rfl | rfl | rfl | rfl | rfl<;>first | rfl | with_unfolding_all rfl
def a29:List D→Option D
 | [d,.ty n]=>match tyN d with
  | some t=>if n∈["bool","int","str","list","tuple"]then some (.bl (t == n || (t == "bool" && n == "int")))else none
  | none=>none
 | _=>none
theorem a4j{d:D}{t:String}(h:tyN d=some t):t∈["NoneType","bool","int","str","list","tuple"]:=by
 cases d<;>cases h<;>decide
theorem a5Y{F H:Hp}{d:D}{t:String}{v:V}(s:Same F H)(p:Rp K cl F d v)(h:tyN d=some t):TyX K H v (.type t):=by
 cases d<;>cases h<;>simp only[Rp]at p
 ·subst p;exact .of .non
 ·subst p;exact .of (.bl _)
 ·subst p;exact .of (.int _)
 ·subst p;exact .of (.str _)
 ·obtain⟨a,xs,rfl,h,_⟩:=p;exact .of (.tup (s _ _ h))
 ·obtain⟨a,xs,rfl,h,_⟩:=p;exact .of (.lst (s _ _ h))
theorem a2_:a4M K cl (a4G K) a29:=by
 intro xs ds z H F Q s hx h q
 unfold a29 at h
 split at h
 ·rename_i d n
  split at h
  ·rename_i t ht
   split at h
   ·rename_i hn;cases h
    obtain⟨v,r,rfl,p1,p2⟩:=hx.inv
    obtain⟨u,r',rfl,p3,p4⟩:=p2.inv
    rw[p4.inv0]
    simp only[Rp]at p3
    subst p3
    exact⟨v,_,_,_,_,rfl,rfl,a5Y s p1 ht,a4i t n (a4j ht) hn,q _ H F (.refl s) (by simp only[Rp])⟩
   ·cases h
  ·cases h
 ·cases h
def a2F(n:String)(d:D):Option D:=match tyN d with
 | some t=>if n∈["bool","int","str","list","tuple"]then some (.bl (t == n || (t == "bool" && n == "int")))else none
 | none=>none
def U8(i:Nat)(n:String):ZF:=fun e=>match look e i with
 | some d=>Z3 (a2F n d) e
 | none=>none
theorem a0D{E:XK}{i:Nat}{n:String}{t:TE}(ht:t=tC (.ty n):=by rfl):t7 K cl E (tCB (a4G K) (K1 (D2 i) (K1 t W9))) (U8 i n):=by
 subst ht
 intro σ H Q env F R h
 unfold U8 at h
 cases q:look env i with
 | none=>rw[q]at h;exact h.elim
 | some d =>
  rw[q]at h
  obtain⟨x,e,rb⟩:=R.look q
  refine⟨x,e,?_⟩
  cases hz:a2F n d with
  | none=>simp only[hz,X8]at h;exact h.elim
  | some z =>
   simp only[hz,X7]at h
   unfold a2F at hz
   split at hz
   ·rename_i t ht
    split at hz
    ·rename_i hn;cases hz
     refine⟨x,_,_,_,_,rfl,rfl,?_,a4i t n (a4j ht) hn,h _ H F Frm.refl R (by show Rp K cl F (.bl _) _;simp only[Rp])⟩
     rcases rb with p | ⟨a,xs,ds,rfl,rfl,hH,_⟩
     ·exact a5Y R.sub p ht
     ·cases ht;exact .of (.lst hH)
    ·cases hz
   ·cases hz
end
section
variable {α β:Type}
def Q6(r:Option RS)(k:SF):Option RS:=match r with
 | some (.nx e)=>k e
 | r=>r
theorem a8G{f k:SF}{e:DE}:d7 f k e=Q6 (f e) k:=rfl
theorem a8H{e:DE}{k:SF}:Q6 (some (.nx e)) k=k e:=rfl
theorem a8I{d:D}{k:SF}:Q6 (some (.rt d)) k=some (.rt d):=rfl
theorem a8J{d:List D}{k:SF}:Q6 (some (.ro d)) k=some (.ro d):=rfl
theorem a8K{d:Str}{k:SF}:Q6 (some (.ex d)) k=some (.ex d):=rfl
theorem a8L{e:DE}{k:SF}:Q6 (some (.bk e)) k=some (.bk e):=rfl
theorem a8M{e:DE}{k:SF}:Q6 (some (.ct e)) k=some (.ct e):=rfl
theorem a8N{k:SF}:Q6 none k=none:=rfl
theorem a64{c:Prop} [Decidable c] {a b:Option RS} {k:SF}:Q6 (if c then a else b) k=if c then Q6 a k else Q6 b k:=by split<;>rfl
theorem a8O{d:D}{e:DE}:toZ (some (.ret d)) e=some (.ok d e):=rfl
theorem a8P{d:List D}{e:DE}:toZ (some (.own d)) e=some (.ok (.lst d) e):=rfl
theorem b0E{d:Str}{e:DE}:toZ (some (.ex d)) e=some (.ex d):=rfl
theorem a65{d:D}{e:DE}:a03 (some (.ret d)) e=some (.ok d e):=rfl
theorem a66{d:List D}{e:DE}:a03 (some (.own d)) e=some (.ok (.lst d) e):=rfl
theorem a5Z{i:Nat}{d:D}{e:DE}:a4P i (some (.ret d)) e=put i (.fz d) e:=rfl
theorem a50{i:Nat}{d:List D}{e:DE}:a4P i (some (.own d)) e=put i (.ow d) e:=rfl
theorem a67{i:Nat}{d:Str}{e:DE}:a4P i (some (.ex d)) e=some (.ex d):=rfl
theorem a4U{i:Nat}{d:D}{e:DE}:a1x i (some (.ret d)) e=put i (.fz d) e:=rfl
theorem a4V{i:Nat}{d:List D}{e:DE}:a1x i (some (.own d)) e=put i (.ow d) e:=rfl
theorem a51{d:D}:a2D (some (.ret d))=some (.rt d):=rfl
theorem a52{d:List D}:a2D (some (.own d))=some (.ro d):=rfl
theorem a68{d:Str}:a2D (some (.ex d))=some (.ex d):=rfl
theorem a4W{d:D}:a5T (some (.ret d))=some (.rt d):=rfl
theorem a4X{d:List D}:a5T (some (.own d))=some (.ro d):=rfl
def W0(r:Option RS):Option R1:=match r with
 | some (.nx _)=>some (.ret .non)
 | some (.rt d)=>some (.ret d)
 | some (.ro es)=>some (.own es)
 | some (.rz dss)=>some (.owz dss)
 | some (.ex c)=>some (.ex c)
 | _=>none
theorem b1d{n m:Nat}{body:SF}{ds:List D}(h:ds.length=m):fD n m body ds=W0 (body (ds.map .fz++List.replicate (n-m) .no)):=by
 unfold fD;rw[if_pos h,h];rfl
theorem a8Q{e:DE}:W0 (some (.nx e))=some (.ret .non):=rfl
theorem a8R{d:D}:W0 (some (.rt d))=some (.ret d):=rfl
theorem a8S{d:List (List D)}:W0 (some (.rz d))=some (.owz d):=rfl
theorem a8T{d:List (List D)}{k:SF}:Q6 (some (.rz d)) k=some (.rz d):=rfl
theorem a53{d:List (List D)}:a2D (some (.owz d))=some (.rz d):=rfl
theorem a8U{d:List D}:W0 (some (.ro d))=some (.own d):=rfl
theorem a8V{d:Str}:W0 (some (.ex d))=some (.ex d):=rfl
theorem a69{c:Prop} [Decidable c] {a b:Option RS}:W0 (if c then a else b)=if c then W0 a else W0 b:=by split<;>rfl
def W1(r:Option RS)(k:SF):Option RS:=match r with
 | some (.nx e)=>k e
 | some (.ct e)=>k e
 | some (.bk e)=>some (.nx e)
 | r=>r
theorem a1V{e:DE}{k:SF}:W1 (some (.nx e)) k=k e:=rfl
theorem a8W{e:DE}{k:SF}:W1 (some (.ct e)) k=k e:=rfl
theorem a8X{e:DE}{k:SF}:W1 (some (.bk e)) k=some (.nx e):=rfl
theorem a8Y{d:D}{k:SF}:W1 (some (.rt d)) k=some (.rt d):=rfl
theorem a8Z{d:List (List D)}{k:SF}:W1 (some (.rz d)) k=some (.rz d):=rfl
theorem a80{d:List D}{k:SF}:W1 (some (.ro d)) k=some (.ro d):=rfl
theorem a81{d:Str}{k:SF}:W1 (some (.ex d)) k=some (.ex d):=rfl
theorem a3a{b:GF}{body:SF}{e:DE}:x4 b body [] e=some (.nx e):=rfl
def a4Y(x:Option DE)(k:SF):Option RS:=match x with
 | none=>none
 | some e=>k e
theorem U9{b:GF}{body:SF}{d:D}{ds:List D}{e:DE}:x4 b body (d::ds) e=a4Y (b d e) fun e1=>W1 (body e1) (x4 b body ds):=by
 rw[x4];cases b d e<;>rfl
theorem B8{e:DE}{k:SF}:a4Y (some e) k=k e:=rfl
def a3b(n i:Nat)(exm:Str→Bool)(suite:SF)(e:DE)(r:Option RS):Option RS:=match r with
 | some (.ex c)=>if(exm c && a1U e)=true then(match suite ((List.replicate n Sl.no).set i (.fz (.exc c)))with
   | some (.nx e2)=>put i .no e2
   | some (.rt d)=>some (.rt d)
   | some (.ro ds)=>some (.ro ds)
   | _=>none)else none
 | r=>r
theorem a54{n i:Nat}{exm:Str→Bool}{body suite:SF}{e:DE}:b0D n i exm body suite e=a3b n i exm suite e (body e):=rfl
def a4Z(i:Nat)(r:Option RS):Option RS:=match r with
 | some (.nx e2)=>put i .no e2
 | some (.rt d)=>some (.rt d)
 | some (.ro ds)=>some (.ro ds)
 | _=>none
theorem a82{i:Nat}{e:DE}:a4Z i (some (.nx e))=put i .no e:=rfl
theorem a83{i:Nat}{d:D}:a4Z i (some (.rt d))=some (.rt d):=rfl
theorem a84{i:Nat}{d:List D}:a4Z i (some (.ro d))=some (.ro d):=rfl
theorem a85{n i:Nat}{exm:Str→Bool}{suite:SF}{e:DE}{c:Str}:a3b n i exm suite e (some (.ex c))=if(exm c && a1U e)=true then a4Z i (suite ((List.replicate n Sl.no).set i (.fz (.exc c))))else none:=rfl
theorem a86{n i:Nat}{exm:Str→Bool}{suite:SF}{e:DE}{d:D}:a3b n i exm suite e (some (.rt d))=some (.rt d):=rfl
theorem a87{n i:Nat}{exm:Str→Bool}{suite:SF}{e:DE}{d:List D}:a3b n i exm suite e (some (.ro d))=some (.ro d):=rfl
theorem a88{n i:Nat}{exm:Str→Bool}{suite:SF}{e e1:DE}:a3b n i exm suite e (some (.nx e1))=some (.nx e1):=rfl
theorem a89(a b:Int):p5 (.int a) (.int b)=some (.int (a+b)):=rfl
theorem a8_(a b:Int):v7 (.int a) (.int b)=some (.int (a-b)):=rfl
theorem b0F(a b:Int):gLt (.int a) (.int b)=some (.bl (decide (a<b))):=rfl
theorem b0G(a b:Int):gGt (.int a) (.int b)=some (.bl (decide (b<a))):=rfl
theorem a1W{a b:Int}(h:IntMulOk a b):E3 (.int a) (.int b)=some (.int (a*b)):=by show(if _ then _ else _)=_;rw[if_pos h]
theorem a4k{a b:Int}(h:0<b∧b.natAbs.log2<9000):B7 (.int a) (.int b)=some (.int (a/b)):=by show(if _ then _ else _)=_;rw[if_pos h]
theorem a9a{a b:Int}(h:0<b):w6 (.int a) (.int b)=some (.int (a%b)):=by show(if _ then _ else _)=_;rw[if_pos h]
theorem a1X{a b:Int}(h:a1L a b):Y0 (.int a) (.int b)=some (.int (a ^ b.toNat)):=by show(if _ then _ else _)=_;rw[if_pos h]
end
def Fits(i:Int):Prop:=Builtin.Int.intBits i≤2 ^ 20
theorem a9b{a b:Int}(h:a.natAbs≤b.natAbs):Builtin.Int.intBits a≤Builtin.Int.intBits b:=by
 unfold Builtin.Int.intBits
 split
 ·exact Nat.zero_le _
 ·rename_i ha
  have ha':a.natAbs≠0:=by
   intro z;apply ha;first | exact Int.natAbs_eq_zero.mp z | (simpa using z)
  have hb':b.natAbs≠0:=by omega
  split
  ·rename_i hb
   exact absurd (by first | exact Int.natAbs_eq_zero.mpr hb | (simpa using hb)) hb'
  ·have h1:b.natAbs<2 ^ (b.natAbs.log2+1):=Nat.lt_log2_self
   have h2:a.natAbs.log2<b.natAbs.log2+1:=(Nat.log2_lt ha').mpr (by omega)
   omega
theorem Fits.le{a b:Int}(h:Fits b)(l:a.natAbs≤b.natAbs):Fits a:=Nat.le_trans (a9b l) h
theorem Fits.mod{i n:Int}(hn:0<n)(h:Fits n):Fits (i%n):=by
 refine h.le ?_
 have h1:=Int.emod_nonneg i (show n≠0 by omega)
 have h2:=Int.emod_lt_of_pos i hn
 omega
theorem Fits.mul{i j:Int}(a:Fits i)(b:Fits j):IntMulOk i j:=IntMulOk.of_bits a b
theorem Y5{i:Int}(h:i.natAbs<2 ^ 400:=by decide):Fits i:=by
 have e:Builtin.Int.intBits (2 ^ 400:Int)≤2 ^ 20:=by decide +kernel
 have e2:(2 ^ 400:Int).natAbs=2 ^ 400:=by decide +kernel
 exact(show Fits (2 ^ 400)from e).le (by omega)
theorem b1z{a b:Int}(h:a.natAbs<2 ^ 64):IntMulOk a b:=IntMulOk.of_left (intBits_le_64 (by omega) (by omega))
theorem a40{a b:Int}(h:b.natAbs<2 ^ 64):IntMulOk a b:=IntMulOk.of_right (intBits_le_64 (by omega) (by omega))
theorem Q1{a b:Int}(h:b.natAbs<2 ^ 64):E3 (.int a) (.int b)=some (.int (a*b)):=a1W (a40 h)
section
variable {α:Type}
theorem a72{a:α}{l:List α}:atI (a::l) 0=some a:=by unfold atI M8;simp
theorem a1z{a:α}{l:List α}{n:Nat}:atI (a::l) ((n:Int)+1)=atI l n:=by
 unfold atI M8
 have h1:(0:Int)≤(n:Int)+1:=by omega
 have h2:(0:Int)≤(n:Int):=by omega
 rw[if_pos h1,if_pos h2]
 by_cases z:(n:Int)<(l.length:Int)
 ·rw[if_pos z,if_pos (by rw[List.length_cons];push_cast;omega)]
  show(a::l)[((n:Int)+1).toNat]? = l[((n:Int)).toNat]?
  rw[show((n:Int)+1).toNat=n+1 by omega,show((n:Int)).toNat=n by omega]
  rfl
 ·rw[if_neg z,if_neg (by rw[List.length_cons];push_cast;omega)]
  rfl
theorem a73{a b:α}{l:List α}:atI (a::b::l) 1=some b:=(a1z (n:=0)).trans a72
theorem a74{a b c:α}{l:List α}:atI (a::b::c::l) 2=some c:=(a1z (n:=1)).trans a73
theorem a75{a b c d:α}{l:List α}:atI (a::b::c::d::l) 3=some d:=(a1z (n:=2)).trans a74
theorem b1e{a b c d e:α}{l:List α}:atI (a::b::c::d::e::l) 4=some e:=(a1z (n:=3)).trans a75
theorem b2a{a b c d e f:α}{l:List α}:atI (a::b::c::d::e::f::l) 5=some f:=(a1z (n:=4)).trans b1e
end
def D0(ns:List Int)(k:Int):Int:=ns.getD k.toNat 0
theorem a9c{ns:List Int}{k:Int}(hk:0≤k):(if k<(ns.length:Int)then(match atI ns k with
  | none=>none
  | some n=>some (R1.ret (D.int n)))else some (R1.ret (D.int 0)))=some (R1.ret (D.int (D0 ns k))):=by
 unfold D0
 by_cases z:k<(ns.length:Int)
 ·rw[if_pos z]
  have h:k.toNat<ns.length:=by omega
  have e:atI ns k=some ns[k.toNat]:=by
   unfold atI M8
   rw[if_pos hk,if_pos z]
   exact List.getElem?_eq_getElem h
  rw[e,List.getD_eq_getElem?_getD,List.getElem?_eq_getElem h];rfl
 ·rw[if_neg z,List.getD_eq_getElem?_getD,List.getElem?_eq_none (by omega)];rfl
section
variable {K:W.Frag}{cl:Str→Addr}{E:XK}{σ:St}{H F:Hp}{env:DE}{k:Nat}
def oS(f:ZF):OF:=fun e=>bnd (f e) fun d e1=>match d with
 | .int i=>some (.ok (some i) e1)
 | _=>none
theorem a76{t:TE}{f:ZF}(hf:t7 K cl E t f):RfO K cl E (a7Q t) (oS f):=by
 intro σ H Q env F R h
 refine hf σ H _ env F R ((Ct.bnd h b1H).mono fun x H1 ⟨F1,e1,d,s1,R1,p1,h1⟩=>?_)
 split at h1
 ·rename_i i
  have:x=.int i:=by have:=(show Rp K cl F1 (.int i) x from p1);simpa only[Rp]using this
  exact⟨i,this,h1 _ H1 F1 Frm.refl R1 rfl⟩
 ·exact h1.elim
def a1Y(xs:List D)(lo hi:Option Int):List D:=(xs.drop (HT.sIx xs.length 0 lo)).take (HT.sIx xs.length xs.length hi-HT.sIx xs.length 0 lo)
theorem Rps.cut{ds:List D}{xs:List V}(h:Rps K cl F ds xs)(lo hi:Option Int):Rps K cl F (a1Y ds lo hi) (a1M xs lo hi):=by
 unfold a1Y a1M
 rw[h.length]
 exact(h.drop _).take _
def a41(i:Nat)(l u:OF):NF:=fun e=>match look e i with
 | none=>none
 | some _=>bnd (l e) fun lo e2=>bnd (u e2) fun hi e3=>match look e3 i with
  | some d=>(match seqL d with
   | some ds=>some (.ok (a1Y ds lo hi) e3)
   | none=>none)
  | none=>none
theorem Rb.seqL{d:D}{ds:List D}{v:V}(s:Same F H)(p:Rb K cl F H d v)(q:L2.seqL d=some ds):∃a xs,v=.ref a∧Rps K cl F ds xs∧SqL K H a xs:=by
 rcases p with p | ⟨a,xs,es,e,rfl,h,r⟩
 ·obtain⟨a,xs,e,r,l⟩:=Rp.seqL p q;exact⟨a,xs,e,r,l H s⟩
 ·cases q;exact⟨a,xs,e,r,.of h⟩
theorem b0H{i:Nat}{tl tu:TO}{l u:OF}(hl:RfO K cl E tl l)(hu:RfO K cl E tu u):RfN K cl E (tSl (a6J K) (D2 i) tl tu) (a41 i l u):=by
 intro σ H Q env F R h
 unfold a41 at h
 cases q:look env i with
 | none=>rw[q]at h;exact h.elim
 | some d0 =>
  rw[q]at h
  obtain⟨x,e0,_⟩:=R.look q
  refine⟨x,e0,?_⟩
  refine hl σ H _ env F R ((Ct.bnd h a01).mono fun lo H2 ⟨F2,e2,lo',s2,R2,p2,h2⟩=>?_)
  refine hu σ H2 _ e2 F2 R2 ((Ct.bnd h2 a01).mono fun hi H3 ⟨F3,e3,hi',s3,R3,p3,h3⟩=>?_)
  cases (show lo=lo' from p2)
  cases (show hi=hi' from p3)
  cases q2:look e3 i with
  | none=>simp only[q2]at h3;exact h3.elim
  | some d =>
   simp only[q2]at h3
   obtain⟨x',e',rb⟩:=R3.look q2
   rw[e0]at e';cases e'
   split at h3
   ·rename_i ds hs
    obtain⟨a,xs,rfl,r,hq⟩:=rb.seqL R3.sub hs
    exact⟨a,xs,rfl,hq,fun p hp=>Ct.newN R3 hp (r.cut _ _) h3⟩
   ·exact h3.elim
end
section
variable {P:Program}{w:World}{mg:Str→Option Value}{base:Heap}{K:W.Frag}{cl:Str→Addr}{E:XK}{σ:St}{H F:Hp}{env:DE}{k:Nat}
def V0:List D→Option (List Int)
 | []=>some []
 | .int b::ds=>(V0 ds).map (b :: ·)
 | _=>none
theorem a4l:∀{ds:List D} {bs:List Int},V0 ds=some bs→ds=bs.map .int
 | [],_,h=>by cases h;rfl
 | .int b::ds,_,h=>by
  unfold V0 at h
  cases q:V0 ds with
  | none=>rw[q]at h;cases h
  | some bs=>rw[q]at h;cases h;rw[a4l q];rfl
 | .non::_,_,h=>by cases h
 | .bl _::_,_,h=>by cases h
 | .str _::_,_,h=>by cases h
 | .ty _::_,_,h=>by cases h
 | .cls _::_,_,h=>by cases h
 | .tup _::_,_,h=>by cases h
 | .lst _::_,_,h=>by cases h
 | .scr _::_,_,h=>by cases h
 | .exc _::_,_,h=>by cases h
 | .obj _ _ _::_,_,h=>by cases h
theorem ints_map:∀(ns:List Int),V0 (ns.map .int)=some ns
 | []=>rfl
 | n::ns=>by show(V0 (ns.map .int)).map (n :: ·)=_;rw[ints_map ns];rfl
end
def b0I(x:Option DE)(k:DE→Option (R (List D))):Option (R (List D)):=match x with
 | none=>none
 | some e=>k e
theorem a2l{e:DE}{k:DE→Option (R (List D))}:b0I (some e) k=k e:=rfl
theorem a55{b:GF}{c:BF}{el:ZF}{ec eo:DE}{acc:List D}:t5 b c el ec eo [] acc=some (.ok acc eo):=rfl
theorem a1A{b:GF}{c:BF}{el:ZF}{ec eo:DE}{d:D}{ds acc:List D}:t5 b c el ec eo (d::ds) acc=b0I (b d ec) fun e1=>bnd (c e1) fun t e2=>if t=true then bnd (el e2) fun y _=>if acc.length<sizeLine then t5 b c el ec eo ds (acc++[y])else none else t5 b c el ec eo ds acc:=by
 rw[t5];cases b d ec<;>rfl
section
variable {K:W.Frag}{cl:Str→Addr}{E:XK}{σ:St}{H F:Hp}{env:DE}{k:Nat}
def a1B:List D→Option D
 | [.int i,.int j]=>some (.int (if j > i then j else i))
 | _=>none
theorem a9d:a4M K cl (fun xs H Q=>∃i j,xs=[.int i,.int j]∧Q (.int (if j > i then j else i)) H) a1B:=by
 intro xs ds z H F Q s p h q
 unfold a1B at h
 split at h
 ·rename_i i j;cases h
  exact⟨i,j,Rps.ints (ns:=[i,j]) p,q _ H F (.refl s) (by simp only[Rp])⟩
 ·cases h
def a1C:D→Option D
 | .int i=>some (.int i)
 | .bl b=>some (.int (if b then 1 else 0))
 | _=>none
theorem a9e:CbOk1 K cl (fun xs H Q=>(∃i,xs=[.int i]∧Q (.int i) H)∨∃k,xs=[.bl k]∧Q (.int (if k then 1 else 0)) H) a1C:=by
 intro x d z H F Q s hx h q
 unfold a1C at h
 split at h
 ·rename_i i;cases h;rw[hx.int];exact .inl ⟨i,rfl,q _ H F (.refl s) (by simp only[Rp])⟩
 ·rename_i i;cases h;rw[hx.bl];exact .inr ⟨i,rfl,q _ H F (.refl s) (by simp only[Rp])⟩
 ·cases h
def inD(d:D)(es:List D):Bool:=es.any fun e=>Q7 e d
theorem Rps.inV{d:D}{v:V}(p:Rp K cl F d v)(f:j5 d=true):∀{es:List D} {us:List V},Rps K cl F es us→es.all j5=true→L2.inV v us=inD d es
 | [],_,h,_=>by rw[h.inv0];rfl
 | e::es,_,h,fe=>by
  obtain⟨u,r,rfl,h1,h2⟩:=h.inv
  rw[List.all_cons,Bool.and_eq_true]at fe
  have:=Rps.inV p f h2 fe.2
  unfold L2.inV inD at this ⊢
  rw[List.any_cons,List.any_cons,h1.eq p fe.1 f,this]
def gIn(neg:Bool)(d e:D):Option D:=match e with
 | .lst es=>if(j5 d && es.all j5)=true then some (.bl (if neg then !inD d es else inD d es))else none
 | .tup es=>if(j5 d && es.all j5)=true then some (.bl (if neg then !inD d es else inD d es))else none
 | _=>none
theorem Rb.flat{d:D}{v:V}(h:Rb K cl F H d v)(f:j5 d=true):Rp K cl F d v:=by
 rcases h with h | ⟨_,_,_,_,rfl,_⟩
 ·exact h
 ·cases f
theorem b1f{neg:Bool}:OpOk K cl (rIn K neg) (gIn neg):=by
 intro x y d e z H F Q s hx hy h q
 unfold gIn at h
 split at h
 ·split at h
  ·rename_i c;cases h
   rw[Bool.and_eq_true]at c
   obtain⟨a,xs,rfl,hH,r⟩:=hy.lst s
   have px:=hx.flat c.1
   refine⟨a,xs,rfl,.inl (.of hH),(px.flat c.1).2,r.flat c.2,q _ H F (.refl s) ?_⟩
   simp only[Rp];rw[r.inV px c.1 c.2]
  ·cases h
 ·split at h
  ·rename_i c;cases h
   rw[Bool.and_eq_true]at c
   obtain⟨a,xs,rfl,hH,r⟩:=hy.tup s
   have px:=hx.flat c.1
   refine⟨a,xs,rfl,.inr (.of hH),(px.flat c.1).2,r.flat c.2,q _ H F (.refl s) ?_⟩
   simp only[Rp];rw[r.inV px c.1 c.2]
  ·cases h
 ·cases h
theorem tyL{i:Nat}{ds:List D}(R:Rel K cl σ H F env)(q:look env i=some (.lst ds)):∃a,σ[i]? = some (some (.ref a))∧tyV K "list" (.ref a) H:=by
 obtain⟨x,e0,rb⟩:=R.look q
 obtain⟨a,xs,rfl,hH,_⟩:=rb.lst R.sub
 exact⟨a,e0,.inl ⟨rfl,xs,.of hH⟩⟩
def a07(i:Nat):ZF:=fun e=>match e[i]? with
 | some (.ow ds)=>(match ds.getLast? with
  | some d=>some (.ok d (e.set i (.ow ds.dropLast)))
  | none=>none)
 | _=>none
theorem Rps.dropLast{ds:List D}{xs:List V}(h:Rps K cl F ds xs):Rps K cl F ds.dropLast xs.dropLast:=by
 rw[List.dropLast_eq_take,List.dropLast_eq_take,h.length];exact h.take _
theorem a56{i:Nat}:t7 K cl E (a4D K "list" a94 (D2 i)) (a07 i):=by
 intro σ H Q env F R h
 unfold a07 at h
 split at h
 ·rename_i ds q
  split at h
  ·rename_i d hd
   obtain⟨a,xs,e,hH,hF,r⟩:=R.mu i ds (.inl q)
   have hd':ds[ds.length-1]? = some d:=by rw[← List.getLast?_eq_getElem?];exact hd
   obtain⟨v,hv,p⟩:=r.get hd'
   obtain⟨R2,f2⟩:=R.change q e r.dropLast
   refine⟨_,e,.inl ⟨rfl,xs,.of hH⟩,a,xs,v,rfl,rfl,hH,by rw[← r.length];exact hv,h v _ F f2 R2 p⟩
  ·exact h.elim
 ·exact h.elim
def a0n(i:Nat)(g:List D→List D):SF:=fun e=>match e[i]? with
 | some (.ow ds)=>some (.nx (e.set i (.ow (g ds))))
 | _=>none
theorem a6_{i:Nat}:RfS K cl E (a4v (a4D K "list" a5z (D2 i))) (a0n i fun _=>[]):=by
 intro N σ H env F R h
 unfold a0n at h
 split at h
 ·rename_i ds q
  obtain⟨a,xs,e,hH,hF,r⟩:=R.mu i ds (.inl q)
  obtain⟨R2,f2⟩:=R.change q e (es:=[]) (ys:=[]) .nil
  exact⟨_,e,.inl ⟨rfl,xs,.of hH⟩,a,xs,rfl,rfl,hH,h σ _ F f2 R2⟩
 ·exact h.elim
end
mutual
def r6:D→D→Bool
 | .tup ds,e=>(match e with
  | .tup es=>G8 ds es
  | _=>false)
 | .lst ds,e=>(match e with
  | .lst es=>G8 ds es
  | _=>false)
 | d,e=>Q7 d e
def G8:List D→List D→Bool
 | [],es=>es.isEmpty
 | d::ds,es=>(match es with
  | []=>false
  | e::es=>r6 d e && G8 ds es)
end
mutual
def i0:D→Bool
 | .tup ds=>A8 ds
 | .lst ds=>A8 ds
 | d=>j5 d
def A8:List D→Bool
 | []=>true
 | d::ds=>i0 d && A8 ds
end
mutual
def N0:D→Nat
 | .tup ds=>G9 ds+1
 | .lst ds=>G9 ds+1
 | _=>0
def G9:List D→Nat
 | []=>0
 | d::ds=>max (N0 d) (G9 ds)
end
def a3d(ds es:List D)(j:Nat):Bool:=match ds[j]?,es[j]? with
 | some d,some e=>r6 d e
 | _,_=>true
theorem N1:∀{ds es:List D},ds.length=es.length→(List.range ds.length).all (a3d ds es)=G8 ds es
 | [],[],_=>by simp[G8]
 | d::ds,e::es,h=>by
  have h':ds.length=es.length:=by simpa using h
  simp only[G8]
  show(List.range (ds.length+1)).all _=(r6 d e && G8 ds es)
  rw[List.range_succ_eq_map,List.all_cons,List.all_map,← N1 h']
  rfl
theorem T6:∀{ds es:List D},ds.length≠es.length→G8 ds es=false
 | [],[],h=>absurd rfl h
 | _::_,[],_=>by simp[G8]
 | [],_::_,_=>by simp[G8]
 | d::ds,e::es,h=>by
  simp only[G8]
  rw[T6 (fun q=>h (by simp[q])),Bool.and_false]
section
variable {K:W.Frag}{cl:Str→Addr}{F:Hp}
theorem Y6{d e:D}{v:V}(fd:j5 d=true)(p:Rp K cl F d v)(q:Rp K cl F e v)(pe:i0 e=true):Q7 d e=true:=by
 cases d<;>first | (cases fd;done) | skip
 all_goals simp only[Rp]at p;subst p
 all_goals cases e<;>simp only[Rp]at q<;>first | (cases q;done) | (cases q;simp[Q7];done) | (obtain⟨_,_,z,_⟩:=q;cases z;done) | (obtain⟨_,z,_⟩:=q;cases z;done) | (simp[i0,j5]at pe;done)
mutual
theorem a1Z:∀(d e:D) (v:V),Rp K cl F d v→Rp K cl F e v→i0 d=true→i0 e=true→r6 d e=true
 | .tup ds,e,v,p,q,pd,pe=>by
  simp only[Rp]at p
  obtain⟨a,xs,rfl,ha,r⟩:=p
  cases e<;>simp only[Rp]at q
  case tup es =>
   obtain⟨a',ys,z,ha',r'⟩:=q
   cases z;rw[ha]at ha';cases ha'
   simp only[i0]at pd pe
   simp only[r6]
   exact a08 ds es xs r r' pd pe
  case lst es =>
   obtain⟨a',ys,z,ha',r'⟩:=q
   cases z;rw[ha]at ha';cases ha'
  all_goals first | (cases q;done) | (simp[i0,j5]at pe;done)
 | .lst ds,e,v,p,q,pd,pe=>by
  simp only[Rp]at p
  obtain⟨a,xs,rfl,ha,r⟩:=p
  cases e<;>simp only[Rp]at q
  case lst es =>
   obtain⟨a',ys,z,ha',r'⟩:=q
   cases z;rw[ha]at ha';cases ha'
   simp only[i0]at pd pe
   simp only[r6]
   exact a08 ds es xs r r' pd pe
  case tup es =>
   obtain⟨a',ys,z,ha',r'⟩:=q
   cases z;rw[ha]at ha';cases ha'
  all_goals first | (cases q;done) | (simp[i0,j5]at pe;done)
 | .non,e,v,p,q,pd,pe=>by simp only[r6];exact Y6 rfl p q pe
 | .bl _,e,v,p,q,pd,pe=>by simp only[r6];exact Y6 rfl p q pe
 | .int _,e,v,p,q,pd,pe=>by simp only[r6];exact Y6 rfl p q pe
 | .str _,e,v,p,q,pd,pe=>by simp only[r6];exact Y6 rfl p q pe
 | .ty _,e,v,p,q,pd,pe=>by simp[i0,j5]at pd
 | .cls _,e,v,p,q,pd,pe=>by simp[i0,j5]at pd
 | .scr _,e,v,p,q,pd,pe=>by simp[i0,j5]at pd
 | .exc _,e,v,p,q,pd,pe=>by simp[i0,j5]at pd
 | .obj _ _ _,e,v,p,q,pd,pe=>by simp[i0,j5]at pd
theorem a08:∀(ds es:List D) (vs:List V),Rps K cl F ds vs→Rps K cl F es vs→A8 ds=true→A8 es=true→G8 ds es=true
 | [],es,vs,p,q,_,_=>by
  rw[p.inv0]at q
  cases es with
  | nil=>simp[G8]
  | cons e es=>obtain⟨_,_,z,_⟩:=q.inv;cases z
 | d::ds,es,vs,p,q,pd,pe=>by
  obtain⟨v,r,rfl,p1,p2⟩:=p.inv
  cases es with
  | nil=>have:=q.inv0;cases this
  | cons e es =>
   obtain⟨v',r',z,q1,q2⟩:=q.inv
   cases z
   simp only[A8,Bool.and_eq_true]at pd pe
   simp only[G8]
   rw[a1Z d e v p1 q1 pd.1 pe.1,a08 ds es r p2 q2 pd.2 pe.2];rfl
end
end
section
variable {X:Cx}{cl:Str→Addr}{F:Hp}{pins:List (Addr×Obj)}{σ:St}{H:Hp}{s:Shared}
theorem Y7{a:Addr}{d:D}{v:V}{u:Value}{A:Around}(hu:A.units<cLine)(hl:(∃xs,SqL X.K H a xs)∨∃xs,SqT X.K H a xs)(I:Inv X pins σ H s)(f:j5 d=true)(p:Rp X.K cl F d v)(r:RelV v u):SeqAt.EqAt A s (.ref a) u false∧SeqAt.EqAt A s u (.ref a) false:=by
 rcases hl with⟨xs,h⟩ | ⟨xs,h⟩
 ·obtain⟨us,r1,p1,z1⟩:=I.list h
  have q:=p1.isList
  cases d<;>first | (cases f;done) | skip
  all_goals simp only[Rp]at p;subst p
  ·cases r;exact⟨.list_none q hu,.none_list q hu⟩
  ·cases r;exact⟨.list_bool _ q hu,.bool_list _ q hu⟩
  ·obtain⟨t,rfl⟩:=r;exact⟨.list_int _ _ q hu,.int_list _ _ q hu⟩
  ·obtain⟨t,rfl⟩:=r;exact⟨.list_str _ _ q hu,.str_list _ _ q hu⟩
 ·obtain⟨us,r1,q,z1⟩:=I.tuple h
  cases d<;>first | (cases f;done) | skip
  all_goals simp only[Rp]at p;subst p
  ·cases r;exact⟨.tuple_none q hu,.none_tuple q hu⟩
  ·cases r;exact⟨.tuple_bool _ q hu,.bool_tuple _ q hu⟩
  ·obtain⟨t,rfl⟩:=r;exact⟨.tuple_int _ _ q hu,.int_tuple _ _ q hu⟩
  ·obtain⟨t,rfl⟩:=r;exact⟨.tuple_str _ _ q hu,.str_tuple _ _ q hu⟩
theorem F7{d:D}(p:i0 d=true):j5 d=true∨(∃ds,d=.tup ds)∨∃ds,d=.lst ds:=by
 cases d<;>first | exact .inl rfl | exact .inr (.inl ⟨_,rfl⟩) | exact .inr (.inr ⟨_,rfl⟩) | (simp[i0,j5]at p;done)
theorem a7a{d e:D}(f:j5 d=true):r6 d e=Q7 d e:=by cases d<;>first | (cases f;done) | simp only[r6]
theorem V1{d e:D}{v u:V}{a b:Value}{A:Around}(I:Inv X pins σ H s)(sF:Same F H)(hu:A.units<cLine)(f:j5 d=true)(p:Rp X.K cl F d v)(q:Rp X.K cl F e u)(rv:RelV v a)(ru:RelV u b)(pe:i0 e=true):SeqAt.EqAt A s a b (r6 d e):=by
 rw[a7a f]
 rcases F7 pe with fe | ⟨es,rfl⟩ | ⟨es,rfl⟩
 ·rw[← p.eq q f fe]
  exact a5t rv ru (p.flat f).2 (q.flat fe).2
 ·simp only[Rp]at q
  obtain⟨c,ys,rfl,hb,r'⟩:=q
  cases ru
  have:=(Y7 (A:=A) hu (.inr ⟨ys,.of (sF _ _ hb)⟩) I f p rv).2
  have z:Q7 d (.tup es)=false:=by cases d<;>first | (cases f;done) | rfl
  rw[z];exact this
 ·simp only[Rp]at q
  obtain⟨c,ys,rfl,hb,r'⟩:=q
  cases ru
  have:=(Y7 (A:=A) hu (.inl ⟨ys,.of (sF _ _ hb)⟩) I f p rv).2
  have z:Q7 d (.lst es)=false:=by cases d<;>first | (cases f;done) | rfl
  rw[z];exact this
mutual
theorem a9f(I:Inv X pins σ H s)(sF:Same F H):∀(d e:D) (v u:V) (a b:Value) (A:Around),A.units+N0 d<cLine→Rp X.K cl F d v→Rp X.K cl F e u→RelV v a→RelV u b→i0 d=true→i0 e=true→SeqAt.EqAt A s a b (r6 d e)
 | .tup ds,e,v,u,va,ua,A,hu,p,q,rv,ru,pd,pe=>by
  have p0:=p
  have hu':A.units<cLine:=by omega
  simp only[N0]at hu
  simp only[Rp]at p
  obtain⟨a,xs,rfl,ha,r⟩:=p
  cases rv
  have ha':=sF _ _ ha
  rcases F7 pe with f | ⟨es,rfl⟩ | ⟨es,rfl⟩
  ·have:=(Y7 (A:=A) hu' (.inr ⟨xs,.of ha'⟩) I f q ru).1
   have z:r6 (.tup ds) e=false:=by cases e<;>first | (cases f;done) | simp only[r6]
   rw[z];exact this
  ·have q0:=q
   simp only[Rp]at q
   obtain⟨b,ys,rfl,hb,r'⟩:=q
   cases ru
   have hb':=sF _ _ hb
   by_cases z:a=b
   ·subst z
    rw[a1Z _ _ _ p0 q0 pd pe]
    exact .same _
   ·obtain⟨us,r1,p1,_⟩:=I.tuple (.of ha')
    obtain⟨ws,r2,p2,_⟩:=I.tuple (.of hb')
    simp only[i0]at pd pe
    have he:∀j (h1:j<us.toArray.size) (h2:j<ws.toArray.size),SeqAt.EqAt A.in1 s us.toArray[j] ws.toArray[j] (a3d ds es j):=T7 I sF ds es xs ys us ws A.in1 (by show A.units+1+G9 ds<cLine;omega) r r' r1 r2 pd pe
    have:=SeqAt.EqAt.of_refs z (SeqAt.RcAt.tuples p1 p2 hu' he)
    have e1:us.toArray.size=ds.length:=by simp[← r1.length,r.length]
    have e2:ws.toArray.size=es.length:=by simp[← r2.length,r'.length]
    rw[e1,e2]at this
    simp only[r6]
    by_cases hl:ds.length=es.length
    ·rw[← hl,Nat.min_self,N1 hl,beq_self_eq_true,Bool.and_true]at this
     exact this
    ·rw[T6 hl]
     rw[beq_eq_false_iff_ne.mpr hl,Bool.and_false]at this
     exact this
  ·simp only[Rp]at q
   obtain⟨b,ys,rfl,hb,r'⟩:=q
   cases ru
   obtain⟨us,r1,p1,_⟩:=I.tuple (.of ha')
   obtain⟨ws,r2,p2,_⟩:=I.list (.of (sF _ _ hb))
   simp only[r6]
   exact .tuple_list p1 p2.isList hu'
 | .lst ds,e,v,u,va,ua,A,hu,p,q,rv,ru,pd,pe=>by
  have p0:=p
  have hu':A.units<cLine:=by omega
  simp only[N0]at hu
  simp only[Rp]at p
  obtain⟨a,xs,rfl,ha,r⟩:=p
  cases rv
  have ha':=sF _ _ ha
  rcases F7 pe with f | ⟨es,rfl⟩ | ⟨es,rfl⟩
  ·have:=(Y7 (A:=A) hu' (.inl ⟨xs,.of ha'⟩) I f q ru).1
   have z:r6 (.lst ds) e=false:=by cases e<;>first | (cases f;done) | simp only[r6]
   rw[z];exact this
  ·simp only[Rp]at q
   obtain⟨b,ys,rfl,hb,r'⟩:=q
   cases ru
   obtain⟨us,r1,p1,_⟩:=I.list (.of ha')
   obtain⟨ws,r2,p2,_⟩:=I.tuple (.of (sF _ _ hb))
   simp only[r6]
   exact .list_tuple p1.isList p2 hu'
  ·have q0:=q
   simp only[Rp]at q
   obtain⟨b,ys,rfl,hb,r'⟩:=q
   cases ru
   have hb':=sF _ _ hb
   by_cases z:a=b
   ·subst z
    rw[a1Z _ _ _ p0 q0 pd pe]
    exact .same _
   ·obtain⟨us,r1,p1,_⟩:=I.list (.of ha')
    obtain⟨ws,r2,p2,_⟩:=I.list (.of hb')
    simp only[i0]at pd pe
    have he:∀j (h1:j<us.toArray.size) (h2:j<ws.toArray.size),SeqAt.EqAt A.in1 s us.toArray[j] ws.toArray[j] (a3d ds es j):=T7 I sF ds es xs ys us ws A.in1 (by show A.units+1+G9 ds<cLine;omega) r r' r1 r2 pd pe
    have e1:us.toArray.size=ds.length:=by simp[← r1.length,r.length]
    have e2:ws.toArray.size=es.length:=by simp[← r2.length,r'.length]
    simp only[r6]
    by_cases hl:ds.length=es.length
    ·have:=SeqAt.EqAt.of_refs z (SeqAt.RcAt.lists p1.isList p2.isList (by rw[e1,e2,hl]) hu' he)
     rw[e1,N1 hl]at this
     exact this
    ·rw[T6 hl]
     exact SeqAt.EqAt.of_refs z (SeqAt.RcAt.lists_lengths p1.isList p2.isList (by rw[e1,e2];simp[hl]) hu')
 | .non,e,v,u,va,ua,A,hu,p,q,rv,ru,pd,pe=>V1 I sF (by omega) rfl p q rv ru pe
 | .bl _,e,v,u,va,ua,A,hu,p,q,rv,ru,pd,pe=>V1 I sF (by omega) rfl p q rv ru pe
 | .int _,e,v,u,va,ua,A,hu,p,q,rv,ru,pd,pe=>V1 I sF (by omega) rfl p q rv ru pe
 | .str _,e,v,u,va,ua,A,hu,p,q,rv,ru,pd,pe=>V1 I sF (by omega) rfl p q rv ru pe
 | .ty _,e,v,u,va,ua,A,hu,p,q,rv,ru,pd,pe=>by simp[i0,j5]at pd
 | .cls _,e,v,u,va,ua,A,hu,p,q,rv,ru,pd,pe=>by simp[i0,j5]at pd
 | .scr _,e,v,u,va,ua,A,hu,p,q,rv,ru,pd,pe=>by simp[i0,j5]at pd
 | .exc _,e,v,u,va,ua,A,hu,p,q,rv,ru,pd,pe=>by simp[i0,j5]at pd
 | .obj _ _ _,e,v,u,va,ua,A,hu,p,q,rv,ru,pd,pe=>by simp[i0,j5]at pd
theorem T7(I:Inv X pins σ H s)(sF:Same F H):∀(ds es:List D) (xs ys:List V) (us ws:List Value) (A:Around),A.units+G9 ds<cLine→Rps X.K cl F ds xs→Rps X.K cl F es ys→Vals xs us→Vals ys ws→A8 ds=true→A8 es=true→∀j (h1:j<us.toArray.size) (h2:j<ws.toArray.size),SeqAt.EqAt A s us.toArray[j] ws.toArray[j] (a3d ds es j)
 | [],es,xs,ys,us,ws,A,hu,p,q,rv,rw',pd,pe=>fun j h1 h2=>by
  rw[p.inv0]at rv;cases rv;simp at h1
 | d::ds,es,xs,ys,us,ws,A,hu,p,q,rv,rw',pd,pe=>fun j h1 h2=>by
  obtain⟨x,xs',rfl,p1,p2⟩:=p.inv
  cases rv with
  | cons r1 t1 =>
   cases es with
   | nil=>rw[q.inv0]at rw';cases rw';simp at h2
   | cons e es =>
    obtain⟨y,ys',rfl,q1,q2⟩:=q.inv
    cases rw' with
    | cons r2 t2 =>
     simp only[A8,Bool.and_eq_true]at pd pe
     simp only[G9]at hu
     cases j with
     | zero=>exact a9f I sF d e x y _ _ A (by omega) p1 q1 r1 r2 pd.1 pe.1
     | succ j =>
      have:=T7 I sF ds es xs' ys' _ _ A (by omega) p2 q2 t1 t2 pd.2 pe.2 j (by simpa using h1) (by simpa using h2)
      simpa [a3d]using this
end
end
theorem b0J{A:Around}{k:Nat}(hr:Room k A):A.units+41<cLine:=Nat.lt_of_le_of_lt (Nat.add_le_add_left (by decide:41≤64) _) hr.units
def P4 : D→Bool
 | .tup _=>true
 | .lst _=>true
 | _=>false
theorem Rb.toRp{K:W.Frag}{cl:Str→Addr}{F H:Hp}{d:D}{v:V}(s:Same F H)(h:Rb K cl F H d v):∃F',Same F F'∧Same F' H∧Rp K cl F' d v:=by
 rcases h with h | ⟨a,xs,ds,rfl,rfl,ha,r⟩
 ·exact⟨F,Same.refl _,s,h⟩
 ·have g:Same F (upd F a (.lst xs)):=fun b o q=>by
   by_cases z:b=a
   ·subst z;have:=s _ _ q;rw[ha]at this;cases this;exact i5
   ·rw[g7 z];exact q
  refine⟨upd F a (.lst xs),g,fun b o q=>?_,?_⟩
  ·by_cases z:b=a
   ·subst z;rw[i5]at q;cases q;exact ha
   ·rw[g7 z]at q;exact s _ _ q
  ·simp only[Rp];exact⟨a,xs,rfl,i5,r.mono g⟩
section
variable {X:Cx}{cl:Str→Addr}{F:Hp}{pins:List (Addr×Obj)}{σ:St}{H:Hp}{s:Shared}
theorem a0E{a:Addr}{d:D}{v:V}{u:Value}{A:Around}(hu:A.units<cLine)(hl:(∃xs,SqL X.K H a xs)∨∃xs,SqT X.K H a xs)(I:Inv X pins σ H s)(f:j5 d=true)(p:Rp X.K cl F d v)(r:RelV v u) :
  (SeqAt.RcAt A s (.ref a) u false∧SeqAt.RcAt A s u (.ref a) false)∧SeqAt.RcNeAt A s (.ref a) u true∧SeqAt.RcNeAt A s u (.ref a) true:=by
 rcases hl with⟨xs,h⟩ | ⟨xs,h⟩
 ·obtain⟨us,r1,p1,z1⟩:=I.list h
  have q:=p1.isList
  cases d<;>first | (cases f;done) | skip
  all_goals simp only[Rp]at p;subst p
  ·cases r;exact⟨⟨.list_none q hu,.none_list q hu⟩,.list_none q hu,.none_list q hu⟩
  ·cases r;exact⟨⟨.list_bool _ q hu,.bool_list _ q hu⟩,.list_bool _ q hu,.bool_list _ q hu⟩
  ·obtain⟨t,rfl⟩:=r;exact⟨⟨.list_int _ _ q hu,.int_list _ _ q hu⟩,.list_int _ _ q hu,.int_list _ _ q hu⟩
  ·obtain⟨t,rfl⟩:=r;exact⟨⟨.list_str _ _ q hu,.str_list _ _ q hu⟩,.list_str _ _ q hu,.str_list _ _ q hu⟩
 ·obtain⟨us,r1,q,z1⟩:=I.tuple h
  cases d<;>first | (cases f;done) | skip
  all_goals simp only[Rp]at p;subst p
  ·cases r;exact⟨⟨.tuple_none q hu,.none_tuple q hu⟩,.tuple_none q hu,.none_tuple q hu⟩
  ·cases r;exact⟨⟨.tuple_bool _ q hu,.bool_tuple _ q hu⟩,.tuple_bool _ q hu,.bool_tuple _ q hu⟩
  ·obtain⟨t,rfl⟩:=r;exact⟨⟨.tuple_int _ _ q hu,.int_tuple _ _ q hu⟩,.tuple_int _ _ q hu,.int_tuple _ _ q hu⟩
  ·obtain⟨t,rfl⟩:=r;exact⟨⟨.tuple_str _ _ q hu,.str_tuple _ _ q hu⟩,.tuple_str _ _ q hu,.str_tuple _ _ q hu⟩
theorem a4m{d e:D}{v u:V}{a b:Value}{A:Around}(I:Inv X pins σ H s)(sF:Same F H)(hu:A.units+N0 d<cLine)(p:Rp X.K cl F d v)(q:Rp X.K cl F e u)(rv:RelV v a)(ru:RelV u b)(pd:i0 d=true)(pe:i0 e=true)(hs:P4 d=true∨P4 e=true) :
  SeqAt.RcAt A s a b (r6 d e)∧SeqAt.RcNeAt A s a b (!r6 d e):=by
 have hu':A.units<cLine:=by omega
 rcases F7 pd with fd | ⟨ds,rfl⟩ | ⟨ds,rfl⟩
 ·have se:P4 e=true:=hs.resolve_left (by cases d<;>first | (cases fd;done) | simp[P4])
  rcases F7 pe with fe | ⟨es,rfl⟩ | ⟨es,rfl⟩
  ·cases e<;>first | (cases fe;done) | (cases se;done)
  ·simp only[Rp]at q
   obtain⟨c,ys,rfl,hb,r'⟩:=q
   cases ru
   have:=a0E (A:=A) hu' (.inr ⟨ys,.of (sF _ _ hb)⟩) I fd p rv
   have z:r6 d (.tup es)=false:=by cases d<;>first | (cases fd;done) | simp[r6,Q7]
   rw[z];exact⟨this.1.2,this.2.2⟩
  ·simp only[Rp]at q
   obtain⟨c,ys,rfl,hb,r'⟩:=q
   cases ru
   have:=a0E (A:=A) hu' (.inl ⟨ys,.of (sF _ _ hb)⟩) I fd p rv
   have z:r6 d (.lst es)=false:=by cases d<;>first | (cases fd;done) | simp[r6,Q7]
   rw[z];exact⟨this.1.2,this.2.2⟩
 ·simp only[N0]at hu
  simp only[Rp]at p
  obtain⟨l,xs,rfl,ha,r⟩:=p
  cases rv
  have ha':=sF _ _ ha
  obtain⟨us,r1,p1,_⟩:=I.tuple (.of ha')
  rcases F7 pe with fe | ⟨es,rfl⟩ | ⟨es,rfl⟩
  ·have:=a0E (A:=A) hu' (.inr ⟨xs,.of ha'⟩) I fe q ru
   have z:r6 (.tup ds) e=false:=by cases e<;>first | (cases fe;done) | simp only[r6]
   rw[z];exact⟨this.1.1,this.2.1⟩
  ·simp only[Rp]at q
   obtain⟨c,ys,rfl,hb,r'⟩:=q
   cases ru
   obtain⟨ws,r2,p2,_⟩:=I.tuple (.of (sF _ _ hb))
   simp only[i0]at pd pe
   have he:=T7 I sF ds es xs ys us ws A.in1 (by show A.units+1+G9 ds<cLine;omega) r r' r1 r2 pd pe
   have h1:=SeqAt.RcAt.tuples p1 p2 hu' he
   have h2:=SeqAt.RcNeAt.tuples p1 p2 hu' he
   have e1:us.toArray.size=ds.length:=by simp[← r1.length,r.length]
   have e2:ws.toArray.size=es.length:=by simp[← r2.length,r'.length]
   rw[e1,e2]at h1 h2
   simp only[r6]
   by_cases hl:ds.length=es.length
   ·rw[← hl,Nat.min_self,N1 hl,beq_self_eq_true,Bool.and_true]at h1 h2
    exact⟨h1,h2⟩
   ·rw[T6 hl]
    rw[beq_eq_false_iff_ne.mpr hl,Bool.and_false]at h1 h2
    exact⟨h1,h2⟩
  ·simp only[Rp]at q
   obtain⟨c,ys,rfl,hb,r'⟩:=q
   cases ru
   obtain⟨ws,r2,p2,_⟩:=I.list (.of (sF _ _ hb))
   simp only[r6]
   exact⟨.tuple_list p1 p2.isList hu',.tuple_list p1 p2.isList hu'⟩
 ·simp only[N0]at hu
  simp only[Rp]at p
  obtain⟨l,xs,rfl,ha,r⟩:=p
  cases rv
  have ha':=sF _ _ ha
  obtain⟨us,r1,p1,_⟩:=I.list (.of ha')
  rcases F7 pe with fe | ⟨es,rfl⟩ | ⟨es,rfl⟩
  ·have:=a0E (A:=A) hu' (.inl ⟨xs,.of ha'⟩) I fe q ru
   have z:r6 (.lst ds) e=false:=by cases e<;>first | (cases fe;done) | simp only[r6]
   rw[z];exact⟨this.1.1,this.2.1⟩
  ·simp only[Rp]at q
   obtain⟨c,ys,rfl,hb,r'⟩:=q
   cases ru
   obtain⟨ws,r2,p2,_⟩:=I.tuple (.of (sF _ _ hb))
   simp only[r6]
   exact⟨.list_tuple p1.isList p2 hu',.list_tuple p1.isList p2 hu'⟩
  ·simp only[Rp]at q
   obtain⟨c,ys,rfl,hb,r'⟩:=q
   cases ru
   obtain⟨ws,r2,p2,_⟩:=I.list (.of (sF _ _ hb))
   simp only[i0]at pd pe
   have he:=T7 I sF ds es xs ys us ws A.in1 (by show A.units+1+G9 ds<cLine;omega) r r' r1 r2 pd pe
   have e1:us.toArray.size=ds.length:=by simp[← r1.length,r.length]
   have e2:ws.toArray.size=es.length:=by simp[← r2.length,r'.length]
   simp only[r6]
   by_cases hl:ds.length=es.length
   ·have h1:=SeqAt.RcAt.lists p1.isList p2.isList (by rw[e1,e2,hl]) hu' he
    have h2:=SeqAt.RcNeAt.lists p1.isList p2.isList (by rw[e1,e2,hl]) hu' he
    rw[e1,N1 hl]at h1 h2
    exact⟨h1,h2⟩
   ·rw[T6 hl]
    exact⟨SeqAt.RcAt.lists_lengths p1.isList p2.isList (by rw[e1,e2];simp[hl]) hu',SeqAt.RcNeAt.lists_lengths p1.isList p2.isList (by rw[e1,e2];simp[hl]) hu'⟩
end
def a7b(K:W.Frag)(cl:Str→Addr)(neg:Bool):R2:=fun x y H Q=>∃F d e,Same F H∧Rp K cl F d x∧Rp K cl F e y∧i0 d=true∧i0 e=true∧N0 d≤40∧(P4 d=true∨P4 e=true)∧Q (.bl (if neg then !r6 d e else r6 d e)) H
theorem a9g{X:Cx}{K:W.Frag}{cl:Str→Addr}(hu:X.A.units+41<cLine)(hK:X.K=K:=by rfl):J2 X (compareOp .Eq) (a7b K cl false):=by
 subst hK
 intro pins s σ H x y v u Q I rx ry h
 obtain⟨F,d,e,sF,p,q,pd,pe,hd,hs,hQ⟩:=h
 exact(a4m I sF (by omega) p q rx ry pd pe hs).1 X.prog X.w _ _ ⟨.bl _,H,I,rfl,hQ⟩
theorem a9h{X:Cx}{K:W.Frag}{cl:Str→Addr}(hu:X.A.units+41<cLine)(hK:X.K=K:=by rfl):J2 X (compareOp .NotEq) (a7b K cl true):=by
 subst hK
 intro pins s σ H x y v u Q I rx ry h
 obtain⟨F,d,e,sF,p,q,pd,pe,hd,hs,hQ⟩:=h
 exact(a4m I sF (by omega) p q rx ry pd pe hs).2 X.prog X.w _ _ ⟨.bl _,H,I,rfl,hQ⟩
def W2(neg:Bool)(d e:D):Option D:=if(i0 d && i0 e && decide (N0 d≤40) && (P4 d || P4 e))=true then some (.bl (if neg then !r6 d e else r6 d e))else none
theorem a57{K:W.Frag}{cl:Str→Addr}{neg:Bool}:OpOk K cl (a7b K cl neg) (W2 neg):=by
 intro x y d e z H F Q s hx hy h q
 unfold W2 at h
 split at h
 ·rename_i c;cases h
  simp only[Bool.and_eq_true,Bool.or_eq_true,decide_eq_true_eq]at c
  obtain⟨F1,g1,s1,p1⟩:=hx.toRp s
  have hy1:Rb K cl F1 H e y:=by
   rcases hy with hy | ⟨a,xs,ds,e1,e2,ha,r⟩
   ·exact .inl (hy.mono g1)
   ·exact .inr ⟨a,xs,ds,e1,e2,ha,r.mono g1⟩
  obtain⟨F2,g2,s2,p2⟩:=hy1.toRp s1
  exact⟨F2,d,e,s2,p1.mono g2,p2,c.1.1.1,c.1.1.2,c.1.2,c.2,q _ H F (.refl s) (by simp only[Rp])⟩
 ·cases h
mutual
theorem a3e:∀(d:D),i0 d=true→r6 d d=true
 | .tup ds,h=>by simp only[i0]at h;simp only[r6];exact a0o ds h
 | .lst ds,h=>by simp only[i0]at h;simp only[r6];exact a0o ds h
 | .non,_=>by simp[r6,Q7]
 | .bl _,_=>by simp[r6,Q7]
 | .int _,_=>by simp[r6,Q7]
 | .str _,_=>by simp[r6,Q7]
 | .ty _,h=>by simp[i0,j5]at h
 | .cls _,h=>by simp[i0,j5]at h
 | .scr _,h=>by simp[i0,j5]at h
 | .exc _,h=>by simp[i0,j5]at h
 | .obj _ _ _,h=>by simp[i0,j5]at h
theorem a0o:∀(ds:List D),A8 ds=true→G8 ds ds=true
 | [],_=>by simp[G8]
 | d::ds,h=>by
  simp only[A8,Bool.and_eq_true]at h
  simp only[G8]
  rw[a3e d h.1,a0o ds h.2];rfl
end
theorem a58{d:D}(neg:Bool)(h1:i0 d=true)(h2:N0 d≤40)(h3:P4 d=true):W2 neg d d=some (.bl (!neg)):=by
 unfold W2
 rw[if_pos (by simp[h1,h2,h3]),a3e d h1]
 cases neg<;>rfl
theorem a3L{α:Type}{f:α→D}{l:List α}(h:∀a∈l,i0 (f a)=true):A8 (l.map f)=true:=by
 induction l with
 | nil=>rfl
 | cons a l ih =>
  simp only[List.map_cons,A8,Bool.and_eq_true]
  exact⟨h a List.mem_cons_self,ih fun b hb=>h b (List.mem_cons_of_mem _ hb)⟩
theorem a59{α:Type}{f:α→D}{l:List α}{n:Nat}(h:∀a∈l,N0 (f a)≤n):G9 (l.map f)≤n:=by
 induction l with
 | nil=>simp[G9]
 | cons a l ih =>
  simp only[List.map_cons,G9]
  have:=h a List.mem_cons_self
  have:=ih fun b hb=>h b (List.mem_cons_of_mem _ hb)
  omega
section
variable {K:W.Frag}{cl:Str→Addr}{E:XK}{σ:St}{H F:Hp}{env:DE}{k:Nat}
def b1K(K:W.Frag)(cl:Str→Addr)(E:XK)(a:Addr)(t:TS)(f:SF):Prop:=∀(N:Ends) σ H env F,Rel K cl σ H F env→(∃cls,F a=some (a4F a cls none))→Cs K cl E (f env) σ H F env N→t N σ H
theorem RfS.x{a:Addr}{t:TS}{f:SF}(h:RfS K cl E t f):b1K K cl E a t f:=fun N σ H env F R _ c=>h N σ H env F R c
end
def a0p:Sl→Sl
 | .ow ds=>.fz (.lst ds)
 | .hd ds=>.fz (.lst ds)
 | s=>s
def N2:DE→DE
 | []=>[]
 | s::e=>a0p s::N2 e
mutual
def noL:D→Bool
 | .lst _=>false
 | .scr _=>false
 | .exc _=>false
 | .obj _ _ _=>false
 | .tup ds=>noLs ds
 | _=>true
def noLs:List D→Bool
 | []=>true
 | d::ds=>noL d && noLs ds
end
def D9(σ:St)(env:DE)(b:Addr):Prop:=∃j,Mu env j∧σ[j]? = some (some (.ref b))
theorem a10:∀(e:DE),N2 e=e.map a0p
 | []=>rfl
 | s::e=>by rw[N2,a10 e];rfl
section
variable {K:W.Frag}{cl:Str→Addr}{E:XK}{σ:St}{H F F1 H' F' F2:Hp}{env:DE}
mutual
theorem Rp.noL(g:∀b o,F' b=some o→(∀xs,o≠.lst xs)→F2 b=some o):∀(d:D) (v:V),L2.noL d=true→Rp K cl F' d v→Rp K cl F2 d v
 | .non,_,_,h=>by simpa only[Rp]using h
 | .bl _,_,_,h=>by simpa only[Rp]using h
 | .int _,_,_,h=>by simpa only[Rp]using h
 | .str _,_,_,h=>by simpa only[Rp]using h
 | .ty _,_,_,h=>by simpa only[Rp]using h
 | .cls _,_,_,h=>by simpa only[Rp]using h
 | .tup ds,v,n,h=>by
  simp only[Rp]at h ⊢
  obtain⟨a,xs,e,h1,h2⟩:=h
  exact⟨a,xs,e,g _ _ h1 (fun _ z=>nomatch z),Rps.noL g ds xs (by simpa only[L2.noL]using n) h2⟩
 | .lst ds,v,n,h=>by simp[L2.noL]at n
 | .scr ns,v,n,h=>by simp[L2.noL]at n
 | .exc c,v,n,h=>by simp[L2.noL]at n
 | .obj _ _ _,v,n,h=>by simp[L2.noL]at n
theorem Rps.noL(g:∀b o,F' b=some o→(∀xs,o≠.lst xs)→F2 b=some o):∀(ds:List D) (vs:List V),L2.noLs ds=true→Rps K cl F' ds vs→Rps K cl F2 ds vs
 | [],_,_,h=>by simpa only[Rps]using h
 | d::ds,vs,n,h=>by
  simp only[Rps]at h ⊢
  simp only[L2.noLs,Bool.and_eq_true]at n
  obtain⟨v,r,e,h1,h2⟩:=h
  exact⟨v,r,e,Rp.noL g d v n.1 h1,Rps.noL g ds r n.2 h2⟩
end
theorem a11{j:Nat}{s:Sl}(h:(N2 env)[j]? = some s):∃s0,env[j]? = some s0∧s=a0p s0:=by
 rw[a10,List.getElem?_map]at h
 cases q:env[j]? with
 | none=>rw[q]at h;cases h
 | some s0=>rw[q]at h;exact⟨s0,rfl,(Option.some.inj h).symm⟩
theorem a3f{j:Nat}:¬Mu (N2 env) j:=fun⟨ds,q⟩=>by
 rcases q with q | q
 ·obtain⟨s0,_,e⟩:=a11 q;cases s0<;>cases e
 ·obtain⟨s0,_,e⟩:=a11 q;cases s0<;>cases e
theorem a9i(R:Rel K cl σ H F env):∃F1,Rel K cl σ H F1 (N2 env)∧(∀b,D9 σ env b→∃xs,F1 b=some (.lst xs)∧H b=some (.lst xs))∧∀b,¬D9 σ env b→F1 b=F b:=by
 classical
 have hF:∀b,D9 σ env b→F b=none∧∃xs,H b=some (.lst xs):=fun b ⟨j,⟨ds,q⟩,e⟩=>by
  obtain⟨a,xs,e1,h1,f1,_⟩:=R.mu j ds q
  rw[e]at e1;cases e1
  exact⟨f1,xs,h1⟩
 have sF:Same F (fun b=>if D9 σ env b then H b else F b):=fun b o q=>by
  show(if D9 σ env b then H b else F b)=some o
  rw[if_neg (fun w=>by rw[(hF b w).1]at q;cases q)];exact q
 refine⟨fun b=>if D9 σ env b then H b else F b,⟨fun b o q=>?_,by rw[a10,List.length_map];exact R.len,fun i d q=>?_,fun i ds q=>absurd ⟨ds,q⟩ a3f,fun i j a hi=>absurd hi a3f⟩,fun b w=>?_,fun b w=>if_neg w⟩
 ·try dsimp only at q
  split at q
  ·exact q
  ·exact R.sub _ _ q
 ·obtain⟨s0,e0,e1⟩:=a11 q
  cases s0 with
  | no=>cases e1
  | fz d'=>cases e1;obtain⟨v,e2,r⟩:=R.fz i _ e0;exact⟨v,e2,r.mono sF⟩
  | ow ds =>
   cases e1
   obtain⟨a,xs,e2,h2,f2,r⟩:=R.mu i ds (.inl e0)
   refine⟨_,e2,?_⟩
   simp only[Rp]
   refine⟨a,xs,rfl,?_,r.mono sF⟩
   rw[if_pos ⟨i,⟨ds,.inl e0⟩,e2⟩];exact h2
  | hd ds =>
   cases e1
   obtain⟨a,xs,e2,h2,f2,r⟩:=R.mu i ds (.inr e0)
   refine⟨_,e2,?_⟩
   simp only[Rp]
   refine⟨a,xs,rfl,?_,r.mono sF⟩
   rw[if_pos ⟨i,⟨ds,.inr e0⟩,e2⟩];exact h2
 ·obtain⟨xs,h⟩:=(hF b w).2
  exact⟨xs,by(try dsimp only);rw[if_pos w];exact h,h⟩
theorem a3g(R:Rel K cl σ H F env)(o1:∀b,D9 σ env b→∃xs,F1 b=some (.lst xs)∧H b=some (.lst xs))(o2:∀b,¬D9 σ env b→F1 b=F b)(x:FX σ H F1 (N2 env) H' F') :
  ∃F2,Frm σ H F env σ H' F2 env∧Rel K cl σ H' F2 env∧(∀b o,F' b=some o→(∀xs,o≠.lst xs)→F2 b=some o)∧∀b,F' b=none→F2 b=none:=by
 classical
 have nw:∀b,¬Ow σ (N2 env) b:=fun b ⟨j,ds,q,_⟩=>a3f ⟨ds,.inl q⟩
 have hF:∀b,D9 σ env b→F b=none:=fun b ⟨j,⟨ds,q⟩,e⟩=>by
  obtain⟨a,xs,e1,h1,f1,_⟩:=R.mu j ds q
  rw[e]at e1;cases e1
  exact f1
 have sF:Same F (fun b=>if D9 σ env b then none else F' b):=fun b o q=>by
  have w:¬D9 σ env b:=fun w=>by rw[hF b w]at q;cases q
  show(if D9 σ env b then none else F' b)=some o
  rw[if_neg w]
  exact x.fz _ _ (by rw[o2 b w];exact q)
 have kept:∀b xs,D9 σ env b→H b=some (.lst xs)→H' b=some (.lst xs):=fun b xs w h=>by
  obtain⟨ys,f,h2⟩:=o1 b w
  rw[h]at h2;cases h2
  exact x.sub _ _ (x.fz _ _ f)
 refine⟨fun b=>if D9 σ env b then none else F' b,⟨sF,fun b o hb fb w=>?_,fun _ _ h=>⟨h,rfl⟩,x.dom⟩,⟨fun b o q=>?_,R.len,fun i d q=>?_,fun i ds q=>?_,R.inj⟩,fun b o q nl=>?_,fun b q=>?_⟩
 ·by_cases ww:D9 σ env b
  ·obtain⟨ys,f,h2⟩:=o1 b ww
   refine⟨by rw[hb]at h2;cases h2;exact kept b ys ww hb,by(try dsimp only);rw[if_pos ww],w⟩
  ·obtain⟨h1,f1⟩:=x.hid b o hb (by rw[o2 b ww];exact fb) (nw b)
   exact⟨h1,by(try dsimp only);rw[if_neg ww];exact f1,w⟩
 ·try dsimp only at q
  split at q
  ·cases q
  ·exact x.sub _ _ q
 ·obtain⟨v,e,r⟩:=R.fz i d q;exact⟨v,e,r.mono sF⟩
 ·obtain⟨a,xs,e,h1,f1,r⟩:=R.mu i ds q
  have w:D9 σ env a:=⟨i,⟨ds,q⟩,e⟩
  exact⟨a,xs,e,kept a xs w h1,by(try dsimp only);rw[if_pos w],r.mono sF⟩
 ·dsimp only
  rw[if_neg (fun w=>by obtain⟨ys,f,_⟩:=o1 b w;rw[x.fz _ _ f]at q;cases q;exact nl _ rfl)];exact q
 ·dsimp only
  split
  ·rfl
  ·exact q
def a1D(f:ZF):ZF:=fun e=>match f (N2 e)with
 | some (.ok d _)=>if noL d=true then some (.ok d e)else none
 | some (.ex c)=>some (.ex c)
 | none=>none
def b1g(f:BF):BF:=fun e=>match f (N2 e)with
 | some (.ok d _)=>some (.ok d e)
 | some (.ex c)=>some (.ex c)
 | none=>none
theorem a7c{t:TE}{f:ZF}(hf:t7 K cl E t f):t7 K cl E t (a1D f):=by
 intro σ H Q env F R h
 obtain⟨F1,R1,o1,o2⟩:=a9i R
 refine hf σ H Q (N2 env) F1 R1 ?_
 unfold a1D at h
 split at h
 ·rename_i d e2 q
  rw[q]
  intro b H' F' fr R' p
  split at h
  ·rename_i n
   obtain⟨F2,fr2,R2,g,_⟩:=a3g R o1 o2 (fr.toFX R'.sub)
   exact h b H' F2 fr2 R2 (Rp.noL g d b n p)
  ·exact h.elim
 ·rename_i c q
  rw[q]
  intro H' F' x
  obtain⟨F2,fr2,R2,_⟩:=a3g R o1 o2 x
  exact h H' F2 (fr2.toFX R2.sub)
 ·exact h.elim
def bLd(r:Option (R Bool))(e:DE):Option (R Bool):=match r with
 | some (.ok d _)=>some (.ok d e)
 | some (.ex c)=>some (.ex c)
 | none=>none
def zLd(r:Option (R D))(e:DE):Option (R D):=match r with
 | some (.ok d _)=>if noL d=true then some (.ok d e)else none
 | some (.ex c)=>some (.ex c)
 | none=>none
theorem a7d(f:BF)(e:DE):b1g f e=bLd (f (N2 e)) e:=rfl
theorem a7e(f:ZF)(e:DE):a1D f e=zLd (f (N2 e)) e:=rfl
theorem b0M(d:Bool)(e e2:DE):bLd (some (.ok d e2)) e=some (.ok d e):=rfl
theorem b0N(c:Str)(e:DE):bLd (some (.ex c)) e=some (.ex c):=rfl
theorem b0O(d:D)(e e2:DE):zLd (some (.ok d e2)) e=if noL d=true then some (.ok d e)else none:=rfl
theorem b0P(c:Str)(e:DE):zLd (some (.ex c)) e=some (.ex c):=rfl
variable {k:Nat}
end
def un:Option D→Sl
 | none=>.no
 | some d=>.fz d
def V2:Sl→Bool
 | .hd _=>false
 | _=>true
def okS:Option Sl→Bool
 | none=>false
 | some s=>V2 s
theorem a7f(o:Option D):V2 (un o)=true:=by cases o<;>rfl
theorem a7g:V2 .no=true:=rfl
theorem a7h(d:D):V2 (.fz d)=true:=rfl
theorem a7i(d:List D):V2 (.ow d)=true:=rfl
theorem a7j(d:List D):V2 (.hd d)=false:=rfl
theorem a7k(s:Sl):okS (some s)=V2 s:=rfl
theorem a7l:okS none=false:=rfl
theorem a9j:a0p .no=.no:=rfl
theorem a9k(d:D):a0p (.fz d)=.fz d:=rfl
theorem a9l(d:List D):a0p (.ow d)=.fz (.lst d):=rfl
theorem a9m(d:List D):a0p (.hd d)=.fz (.lst d):=rfl
theorem b0Q(i:Nat)(s:Sl)(e:DE):put i s e=if okS e[i]? = true then some (.nx (e.set i s))else none:=by
 unfold put okS
 cases e[i]? with
 | none=>rfl
 | some t=>cases t<;>rfl
theorem a7m(i:Nat)(d:D)(e:DE):g9 i d e=if okS e[i]? = true then some (e.set i (.fz d))else none:=by
 unfold g9 okS
 cases e[i]? with
 | none=>rfl
 | some t=>cases t<;>rfl
theorem a9n(o:Option D):a0p (un o)=un o:=by cases o<;>rfl
theorem a7n:a1U []=true:=rfl
theorem a5_(s:Sl)(e:DE):a1U (s::e)=(V2 s && a1U e):=by cases s<;>rfl
def A1(r:Option RS):Option RS:=match r with
 | some (.ct e)=>some (.nx e)
 | r=>r
theorem a9o(e:DE):A1 (some (.nx e))=some (.nx e):=rfl
theorem a9p(e:DE):A1 (some (.ct e))=some (.nx e):=rfl
theorem a9q(d:D):A1 (some (.rt d))=some (.rt d):=rfl
theorem a9r(c:Str):A1 (some (.ex c))=some (.ex c):=rfl
theorem a9s(d:List (List D)):A1 (some (.rz d))=some (.rz d):=rfl
theorem a9t(d:List D):A1 (some (.ro d))=some (.ro d):=rfl
theorem a6a{r:Option RS}{k:SF}:W1 r k=W1 (A1 r) k:=by
 cases r with
 | none=>rfl
 | some r=>cases r<;>rfl
theorem a3h{α:Type}{b:GF}{body:SF}(f:α→D)(I:List α→DE→Prop)(l0:List α):∀(l pre:List α) (e:DE),l0=pre++l→I pre e→(∀pre x post e,l0=pre++x::post→I pre e→∃e2,A1 (a4Y (b (f x) e) body)=some (.nx e2)∧I (pre++[x]) e2)→∃e',x4 b body (l.map f) e=some (.nx e')∧I l0 e'
 | [],pre,e,hl,h,_=>⟨e,rfl,by rw[hl,List.append_nil];exact h⟩
 | x::l,pre,e,hl,h,hs=>by
  obtain⟨e2,h2,h3⟩:=hs pre x l e hl h
  obtain⟨e',h4,h5⟩:=a3h f I l0 l (pre++[x]) e2 (by rw[hl,List.append_assoc];rfl) h3 hs
  refine⟨e',?_,h5⟩
  rw[List.map_cons,U9]
  cases q:b (f x) e with
  | none=>rw[q]at h2;cases h2
  | some e1 =>
   rw[q]at h2
   have h2:A1 (body e1)=some (.nx e2):=h2
   rw[B8,a6a,h2];exact h4
theorem S5{α:Type}{b:GF}{body:SF}(f:α→D)(I:List α→DE→Prop)(l:List α)(e:DE)(h:I [] e)(hs:∀pre x post e,l=pre++x::post→I pre e→∃e2,A1 (a4Y (b (f x) e) body)=some (.nx e2)∧I (pre++[x]) e2):∃e',x4 b body (l.map f) e=some (.nx e')∧I l e' :=
 a3h f I l l [] e rfl h hs
theorem O1{α:Type}{b:GF}{c:BF}{el:ZF}{ec eo:DE}(f:α→D)(g:α→D)(q:α→Bool):∀(l:List α) (acc:List D),acc.length+l.length≤sizeLine→(∀x∈l,∃e1 e2,b (f x) ec=some e1∧c e1=some (.ok (q x) e2)∧(q x=true→∃e3,el e2=some (.ok (g x) e3)))→t5 b c el ec eo (l.map f) acc=some (.ok (acc++(l.filter q).map g) eo)
 | [],acc,_,_=>by simp only[List.filter_nil,List.map_nil,List.append_nil];rfl
 | x::l,acc,hl,h=>by
  obtain⟨e1,e2,h1,h2,h3⟩:=h x List.mem_cons_self
  have hl':acc.length<sizeLine:=by rw[List.length_cons]at hl;omega
  rw[List.map_cons,a1A,h1,a2l,h2,W5]
  by_cases z:q x=true
  ·obtain⟨e3,h4⟩:=h3 z
   rw[if_pos z,h4,W5,if_pos hl',O1 f g q l (acc++[g x]) (by rw[List.length_append,List.length_cons,List.length_nil];rw[List.length_cons]at hl;omega) (fun y m=>h y (List.mem_cons_of_mem _ m)),List.filter_cons_of_pos z,List.map_cons,List.append_assoc];rfl
  ·rw[if_neg z,O1 f g q l acc (by rw[List.length_cons]at hl;omega) (fun y m=>h y (List.mem_cons_of_mem _ m)),List.filter_cons_of_neg z]
theorem a9u{ds:List D}{v u:Int}(h:0≤v)(h2:v≤u):a1Y ds (some v) (some u)=(ds.drop v.toNat).take (u-v).toNat:=by
 unfold a1Y
 obtain⟨n,rfl⟩:=Int.eq_ofNat_of_zero_le h
 obtain⟨m,rfl⟩:=Int.eq_ofNat_of_zero_le (Int.le_trans h h2)
 rw[HT.sIx_nat,HT.sIx_nat,Int.toNat_natCast]
 have e:((m:Int)-(n:Int)).toNat=m-n:=by omega
 rw[e]
 by_cases z:n≤ds.length
 ·rw[Nat.min_eq_left z]
  by_cases y:m≤ds.length
  ·rw[Nat.min_eq_left y]
  ·rw[Nat.min_eq_right (by omega),List.take_of_length_le (by rw[List.length_drop];exact Nat.le_refl _),List.take_of_length_le (by rw[List.length_drop];omega)]
 ·rw[List.drop_of_length_le (show ds.length≤min n ds.length by omega),List.drop_of_length_le (by omega),List.take_nil,List.take_nil]
theorem a0F{n k:Nat}(h:k<n):M8 n (k:Int)=some k:=by
 unfold M8;rw[if_pos (by omega),if_pos (by omega),Int.toNat_natCast]
section
variable {K:W.Frag}{cl:Str→Addr}{E:XK}
theorem a2m:∀{F:Hp} {ds:List D} {vs:List V} (n:Nat),Rps K cl F ds vs→Rps K cl F (ds.eraseIdx n) (vs.eraseIdx n)
 | F,[],vs,n,h=>by rw[h.inv0];exact .nil
 | F,d::ds,vs,0,h=>by obtain⟨v,r,rfl,h1,h2⟩:=h.inv;exact h2
 | F,d::ds,vs,n+1,h=>by obtain⟨v,r,rfl,h1,h2⟩:=h.inv;exact .cons h1 (a2m n h2)
end
open Classical in
section
variable {K:W.Frag}{cl:Str→Addr}{E:XK}
theorem a3i:∀a b:List Int,HT.lexLt a b=false→HT.lexLt b a=false→a=b
 | [],[],_,_=>rfl
 | [],_::_,h,_=>by cases h
 | _::_,[],_,h=>by cases h
 | x::xs,y::ys,h1,h2=>by
  rw[HT.lexLt_cons]at h1 h2
  by_cases e:x=y
  ·subst e
   rw[if_pos rfl]at h1 h2
   rw[a3i xs ys h1 h2]
  ·rw[if_neg e]at h1
   rw[if_neg (Ne.symm e)]at h2
   have:=of_decide_eq_false h1
   have:=of_decide_eq_false h2
   exact absurd (show x=y by omega) e
theorem a3j{F:Hp}{ds:List D}{xs:List V}(r:Rps K cl F ds xs):∀(p:List Nat),(∀i∈p,i<ds.length)→Rps K cl F (p.map fun i=>ds.getD i .non) (p.map fun i=>xs.getD i .non)
 | [],_=>.nil
 | i::p,h=>by
  have hi:=h i (by simp)
  obtain⟨v,e,pv⟩:=r.get (List.getElem?_eq_getElem hi)
  refine .cons ?_ (a3j r p fun j hj=>h j (by simp[hj]))
  show Rp K cl F (ds.getD i .non) (xs.getD i .non)
  have e1:ds.getD i .non=ds[i]:=by simp[hi]
  have e2:xs.getD i .non=v:=by simp[e]
  rw[e1,e2];exact pv
end
section
variable {K:W.Frag}{cl:Str→Addr}{E:XK}{σ:St}{H F:Hp}{env:DE}
abbrev HF:=Str→SF
def hN:HF:=fun _ _=>none
end
section
variable {K:W.Frag}{cl:Str→Addr}{E:XK}{σ:St}{H F:Hp}{env:DE}
theorem Rps.lookup{f:Str}:∀{ns:List Str} {ds:List D} {xs:List V} {z:D},Rps K cl F ds xs→(ns.zip ds).lookup f=some z→∃v,(ns.zip xs).lookup f=some v∧Rp K cl F z v
 | [],ds,xs,z,_,h=>by simp at h
 | n::ns,[],xs,z,r,h=>by simp at h
 | n::ns,d::ds,xs,z,r,h=>by
  obtain⟨v,ys,rfl,p,r'⟩:=r.inv
  rw[List.zip_cons_cons,List.lookup_cons]at h ⊢
  by_cases q:(f == n)=true
  ·rw[q]at h ⊢;cases h;exact⟨v,rfl,p⟩
  ·rw[Bool.not_eq_true _ |>.mp q]at h ⊢;exact r'.lookup h
end
structure GrM(a:Addr)(H F H' F':Hp):Prop where
 fz:Same F F'
 sub:Same F' H'
 hid:∀b o,b≠a→H b=some o→F b=none→H' b=some o∧F' b=none
 dom:∀b,H' b=none→H b=none
structure Bs(a:Addr)(σ:St)(env:DE)(H0 F0 H F:Hp):Prop where
 fz:Same F0 F
 hid:∀b o,b≠a→H0 b=some o→F0 b=none→H b=some o∧F b=none∧¬Ow σ env b
 dom:∀b,H b=none→H0 b=none
section
variable {K:W.Frag}{cl:Str→Addr}{E:XK}{σ:St}{H F:Hp}{env:DE}
theorem Bs.frm{a:Addr}{ds:List D}{σ':St}{env':DE}{H0 F0 H' F':Hp}(B:Bs a σ env H0 F0 H F)(f:Frm σ H F env σ' H' F' env'):Bs a σ' env' H0 F0 H' F' :=
 ⟨B.fz.trans f.fz,fun b o n h g=>by obtain⟨h1,f1,w1⟩:=B.hid b o n h g;exact f.hid b o h1 f1 w1,fun b h=>B.dom b (f.dom b h)⟩
theorem Bs.gr{a:Addr}{H0 F0:Hp}(B:Bs a σ env H0 F0 H F)(s:Same F H):GrM a H0 F0 H F :=
 ⟨B.fz,s,fun b o n h g=>by obtain⟨h1,f1,_⟩:=B.hid b o n h g;exact⟨h1,f1⟩,B.dom⟩
end
abbrev Q8:=List Int×List D
def a12(k:Q8):List Q8→List Q8
 | []=>[k]
 | l::r=>if HT.lexLt l.1 k.1 then l::a12 k r else k::l::r
def Y8:List Q8→List Q8
 | []=>[]
 | k::r=>a12 k (Y8 r)
theorem a0q(k:Q8):∀r:List Q8,(a12 k r).Perm (k::r)
 | []=>.refl _
 | l::r=>by
  unfold a12
  split
  ·exact((a0q k r).cons l).trans (List.Perm.swap k l r)
  ·exact .refl _
theorem Y9:∀r:List Q8,(Y8 r).Perm r
 | []=>.refl _
 | k::r=>(a0q k _).trans ((Y9 r).cons k)
theorem a0R(k:Q8):∀r:List Q8,r.Pairwise (fun a b=>HT.lexLt b.1 a.1=false)→(a12 k r).Pairwise (fun a b=>HT.lexLt b.1 a.1=false)
 | [],_=>List.pairwise_singleton _ _
 | l::r,h=>by
  rw[List.pairwise_cons]at h
  unfold a12
  split
  ·rename_i c
   rw[List.pairwise_cons]
   refine⟨fun b hb=>?_,a0R k r h.2⟩
   rcases List.mem_cons.mp ((a0q k r).mem_iff.mp hb)with rfl | hb
   ·exact a1R _ _ c
   ·exact h.1 b hb
  ·rename_i c
   rw[Bool.not_eq_true]at c
   rw[List.pairwise_cons]
   refine⟨fun b hb=>?_,by rw[List.pairwise_cons];exact h⟩
   rcases List.mem_cons.mp hb with rfl | hb
   ·exact c
   ·exact a2Y _ _ _ c (h.1 b hb)
theorem a0r:∀r:List Q8,(Y8 r).Pairwise (fun a b=>HT.lexLt b.1 a.1=false)
 | []=>.nil
 | k::r=>a0R k _ (a0r r)
theorem W7:∀{a b:List Q8},a.Perm b→a.Pairwise (fun a b=>HT.lexLt b.1 a.1=false)→b.Pairwise (fun a b=>HT.lexLt b.1 a.1=false)→a.Pairwise (fun a b=>a.1≠b.1)→a=b
 | [],b,h,_,_,_=>h.symm.eq_nil.symm▸rfl
 | x::a,[],h,_,_,_=>absurd h.eq_nil nofun
 | x::a,y::b,h,ha,hb,hd=>by
  rw[List.pairwise_cons]at ha hb hd
  have e:x=y:=by
   have mx:x∈y::b:=h.mem_iff.mp (by simp)
   have my:y∈x::a:=h.mem_iff.mpr (by simp)
   rcases List.mem_cons.mp mx with e | mx
   ·exact e
   ·rcases List.mem_cons.mp my with e | my
    ·exact e.symm
    ·exact absurd (a3i _ _ (hb.1 x mx) (ha.1 y my)) (hd.1 y my)
  subst e
  rw[W7 ((List.perm_cons x).mp h) ha.2 hb.2 hd.2]
section
variable {K:W.Frag}{cl:Str→Addr}{E:XK}
theorem a7o{F' H':Hp}{nw:Addr→Prop}{d1 d2 d3:List D}{a1 a2 a3:Addr}{xs1 xs2 xs3:List V}(n:a1≠a2)(n':a1≠a3)(n'':a2≠a3)(h1:H' a1=some (.lst xs1))(f1:F' a1=none)(n1:nw a1)(r1:Rps K cl F' d1 xs1)(h2:H' a2=some (.lst xs2))(f2:F' a2=none)(n2:nw a2)(r2:Rps K cl F' d2 xs2)(h3:H' a3=some (.lst xs3))(f3:F' a3=none)(n3:nw a3)(r3:Rps K cl F' d3 xs3):Rz K cl F' H' nw [d1,d2,d3] [a1,a2,a3]:=by
 refine⟨by simp[n,n',n''],rfl,fun k a ds e1 e2=>?_⟩
 match k with
 | 0=>cases e1;cases e2;exact⟨xs1,h1,f1,n1,r1⟩
 | 1=>cases e1;cases e2;exact⟨xs2,h2,f2,n2,r2⟩
 | 2=>cases e1;cases e2;exact⟨xs3,h3,f3,n3,r3⟩
 | k+3=>simp at e1
def a1E(i j k:Nat)(g:List D→Option R1)(f:AF):SF:=fun e=>M9 (f e) fun ds e1=>match g ds with
 | some (.owz [d1,d2,d3])=>if i=j∨i=k∨j=k then none else(match e1[i]?,e1[j]?,e1[k]? with
  | some .no,some .no,some .no=>some (.nx (((e1.set i (.ow d1)).set j (.ow d2)).set k (.ow d3)))
  | _,_,_=>none)
 | _=>none
theorem a7p{i j k:Nat}{g:List D→Option R1}{t:TA}{f:AF}{E':XK}(hf:RfA K cl E t f):RfS K cl E (Z8 (a0w (i4 K cl g) [] E' t) (a4w K 3 (a1c (Q9 i) (a1c (Q9 j) (a1c (Q9 k) a6B))))) (a1E i j k g f):=by
 intro N σ H env F R h
 refine hf σ H _ env F R ((Cs.bnd h).mono fun vs H1 ⟨F1,e1,ds,fr,R1,p1,h1⟩=>?_)
 show i4 K cl g (vs++[]) H1 _ E'
 rw[List.append_nil]
 refine⟨ds,F1,R1.sub,p1,?_⟩
 split at h1
 ·rename_i d1 d2 d3 q;rw[q]
  intro p as H' F' gr hp ht fp rz
  split at h1
  ·exact h1.elim
  ·rename_i nij
   have nij1:i≠j:=fun z=>nij (.inl z)
   have nij2:i≠k:=fun z=>nij (.inr (.inl z))
   have nij3:j≠k:=fun z=>nij (.inr (.inr z))
   split at h1
   ·rename_i qi qj qk
    obtain⟨nd,hl,hz⟩:=rz
    match as,hl with
    | [a1,a2,a3],_ =>
     have n12:a1≠a2:=by intro z;rw[z]at nd;simp at nd
     have n13:a1≠a3:=by intro z;rw[z]at nd;simp at nd
     have n23:a2≠a3:=by intro z;rw[z]at nd;simp at nd
     obtain⟨xs1,hH1,hF1,w1,r1⟩:=hz 0 a1 d1 rfl rfl
     obtain⟨xs2,hH2,hF2,w2,r2⟩:=hz 1 a2 d2 rfl rfl
     obtain⟨xs3,hH3,hF3,w3,r3⟩:=hz 2 a3 d3 rfl rfl
     have hi:i<e1.length:=(List.getElem?_eq_some_iff.mp qi).1
     have hj:j<e1.length:=(List.getElem?_eq_some_iff.mp qj).1
     have hk:k<e1.length:=(List.getElem?_eq_some_iff.mp qk).1
     have Rg:=R1.gr gr
     have far:∀a,H1 a=none→∀m,Mu e1 m→σ[m]?≠some (some (.ref a)):=fun a ha m ⟨es,qm⟩ e=>by
      obtain⟨b,ys,e',hb,_⟩:=R1.mu m es qm
      rw[e]at e';cases e'
      rw[ha]at hb;cases hb
     have far2:∀m,Mu (e1.set i (.ow d1)) m→(σ.set i (some (.ref a1)))[m]?≠some (some (.ref a2)):=fun m mm=>by
      by_cases z:m=i
      ·subst z
       rw[List.getElem?_set_self (by rw[Rg.len];exact hi)]
       intro y;cases y;exact n12 rfl
      ·rw[List.getElem?_set_ne (Ne.symm z)]
       obtain⟨es,qk⟩:=mm
       rw[List.getElem?_set_ne (Ne.symm z)]at qk
       exact far a2 w2 m ⟨es,qk⟩
     have far3:∀m,Mu ((e1.set i (.ow d1)).set j (.ow d2)) m→((σ.set i (some (.ref a1))).set j (some (.ref a2)))[m]?≠some (some (.ref a3)):=fun m mm=>by
      by_cases z:m=j
      ·subst z
       rw[List.getElem?_set_self (by rw[List.length_set,Rg.len];exact hj)]
       intro y;cases y;exact n23 rfl
      ·rw[List.getElem?_set_ne (Ne.symm z)]
       obtain⟨es,qm⟩:=mm
       rw[List.getElem?_set_ne (Ne.symm z)]at qm
       by_cases z':m=i
       ·subst z'
        rw[List.getElem?_set_self (by rw[Rg.len];exact hi)]
        intro y;cases y;exact n13 rfl
       ·rw[List.getElem?_set_ne (Ne.symm z')]
        rw[List.getElem?_set_ne (Ne.symm z')]at qm
        exact far a3 w3 m ⟨es,qm⟩
     have R2:=Rg.putO hi hH1 hF1 (far a1 w1) r1
     have R3:=R2.putO (i:=j) (ds:=d2) (by rw[List.length_set];exact hj) hH2 hF2 far2 r2
     have R4:=R3.putO (i:=k) (ds:=d3) (by rw[List.length_set,List.length_set];exact hk) hH3 hF3 far3 r3
     have f2:Frm σ H F env (σ.set i (some (.ref a1))) H' F' (e1.set i (.ow d1)):=(fr.trans (R1.frm gr)).putO (fr.dom a1 w1) (fun es z=>by rw[qi]at z;cases z)
     have f3:Frm σ H F env ((σ.set i (some (.ref a1))).set j (some (.ref a2))) H' F' ((e1.set i (.ow d1)).set j (.ow d2)):=f2.putO (fr.dom a2 w2) (fun es z=>by rw[List.getElem?_set_ne nij1,qj]at z;cases z)
     have f4:Frm σ H F env (((σ.set i (some (.ref a1))).set j (some (.ref a2))).set k (some (.ref a3))) H' F' (((e1.set i (.ow d1)).set j (.ow d2)).set k (.ow d3)):=f3.putO (fr.dom a3 w3) (fun es z=>by rw[List.getElem?_set_ne nij3,List.getElem?_set_ne nij2,qk]at z;cases z)
     exact⟨p,_,rfl,.of ht,rfl,_,_,rfl,_,_,rfl,_,_,rfl,rfl,h1 _ H' F' f4 R4⟩
   ·exact h1.elim
 ·exact h1.elim
end
def okK(ks:List (List Int)):Bool:=decide ks.Nodup && ks.all fun k=>k.length == (ks.headD []).length
section
variable {K:W.Frag}{cl:Str→Addr}{E:XK}
theorem a7q{env:DE}{i:Nat}{d:D}(n:NoOw env):NoOw (env.set i (.fz d)):=by
 intro j ds q
 by_cases z:i=j
 ·subst z
  by_cases hi:i<env.length
  ·rw[List.getElem?_set_self hi]at q;cases q
  ·rw[List.getElem?_eq_none (by rw[List.length_set];omega)]at q;cases q
 ·rw[List.getElem?_set_ne z]at q;exact n j ds q
theorem a78{F H:Hp}:∀{ks:List (List Int)} {ys:List V},Same F H→Rps K cl F (ks.map fun k=>D.tup (k.map .int)) ys→(∀k∈ks,k≠[])→VPs K H ys ks
 | [],_,_,r,_=>by rw[r.inv0];trivial
 | k::ks,_,s,r,h=>by
  obtain⟨v,xs,rfl,p,r'⟩:=r.inv
  refine⟨?_,a78 s r' fun k' m=>h k' (List.mem_cons_of_mem _ m)⟩
  obtain⟨a,vs,rfl,hF,rv⟩:∃a vs,v=.ref a∧F a=some (.tup vs)∧Rps K cl F (k.map .int) vs:=by simpa only[Rp]using p
  have e:vs=k.map V.int:=Rps.ints rv
  subst e
  exact⟨a,[],rfl,by rw[List.append_nil];exact .of (s _ _ hF),h k List.mem_cons_self,fun r m=>by cases m⟩
end
section
variable {P:Program}{w:World}{K:W.Frag}{mg:Str→Option Value}{base:Heap}{cl:Str→Addr}{TB:List (Addr×Str)}
theorem Fun.okT{x qual:Str}{st:Stmt}{f:Addr}{fd:FuncData}{N ps:List Str}{k:Nat}{body:SF}(F:Fun K x qual st f fd)(S:FnScope N ps (c8 st))
  (hbody:∀(A:Around) (outer:List Env) (s:Shared) (H:Hp) (E:XK),TbAll TB H→Room k (A.deeper (envOfC qual (c8 st) s.heap.objs.size f fd.code)) →
   ∃t,PSs (Q3 (v8 P w) P w K mg base N qual (c8 st) f fd.code A outer s H E) (i7 st) t∧RfS K cl E t body):FnOk P w K mg base (v8 P w) (k+1) f fd ps (Z1 TB (i4 K cl (fD N.length ps.length body))):=by
 obtain⟨oc,od,kV,doc,pm,an,cdv,ct,osl,rfl,lk,hcd⟩:=F.ex
 refine a1j lk hcd S (fun vs H Q E h=>a0C h.2) fun A outer s H vs Q E hr h=>?_
 obtain⟨t,h1,h2⟩:=hbody A outer s H E h.1 hr
 exact⟨t,h1,S0 h2 h.2⟩
variable {X:Cx}{k k':Nat}{x:Str}{ps:List Str}{sp:Sp}{E:XK}{e:Expr}{es:List Expr}{t:TA}{p pos:Pos}
theorem a9v(hT:TbAll TB X.H₀)(G:Own X.prog X.w X.K X.mg X.base k x ps (Z1 TB sp))(hr:Room k' X.A)(hk:k≤k')(hx:a0b (v8 X.prog X.w) X E)(ha:PA X (e::es) t)(hg:Gl X x:=by rfl)
  (hdb:(x == ("__debug__" : Str))=false:=by decide) (he:starEach (e::es) X.env=(false,eval e X.env)::starEach es X.env:=by rfl) (hpl:(backTo pos (starEach es X.env)).any (·.1)=false:=by rfl) :
  PE X (.Call (.Name x p) (e::es) [] pos) (a0w sp [] E t):=by
 have ha':PA X (e::es) (fun σ H Q=>∃R:List V→Hp→Prop,t σ H R∧∀vs H1,R vs H1→TbAll TB H1→Q vs H1):=by
  intro pos pins s σ H Q I h
  obtain⟨R,h1,h2⟩:=h
  exact wpAny_mono (ha pos pins s σ H R I h1) (fun us s' ⟨vs,H',I',r,q⟩=>⟨vs,H',I',r,h2 _ _ q (hT.now I'.base)⟩) fun _ _ z=>z
 have:=k8 G hr hk hx ha' hg hdb he hpl (p:=p)
 intro pins s σ H Q I h
 exact this pins s σ H Q I ⟨_,h,fun vs H1 z hT'=>⟨hT',z⟩⟩
end
section
variable {P:Program}{w:World}{K:W.Frag}{mg:Str→Option Value}{base:Heap}{cl:Str→Addr}{TB:List (Addr×Str)}
theorem FunD.okT{x qual:Str}{st:Stmt}{dT f:Addr}{fd:FuncData}{N ps:List Str}{k:Nat}{body:SF}(F:FunD K x qual st dT f fd)(S:FnScope N ps (c8 st))
  (hbody:∀(A:Around) (outer:List Env) (s:Shared) (H:Hp) (E:XK),TbAll TB H→Room k (A.deeper (envOfC qual (c8 st) s.heap.objs.size f fd.code)) →
   ∃t,PSs (Q3 (v8 P w) P w K mg base N qual (c8 st) f fd.code A outer s H E) (i7 st) t∧RfS K cl E t body):FnOk P w K mg base (v8 P w) (k+1) f fd ps (Z1 TB (i4 K cl (fD N.length ps.length body))):=by
 obtain⟨oc,od,kV,doc,pm,an,cdv,ct,osl,rfl,lk,hcd⟩:=F.ex
 refine a1j lk hcd S (fun vs H Q E h=>a0C h.2) fun A outer s H vs Q E hr h=>?_
 obtain⟨t,h1,h2⟩:=hbody A outer s H E h.1 hr
 exact⟨t,h1,S0 h2 h.2⟩
variable {X:Cx}{k k':Nat}{x:Str}{ps:List Str}{sp:Sp}{E:XK}{e:Expr}{es:List Expr}{t:TA}{p pos:Pos}{d:V}
theorem OwnD.own(G:OwnD P w K mg base k x ps sp d):Own P w K mg base k x ps sp:=by
 obtain⟨f,fd,du,F,b,bd,rd,kp,m⟩:=G.ex
 exact⟨f,fd,F,b,kp,m⟩
end
section
variable {K:W.Frag}{cl:Str→Addr}{E:XK}{k:Nat}
def a0s(i:Nat)(k:ZF):ZF:=fun e=>match look e i with
 | some (.lst _)=>bnd (k e) fun j e1=>match j,e1[i]? with
  | .int n,some (.ow ds)=>if 0≤n∧n<ds.length∧ds.length≤1000000 then(match ds[n.toNat]? with
   | some d=>some (.ok d (e1.set i (.ow (ds.eraseIdx n.toNat))))
   | none=>none)else none
  | _,_=>none
 | _=>none
theorem a6b{i:Nat}{u:TE}{k:ZF}(hk:t7 K cl E u k):t7 K cl E (tBM K "list" a5y (D2 i) (K1 u W9)) (a0s i k):=by
 intro σ H Q env F R h
 unfold a0s at h
 split at h
 ·rename_i ds0 q
  obtain⟨a0,e0,ty⟩:=tyL R q
  refine⟨_,e0,ty,?_⟩
  refine hk σ H _ env F R ((Ct.bnd h V8).mono fun y H1 ⟨F1,e1,j,s1,R1,p1,h1⟩=>?_)
  split at h1
  ·rename_i n ds q1
   split at h1
   ·rename_i c
    split at h1
    ·rename_i d hd
     obtain⟨a,xs,e,hH,hF,r⟩:=R1.mu i ds (.inl q1)
     rw[e0]at e;cases e
     obtain⟨R3,f3⟩:=R1.change q1 e0 (a2m n.toNat r)
     have hy:y=.int n:=by have:=(show Rp K cl F1 (.int n) y from p1);simpa only[Rp]using this
     subst hy
     have hl:=r.length
     obtain⟨v,hv,p⟩:=r.get hd
     exact⟨_,xs,n,n.toNat,v,rfl,rfl,hH,by omega,by omega,seqIndex_of c.1 (by omega),hv,h1 v _ F1 f3 R3 p⟩
    ·exact h1.elim
   ·exact h1.elim
  ·exact h1.elim
 ·exact h.elim
end
def O2(el:ZF)(ec:DE):List D→Option (List (List Int))
 | []=>some []
 | d::ds=>match el (ec.set 0 (.fz d))with
  | some (.ok (.tup es) _)=>(match V0 es with
   | some k=>if k≠[]then(O2 el ec ds).map (k :: ·)else none
   | none=>none)
  | _=>none
def Z0(ks:List (List Int))(xs:List D):List Q8:=(List.range xs.length).map fun(i:Nat)=>(ks.getD i [],[xs.getD i .non])
def a1F(js:List Nat)(f:AF)(el:ZF):NF:=fun e=>bnd (f e) fun ds e1=>match ds with
 | [.lst xs]=>if xs.length<1000 then(match O2 el (m5 1 js e1) xs with
  | some ks=>if okK ks=true then some (.ok ((Y8 (Z0 ks xs)).map fun q=>q.2.headD .non) e1)else none
  | none=>none)else none
 | _=>none
theorem a3k{el:ZF}{ec:DE}:∀{ds:List D} {ks:List (List Int)},O2 el ec ds=some ks→ks.length=ds.length
 | [],ks,h=>by cases h;rfl
 | d::ds,ks,h=>by
  unfold O2 at h
  split at h
  ·split at h
   ·split at h
    ·cases z:O2 el ec ds with
     | none=>rw[z]at h;cases h
     | some r=>rw[z]at h;cases h;rw[List.length_cons,List.length_cons,a3k z]
    ·cases h
   ·cases h
  ·cases h
theorem a13{el:ZF}{ec:DE}:∀{ds:List D} {ks:List (List Int)},O2 el ec ds=some ks→∀(i:Nat) (d:D),ds[i]? = some d→∃(k:List Int) (e':DE),ks[i]? = some k∧k≠[]∧el (ec.set 0 (.fz d))=some (.ok (.tup (k.map .int)) e')
 | [],ks,h,i,d,hd=>by cases hd
 | d::ds,ks,h,i,d',hd=>by
  unfold O2 at h
  split at h
  ·rename_i es e' he
   split at h
   ·rename_i k hk
    split at h
    ·rename_i ne
     cases z:O2 el ec ds with
     | none=>rw[z]at h;cases h
     | some r =>
      rw[z]at h;cases h
      cases i with
      | zero=>cases hd;exact⟨k,e',rfl,ne,by rw[he,a4l hk]⟩
      | succ i=>exact a13 z i d' hd
    ·cases h
   ·cases h
  ·cases h
section
variable {K:W.Frag}{cl:Str→Addr}{E:XK}
theorem a7r{t:TA}{f:AF}{te:TE}{el:ZF}{js:List Nat}(nd:js.Nodup)(hf:RfA K cl E t f)(he:t7 K cl E te el):RfN K cl E (a5P K t te js) (a1F js f el):=by
 intro σ H Q env F R h
 refine hf σ H _ env F R ((Ct.bnd h a01).mono fun vs0 H1 ⟨F1,e1,ds0,s1,R1,p1,h1⟩=>?_)
 split at h1
 ·rename_i ds
  split at h1
  ·rename_i hn
   split at h1
   ·rename_i ks hk
    split at h1
    ·rename_i ok
     have hl:=a3k hk
     have ok':ks.Nodup∧∀k∈ks,k.length=(ks.headD []).length:=by simpa [okK]using ok
     obtain⟨v,r0,rfl,pv,pr⟩:=p1.inv
     rw[pr.inv0]
     obtain⟨a,vs,rfl,hF,rv⟩:∃a vs,v=.ref a∧F1 a=some (.lst vs)∧Rps K cl F1 ds vs:=by simpa only[Rp]using pv
     have hvl:ds.length=vs.length:=rv.length
     refine⟨a,vs,rfl,.inl (.of (R1.sub a _ hF)),by omega,fun H2 ext=>?_⟩
     refine⟨fun i ys H'=>∃F',Gr H1 F1 H' F'∧Rps K cl F' ((ks.take i).map fun k=>D.tup (k.map .int)) ys,⟨F1,⟨Same.refl _,fun a o ha=>ext a o (R1.sub a o ha),fun a o ha fa=>⟨ext a o ha,fa⟩⟩,.nil⟩,fun i x ys H' hx ⟨F',g,rk⟩=>?_,fun ys H' hy ⟨F',g,rk⟩=>?_⟩
     ·obtain⟨d,hd,px⟩:=rv.get' hx
      obtain⟨k,e',hki,_,hel⟩:=a13 hk i d hd
      have hi:i<ks.length:=(List.getElem?_eq_some_iff.mp hki).1
      have R2:=R1.gr g
      have Rc:Rel K cl (m7 1 js σ) H' F' (m5 1 js e1):=R2.comp nd
      have n1:NoOw (m5 1 js e1):=a2k
      have Rp':=Rc.put (i:=0) (d:=d) (v:=x) (by unfold m5;simp) (fun ds z=>by unfold m5 at z;simp at z) (Rp.mono g.fz _ _ px)
      refine he ((m7 1 js σ).set 0 (some x)) H' _ _ F' Rp' ?_
      rw[hel]
      intro w H4 F4 f4 R4 hw
      have gr4:Gr H' F' H4 F4:=f4.gr (a7q n1) R4.sub
      refine⟨F4,g.trans gr4,?_⟩
      have et:ks.take (i+1)=ks.take i++[k]:=by
       rw[List.take_add_one,hki]
       rfl
      rw[et,List.map_append]
      exact(rk.mono gr4.fz).append (.one hw)
     ·rw[List.take_of_length_le (by omega)]at rk
      have ne:∀k∈ks,k≠[]:=fun k m=>by
       obtain⟨i,hi,e⟩:=List.mem_iff_getElem.mp m
       obtain⟨k',_,h1,h2,_⟩:=a13 hk i (ds[i]'(by omega)) (List.getElem?_eq_getElem _)
       rw[List.getElem?_eq_getElem hi,e]at h1
       cases h1
       exact h2
      have at_:∀i (hi:i<ks.length),ks.getD i []=ks[i]:=fun i hi=>by rw[List.getD_eq_getElem?_getD,List.getElem?_eq_getElem hi];rfl
      refine⟨ks,a78 g.sub rk ne,fun i j hi hj z=>?_,fun l p hl' hp hs=>?_⟩
      ·have hi:i<ks.length:=by omega
       have hj:j<ks.length:=by omega
       rw[at_ i hi,at_ j hj]
       refine⟨by rw[ok'.2 _ (List.getElem_mem hi),ok'.2 _ (List.getElem_mem hj)],fun e=>z ((List.getElem_inj ok'.1).mp e)⟩
      ·have R2:=R1.gr g
       obtain⟨R3,f3⟩:=R2.newN (o:=.lst (p.map fun i=>vs.getD i .non)) hl'
       have h1:∀b H' F',Frm σ H1 F1 e1 σ H' F' e1→Rel K cl σ H' F' e1→PN K cl ((Y8 (Z0 ks ds)).map fun q=>q.2.headD .non) σ H1 H' F' e1 b→Q b H':=h1
       refine h1 _ _ F' ((R1.frm g).trans f3) R3 ⟨l,_,rfl,g.dom l hl',i5,R2.sub.free hl',fun j ⟨ds,q⟩ e=>?_,?_⟩
       ·obtain⟨a,ys',e1',hH,_⟩:=R2.mu j ds q
        rw[e]at e1';cases e1'
        rw[hl']at hH;cases hH
       ·have hp':p.Perm (List.range ds.length):=by rw[hvl];exact hp
        have srt:p.map (fun(i:Nat)=>((ks.getD i [],[ds.getD i .non]):Q8))=Y8 (Z0 ks ds):=by
         refine W7 ((hp'.map _).trans (Y9 _).symm) ?_ (a0r _) ?_
         ·rw[List.pairwise_map];exact hs
         ·rw[List.pairwise_map]
          have nd:p.Nodup:=hp'.nodup_iff.mpr List.nodup_range
          refine List.Pairwise.imp_of_mem ?_ nd
          intro a b ma mb hab e
          have ha:=List.mem_range.mp (hp'.mem_iff.mp ma)
          have hb:=List.mem_range.mp (hp'.mem_iff.mp mb)
          have e:ks.getD a []=ks.getD b []:=e
          rw[at_ a (by omega),at_ b (by omega)]at e
          exact hab ((List.getElem_inj ok'.1).mp e)
        rw[← srt,List.map_map]
        exact a3j (rv.mono g.fz) p fun i hi=>List.mem_range.mp (hp'.mem_iff.mp hi)
    ·exact h1.elim
   ·exact h1.elim
  ·exact h1.elim
 ·exact h1.elim
end
section
variable {K:W.Frag}{cl:Str→Addr}{E:XK}
def S6(i j k:Nat):SF:=fun e=>match e[i]?,e[j]?,e[k]? with
 | some (.ow d1),some (.ow d2),some (.ow d3)=>if i=j∨i=k∨j=k then none else some (.rz [d1,d2,d3])
 | _,_,_=>none
theorem a6c{i j k:Nat}:RfS K cl E (a2M (a6F (K1 (D2 i) (K1 (D2 j) (K1 (D2 k) W9))))) (S6 i j k):=by
 intro N σ H env F R h
 unfold S6 at h
 split at h
 ·rename_i d1 d2 d3 q1 q2 q3
  split at h
  ·exact h.elim
  ·rename_i nij
   have hij:i≠j:=fun z=>nij (.inl z)
   have hik:i≠k:=fun z=>nij (.inr (.inl z))
   have hjk:j≠k:=fun z=>nij (.inr (.inr z))
   obtain⟨a1,xs1,e1,hH1,hF1,r1⟩:=R.mu i d1 (.inl q1)
   obtain⟨a2,xs2,e2,hH2,hF2,r2⟩:=R.mu j d2 (.inl q2)
   obtain⟨a3,xs3,e3,hH3,hF3,r3⟩:=R.mu k d3 (.inl q3)
   refine⟨_,e1,_,e2,_,e3,by show 3≤2 ^ 24;decide,fun p hp=>?_⟩
   have n12:a1≠a2:=fun z=>hij (R.inj i j a1 ⟨d1,.inl q1⟩ ⟨d2,.inl q2⟩ e1 (by rw[z];exact e2))
   have n13:a1≠a3:=fun z=>hik (R.inj i k a1 ⟨d1,.inl q1⟩ ⟨d3,.inl q3⟩ e1 (by rw[z];exact e3))
   have n23:a2≠a3:=fun z=>hjk (R.inj j k a2 ⟨d2,.inl q2⟩ ⟨d3,.inl q3⟩ e2 (by rw[z];exact e3))
   have np:∀a o,H a=some o→a≠p:=fun a o ha z=>by rw[z,hp]at ha;cases ha
   refine h p [a1,a2,a3] _ F ⟨Same.refl _,fun b o hb=>by rw[g7 (np b o (R.sub _ _ hb))];exact R.sub _ _ hb,fun a o ha fa _=>⟨by rw[g7 (np a o ha)];exact ha,fa⟩,fun a ha=>?_⟩ hp i5 (R.sub.free hp) ?_
   ·by_cases z:a=p
    ·rw[z,i5]at ha;cases ha
    ·rw[g7 z]at ha;exact ha
   ·exact a7o n12 n13 n23 (by rw[g7 (np _ _ hH1)];exact hH1) hF1 (fun o _=>⟨i,d1,q1,e1⟩) r1 (by rw[g7 (np _ _ hH2)];exact hH2) hF2 (fun o _=>⟨j,d2,q2,e2⟩) r2 (by rw[g7 (np _ _ hH3)];exact hH3) hF3 (fun o _=>⟨k,d3,q3,e3⟩) r3
 ·exact h.elim
end
end L2
namespace Law
open PySem L2 PyProof.Rows
def Q2(i:Nat):Stmt:=PySem.Challenge.pw_cratefit_k59_pieces_of_a_plan.main.body.getD i (.Pass ⟨0,0,0,0⟩)
abbrev O3:Stmt:=Q2 1
abbrev G5:Stmt:=Q2 2
abbrev K5:Stmt:=Q2 3
abbrev B9:Stmt:=Q2 4
abbrev A2:Stmt:=Q2 5
abbrev M3:Stmt:=Q2 7
abbrev O4:Stmt:=Q2 8
abbrev S7:Stmt:=Q2 9
abbrev S8:Stmt:=Q2 10
abbrev M4:Stmt:=Q2 11
abbrev O5:Stmt:=Q2 12
abbrev K6:Stmt:=Q2 13
abbrev y9:Stmt:=Q2 14
abbrev O6:Stmt:=Q2 15
abbrev K7:Stmt:=Q2 16
abbrev M5:Stmt:=Q2 17
abbrev J0:Stmt:=Q2 18
variable {P:Program}{w:World}{K:PySem.W.Frag}{mg:Str→Option Value}{base:Heap}{c:Str→Addr}
structure Txt(K:PySem.W.Frag)(mg:Str→Option Value)(c:Str→Addr):Prop where
 z_bool:mg "bool" = none
 z_int:mg "int" = none
 z_isinstance:mg "isinstance" = none
 z_len:mg "len" = none
 z_list:mg "list" = none
 z_max:mg "max" = none
 z_range:mg "range" = none
 z_sorted:mg "sorted" = none
 z_tuple:mg "tuple" = none
def a7s:SF:=(l9 (eB (gIn false) (eB d6 (eV 0) (eC (.int 0))) (eT (aC (eC (.str "across")) (aC (eC (.str "up")) aN)))))
def n8:List D→Option R1:=fD 1 1 a7s
theorem a6d:FnScope ["plan"] ["plan"] (c8 O3):=⟨rfl,rfl,rfl,by decide +kernel,rfl,by decide +kernel,by decide +kernel⟩
seal PSs PS PE PA PT
theorem a6e{f:Addr}{fd:FuncData}(F:Fun K "is_cut" "is_cut" O3 f fd)(T:Txt K mg c)  : FnOk P w K mg base (v8 P w) 3 f fd ["plan"] (i4 K c n8) :=
 F.okD (k:=2) a6d fun cdv A outer s H E hr=>⟨_,(h7 (j9 (L9 (a9_ (K:=K)) (d9 (d5 (K:=K)) (pv 0) a9 (fun _ _=>rfl)) (i2 (a7 K9 (a7 K9 c6))) (by with_unfolding_all rfl)))),(m4 (b0 b1f (b0 g5 b9 c7) (m9 (a8 c7 (a8 c7 g6)))))⟩
def a0S:SF:=(d7 (T5 (eV 0) (F6 [(g9 2),(g9 3),(g9 4),(g9 5)])) (d7 (u7 6 (eB d6 (eV 1) (eC (.int 1)))) (d7 (x3 (bZ (eB (u6 false) (eB d6 (eV 1) (eC (.int 0))) (eC (.str "across")))) (l9 (eT (aC (eT (aC (eV 2) (aC (eV 3) (aC (eB p5 (eV 2) (eV 6)) (aC (eV 5) aN))))) (aC (eT (aC (eB p5 (eV 2) (eV 6)) (aC (eV 3) (aC (eV 4) (aC (eV 5) aN))))) aN)))) A5) (l9 (eT (aC (eT (aC (eV 2) (aC (eV 3) (aC (eV 4) (aC (eB p5 (eV 3) (eV 6)) aN))))) (aC (eT (aC (eV 2) (aC (eB p5 (eV 3) (eV 6)) (aC (eV 4) (aC (eV 5) aN))))) aN)))))))
def z7:List D→Option R1:=fD 7 2 a0S
theorem E4:FnScope ["spot","plan","x","y","x2","y2","at"] ["spot","plan"] (c8 G5):=⟨rfl,rfl,rfl,by decide +kernel,rfl,by decide +kernel,by decide +kernel⟩
theorem a3l{f:Addr}{fd:FuncData}(F:Fun K "cut_spots" "cut_spots" G5 f fd)(T:Txt K mg c)  : FnOk P w K mg base (v8 P w) 3 f fd ["spot","plan"] (i4 K c z7) :=
 F.okD (k:=2) E4 fun cdv A outer s H E hr=>⟨_,(c9 (L3 (pv 0) (M0 (K:=K) (n:=4) rfl (m8 (j0 (i:=2) E4.nd rfl (Or.inl rfl)) (m8 (j0 (i:=3) E4.nd rfl (Or.inl rfl)) (m8 (j0 (i:=4) E4.nd rfl (Or.inl rfl)) (m8 (j0 (i:=5) E4.nd rfl (Or.inl rfl)) L8)))))) (c9 (j1 (i:=6) E4.nd rfl (Or.inl rfl) (d9 (d5 (K:=K)) (pv 1) a9 (fun _ _=>rfl))) (c9 (x9 (l6 K0 (d9 (d5 (K:=K)) (pv 1) a9 (fun _ _=>rfl)) K9 (k6 _)) (h7 (j9 (i2 (a7 (i2 (a7 (pv 2) (a7 (pv 3) (a7 (h8 t6 (pv 2) (pv 6)) (a7 (pv 5) c6))))) (a7 (i2 (a7 (h8 t6 (pv 2) (pv 6)) (a7 (pv 3) (a7 (pv 4) (a7 (pv 5) c6))))) c6))))) p9) (h7 (j9 (i2 (a7 (i2 (a7 (pv 2) (a7 (pv 3) (a7 (pv 4) (a7 (h8 t6 (pv 3) (pv 6)) c6))))) (a7 (i2 (a7 (pv 2) (a7 (h8 t6 (pv 3) (pv 6)) (a7 (pv 4) (a7 (pv 5) c6))))) c6)))))))),(g8 (a0l b9 (O0 (u0 (i8 (k:=7) (by decide)) (u0 (i8 (k:=7) (by decide)) (u0 (i8 (k:=7) (by decide)) (u0 (i8 (k:=7) (by decide)) N9)))) rfl)) (g8 (C9 (b0 g5 b9 c7)) (g8 (t9 (v5 (b0 K4 (b0 g5 b9 c7) c7)) (m4 (m9 (a8 (m9 (a8 b9 (a8 b9 (a8 (b0 t8 b9 b9) (a8 b9 g6))))) (a8 (m9 (a8 (b0 t8 b9 b9) (a8 b9 (a8 b9 (a8 b9 g6))))) g6)))) A6) (m4 (m9 (a8 (m9 (a8 b9 (a8 b9 (a8 b9 (a8 (b0 t8 b9 b9) g6))))) (a8 (m9 (a8 b9 (a8 (b0 t8 b9 b9) (a8 b9 (a8 b9 g6))))) g6)))))))⟩
def a42:SF:=(d7 (n6 2 (eL aN)) (d7 (n6 3 (eL (aC (eT (aC (eT (aC (eC (.int 0)) (aC (eC (.int 0)) (aC (eB d6 (eV 0) (eC (.int 0))) (aC (eB d6 (eV 0) (eC (.int 1))) aN))))) (aC (eV 1) aN))) aN))) (d7 (L4 (bZ (eB gGt (C7 p8 3) (eC (.int 0)))) (d7 (T5 (a07 3) (F6 [(g9 4),(g9 5)])) (d7 (y6 2 (eT (aC (eV 4) (aC (eV 5) aN)))) (x3 (bZ (h9 n8 (aC (eV 5) aN))) (d7 (T5 (h9 z7 (aC (eV 4) (aC (eV 5) aN))) (F6 [(g9 6),(g9 7)])) (d7 (y6 3 (eT (aC (eV 7) (aC (eB d6 (eV 5) (eC (.int 3))) aN)))) (y6 3 (eT (aC (eV 6) (aC (eB d6 (eV 5) (eC (.int 2))) aN)))))) A5))) 1000000) (Y1 2))))
def u5:List D→Option R1:=fD 8 2 a42
theorem D7:FnScope ["box","plan","nodes","waiting","spot","part","first","second"] ["box","plan"] (c8 K5):=⟨rfl,rfl,rfl,by decide +kernel,rfl,by decide +kernel,by decide +kernel⟩
theorem a3M{f:Addr}{fd:FuncData}(F:Fun K "nodes_of" "nodes_of" K5 f fd)(T:Txt K mg c)(G_is_cut:Own P w K mg base 3 "is_cut" ["plan"] (i4 K c n8))(G_cut_spots:Own P w K mg base 3 "cut_spots" ["spot","plan"] (i4 K c z7)):FnOk P w K mg base (v8 P w) 5 f fd ["box","plan"] (i4 K c u5) :=
 F.okD (k:=4) D7 fun cdv A outer s H E hr=>⟨_,(c9 (j1 (i:=2) D7.nd rfl (Or.inl rfl) (M7 c6)) (c9 (j1 (i:=3) D7.nd rfl (Or.inl rfl) (M7 (a7 (i2 (a7 (i2 (a7 a9 (a7 a9 (a7 (d9 (d5 (K:=K)) (pv 0) a9 (fun _ _=>rfl)) (a7 (d9 (d5 (K:=K)) (pv 0) a9 (fun _ _=>rfl)) c6))))) (a7 (pv 1) c6))) c6))) (c9 (a2N PassesOwn.leaving (l6 a1h (i6 (i1 (K:=K)) rfl T.z_len v9 (a7 (pv 3) c6)) a9 (k6 _)) (c9 (L3 (a1P (K:=K) PySem.F.plainAttrs_list PySem.F.slot_list_pop PySem.F.type_list_pop a5x (pv 3)) (M0 (K:=K) (n:=2) rfl (m8 (j0 (i:=4) D7.nd rfl (Or.inl rfl)) (m8 (j0 (i:=5) D7.nd rfl (Or.inl rfl)) L8)))) (c9 (C3 (E2 (K:=K) PySem.F.plainAttrs_list PySem.F.slot_list_append PySem.F.type_list_append u9 (pv 2) (a7 (i2 (a7 (pv 4) (a7 (pv 5) c6))) c6))) (h7 (x9 (J1 (k8 G_is_cut hr (by decide) k7 (a7 (pv 5) c6))) (c9 (L3 (k8 G_cut_spots hr (by decide) k7 (a7 (pv 4) (a7 (pv 5) c6))) (M0 (K:=K) (n:=2) rfl (m8 (j0 (i:=6) D7.nd rfl (Or.inl rfl)) (m8 (j0 (i:=7) D7.nd rfl (Or.inl rfl)) L8)))) (c9 (C3 (E2 (K:=K) PySem.F.plainAttrs_list PySem.F.slot_list_append PySem.F.type_list_append u9 (pv 3) (a7 (i2 (a7 (pv 7) (a7 (d9 (d5 (K:=K)) (pv 5) a9 (fun _ _=>rfl)) c6))) c6))) (h7 (C3 (E2 (K:=K) PySem.F.plainAttrs_list PySem.F.slot_list_append PySem.F.type_list_append u9 (pv 3) (a7 (i2 (a7 (pv 6) (a7 (d9 (d5 (K:=K)) (pv 5) a9 (fun _ _=>rfl)) c6))) c6)))))) p9))))) (h7 (j9 (pv 2)))))),(g8 (A7 (X9 g6)) (g8 (A7 (X9 (a8 (m9 (a8 (m9 (a8 c7 (a8 c7 (a8 (b0 g5 b9 c7) (a8 (b0 g5 b9 c7) g6))))) (a8 b9 g6))) g6))) (g8 (a28 (v5 (b0 a1u (F5 w8) c7)) (g8 (a0l a56 (O0 (u0 (i8 (k:=8) (by decide)) (u0 (i8 (k:=8) (by decide)) N9)) rfl)) (g8 (G3 (m9 (a8 b9 (a8 b9 g6)))) (t9 (L5 (l3 (a8 b9 g6))) (g8 (a0l (l3 (a8 b9 (a8 b9 g6))) (O0 (u0 (i8 (k:=8) (by decide)) (u0 (i8 (k:=8) (by decide)) N9)) rfl)) (g8 (G3 (m9 (a8 b9 (a8 (b0 g5 b9 c7) g6)))) (G3 (m9 (a8 b9 (a8 (b0 g5 b9 c7) g6)))))) A6)))) a4f)))⟩
def a3N:SF:=(a4Q (R9 2 [] (h9 u5 (aC (eV 0) (aC (eV 1) aN))) (F6 [(g9 0),(g9 1)]) (J6 (bZ (h9 n8 (aC (eV 1) aN)))) (eT (aC (eV 0) (aC (eV 1) aN)))))
def z8:List D→Option R1:=fD 2 2 a3N
theorem a3m:FnScope ["box","plan"] ["box","plan"] (c8 B9):=⟨rfl,rfl,rfl,by decide +kernel,rfl,by decide +kernel,by decide +kernel⟩
theorem a3n{f:Addr}{fd:FuncData}(F:Fun K "pieces_of" "pieces_of" B9 f fd)(T:Txt K mg c)(G_is_cut:Own P w K mg base 3 "is_cut" ["plan"] (i4 K c n8))(G_nodes_of:Own P w K mg base 5 "nodes_of" ["box","plan"] (i4 K c u5)):FnOk P w K mg base (v8 P w) 7 f fd ["box","plan"] (i4 K c z8) :=
 F.okD (k:=6) a3m fun cdv A outer s H E hr=>⟨_,(h7 (j9 (a0x (Nc:=["spot","part"]) (k:=2) (js:=[]) rfl ⟨by decide +kernel,rfl,by decide +kernel,(by change ∀y∈Scope.names _,y.2=NameKind.free→(c8 B9).names.lookup y.1=some .cell∨(c8 B9).names.lookup y.1=some .free;decide +kernel),by decide +kernel,rfl,rfl,by decide +kernel⟩ (J9 (k8 G_nodes_of hr (by decide) k7 (a7 (pv 0) (a7 (pv 1) c6)))) (fun _ _ _ _ _=>(M0 (K:=K) (n:=2) rfl (m8 (j0 (i:=0) (by show List.Nodup [("spot" : Str),("part" : Str)];decide +kernel) rfl (Or.inl rfl)) (m8 (j0 (i:=1) (by show List.Nodup [("spot" : Str),("part" : Str)];decide +kernel) rfl (Or.inl rfl)) L8)))) (fun _ _ _ _ _=>(a5C (P6 (J1 (k8 G_is_cut hr (by decide) k7 (a7 (pv 1) c6)))))) (fun _ _ _ _ _=>(i2 (a7 (pv 0) (a7 (pv 1) c6))))))),(a8D (a4h (by decide) (l3 (a8 b9 (a8 b9 g6))) (O0 (u0 (i8 (k:=2) (by decide)) (u0 (i8 (k:=2) (by decide)) N9)) rfl) (M1 (L5 (l3 (a8 b9 g6)))) (m9 (a8 b9 (a8 b9 g6)))))⟩
def a3o:SF:=(l9 (U5 (g1 p8) (aC (zN (R9 2 [] (h9 u5 (aC (eT (aC (eC (.int 0)) (aC (eC (.int 0)) aN))) (aC (eV 0) aN))) (F6 [(g9 0),(g9 1)]) (bZ (h9 n8 (aC (eV 1) aN))) (eV 1))) aN)))
def D1:List D→Option R1:=fD 1 1 a3o
theorem a2v:FnScope ["plan"] ["plan"] (c8 A2):=⟨rfl,rfl,rfl,by decide +kernel,rfl,by decide +kernel,by decide +kernel⟩
theorem a2w{f:Addr}{fd:FuncData}(F:Fun K "count_cuts" "count_cuts" A2 f fd)(T:Txt K mg c)(G_is_cut:Own P w K mg base 3 "is_cut" ["plan"] (i4 K c n8))(G_nodes_of:Own P w K mg base 5 "nodes_of" ["box","plan"] (i4 K c u5)):FnOk P w K mg base (v8 P w) 7 f fd ["plan"] (i4 K c D1) :=
 F.okD (k:=6) a2v fun cdv A outer s H E hr=>⟨_,(h7 (j9 (i6 (i1 (K:=K)) rfl T.z_len v9 (a7 (a0x (Nc:=["spot","part"]) (k:=2) (js:=[]) rfl ⟨by decide +kernel,rfl,by decide +kernel,(by change ∀y∈Scope.names _,y.2=NameKind.free→(c8 A2).names.lookup y.1=some .cell∨(c8 A2).names.lookup y.1=some .free;decide +kernel),by decide +kernel,rfl,rfl,by decide +kernel⟩ (J9 (k8 G_nodes_of hr (by decide) k7 (a7 (i2 (a7 a9 (a7 a9 c6))) (a7 (pv 0) c6)))) (fun _ _ _ _ _=>(M0 (K:=K) (n:=2) rfl (m8 (j0 (i:=0) (by show List.Nodup [("spot" : Str),("part" : Str)];decide +kernel) rfl (Or.inl rfl)) (m8 (j0 (i:=1) (by show List.Nodup [("spot" : Str),("part" : Str)];decide +kernel) rfl (Or.inl rfl)) L8)))) (fun _ _ _ _ _=>(a5C (J1 (k8 G_is_cut hr (by decide) k7 (a7 (pv 1) c6))))) (fun _ _ _ _ _=>(pv 1))) c6)))),(m4 (R6 w8.cb (a8 (a2C (a4h (by decide) (l3 (a8 (m9 (a8 c7 (a8 c7 g6))) (a8 b9 g6))) (O0 (u0 (i8 (k:=2) (by decide)) (u0 (i8 (k:=2) (by decide)) N9)) rfl) (L5 (l3 (a8 b9 g6))) b9)) g6)))⟩
def a2n:SF:=(l9 (a1T (U8 0 "int") (a6Z (U8 0 "bool"))))
def A3:List D→Option R1:=fD 1 1 a2n
theorem a43:FnScope ["_law_found"] ["_law_found"] (c8 M3):=⟨rfl,rfl,rfl,by decide +kernel,rfl,by decide +kernel,by decide +kernel⟩
theorem a44{f:Addr}{fd:FuncData}(F:Fun K "_law_whole" "_law_whole" M3 f fd)(T:Txt K mg c)  : FnOk P w K mg base (v8 P w) 3 f fd ["_law_found"] (i4 K c A3) :=
 F.okD (k:=2) a43 fun cdv A outer s H E hr=>⟨_,(h7 (j9 (a2L (i6 (J5 (K:=K)) rfl T.z_isinstance B0 (a7 (pv 0) (a7 (N5 (v:=.ty "int") rfl T.z_int a5B rfl) c6))) (a2K (a9N (i6 (J5 (K:=K)) rfl T.z_isinstance B0 (a7 (pv 0) (a7 (N5 (v:=.ty "bool") rfl T.z_bool a31 rfl) c6)))))))),(m4 (a25 a0D (b0x a0D)))⟩
def a3p:SF:=(d7 (x3 (bZ (eB gLt (eV 1) (C7 p8 0))) (l9 (p7 j7 0 (eV 1))) A5) (l9 (eC (.int 0))))
def B4:List D→Option R1:=fD 2 2 a3p
theorem a6f:FnScope ["_law_script","_law_k"] ["_law_script","_law_k"] (c8 O4):=⟨rfl,rfl,rfl,by decide +kernel,rfl,by decide +kernel,by decide +kernel⟩
theorem a6g{f:Addr}{fd:FuncData}(F:Fun K "_law_cell" "_law_cell" O4 f fd)(T:Txt K mg c)  : FnOk P w K mg base (v8 P w) 3 f fd ["_law_script","_law_k"] (i4 K c B4) :=
 F.okD (k:=2) a6f fun cdv A outer s H E hr=>⟨_,(c9 (x9 (l6 a4B (pv 1) (i6 (i1 (K:=K)) rfl T.z_len v9 (a7 (pv 0) c6)) (k6 _)) (h7 (j9 (d9 (k9 (K:=K)) (pv 0) (pv 1) (fun _ _=>rfl)))) p9) (h7 (j9 a9))),(g8 (t9 (v5 (b0 a4N b9 (F5 w8))) (m4 (r9 t4 b9)) A6) (m4 c7))⟩
def a9w:SF:=(l9 (eB w6 (eB E3 (eB E3 (eB p5 (eB p5 (eV 0) (eB E3 (eV 1) (eV 1))) (eC (.int 7))) (eB p5 (eV 1) (eC (.int 3)))) (eC (.int 48271))) (eV 2)))
def j6:List D→Option R1:=fD 3 3 a9w
theorem a7t:FnScope ["_law_cell_here","_law_k","_law_prime"] ["_law_cell_here","_law_k","_law_prime"] (c8 S7):=⟨rfl,rfl,rfl,by decide +kernel,rfl,by decide +kernel,by decide +kernel⟩
theorem a7u{f:Addr}{fd:FuncData}(F:Fun K "_law_mix" "_law_mix" S7 f fd)(T:Txt K mg c)  : FnOk P w K mg base (v8 P w) 3 f fd ["_law_cell_here","_law_k","_law_prime"] (i4 K c j6) :=
 F.okD (k:=2) a7t fun cdv A outer s H E hr=>⟨_,(h7 (j9 (h8 C4 (h8 N6 (h8 N6 (h8 t6 (h8 t6 (pv 0) (h8 N6 (pv 1) (pv 1))) a9) (h8 t6 (pv 1) a9)) a9) (pv 2)))),(m4 (b0 C8 (b0 T3 (b0 T3 (b0 t8 (b0 t8 b9 (b0 T3 b9 b9)) c7) (b0 t8 b9 c7)) c7) b9))⟩
def a9x:SF:=(d7 (B5 2 j6 (aC (eV 1) (aC (eC (.int 1)) (aC (eC (.int 1000003)) aN)))) (d7 (u7 3 (eB w6 (eV 2) (eC (.int 2)))) (d7 (x3 (bZ (eB gLt (eB v7 (eB d6 (eV 0) (eB p5 (eV 3) (eC (.int 2)))) (eB d6 (eV 0) (eV 3))) (eC (.int 2)))) (u7 3 (eB v7 (eC (.int 1)) (eV 3))) A5) (d7 (u7 4 (eB v7 (eB d6 (eV 0) (eB p5 (eV 3) (eC (.int 2)))) (eB d6 (eV 0) (eV 3)))) (d7 (x3 (bZ (eB gLt (eV 4) (eC (.int 2)))) (l9 (eC .non)) A5) (d7 (x3 (bZ (eB (u6 false) (eB w6 (eV 1) (eC (.int 3))) (eC (.int 0)))) (l9 (eT (aC (eV 3) (aC (U5 a1B (aC (eC (.int 1)) (aC (eB B7 (eB E3 (eV 4) (eB p5 (eC (.int 1)) (eB w6 (eB B7 (eV 2) (eC (.int 2))) (eC (.int 5))))) (eC (.int 6))) aN))) aN)))) A5) (l9 (eT (aC (eV 3) (aC (eB p5 (eC (.int 1)) (eB w6 (eB p5 (eB B7 (eV 2) (eC (.int 2))) (eB E3 (eB B7 (eV 1) (eC (.int 64))) (eC (.int 7919)))) (eB v7 (eV 4) (eC (.int 1))))) aN))))))))))
def M6:List D→Option R1:=fD 5 2 a9x
theorem T8:FnScope ["_law_spot","_law_cell_here","_law_mixed","_law_way","_law_side"] ["_law_spot","_law_cell_here"] (c8 S8):=⟨rfl,rfl,rfl,by decide +kernel,rfl,by decide +kernel,by decide +kernel⟩
theorem a7v{f:Addr}{fd:FuncData}(F:Fun K "_law_cut" "_law_cut" S8 f fd)(T:Txt K mg c)(G_l_mix:Own P w K mg base 3 "_law_mix" ["_law_cell_here","_law_k","_law_prime"] (i4 K c j6)):FnOk P w K mg base (v8 P w) 5 f fd ["_law_spot","_law_cell_here"] (i4 K c M6) :=
 F.okD (k:=4) T8 fun cdv A outer s H E hr=>⟨_,(c9 (j1 (i:=2) T8.nd rfl (Or.inl rfl) (k8 G_l_mix hr (by decide) k7 (a7 (pv 1) (a7 a9 (a7 a9 c6))))) (c9 (j1 (i:=3) T8.nd rfl (Or.inl rfl) (h8 C4 (pv 2) a9)) (c9 (x9 (l6 a4B (h8 J3 (d9 (d5 (K:=K)) (pv 0) (h8 t6 (pv 3) a9) (fun _ _=>rfl)) (d9 (d5 (K:=K)) (pv 0) (pv 3) (fun _ _=>rfl))) a9 (k6 _)) (h7 (j1 (i:=3) T8.nd rfl (Or.inl rfl) (h8 J3 a9 (pv 3)))) p9) (c9 (j1 (i:=4) T8.nd rfl (Or.inl rfl) (h8 J3 (d9 (d5 (K:=K)) (pv 0) (h8 t6 (pv 3) a9) (fun _ _=>rfl)) (d9 (d5 (K:=K)) (pv 0) (pv 3) (fun _ _=>rfl)))) (c9 (x9 (l6 a4B (pv 4) a9 (k6 _)) (h7 (j9 W3)) p9) (c9 (x9 (l6 K0 (h8 C4 (pv 1) a9) a9 (k6 _)) (h7 (j9 (i2 (a7 (pv 3) (a7 (i6 (a5o rfl) rfl T.z_max a99 (a7 a9 (a7 (h8 C5 (h8 N6 (pv 4) (h8 t6 a9 (h8 C4 (h8 C5 (pv 2) a9) a9))) a9) c6))) c6))))) p9) (h7 (j9 (i2 (a7 (pv 3) (a7 (h8 t6 a9 (h8 C4 (h8 t6 (h8 C5 (pv 2) a9) (h8 N6 (h8 C5 (pv 1) a9) a9)) (h8 J3 (pv 4) a9))) c6))))))))))),(g8 (L6 (a8 b9 (a8 c7 (a8 c7 g6)))) (g8 (C9 (b0 C8 b9 c7)) (g8 (t9 (v5 (b0 a4N (b0 J7 (b0 g5 b9 (b0 t8 b9 c7)) (b0 g5 b9 b9)) c7)) (C9 (b0 J7 c7 b9)) A6) (g8 (C9 (b0 J7 (b0 g5 b9 (b0 t8 b9 c7)) (b0 g5 b9 b9))) (g8 (t9 (v5 (b0 a4N b9 c7)) (m4 c7) A6) (g8 (t9 (v5 (b0 K4 (b0 C8 b9 c7) c7)) (m4 (m9 (a8 b9 (a8 (R6 a9d (a8 c7 (a8 (b0 J8 (b0 T3 b9 (b0 t8 c7 (b0 C8 (b0 J8 b9 c7) c7))) c7) g6))) g6)))) A6) (m4 (m9 (a8 b9 (a8 (b0 t8 c7 (b0 C8 (b0 t8 (b0 J8 b9 c7) (b0 T3 (b0 J8 b9 c7) c7)) (b0 J7 b9 c7))) g6))))))))))⟩
def a2o:SF:=(d7 (x3 (bZ (eB (u6 false) (eV 1) (eC (.int 0)))) (l9 (eT (aC (eT (aC (eB d6 (eV 0) (eC (.int 0))) (aC (eB d6 (eV 0) (eC (.int 1))) (aC (eB p5 (eB d6 (eV 0) (eC (.int 0))) (eV 2)) (aC (eB d6 (eV 0) (eC (.int 3))) aN))))) (aC (eT (aC (eB p5 (eB d6 (eV 0) (eC (.int 0))) (eV 2)) (aC (eB d6 (eV 0) (eC (.int 1))) (aC (eB d6 (eV 0) (eC (.int 2))) (aC (eB d6 (eV 0) (eC (.int 3))) aN))))) aN)))) A5) (l9 (eT (aC (eT (aC (eB d6 (eV 0) (eC (.int 0))) (aC (eB d6 (eV 0) (eC (.int 1))) (aC (eB d6 (eV 0) (eC (.int 2))) (aC (eB p5 (eB d6 (eV 0) (eC (.int 1))) (eV 2)) aN))))) (aC (eT (aC (eB d6 (eV 0) (eC (.int 0))) (aC (eB p5 (eB d6 (eV 0) (eC (.int 1))) (eV 2)) (aC (eB d6 (eV 0) (eC (.int 2))) (aC (eB d6 (eV 0) (eC (.int 3))) aN))))) aN)))))
def n9:List D→Option R1:=fD 3 3 a2o
theorem a45:FnScope ["_law_spot","_law_way","_law_at"] ["_law_spot","_law_way","_law_at"] (c8 M4):=⟨rfl,rfl,rfl,by decide +kernel,rfl,by decide +kernel,by decide +kernel⟩
theorem a46{f:Addr}{fd:FuncData}(F:Fun K "_law_parts" "_law_parts" M4 f fd)(T:Txt K mg c)  : FnOk P w K mg base (v8 P w) 3 f fd ["_law_spot","_law_way","_law_at"] (i4 K c n9) :=
 F.okD (k:=2) a45 fun cdv A outer s H E hr=>⟨_,(c9 (x9 (l6 K0 (pv 1) a9 (k6 _)) (h7 (j9 (i2 (a7 (i2 (a7 (d9 (d5 (K:=K)) (pv 0) a9 (fun _ _=>rfl)) (a7 (d9 (d5 (K:=K)) (pv 0) a9 (fun _ _=>rfl)) (a7 (h8 t6 (d9 (d5 (K:=K)) (pv 0) a9 (fun _ _=>rfl)) (pv 2)) (a7 (d9 (d5 (K:=K)) (pv 0) a9 (fun _ _=>rfl)) c6))))) (a7 (i2 (a7 (h8 t6 (d9 (d5 (K:=K)) (pv 0) a9 (fun _ _=>rfl)) (pv 2)) (a7 (d9 (d5 (K:=K)) (pv 0) a9 (fun _ _=>rfl)) (a7 (d9 (d5 (K:=K)) (pv 0) a9 (fun _ _=>rfl)) (a7 (d9 (d5 (K:=K)) (pv 0) a9 (fun _ _=>rfl)) c6))))) c6))))) p9) (h7 (j9 (i2 (a7 (i2 (a7 (d9 (d5 (K:=K)) (pv 0) a9 (fun _ _=>rfl)) (a7 (d9 (d5 (K:=K)) (pv 0) a9 (fun _ _=>rfl)) (a7 (d9 (d5 (K:=K)) (pv 0) a9 (fun _ _=>rfl)) (a7 (h8 t6 (d9 (d5 (K:=K)) (pv 0) a9 (fun _ _=>rfl)) (pv 2)) c6))))) (a7 (i2 (a7 (d9 (d5 (K:=K)) (pv 0) a9 (fun _ _=>rfl)) (a7 (h8 t6 (d9 (d5 (K:=K)) (pv 0) a9 (fun _ _=>rfl)) (pv 2)) (a7 (d9 (d5 (K:=K)) (pv 0) a9 (fun _ _=>rfl)) (a7 (d9 (d5 (K:=K)) (pv 0) a9 (fun _ _=>rfl)) c6))))) c6)))))),(g8 (t9 (v5 (b0 K4 b9 c7)) (m4 (m9 (a8 (m9 (a8 (b0 g5 b9 c7) (a8 (b0 g5 b9 c7) (a8 (b0 t8 (b0 g5 b9 c7) b9) (a8 (b0 g5 b9 c7) g6))))) (a8 (m9 (a8 (b0 t8 (b0 g5 b9 c7) b9) (a8 (b0 g5 b9 c7) (a8 (b0 g5 b9 c7) (a8 (b0 g5 b9 c7) g6))))) g6)))) A6) (m4 (m9 (a8 (m9 (a8 (b0 g5 b9 c7) (a8 (b0 g5 b9 c7) (a8 (b0 g5 b9 c7) (a8 (b0 t8 (b0 g5 b9 c7) b9) g6))))) (a8 (m9 (a8 (b0 g5 b9 c7) (a8 (b0 t8 (b0 g5 b9 c7) b9) (a8 (b0 g5 b9 c7) (a8 (b0 g5 b9 c7) g6))))) g6)))))⟩
def a7w:SF:=(d7 (n6 2 (eL (aC (eT (aC (eC (.int 0)) (aC (eC (.int 0)) (aC (eB d6 (eV 0) (eC (.int 0))) (aC (eB d6 (eV 0) (eC (.int 1))) aN))))) aN))) (d7 (n6 3 (eL (aC (eC .non) aN))) (d7 (n6 4 (eL (aC (eC (.int 0)) aN))) (d7 (P3 1 (g9 5) (d7 (u7 6 (eB w6 (eV 5) (C7 p8 4))) (d7 (B5 7 M6 (aC (p7 j7 2 (p7 j7 4 (eV 6))) (aC (eV 5) aN))) (x3 (bZ (eB (K8 true) (eV 7) (eC .non))) (d7 (u7 8 (a0s 4 (eV 6))) (d7 (V9 3 (eV 8) (eT (aC (eB d6 (eT (aC (eC (.str "across")) (aC (eC (.str "up")) aN))) (eB d6 (eV 7) (eC (.int 0)))) (aC (eB d6 (eV 7) (eC (.int 1))) (aC (C7 p8 3) (aC (eB p5 (C7 p8 3) (eC (.int 1))) aN)))))) (a0A (h9 n9 (aC (p7 j7 2 (eV 8)) (aC (eB d6 (eV 7) (eC (.int 0))) (aC (eB d6 (eV 7) (eC (.int 1))) aN))))  (g9 9) (d7 (y6 4 (C7 p8 3)) (d7 (y6 2 (eV 9)) (y6 3 (eC .non))))))) A5)))) (l9 (eT (aC (eV 2) (aC (eV 3) aN))))))))
def L7:List D→Option R1:=fD 10 2 a7w
theorem D5:FnScope ["_law_box","_law_cells","_law_spots","_law_nodes","_law_uncut","_law_cell_here","_law_at","_law_cut_here","_law_node","_law_part"] ["_law_box","_law_cells"] (c8 O5):=⟨rfl,rfl,rfl,by decide +kernel,rfl,by decide +kernel,by decide +kernel⟩
theorem a6h{f:Addr}{fd:FuncData}(F:Fun K "_law_tree" "_law_tree" O5 f fd)(T:Txt K mg c)(G_l_cut:Own P w K mg base 5 "_law_cut" ["_law_spot","_law_cell_here"] (i4 K c M6))(G_l_parts:Own P w K mg base 3 "_law_parts" ["_law_spot","_law_way","_law_at"] (i4 K c n9)):FnOk P w K mg base (v8 P w) 7 f fd ["_law_box","_law_cells"] (i4 K c L7) :=
 F.okD (k:=6) D5 fun cdv A outer s H E hr=>⟨_,(c9 (j1 (i:=2) D5.nd rfl (Or.inl rfl) (M7 (a7 (i2 (a7 a9 (a7 a9 (a7 (d9 (d5 (K:=K)) (pv 0) a9 (fun _ _=>rfl)) (a7 (d9 (d5 (K:=K)) (pv 0) a9 (fun _ _=>rfl)) c6))))) c6))) (c9 (j1 (i:=3) D5.nd rfl (Or.inl rfl) (M7 (a7 W3 c6))) (c9 (j1 (i:=4) D5.nd rfl (Or.inl rfl) (M7 (a7 a9 c6))) (c9 (P7 PassesOwn.leaving rfl (J9 (pv 1)) (j0 (i:=5) D5.nd rfl (Or.inl rfl)) (c9 (j1 (i:=6) D5.nd rfl (Or.inl rfl) (h8 C4 (pv 5) (i6 (i1 (K:=K)) rfl T.z_len v9 (a7 (pv 4) c6)))) (c9 (j1 (i:=7) D5.nd rfl (Or.inl rfl) (k8 G_l_cut hr (by decide) k7 (a7 (d9 (k9 (K:=K)) (pv 2) (d9 (k9 (K:=K)) (pv 4) (pv 6) (fun _ _=>rfl)) (fun _ _=>rfl)) (a7 (pv 5) c6)))) (h7 (x9 (l6 a3V (pv 7) W3 (k6 _)) (c9 (j1 (i:=8) D5.nd rfl (Or.inl rfl) (E2 (K:=K) PySem.F.plainAttrs_list PySem.F.slot_list_pop PySem.F.type_list_pop a6K (pv 4) (a7 (pv 6) c6))) (c9 (L3 (i2 (a7 (d9 (d5 (K:=K)) (i2 (a7 K9 (a7 K9 c6))) (d9 (d5 (K:=K)) (pv 7) a9 (fun _ _=>rfl)) (fun _ _=>rfl)) (a7 (d9 (d5 (K:=K)) (pv 7) a9 (fun _ _=>rfl)) (a7 (i6 (i1 (K:=K)) rfl T.z_len v9 (a7 (pv 3) c6)) (a7 (h8 t6 (i6 (i1 (K:=K)) rfl T.z_len v9 (a7 (pv 3) c6)) a9) c6))))) (a1d (pv 3) (pv 8) X0)) (h7 (P7 PassesOwn.leaving rfl (a5j (k8 G_l_parts hr (by decide) k7 (a7 (d9 (k9 (K:=K)) (pv 2) (pv 8) (fun _ _=>rfl)) (a7 (d9 (d5 (K:=K)) (pv 7) a9 (fun _ _=>rfl)) (a7 (d9 (d5 (K:=K)) (pv 7) a9 (fun _ _=>rfl)) c6))))) (j0 (i:=9) D5.nd rfl (Or.inl rfl)) (c9 (C3 (E2 (K:=K) PySem.F.plainAttrs_list PySem.F.slot_list_append PySem.F.type_list_append u9 (pv 4) (a7 (i6 (i1 (K:=K)) rfl T.z_len v9 (a7 (pv 3) c6)) c6))) (c9 (C3 (E2 (K:=K) PySem.F.plainAttrs_list PySem.F.slot_list_append PySem.F.type_list_append u9 (pv 2) (a7 (pv 9) c6))) (h7 (C3 (E2 (K:=K) PySem.F.plainAttrs_list PySem.F.slot_list_append PySem.F.type_list_append u9 (pv 3) (a7 W3 c6)))))))))) p9))))) (h7 (j9 (i2 (a7 (pv 2) (a7 (pv 3) c6))))))))),(g8 (A7 (X9 (a8 (m9 (a8 c7 (a8 c7 (a8 (b0 g5 b9 c7) (a8 (b0 g5 b9 c7) g6))))) g6))) (g8 (A7 (X9 (a8 c7 g6))) (g8 (A7 (X9 (a8 c7 g6))) (g8 (a0B (i8 (k:=10) (by decide)) (g8 (C9 (b0 C8 b9 (F5 w8))) (g8 (L6 (a8 (r9 t4 (r9 t4 b9)) (a8 b9 g6))) (t9 (v5 (b0 a4d b9 c7)) (g8 (C9 (a6b b9)) (g8 (a1y (m9 (a8 (b0 g5 (m9 (a8 c7 (a8 c7 g6))) (b0 g5 b9 c7)) (a8 (b0 g5 b9 c7) (a8 (F5 w8) (a8 (b0 t8 (F5 w8) c7) g6))))) b9) (a4g (l3 (a8 (r9 t4 b9) (a8 (b0 g5 b9 c7) (a8 (b0 g5 b9 c7) g6)))) (i8 (k:=10) (by decide)) (g8 (G3 (F5 w8)) (g8 (G3 b9) (G3 c7)))))) A6)))) (m4 (m9 (a8 b9 (a8 b9 g6))))))))⟩
def a47:SF:=(d7 (n6 2 (nCV a1w 1)) (d7 (Y3 a0m (aC (C7 p8 0) aN) (g9 3) (d7 (u7 4 (eB v7 (eB v7 (C7 p8 0) (eC (.int 1))) (eV 3))) (x3 (bZ (eB (K8 true) (p7 j7 0 (eV 4)) (eC .non))) (V9 2 (eV 4) (eT (aC (eB d6 (p7 j7 0 (eV 4)) (eC (.int 0))) (aC (eB d6 (p7 j7 0 (eV 4)) (eC (.int 1))) (aC (p7 j7 2 (eB d6 (p7 j7 0 (eV 4)) (eC (.int 2)))) (aC (p7 j7 2 (eB d6 (p7 j7 0 (eV 4)) (eC (.int 3)))) aN)))))) A5))) (l9 (p7 j7 2 (eC (.int 0))))))
def F8:List D→Option R1:=fD 5 2 a47
theorem P5:FnScope ["_law_nodes","_law_ends","_law_built","_law_back","_law_k"] ["_law_nodes","_law_ends"] (c8 K6):=⟨rfl,rfl,rfl,by decide +kernel,rfl,by decide +kernel,by decide +kernel⟩
theorem a3O{f:Addr}{fd:FuncData}(F:Fun K "_law_joined" "_law_joined" K6 f fd)(T:Txt K mg c)  : FnOk P w K mg base (v8 P w) 3 f fd ["_law_nodes","_law_ends"] (i4 K c F8) :=
 F.okD (k:=2) P5 fun cdv A outer s H E hr=>⟨_,(c9 (j1 (i:=2) P5.nd rfl (Or.inl rfl) (a2f (a2s (K:=K)) rfl T.z_list a32 (a7 (pv 1) c6))) (c9 (P7 PassesOwn.leaving rfl (a2a rfl T.z_range (a7 (i6 (i1 (K:=K)) rfl T.z_len v9 (a7 (pv 0) c6)) c6)) (j0 (i:=3) P5.nd rfl (Or.inl rfl)) (c9 (j1 (i:=4) P5.nd rfl (Or.inl rfl) (h8 J3 (h8 J3 (i6 (i1 (K:=K)) rfl T.z_len v9 (a7 (pv 0) c6)) a9) (pv 3))) (h7 (x9 (l6 a3V (d9 (k9 (K:=K)) (pv 0) (pv 4) (fun _ _=>rfl)) W3 (k6 _)) (h7 (L3 (i2 (a7 (d9 (d5 (K:=K)) (d9 (k9 (K:=K)) (pv 0) (pv 4) (fun _ _=>rfl)) a9 (fun _ _=>rfl)) (a7 (d9 (d5 (K:=K)) (d9 (k9 (K:=K)) (pv 0) (pv 4) (fun _ _=>rfl)) a9 (fun _ _=>rfl)) (a7 (d9 (k9 (K:=K)) (pv 2) (d9 (d5 (K:=K)) (d9 (k9 (K:=K)) (pv 0) (pv 4) (fun _ _=>rfl)) a9 (fun _ _=>rfl)) (fun _ _=>rfl)) (a7 (d9 (k9 (K:=K)) (pv 2) (d9 (d5 (K:=K)) (d9 (k9 (K:=K)) (pv 0) (pv 4) (fun _ _=>rfl)) a9 (fun _ _=>rfl)) (fun _ _=>rfl)) c6))))) (a1d (pv 2) (pv 4) X0))) p9)))) (h7 (j9 (d9 (k9 (K:=K)) (pv 2) a9 (fun _ _=>rfl)))))),(g8 (A7 (b0z a8B)) (g8 (a27 (a8 (F5 w8) g6) (i8 (k:=5) (by decide)) (g8 (C9 (b0 J7 (b0 J7 (F5 w8) c7) b9)) (t9 (v5 (b0 a4d (r9 t4 b9) c7)) (a1y (m9 (a8 (b0 g5 (r9 t4 b9) c7) (a8 (b0 g5 (r9 t4 b9) c7) (a8 (r9 t4 (b0 g5 (r9 t4 b9) c7)) (a8 (r9 t4 (b0 g5 (r9 t4 b9) c7)) g6))))) b9) A6))) (m4 (r9 t4 c7))))⟩
def a48:SF:=(d7 (n6 3 (eL aN)) (d7 (Y3 a0m (aC (C7 p8 1) aN) (g9 4) (d7 (u7 5 (a1T (eB gGt (eB d6 (p7 j7 0 (eV 4)) (eC (.int 2))) (eB d6 (p7 j7 0 (eV 4)) (eC (.int 0)))) (eB gGt (eB d6 (p7 j7 0 (eV 4)) (eC (.int 3))) (eB d6 (p7 j7 0 (eV 4)) (eC (.int 1)))))) (x3 (a1S (bZ (eB (K8 false) (p7 j7 1 (eV 4)) (eC .non))) (a1S (bZ (eV 5)) (bZ (eB gGt (eB w6 (h9 j6 (aC (eV 2) (aC (eV 4) (aC (eC (.int 10007)) aN)))) (eC (.int 4))) (eC (.int 0)))))) (y6 3 (eV 4)) A5))) (d7 (n6 6 (a1F [2] (aC (eV 3) aN) (eT (aC (h9 j6 (aC (eB B7 (eV 1) (eC (.int 5))) (aC (eV 0) (aC (eC (.int 7919)) aN)))) (aC (eV 0) aN))))) (d7 (n6 7 (eL aN)) (d7 (n6 8 (Q0 1 1 [] (g9 0) R8 (eT (aC (eC (.str "waste")) aN)))) (d7 (P3 6 (g9 4) (d7 (u7 9 (eB v7 (eB d6 (p7 j7 0 (eV 4)) (eC (.int 2))) (eB d6 (p7 j7 0 (eV 4)) (eC (.int 0))))) (d7 (u7 10 (eB v7 (eB d6 (p7 j7 0 (eV 4)) (eC (.int 3))) (eB d6 (p7 j7 0 (eV 4)) (eC (.int 1))))) (d7 (B5 11 j6 (aC (eB B7 (eV 2) (eC (.int 3))) (aC (eV 4) (aC (eC (.int 20011)) aN)))) (d7 (V9 8 (eV 4) (eT (aC (eC (.str "ware")) (aC (C7 p8 7) (aC (eB (u6 false) (eB w6 (eV 11) (eC (.int 3))) (eC (.int 0))) aN))))) (x3 (bZ (eB (u6 false) (eB w6 (eV 11) (eC (.int 3))) (eC (.int 0)))) (y6 7 (eT (aC (eV 10) (aC (eV 9) (aC (eC (.bl true)) aN))))) (y6 7 (eT (aC (eV 9) (aC (eV 10) (aC (eB (u6 false) (eB w6 (eB B7 (eV 11) (eC (.int 3))) (eC (.int 2))) (eC (.int 0))) aN))))))))))) (S6 7 8 6)))))))
def F9:List D→Option R1:=fD 12 3 a48
theorem u4:FnScope ["_law_spots","_law_nodes","_law_cell_here","_law_kept","_law_k","_law_large","_law_order","_law_wares","_law_ends","_law_w","_law_h","_law_mixed"] ["_law_spots","_law_nodes","_law_cell_here"] (c8 y9):=⟨rfl,rfl,rfl,by decide +kernel,rfl,by decide +kernel,by decide +kernel⟩
theorem a3P{TB:List (Addr×Str)}{f:Addr}{fd:FuncData}(F:Fun K "_law_filled" "_law_filled" y9 f fd)(T:Txt K mg c)(G_l_mix:Own P w K mg base 3 "_law_mix" ["_law_cell_here","_law_k","_law_prime"] (i4 K c j6)){cc Pt:Addr}(hcode:fd.code=.ref cc)(hC:PySem.W.CodeHd base cc Pt)(hB:base.BuiltinsAt mg Pt)(hL:TB.lookup Pt=some "_law_filled.<locals>.<lambda>"):FnOk P w K mg base (v8 P w) 8 f fd ["_law_spots","_law_nodes","_law_cell_here"] (Z1 TB (i4 K c F9)) :=
 F.okT (k:=7) u4 fun A outer s H E hT hr=>⟨_,(c9 (j1 (i:=3) u4.nd rfl (Or.inl rfl) (M7 c6)) (c9 (P7 PassesOwn.leaving rfl (a2a rfl T.z_range (a7 (i6 (i1 (K:=K)) rfl T.z_len v9 (a7 (pv 1) c6)) c6)) (j0 (i:=4) u4.nd rfl (Or.inl rfl)) (c9 (j1 (i:=5) u4.nd rfl (Or.inl rfl) (a2L (L9 a1h (d9 (d5 (K:=K)) (d9 (k9 (K:=K)) (pv 0) (pv 4) (fun _ _=>rfl)) a9 (fun _ _=>rfl)) (d9 (d5 (K:=K)) (d9 (k9 (K:=K)) (pv 0) (pv 4) (fun _ _=>rfl)) a9 (fun _ _=>rfl)) (k6 _)) (a2K (L9 a1h (d9 (d5 (K:=K)) (d9 (k9 (K:=K)) (pv 0) (pv 4) (fun _ _=>rfl)) a9 (fun _ _=>rfl)) (d9 (d5 (K:=K)) (d9 (k9 (K:=K)) (pv 0) (pv 4) (fun _ _=>rfl)) a9 (fun _ _=>rfl)) (k6 _))))) (h7 (x9 (PW.pt (a5f (l6 a9W (d9 (k9 (K:=K)) (pv 1) (pv 4) (fun _ _=>rfl)) W3 (k6 _)) (a5f (J1 (pv 5)) (a8i (l6 a1h (h8 C4 (k8 G_l_mix hr (by decide) k7 (a7 (pv 2) (a7 (pv 4) (a7 a9 c6)))) a9) a9 (k6 _)))))) (h7 (C3 (E2 (K:=K) PySem.F.plainAttrs_list PySem.F.slot_list_append PySem.F.type_list_append u9 (pv 3) (a7 (pv 4) c6)))) p9)))) (c9 (j1 (i:=6) u4.nd rfl (Or.inl rfl) (a6Y (Nc:=["_law_k","_law_cell_here"]) (js:=[2]) (kn := "_law_k") (q := "_law_filled.<locals>.<lambda>") hr rfl rfl T.z_sorted (a7 (pv 3) c6) rfl hcode hC hB rfl (hT _ _ hL) ⟨by decide +kernel,rfl,by decide +kernel,(by change ∀y∈Scope.names _,y.2=NameKind.free→(c8 y9).names.lookup y.1=some .cell∨(c8 y9).names.lookup y.1=some .free;decide +kernel),by decide +kernel,rfl,rfl,by decide +kernel⟩ rfl rfl (fun _ _ _ _ _=>rfl) rfl rfl (fun _ _ _ _=>(i2 (a7 (k8 G_l_mix (((hr.in1).in1).deeper _) (by decide) k7 (a7 (h8 C5 (pv 1) a9) (a7 (pv 0) (a7 a9 c6)))) (a7 (pv 0) c6)))))) (c9 (j1 (i:=7) u4.nd rfl (Or.inl rfl) (M7 c6)) (c9 (a4H (i:=8) (Nc:=["_law_node"]) (k:=1) (js:=[]) rfl ⟨by decide +kernel,rfl,by decide +kernel,(by change ∀y∈Scope.names _,y.2=NameKind.free→(c8 y9).names.lookup y.1=some .cell∨(c8 y9).names.lookup y.1=some .free;decide +kernel),by decide +kernel,rfl,rfl,by decide +kernel⟩ u4.nd rfl (J9 (pv 1)) (fun _ _ _ _ _=>(j0 (i:=0) (by show List.Nodup [("_law_node" : Str)];decide +kernel) rfl (Or.inl rfl))) (fun _ _ _ _ _=>a2W) (fun _ _ _ _ _=>(i2 (a7 K9 c6)))) (c9 (P7 PassesOwn.leaving rfl (J9 (pv 6)) (j0 (i:=4) u4.nd rfl (Or.inl rfl)) (c9 (j1 (i:=9) u4.nd rfl (Or.inl rfl) (h8 J3 (d9 (d5 (K:=K)) (d9 (k9 (K:=K)) (pv 0) (pv 4) (fun _ _=>rfl)) a9 (fun _ _=>rfl)) (d9 (d5 (K:=K)) (d9 (k9 (K:=K)) (pv 0) (pv 4) (fun _ _=>rfl)) a9 (fun _ _=>rfl)))) (c9 (j1 (i:=10) u4.nd rfl (Or.inl rfl) (h8 J3 (d9 (d5 (K:=K)) (d9 (k9 (K:=K)) (pv 0) (pv 4) (fun _ _=>rfl)) a9 (fun _ _=>rfl)) (d9 (d5 (K:=K)) (d9 (k9 (K:=K)) (pv 0) (pv 4) (fun _ _=>rfl)) a9 (fun _ _=>rfl)))) (c9 (j1 (i:=11) u4.nd rfl (Or.inl rfl) (k8 G_l_mix hr (by decide) k7 (a7 (h8 C5 (pv 2) a9) (a7 (pv 4) (a7 a9 c6))))) (c9 (L3 (i2 (a5E (a7 (i6 (i1 (K:=K)) rfl T.z_len v9 (a7 (pv 7) c6)) (a7 (L9 K0 (h8 C4 (pv 11) a9) a9 (k6 _)) c6)))) (a1d (pv 8) (pv 4) X0)) (h7 (x9 (l6 K0 (h8 C4 (pv 11) a9) a9 (k6 _)) (h7 (C3 (E2 (K:=K) PySem.F.plainAttrs_list PySem.F.slot_list_append PySem.F.type_list_append u9 (pv 7) (a7 (i2 (a7 (pv 10) (a7 (pv 9) (a7 U1 c6)))) c6)))) (h7 (C3 (E2 (K:=K) PySem.F.plainAttrs_list PySem.F.slot_list_append PySem.F.type_list_append u9 (pv 7) (a7 (i2 (a7 (pv 9) (a7 (pv 10) (a7 (L9 K0 (h8 C4 (h8 C5 (pv 11) a9) a9) a9 (k6 _)) c6)))) c6))))))))))) (h7 (j9 (i2 (a7 (pv 7) (a7 (pv 8) (a7 (pv 6) c6)))))))))))),(g8 (A7 (X9 g6)) (g8 (a27 (a8 (F5 w8) g6) (i8 (k:=12) (by decide)) (g8 (C9 (a25 (b0 a1u (b0 g5 (r9 t4 b9) c7) (b0 g5 (r9 t4 b9) c7)) (b0 a1u (b0 g5 (r9 t4 b9) c7) (b0 g5 (r9 t4 b9) c7)))) (t9 (a4c (v5 (b0 b0B (r9 t4 b9) c7)) (a4c (L5 b9) (v5 (b0 a1u (b0 C8 (l3 (a8 b9 (a8 b9 (a8 c7 g6)))) c7) c7)))) (G3 b9) A6))) (g8 (A7 (a7r (by decide) (a8 b9 g6) (m9 (a8 (l3 (a8 (b0 J8 b9 c7) (a8 b9 (a8 c7 g6)))) (a8 b9 g6))))) (g8 (A7 (X9 g6)) (g8 (a4T (a06 (by decide) (i8 (k:=1) (by decide)) a05 (m9 (a8 c7 g6)))) (g8 (a0B (i8 (k:=12) (by decide)) (g8 (C9 (b0 J7 (b0 g5 (r9 t4 b9) c7) (b0 g5 (r9 t4 b9) c7))) (g8 (C9 (b0 J7 (b0 g5 (r9 t4 b9) c7) (b0 g5 (r9 t4 b9) c7))) (g8 (L6 (a8 (b0 J8 b9 c7) (a8 b9 (a8 c7 g6)))) (g8 (a1y (m9 (a8 c7 (a8 (F5 w8) (a8 (b0 K4 (b0 C8 b9 c7) c7) g6)))) b9) (t9 (v5 (b0 K4 (b0 C8 b9 c7) c7)) (G3 (m9 (a8 b9 (a8 b9 (a8 c7 g6))))) (G3 (m9 (a8 b9 (a8 b9 (a8 (b0 K4 (b0 C8 (b0 J8 b9 c7) c7) c7) g6))))))))))) a6c))))))⟩
def a09:SF:=(d7 (x3 (bZ (eB (u6 false) (eB w6 (eV 0) (eC (.int 3))) (eC (.int 1)))) (l9 (eB p5 (eC (.int 1)) (eB w6 (eB B7 (eV 0) (eC (.int 3))) (eB Y0 (eC (.int 10)) (eC (.int 40)))))) A5) (l9 (eB w6 (eB B7 (eV 0) (eC (.int 3))) (eC (.int 25)))))
def D8:List D→Option R1:=fD 1 1 a09
theorem a6i:FnScope ["_law_cell_here"] ["_law_cell_here"] (c8 O6):=⟨rfl,rfl,rfl,by decide +kernel,rfl,by decide +kernel,by decide +kernel⟩
theorem a6j{f:Addr}{fd:FuncData}(F:Fun K "_law_long" "_law_long" O6 f fd)(T:Txt K mg c)  : FnOk P w K mg base (v8 P w) 3 f fd ["_law_cell_here"] (i4 K c D8) :=
 F.okD (k:=2) a6i fun cdv A outer s H E hr=>⟨_,(c9 (x9 (l6 K0 (h8 C4 (pv 0) a9) a9 (k6 _)) (h7 (j9 (h8 t6 a9 (h8 C4 (h8 C5 (pv 0) a9) (h8 a5m a9 a9))))) p9) (h7 (j9 (h8 C4 (h8 C5 (pv 0) a9) a9)))),(g8 (t9 (v5 (b0 K4 (b0 C8 b9 c7) c7)) (m4 (b0 t8 c7 (b0 C8 (b0 J8 b9 c7) (b0 a5R c7 c7)))) A6) (m4 (b0 C8 (b0 J8 b9 c7) c7)))⟩
def a49:SF:=(d7 (n6 2 (eL aN)) (d7 (n6 3 (eL (aC (eT (aC (eT (aC (eC (.int 0)) (aC (eC (.int 0)) (aC (eB d6 (eV 0) (eC (.int 0))) (aC (eB d6 (eV 0) (eC (.int 1))) aN))))) (aC (eV 1) aN))) aN))) (d7 (L4 (bZ (eB gGt (C7 p8 3) (eC (.int 0)))) (d7 (T5 (a07 3) (F6 [(g9 4),(g9 5)])) (x3 (W6 (bZ (eB (u6 false) (eB d6 (eV 5) (eC (.int 0))) (eC (.str "ware")))) (bZ (eB (u6 false) (eB d6 (eV 5) (eC (.int 0))) (eC (.str "waste"))))) (y6 2 (eT (aC (eV 4) (aC (eV 5) aN)))) (d7 (B5 6 n9 (aC (eV 4) (aC (U5 (g1 a1C) (aC (eB (u6 false) (eB d6 (eV 5) (eC (.int 0))) (eC (.str "up"))) aN)) (aC (eB d6 (eV 5) (eC (.int 1))) aN)))) (d7 (y6 3 (eT (aC (eB d6 (eV 6) (eC (.int 1))) (aC (eB d6 (eV 5) (eC (.int 3))) aN)))) (y6 3 (eT (aC (eB d6 (eV 6) (eC (.int 0))) (aC (eB d6 (eV 5) (eC (.int 2))) aN)))))))) 1000000) (Y1 2))))
def G0:List D→Option R1:=fD 7 2 a49
theorem G6:FnScope ["_law_box","_law_plan","_law_pieces_here","_law_left","_law_spot","_law_piece","_law_parts_here"] ["_law_box","_law_plan"] (c8 K7):=⟨rfl,rfl,rfl,by decide +kernel,rfl,by decide +kernel,by decide +kernel⟩
theorem a3Q{f:Addr}{fd:FuncData}(F:Fun K "_law_pieces" "_law_pieces" K7 f fd)(T:Txt K mg c)(G_l_parts:Own P w K mg base 3 "_law_parts" ["_law_spot","_law_way","_law_at"] (i4 K c n9)):FnOk P w K mg base (v8 P w) 5 f fd ["_law_box","_law_plan"] (i4 K c G0) :=
 F.okD (k:=4) G6 fun cdv A outer s H E hr=>⟨_,(c9 (j1 (i:=2) G6.nd rfl (Or.inl rfl) (M7 c6)) (c9 (j1 (i:=3) G6.nd rfl (Or.inl rfl) (M7 (a7 (i2 (a7 (i2 (a7 a9 (a7 a9 (a7 (d9 (d5 (K:=K)) (pv 0) a9 (fun _ _=>rfl)) (a7 (d9 (d5 (K:=K)) (pv 0) a9 (fun _ _=>rfl)) c6))))) (a7 (pv 1) c6))) c6))) (c9 (a2N PassesOwn.leaving (l6 a1h (i6 (i1 (K:=K)) rfl T.z_len v9 (a7 (pv 3) c6)) a9 (k6 _)) (c9 (L3 (a1P (K:=K) PySem.F.plainAttrs_list PySem.F.slot_list_pop PySem.F.type_list_pop a5x (pv 3)) (M0 (K:=K) (n:=2) rfl (m8 (j0 (i:=4) G6.nd rfl (Or.inl rfl)) (m8 (j0 (i:=5) G6.nd rfl (Or.inl rfl)) L8)))) (h7 (x9 (PW.pt (W8 (l6 K0 (d9 (d5 (K:=K)) (pv 5) a9 (fun _ _=>rfl)) K9 (k6 _)) (Z6 (l6 K0 (d9 (d5 (K:=K)) (pv 5) a9 (fun _ _=>rfl)) K9 (k6 _))))) (h7 (C3 (E2 (K:=K) PySem.F.plainAttrs_list PySem.F.slot_list_append PySem.F.type_list_append u9 (pv 2) (a7 (i2 (a7 (pv 4) (a7 (pv 5) c6))) c6)))) (c9 (j1 (i:=6) G6.nd rfl (Or.inl rfl) (k8 G_l_parts hr (by decide) k7 (a7 (pv 4) (a7 (a2f a5p rfl T.z_int a5B (a7 (L9 K0 (d9 (d5 (K:=K)) (pv 5) a9 (fun _ _=>rfl)) K9 (k6 _)) c6)) (a7 (d9 (d5 (K:=K)) (pv 5) a9 (fun _ _=>rfl)) c6))))) (c9 (C3 (E2 (K:=K) PySem.F.plainAttrs_list PySem.F.slot_list_append PySem.F.type_list_append u9 (pv 3) (a7 (i2 (a7 (d9 (d5 (K:=K)) (pv 6) a9 (fun _ _=>rfl)) (a7 (d9 (d5 (K:=K)) (pv 5) a9 (fun _ _=>rfl)) c6))) c6))) (h7 (C3 (E2 (K:=K) PySem.F.plainAttrs_list PySem.F.slot_list_append PySem.F.type_list_append u9 (pv 3) (a7 (i2 (a7 (d9 (d5 (K:=K)) (pv 6) a9 (fun _ _=>rfl)) (a7 (d9 (d5 (K:=K)) (pv 5) a9 (fun _ _=>rfl)) c6))) c6)))))))))) (h7 (j9 (pv 2)))))),(g8 (A7 (X9 g6)) (g8 (A7 (X9 (a8 (m9 (a8 (m9 (a8 c7 (a8 c7 (a8 (b0 g5 b9 c7) (a8 (b0 g5 b9 c7) g6))))) (a8 b9 g6))) g6))) (g8 (a28 (v5 (b0 a1u (F5 w8) c7)) (g8 (a0l a56 (O0 (u0 (i8 (k:=7) (by decide)) (u0 (i8 (k:=7) (by decide)) N9)) rfl)) (t9 (T2 (v5 (b0 K4 (b0 g5 b9 c7) c7)) (v5 (b0 K4 (b0 g5 b9 c7) c7))) (G3 (m9 (a8 b9 (a8 b9 g6)))) (g8 (L6 (a8 b9 (a8 (R6 a9e.cb (a8 (b0 K4 (b0 g5 b9 c7) c7) g6)) (a8 (b0 g5 b9 c7) g6)))) (g8 (G3 (m9 (a8 (b0 g5 b9 c7) (a8 (b0 g5 b9 c7) g6)))) (G3 (m9 (a8 (b0 g5 b9 c7) (a8 (b0 g5 b9 c7) g6))))))))) a4f)))⟩
def a6k:SF:=(d7 (x3 (W6 (J6 (bZ (U8 0 "tuple"))) (bZ (eB (u6 true) (C7 p8 0) (eC (.int 2))))) (l9 (eC (.bl false))) A5) (d7 (x3 (W6 (J6 (bZ (U5 a29 (aC (eB d6 (eV 0) (eC (.int 0))) (aC (eC (.ty "tuple")) aN))))) (W6 (bZ (eB (u6 true) (U5 (g1 p8) (aC (eB d6 (eV 0) (eC (.int 0))) aN)) (eC (.int 4)))) (J6 (bZ (U5 a29 (aC (eB d6 (eV 0) (eC (.int 1))) (aC (eC (.ty "tuple")) aN))))))) (l9 (eC (.bl false))) A5) (d7 (a0A (eB d6 (eV 0) (eC (.int 0)))  (g9 1) (x3 (J6 (bZ (h9 A3 (aC (eV 1) aN)))) (l9 (eC (.bl false))) A5)) (d7 (x3 (bZ (eB (u6 false) (U5 (g1 p8) (aC (eB d6 (eV 0) (eC (.int 1))) aN)) (eC (.int 3)))) (l9 (a1T (h9 A3 (aC (eB d6 (eB d6 (eV 0) (eC (.int 1))) (eC (.int 1))) aN)) (U5 a29 (aC (eB d6 (eB d6 (eV 0) (eC (.int 1))) (eC (.int 2))) (aC (eC (.ty "bool")) aN))))) A5) (l9 (eB (u6 false) (U5 (g1 p8) (aC (eB d6 (eV 0) (eC (.int 1))) aN)) (eC (.int 1))))))))
def C0:List D→Option R1:=fD 2 1 a6k
theorem a1G:FnScope ["_law_piece","_law_number"] ["_law_piece"] (c8 M5):=⟨rfl,rfl,rfl,by decide +kernel,rfl,by decide +kernel,by decide +kernel⟩
theorem a4_{f:Addr}{fd:FuncData}(F:Fun K "_law_kinds" "_law_kinds" M5 f fd)(T:Txt K mg c)(G_l_whole:Own P w K mg base 3 "_law_whole" ["_law_found"] (i4 K c A3)):FnOk P w K mg base (v8 P w) 5 f fd ["_law_piece"] (i4 K c C0) :=
 F.okD (k:=4) a1G fun cdv A outer s H E hr=>⟨_,(c9 (x9 (PW.pt (W8 (P6 (J1 (i6 (J5 (K:=K)) rfl T.z_isinstance B0 (a7 (pv 0) (a7 (N5 (v:=.ty "tuple") rfl T.z_tuple a0W rfl) c6))))) (Z6 (l6 a1g (i6 (i1 (K:=K)) rfl T.z_len v9 (a7 (pv 0) c6)) a9 (k6 _))))) (h7 (j9 U1)) p9) (c9 (x9 (PW.pt (W8 (P6 (J1 (i6 (J5 (K:=K)) rfl T.z_isinstance B0 (a7 (d9 (d5 (K:=K)) (pv 0) a9 (fun _ _=>rfl)) (a7 (N5 (v:=.ty "tuple") rfl T.z_tuple a0W rfl) c6))))) (W8 (l6 a1g (i6 (i1 (K:=K)) rfl T.z_len v9 (a7 (d9 (d5 (K:=K)) (pv 0) a9 (fun _ _=>rfl)) c6)) a9 (k6 _)) (Z6 (P6 (J1 (i6 (J5 (K:=K)) rfl T.z_isinstance B0 (a7 (d9 (d5 (K:=K)) (pv 0) a9 (fun _ _=>rfl)) (a7 (N5 (v:=.ty "tuple") rfl T.z_tuple a0W rfl) c6))))))))) (h7 (j9 U1)) p9) (c9 (P7 PassesOwn.leaving rfl (a5j (d9 (d5 (K:=K)) (pv 0) a9 (fun _ _=>rfl))) (j0 (i:=1) a1G.nd rfl (Or.inl rfl)) (h7 (x9 (P6 (J1 (k8 G_l_whole hr (by decide) k7 (a7 (pv 1) c6)))) (h7 (j9 U1)) p9))) (c9 (x9 (l6 K0 (i6 (i1 (K:=K)) rfl T.z_len v9 (a7 (d9 (d5 (K:=K)) (pv 0) a9 (fun _ _=>rfl)) c6)) a9 (k6 _)) (h7 (j9 (a2L (k8 G_l_whole hr (by decide) k7 (a7 (d9 (d5 (K:=K)) (d9 (d5 (K:=K)) (pv 0) a9 (fun _ _=>rfl)) a9 (fun _ _=>rfl)) c6)) (a2K (i6 (J5 (K:=K)) rfl T.z_isinstance B0 (a7 (d9 (d5 (K:=K)) (d9 (d5 (K:=K)) (pv 0) a9 (fun _ _=>rfl)) a9 (fun _ _=>rfl)) (a7 (N5 (v:=.ty "bool") rfl T.z_bool a31 rfl) c6))))))) p9) (h7 (j9 (L9 K0 (i6 (i1 (K:=K)) rfl T.z_len v9 (a7 (d9 (d5 (K:=K)) (pv 0) a9 (fun _ _=>rfl)) c6)) a9 (k6 _)))))))),(g8 (t9 (T2 (M1 (L5 a0D)) (v5 (b0 a1v (F5 w8) c7))) (m4 c7) A6) (g8 (t9 (T2 (M1 (L5 (R6 a2_ (a8 (b0 g5 b9 c7) (a8 c7 g6))))) (T2 (v5 (b0 a1v (R6 w8.cb (a8 (b0 g5 b9 c7) g6)) c7)) (M1 (L5 (R6 a2_ (a8 (b0 g5 b9 c7) (a8 c7 g6))))))) (m4 c7) A6) (g8 (a4g (b0 g5 b9 c7) (i8 (k:=2) (by decide)) (t9 (M1 (L5 (l3 (a8 b9 g6)))) (m4 c7) A6)) (g8 (t9 (v5 (b0 K4 (R6 w8.cb (a8 (b0 g5 b9 c7) g6)) c7)) (m4 (a25 (l3 (a8 (b0 g5 (b0 g5 b9 c7) c7) g6)) (R6 a2_ (a8 (b0 g5 (b0 g5 b9 c7) c7) (a8 c7 g6))))) A6) (m4 (b0 K4 (R6 w8.cb (a8 (b0 g5 b9 c7) g6)) c7))))))⟩
def b1h:SF:=(d7 (u7 1 (eT (aC (h9 D8 (aC (h9 B4 (aC (eV 0) (aC (eC (.int 0)) aN))) aN)) (aC (h9 D8 (aC (h9 B4 (aC (eV 0) (aC (eC (.int 1)) aN))) aN)) aN)))) (d7 (n6 2 (a41 0 (oS (eC (.int 4))) (oS (eC (.int 63))))) (d7 (x3 (bZ (eB (u6 false) (eB w6 (h9 B4 (aC (eV 0) (aC (eC (.int 3)) aN))) (eC (.int 4))) (eC (.int 3)))) (n6 2 (nB a02 (zN (nB a02 (eV 2) (zN (Q0 2 1 [] (g9 0) R8 (eB p5 (eB B7 (eV 0) (eC (.int 7))) (eC (.int 101))))))) (zN (Q0 2 1 [] (g9 0) R8 (eB p5 (eB B7 (eV 0) (eC (.int 49))) (eC (.int 10007))))))) A5) (d7 (T5 (h9 L7 (aC (eV 1) (aC (eV 2) aN))) (F6 [(g9 3),(g9 4)])) (d7 (a1E 5 6 7 F9 (aC (eV 3) (aC (eV 4) (aC (h9 B4 (aC (eV 0) (aC (eC (.int 2)) aN))) aN)))) (d7 (u7 8 (eB w6 (h9 B4 (aC (eV 0) (aC (eC (.int 3)) aN))) (eB Y0 (eC (.int 10)) (eC (.int 20))))) (d7 (P3 7 (g9 9) (V9 6 (eV 9) (eT (aC (eC (.str "ware")) (aC (eB p5 (eB d6 (p7 j7 6 (eV 9)) (eC (.int 1))) (eV 8)) (aC (eB d6 (p7 j7 6 (eV 9)) (eC (.int 2))) aN)))))) (d7 (u7 10 (a1D (h9 F8 (aC (eV 4) (aC (eV 6) aN))))) (d7 (B5 11 z8 (aC (eV 1) (aC (eV 10) aN))) (d7 (B5 12 G0 (aC (eV 1) (aC (eV 10) aN))) (d7 (x3 (W6 (J6 (bZ (U8 11 "list"))) (bZ (eB (u6 true) (C7 p8 11) (C7 p8 12)))) (l9 (eC (.bl false))) A5) (d7 (u7 13 (eC (.int 0))) (d7 (P3 11 (g9 14) (d7 (x3 (J6 (bZ (h9 C0 (aC (eV 14) aN)))) (l9 (eC (.bl false))) A5) (u7 13 (eB p5 (eV 13) (eB E3 (eB v7 (eB d6 (eB d6 (eV 14) (eC (.int 0))) (eC (.int 2))) (eB d6 (eB d6 (eV 14) (eC (.int 0))) (eC (.int 0)))) (eB v7 (eB d6 (eB d6 (eV 14) (eC (.int 0))) (eC (.int 3))) (eB d6 (eB d6 (eV 14) (eC (.int 0))) (eC (.int 1))))))))) (d7 (B5 15 D1 (aC (eV 10) aN)) (d7 (x3 (W6 (J6 (bZ (h9 A3 (aC (eV 15) aN)))) (W6 (bZ (eB (u6 true) (eV 15) (eB v7 (C7 p8 11) (eC (.int 1))))) (bZ (eB (u6 true) (eV 13) (eB E3 (eB d6 (eV 1) (eC (.int 0))) (eB d6 (eV 1) (eC (.int 1)))))))) (l9 (eC (.bl false))) A5) (d7 (x3 (bZ (a24 (W2 true) 11 12)) (l9 (eC (.bl false))) A5) (d7 (a0n 11 fun _=>[]) (l9 (eBW (W2 false) (h9 z8 (aC (eV 1) (aC (eV 10) aN))) 12)))))))))))))))))))
def a79:List D→Option R1:=fD 16 1 b1h
theorem y4:FnScope ["_law_script","_law_box","_law_cells","_law_spots","_law_nodes","_law_wares","_law_ends","_law_order","_law_more","_law_k","_law_plan","_law_found","_law_due","_law_area","_law_piece","_law_cuts"] ["_law_script"] (c8 J0):=⟨rfl,rfl,rfl,by decide +kernel,rfl,by decide +kernel,by decide +kernel⟩
theorem a9y{TB:List (Addr×Str)}{f:Addr}{fd:FuncData}(F:Fun K "law" "law" J0 f fd)(T:Txt K mg c)(G_l_long:Own P w K mg base 3 "_law_long" ["_law_cell_here"] (i4 K c D8))(G_l_cell:Own P w K mg base 3 "_law_cell" ["_law_script","_law_k"] (i4 K c B4))(G_l_tree:Own P w K mg base 7 "_law_tree" ["_law_box","_law_cells"] (i4 K c L7))(G_l_filled:Own P w K mg base 8 "_law_filled" ["_law_spots","_law_nodes","_law_cell_here"] (Z1 TB (i4 K c F9)))(G_l_joined:Own P w K mg base 3 "_law_joined" ["_law_nodes","_law_ends"] (i4 K c F8))(G_pieces_of:Own P w K mg base 7 "pieces_of" ["box","plan"] (i4 K c z8))(G_l_pieces:Own P w K mg base 5 "_law_pieces" ["_law_box","_law_plan"] (i4 K c G0))(G_l_kinds:Own P w K mg base 5 "_law_kinds" ["_law_piece"] (i4 K c C0))(G_count_cuts:Own P w K mg base 7 "count_cuts" ["plan"] (i4 K c D1))(G_l_whole:Own P w K mg base 3 "_law_whole" ["_law_found"] (i4 K c A3)):FnOk P w K mg base (v8 P w) 10 f fd ["_law_script"] (Z1 TB (i4 K c a79)) :=
 F.okT (k:=9) y4 fun A outer s H E hT hr=>⟨_,(c9 (j1 (i:=1) y4.nd rfl (Or.inl rfl) (i2 (a7 (k8 G_l_long hr (by decide) k7 (a7 (k8 G_l_cell hr (by decide) k7 (a7 (pv 0) (a7 a9 c6))) c6)) (a7 (k8 G_l_long hr (by decide) k7 (a7 (k8 G_l_cell hr (by decide) k7 (a7 (pv 0) (a7 a9 c6))) c6)) c6)))) (c9 (j1 (i:=2) y4.nd rfl (Or.inl rfl) (a6G (a6P (K:=K)) (pv 0) (a3X a9) (a3X a9))) (c9 (x9 (l6 K0 (h8 C4 (k8 G_l_cell hr (by decide) k7 (a7 (pv 0) (a7 a9 c6))) a9) a9 (k6 _)) (h7 (j1 (i:=2) y4.nd rfl (Or.inl rfl) (h8 a5A (h8 a5A (pv 2) (a0x (Nc:=["_law_cell_here"]) (k:=1) (js:=[]) rfl ⟨by decide +kernel,rfl,by decide +kernel,(by change ∀y∈Scope.names _,y.2=NameKind.free→(c8 J0).names.lookup y.1=some .cell∨(c8 J0).names.lookup y.1=some .free;decide +kernel),by decide +kernel,rfl,rfl,by decide +kernel⟩ (J9 (pv 2)) (fun _ _ _ _ _=>(j0 (i:=0) (by show List.Nodup [("_law_cell_here" : Str)];decide +kernel) rfl (Or.inl rfl))) (fun _ _ _ _ _=>a2W) (fun _ _ _ _ _=>(h8 t6 (h8 C5 (pv 0) a9) a9)))) (a0x (Nc:=["_law_cell_here"]) (k:=1) (js:=[]) rfl ⟨by decide +kernel,rfl,by decide +kernel,(by change ∀y∈Scope.names _,y.2=NameKind.free→(c8 J0).names.lookup y.1=some .cell∨(c8 J0).names.lookup y.1=some .free;decide +kernel),by decide +kernel,rfl,rfl,by decide +kernel⟩ (J9 (pv 2)) (fun _ _ _ _ _=>(j0 (i:=0) (by show List.Nodup [("_law_cell_here" : Str)];decide +kernel) rfl (Or.inl rfl))) (fun _ _ _ _ _=>a2W) (fun _ _ _ _ _=>(h8 t6 (h8 C5 (pv 0) a9) a9)))))) p9) (c9 (L3 (k8 G_l_tree hr (by decide) k7 (a7 (pv 1) (a7 (pv 2) c6))) (M0 (K:=K) (n:=2) rfl (m8 (j0 (i:=3) y4.nd rfl (Or.inl rfl)) (m8 (j0 (i:=4) y4.nd rfl (Or.inl rfl)) L8)))) (c9 (L3 (a9v hT G_l_filled hr (by decide) k7 (a7 (pv 3) (a7 (pv 4) (a7 (k8 G_l_cell hr (by decide) k7 (a7 (pv 0) (a7 a9 c6))) c6)))) (M0 (K:=K) (n:=3) rfl (m8 (j0 (i:=5) y4.nd rfl (Or.inl rfl)) (m8 (j0 (i:=6) y4.nd rfl (Or.inl rfl)) (m8 (j0 (i:=7) y4.nd rfl (Or.inl rfl)) L8))))) (c9 (j1 (i:=8) y4.nd rfl (Or.inl rfl) (h8 C4 (k8 G_l_cell hr (by decide) k7 (a7 (pv 0) (a7 a9 c6))) (h8 a5m a9 a9))) (c9 (P7 PassesOwn.leaving rfl (J9 (pv 7)) (j0 (i:=9) y4.nd rfl (Or.inl rfl)) (h7 (L3 (i2 (a5E (a7 (h8 t6 (d9 (d5 (K:=K)) (d9 (k9 (K:=K)) (pv 6) (pv 9) (fun _ _=>rfl)) a9 (fun _ _=>rfl)) (pv 8)) (a7 (d9 (d5 (K:=K)) (d9 (k9 (K:=K)) (pv 6) (pv 9) (fun _ _=>rfl)) a9 (fun _ _=>rfl)) c6)))) (a1d (pv 6) (pv 9) X0)))) (c9 (j1 (i:=10) y4.nd rfl (Or.inl rfl) (k8 G_l_joined hr (by decide) k7 (a7 (pv 4) (a7 (pv 6) c6)))) (c9 (j1 (i:=11) y4.nd rfl (Or.inl rfl) (k8 G_pieces_of hr (by decide) k7 (a7 (pv 1) (a7 (pv 10) c6)))) (c9 (j1 (i:=12) y4.nd rfl (Or.inl rfl) (k8 G_l_pieces hr (by decide) k7 (a7 (pv 1) (a7 (pv 10) c6)))) (c9 (x9 (PW.pt (W8 (P6 (J1 (i6 (J5 (K:=K)) rfl T.z_isinstance B0 (a7 (pv 11) (a7 (N5 (v:=.ty "list") rfl T.z_list a32 rfl) c6))))) (Z6 (l6 a1g (i6 (i1 (K:=K)) rfl T.z_len v9 (a7 (pv 11) c6)) (i6 (i1 (K:=K)) rfl T.z_len v9 (a7 (pv 12) c6)) (k6 _))))) (h7 (j9 U1)) p9) (c9 (j1 (i:=13) y4.nd rfl (Or.inl rfl) a9) (c9 (P7 PassesOwn.leaving rfl (J9 (pv 11)) (j0 (i:=14) y4.nd rfl (Or.inl rfl)) (c9 (x9 (P6 (J1 (k8 G_l_kinds hr (by decide) k7 (a7 (pv 14) c6)))) (h7 (j9 U1)) p9) (h7 (j1 (i:=13) y4.nd rfl (Or.inl rfl) (h8 t6 (pv 13) (h8 N6 (h8 J3 (d9 (d5 (K:=K)) (d9 (d5 (K:=K)) (pv 14) a9 (fun _ _=>rfl)) a9 (fun _ _=>rfl)) (d9 (d5 (K:=K)) (d9 (d5 (K:=K)) (pv 14) a9 (fun _ _=>rfl)) a9 (fun _ _=>rfl))) (h8 J3 (d9 (d5 (K:=K)) (d9 (d5 (K:=K)) (pv 14) a9 (fun _ _=>rfl)) a9 (fun _ _=>rfl)) (d9 (d5 (K:=K)) (d9 (d5 (K:=K)) (pv 14) a9 (fun _ _=>rfl)) a9 (fun _ _=>rfl))))))))) (c9 (j1 (i:=15) y4.nd rfl (Or.inl rfl) (k8 G_count_cuts hr (by decide) k7 (a7 (pv 10) c6))) (c9 (x9 (PW.pt (W8 (P6 (J1 (k8 G_l_whole hr (by decide) k7 (a7 (pv 15) c6)))) (W8 (l6 a1g (pv 15) (h8 J3 (i6 (i1 (K:=K)) rfl T.z_len v9 (a7 (pv 11) c6)) a9) (k6 _)) (Z6 (l6 a1g (pv 13) (h8 N6 (d9 (d5 (K:=K)) (pv 1) a9 (fun _ _=>rfl)) (d9 (d5 (K:=K)) (pv 1) a9 (fun _ _=>rfl))) (k6 _)))))) (h7 (j9 U1)) p9) (c9 (x9 (l6 (a9h (K:=K) (cl:=c) (b0J hr)) (pv 11) (pv 12) (k6 _)) (h7 (j9 U1)) p9) (c9 (C3 (a1P (K:=K) PySem.F.plainAttrs_list PySem.F.slot_list_clear PySem.F.type_list_clear a6L (pv 11))) (h7 (j9 (L9 (a9g (K:=K) (cl:=c) (b0J hr)) (k8 G_pieces_of hr (by decide) k7 (a7 (pv 1) (a7 (pv 10) c6))) (pv 12) (k6 _))))))))))))))))))))),(g8 (C9 (m9 (a8 (l3 (a8 (l3 (a8 b9 (a8 c7 g6))) g6)) (a8 (l3 (a8 (l3 (a8 b9 (a8 c7 g6))) g6)) g6)))) (g8 (A7 (b0H (a76 c7) (a76 c7))) (g8 (t9 (v5 (b0 K4 (b0 C8 (l3 (a8 b9 (a8 c7 g6))) c7) c7)) (A7 (a71 a5S (a2C (a71 a5S b9 (a2C (a06 (by decide) (i8 (k:=1) (by decide)) a05 (b0 t8 (b0 J8 b9 c7) c7))))) (a2C (a06 (by decide) (i8 (k:=1) (by decide)) a05 (b0 t8 (b0 J8 b9 c7) c7))))) A6) (g8 (a0l (l3 (a8 b9 (a8 b9 g6))) (O0 (u0 (i8 (k:=16) (by decide)) (u0 (i8 (k:=16) (by decide)) N9)) rfl)) (g8 (a7p (a8 b9 (a8 b9 (a8 (l3 (a8 b9 (a8 c7 g6))) g6)))) (g8 (C9 (b0 C8 (l3 (a8 b9 (a8 c7 g6))) (b0 a5R c7 c7))) (g8 (a0B (i8 (k:=16) (by decide)) (a1y (m9 (a8 c7 (a8 (b0 t8 (b0 g5 (r9 t4 b9) c7) b9) (a8 (b0 g5 (r9 t4 b9) c7) g6)))) b9)) (g8 (C9 (a7c (l3 (a8 b9 (a8 b9 g6))))) (g8 (L6 (a8 b9 (a8 b9 g6))) (g8 (L6 (a8 b9 (a8 b9 g6))) (g8 (t9 (T2 (M1 (L5 a0D)) (v5 (b0 a1v (F5 w8) (F5 w8)))) (m4 c7) A6) (g8 (C9 c7) (g8 (a0B (i8 (k:=16) (by decide)) (g8 (t9 (M1 (L5 (l3 (a8 b9 g6)))) (m4 c7) A6) (C9 (b0 t8 b9 (b0 T3 (b0 J7 (b0 g5 (b0 g5 b9 c7) c7) (b0 g5 (b0 g5 b9 c7) c7)) (b0 J7 (b0 g5 (b0 g5 b9 c7) c7) (b0 g5 (b0 g5 b9 c7) c7))))))) (g8 (L6 (a8 b9 g6)) (g8 (t9 (T2 (M1 (L5 (l3 (a8 b9 g6)))) (T2 (v5 (b0 a1v b9 (b0 J7 (F5 w8) c7))) (v5 (b0 a1v b9 (b0 T3 (b0 g5 b9 c7) (b0 g5 b9 c7)))))) (m4 c7) A6) (g8 (t9 (v5 (a8x a57)) (m4 c7) A6) (g8 a6_ (m4 (b0w a57 (l3 (a8 b9 (a8 b9 g6))))))))))))))))))))))⟩
end Law
namespace Law
open PySem L2 PyProof.Rows
variable {P:Program}{w:World}{K:PySem.W.Frag}{mg:Str→Option Value}{base:Heap}{c:Str→Addr}
local macro_rules|`(tactic|walk_at $s:str)=>do
 let t←`(tactic|simp(decide:=true)only[*,b1d,a8G,a8H,a8I,a8J,a8T,a8K,a8L,a8M,a8N,a64,a8O,a8P,b0E,a65,a66,a5Z,a50,a67,a4U,a4V,a51,a52,a53,a68,a4W,a4X,a8Q,a8R,a8U,a8S,a8V,a69,a1V,a8W,a8X,a8Y,a80,a8Z,a81,a3a,U9,B8,a9o,a9p,a9q,a9r,a9t,a9s,a2l,a55,a1A,m5,Y4,R9,Q0,a7d,b0M,b0N,a7e,b0O,b0P,N2,a9j,a9k,a9l,a9m,noL,noLs,a41,oS,P3,unhide,a54,a88,a85,a86,a87,a82,a83,a84,a4O,Q7,W2,r6,G8,i0,A8,N0,G9,P4,Nat.max_self,Nat.zero_max,Nat.max_zero,decide_true,Bool.or_true,Bool.true_or,Bool.or_false,List.isEmpty_nil,a1B,a1C,gIn,inD,List.any_cons,List.any_nil,a07,a0n,j5,List.all_cons,List.all_nil,Bool.and_self,Bool.and_true,Bool.true_and,beq_self_eq_true,a89,a8_,b0F,b0G,Q1,a4k,a9a,a1X,x3,u7,n6,B5,l9,a4Q,Y1,a1E,A5,T5,y6,V9,a0A,Y3,b0Q,a7k,a7l,a7g,a7h,a7i,a7j,a7f,a9n,a7n,a5_,eC,eV,eB,p7,eBW,a24,eT,eL,zN,aN,aC,h9,a6Z,a1T,U5,C7,nCV,nB,a02,g1,p8,a1w,bZ,J6,a1S,W6,R8,a7m,F6,Y2,W5,b0q,b0r,a0h,b0s,b0t,X7,X8,look,d6,j7,a8y,a8z,K8,U8,a2F,tyN,seqL,a72,a73,a74,a75,List.map_cons,List.map_nil,List.length_cons,List.length_nil,List.cons_append,List.nil_append,List.replicate_succ,List.replicate_zero,List.getElem?_cons_zero,List.getElem?_cons_succ,List.set_cons_zero,List.set_cons_succ,Nat.reduceAdd,Nat.reduceSub,if_true,if_false,Bool.not_true,Bool.not_false,Bool.not_not,Nat.zero_add,Bool.false_eq_true,decide_eq_true_eq,Bool.not_eq_true',decide_eq_false_iff_not,Option.map_some,Option.map_none,ite_self])
 return if s.getString=="eh" then t.raw else t.raw.modifyArg 4 (·.modifyArg 1 fun l=>l.setArg 0 l[2])
theorem a0G{ns:List Int}{k:Int}(hk:0≤k):B4 [.scr ns,.int k]=some (.ret (.int (D0 ns k))):=by
 rw[← a9c hk]
 unfold B4 a3p
 walk_at "ev"
 split
 ·cases atI ns k<;>rfl
 ·rfl
structure Sp4 where
 a:Int
 b:Int
 c:Int
 d:Int
def sD(q:Sp4):D:=.tup [.int q.a,.int q.b,.int q.c,.int q.d]
theorem a6l{n:Nat}(h:n≤1000):a0m [.int (n:Int)]=some (0,n):=by
 unfold a0m
 show(if _ then _ else _)=_
 rw[if_pos (by omega)]
 simp
theorem a4p{rg:List D→Option (Int×Nat)}{f:AF}{b:GF}{body:SF}{e e1:DE}{ds:List D}{lo:Int}{n:Nat}(h:f e=some (.ok ds e1))(hr:rg ds=some (lo,n)):Y3 rg f b body e=x4 b body (Q5 lo n) e1:=by
 unfold Y3;rw[h,a0h,hr]
theorem a7x(x:Int):A3 [.int x]=some (.ret (.bl true)):=by
 unfold A3 a2n
 walk_at "ev"
 rfl
theorem b0R(m:Nat):Q5 0 m=(List.range m).map fun(k:Nat)=>D.int (k:Int):=by
 unfold Q5
 refine List.map_congr_left fun i _=>?_
 rw[Int.zero_add]
theorem a7y{α β:Type}(f:α→β){a:List β}{b:List β}(h:a.Perm b):∀l:List α,b=l.map f→∃m:List α,m.Perm l∧a=m.map f:=by
 induction h with
 | nil=>intro l e;exact⟨l,.refl _,e⟩
 | cons x p ih =>
  intro l e
  cases l with
  | nil=>cases e
  | cons y l =>
   rw[List.map_cons]at e
   injection e with e1 e2
   obtain⟨m,p1,q1⟩:=ih l e2
   exact⟨y::m,p1.cons y,by rw[List.map_cons,e1,q1]⟩
 | swap x y r =>
  intro l e
  match l,e with
  | a::b::l,e =>
   rw[List.map_cons,List.map_cons]at e
   injection e with e1 e2
   injection e2 with e2 e3
   exact⟨b::a::l,.swap _ _ _,by rw[List.map_cons,List.map_cons,e1,e2,e3]⟩
 | trans p q ih1 ih2 =>
  intro l e
  obtain⟨m1,p1,q1⟩:=ih2 l e
  obtain⟨m2,p2,q2⟩:=ih1 m1 q1
  exact⟨m2,p2.trans p1,q2⟩
abbrev oL(σ:List Nat):List D:=σ.map fun(k:Nat)=>D.int (k:Int)
abbrev b0S(GM:D→D→Option D):SF:=(l9 (eB w6 (eB GM (eB GM (eB p5 (eB p5 (eV 0) (eB GM (eV 1) (eV 1))) (eC (.int 7))) (eB p5 (eV 1) (eC (.int 3)))) (eC (.int 48271))) (eV 2)))
theorem b1i(GM:D→D→Option D)(c k p a b r:Int)(hp:0<p)(h1:GM (.int k) (.int k)=some (.int a))(h2:GM (.int (c+a+7)) (.int (k+3))=some (.int b))(h3:GM (.int b) (.int 48271)=some (.int r)):fD 3 3 (b0S GM) [.int c,.int k,.int p]=some (.ret (.int (r%p))):=by
 unfold b0S
 walk_at "eh"
theorem a1H(c:Int)(k p:Int)(hk:0≤k)(hk2:k≤100000)(hp:0<p):∃m:Int,0≤m∧j6 [.int c,.int k,.int p]=some (.ret (.int m)) :=
 ⟨_,Int.emod_nonneg _ (by omega),b1i E3 c k p _ _ _ hp (Q1 (by omega)) (Q1 (by omega)) (Q1 (by decide))⟩
def T9(q:Sp4)(w:Bool):Int:=if w=true then q.d-q.b else q.c-q.a
def wI(w:Bool):Int:=if w=true then 1 else 0
def cD:Option (Bool×Int)→D
 | none=>.non
 | some (w,t)=>.tup [.int (wI w),.int t]
abbrev a5a(MX:List D→Option R1)(GX GM:D→D→Option D):SF:=(d7 (B5 2 MX (aC (eV 1) (aC (eC (.int 1)) (aC (eC (.int 1000003)) aN)))) (d7 (u7 3 (eB w6 (eV 2) (eC (.int 2)))) (d7 (x3 (bZ (eB gLt (eB v7 (eB GX (eV 0) (eB p5 (eV 3) (eC (.int 2)))) (eB GX (eV 0) (eV 3))) (eC (.int 2)))) (u7 3 (eB v7 (eC (.int 1)) (eV 3))) A5) (d7 (u7 4 (eB v7 (eB GX (eV 0) (eB p5 (eV 3) (eC (.int 2)))) (eB GX (eV 0) (eV 3)))) (d7 (x3 (bZ (eB gLt (eV 4) (eC (.int 2)))) (l9 (eC .non)) A5) (d7 (x3 (bZ (eB (u6 false) (eB w6 (eV 1) (eC (.int 3))) (eC (.int 0)))) (l9 (eT (aC (eV 3) (aC (U5 a1B (aC (eC (.int 1)) (aC (eB B7 (eB GM (eV 4) (eB p5 (eC (.int 1)) (eB w6 (eB B7 (eV 2) (eC (.int 2))) (eC (.int 5))))) (eC (.int 6))) aN))) aN)))) A5) (l9 (eT (aC (eV 3) (aC (eB p5 (eC (.int 1)) (eB w6 (eB p5 (eB B7 (eV 2) (eC (.int 2))) (eB GM (eB B7 (eV 1) (eC (.int 64))) (eC (.int 7919)))) (eB v7 (eV 4) (eC (.int 1))))) aN))))))))))
theorem a7_(MX:List D→Option R1)(GX GM:D→D→Option D)(q:D)(c m y h0 l0 h1 l1 s g g2:Int)(hm:MX [.int c,.int 1,.int 1000003]=some (.ret (.int m)))(hy:m%2=y)(a:GX q (.int (y+2))=some (.int h0))(b:GX q (.int y)=some (.int l0))(a':GX q (.int (1-y+2))=some (.int h1))(b':GX q (.int (1-y))=some (.int l1))(z:Int)
  (hz:(¬h0-l0<2∧z=y∧h0-l0=s)∨(h0-l0<2∧z=1-y∧h1-l1=s)) (hs:¬s<2) (hs1:0<s-1) (e1:GM (.int s) (.int (1+m/2%5))=some (.int g)) (e2:GM (.int (c/64)) (.int 7919)=some (.int g2)) :
  ∃t:Int,fD 5 2 (a5a MX GX GM) [q,.int c]=some (.ret (.tup [.int z,.int t]))∧(t=(if g/6 > 1 then g/6 else 1)∨t=1+(m/2+g2)%(s-1)):=by
 unfold a5a
 by_cases h3:c%3=0
 ·refine⟨_,?_,.inl rfl⟩
  rcases hz with⟨z0,rfl,z1⟩ | ⟨z0,rfl,z1⟩<;>walk_at "eh"
 ·refine⟨_,?_,.inr rfl⟩
  rcases hz with⟨z0,rfl,z1⟩ | ⟨z0,rfl,z1⟩<;>walk_at "eh"
theorem b1j(MX:List D→Option R1)(GX GM:D→D→Option D)(q:D)(c m y h0 l0 h1 l1:Int)(hm:MX [.int c,.int 1,.int 1000003]=some (.ret (.int m)))(hy:m%2=y)(a:GX q (.int (y+2))=some (.int h0))(b:GX q (.int y)=some (.int l0))(a':GX q (.int (1-y+2))=some (.int h1))(b':GX q (.int (1-y))=some (.int l1))(hz:h0-l0<2)(hz1:h1-l1<2) :
  fD 5 2 (a5a MX GX GM) [q,.int c]=some (.ret .non):=by
 unfold a5a
 walk_at "eh"
theorem a2G(q:Sp4)(w:Bool):d6 (sD q) (.int (wI w+2))=some (.int (if w=true then q.d else q.c)):=by cases w<;>rfl
theorem a2H(q:Sp4)(w:Bool):d6 (sD q) (.int (wI w))=some (.int (if w=true then q.b else q.a)):=by cases w<;>rfl
theorem a3q{s m g g2 t:Int}(hm:0≤m)(hs:¬s<2)(hg:g=s*(1+m/2%5))(h:t=(if g/6 > 1 then g/6 else 1)∨t=1+(m/2+g2)%(s-1)):0<t∧t<s:=by
 rcases h with rfl | rfl
 ·split
  ·refine⟨by omega,?_⟩
   have h5:m/2%5=0∨m/2%5=1∨m/2%5=2∨m/2%5=3∨m/2%5=4:=by omega
   rcases h5 with z | z | z | z | z<;>rw[z]at hg<;>omega
  ·omega
 ·have h1:=Int.emod_nonneg (m/2+g2) (show s-1≠0 by omega)
  have h2:=Int.emod_lt_of_pos (m/2+g2) (show 0<s-1 by omega)
  omega
theorem b0T(q:Sp4)(c:Int):∃r,M6 [sD q,.int c]=some (.ret (cD r))∧∀w t,r=some (w,t)→0<t∧t<T9 q w:=by
 obtain⟨m,hm0,hm⟩:=a1H c 1 1000003 (by omega) (by omega) (by omega)
 obtain⟨w,hw⟩:∃w:Bool,m%2=wI w:=by
  rcases(show m%2=0∨m%2=1 by omega)with z | z
  ·exact⟨false,z⟩
  ·exact⟨true,z⟩
 have hn:1-wI w=wI (!w):=by cases w<;>rfl
 have a':d6 (sD q) (.int (1-wI w+2))=some (.int (if(!w)=true then q.d else q.c)):=by rw[hn];exact a2G q (!w)
 have b':d6 (sD q) (.int (1-wI w))=some (.int (if(!w)=true then q.b else q.a)):=by rw[hn];exact a2H q (!w)
 have sw:∀w,T9 q w=(if w=true then q.d else q.c)-(if w=true then q.b else q.a):=fun w=>by cases w<;>rfl
 by_cases z0:T9 q w<2
 ·by_cases z1:T9 q (!w)<2
  ·exact⟨none,b1j j6 d6 E3 (sD q) c m (wI w) _ _ _ _ hm hw (a2G q w) (a2H q w) a' b' (by rw[← sw];exact z0) (by rw[← sw];exact z1),fun w t e=>by cases e⟩
  ·obtain⟨t,ht,hb⟩:=a7_ j6 d6 E3 (sD q) c m (wI w) _ _ _ _ (T9 q (!w)) _ _ hm hw (a2G q w) (a2H q w) a' b' (1-wI w) (.inr ⟨by rw[← sw];exact z0,rfl,by rw[sw]⟩) z1 (by omega) (Q1 (by omega)) (Q1 (by decide))
   refine⟨some (!w,t),by rw[hn]at ht;exact ht,fun w' t' e=>?_⟩
   cases e
   exact a3q hm0 z1 rfl hb
 ·obtain⟨t,ht,hb⟩:=a7_ j6 d6 E3 (sD q) c m (wI w) _ _ _ _ (T9 q w) _ _ hm hw (a2G q w) (a2H q w) a' b' (wI w) (.inl ⟨by rw[← sw];exact z0,rfl,by rw[sw]⟩) z0 (by omega) (Q1 (by omega)) (Q1 (by decide))
  refine⟨some (w,t),ht,fun w' t' e=>?_⟩
  cases e
  exact a3q hm0 z0 rfl hb
def pL(q:Sp4)(w:Bool)(t:Int):Sp4:=if w=true then⟨q.a,q.b,q.c,q.b+t⟩else⟨q.a,q.b,q.a+t,q.d⟩
def pR(q:Sp4)(w:Bool)(t:Int):Sp4:=if w=true then⟨q.a,q.b+t,q.c,q.d⟩else⟨q.a+t,q.b,q.c,q.d⟩
def wS(w:Bool):Str:=if w=true then "up" else "across"
theorem a3r(q:Sp4)(w:Bool)(t:Int):n9 [sD q,.int (wI w),.int t]=some (.ret (.tup [sD (pL q w t),sD (pR q w t)])):=by
 obtain⟨a,b,c,d⟩:=q
 cases w<;>unfold n9 a2o sD pL pR wI<;>walk_at "ev" <;>rfl
theorem a6m(q:Sp4)(w:Bool)(t:Int)(x y:D):z7 [sD q,.tup [.str (wS w),.int t,x,y]]=some (.ret (.tup [sD (pL q w t),sD (pR q w t)])):=by
 obtain⟨a,b,c,d⟩:=q
 cases w<;>unfold z7 a0S sD pL pR wS<;>walk_at "ev" <;>rfl
theorem a4q(c:Int):∃s:Int,0≤s∧s≤10 ^ 40∧D8 [.int c]=some (.ret (.int s)):=by
 obtain⟨B,hB,eB⟩:∃B:Int,Y0 (.int 10) (.int 40)=some (.int B)∧B=10 ^ 40:=⟨_,a1X (by decide +kernel),rfl⟩
 have h1:=Int.emod_nonneg (c/3) (show B≠0 by rw[eB];decide)
 have h2:=Int.emod_lt_of_pos (c/3) (show 0<B by rw[eB];decide)
 have hp:0<B:=by rw[eB];decide
 by_cases z:c%3=1
 ·refine⟨1+c/3%B,by omega,by omega,?_⟩
  clear eB h1 h2
  unfold D8 a09
  generalize Y0=GP at *
  walk_at "eh"
 ·refine⟨c/3%25,by omega,by omega,?_⟩
  clear eB h1 h2
  unfold D8 a09
  generalize Y0=GP at *
  walk_at "eh"
inductive Tr where
 | lf (k:Nat)
 | ct (k:Nat) (w:Bool) (t:Int) (l r:Tr)
def Tr.ix:Tr→Nat
 | .lf k=>k
 | .ct k _ _ _ _=>k
def Tr.ids:Tr→List Nat
 | .lf k=>[k]
 | .ct k _ _ l r=>k::(l.ids++r.ids)
def Tr.lvs:Tr→List Nat
 | .lf k=>[k]
 | .ct _ _ _ l r=>l.lvs++r.lvs
def nd(w:Bool)(t:Int)(i j:Nat):D:=.tup [.str (wS w),.int t,.int (i:Int),.int (j:Int)]
def Gd(N:List D)(S:List Sp4):Sp4→Tr→Prop
 | q,.lf k=>N[k]? = some .non∧S[k]? = some q
 | q,.ct k w t l r=>N[k]? = some (nd w t l.ix r.ix)∧S[k]? = some q∧k<l.ix∧k<r.ix∧0<t∧t<T9 q w∧Gd N S (pL q w t) l∧Gd N S (pR q w t) r
def Tr.rep(u:Nat)(w:Bool)(t:Int)(n:Nat):Tr→Tr
 | .lf k=>if k=u then .ct k w t (.lf n) (.lf (n+1))else .lf k
 | .ct k w' t' l r=>.ct k w' t' (l.rep u w t n) (r.rep u w t n)
theorem a0t(u:Nat)(w:Bool)(t:Int)(n:Nat):∀T:Tr,(T.rep u w t n).ix=T.ix
 | .lf k=>by unfold Tr.rep;split<;>rfl
 | .ct k _ _ l r=>rfl
theorem v3:∀{T:Tr} {k:Nat},k∈T.lvs→k∈T.ids
 | .lf k,_,h=>h
 | .ct k _ _ l r,x,h=>by
  rcases List.mem_append.mp h with h | h
  ·exact List.mem_cons_of_mem _ (List.mem_append.mpr (.inl (v3 h)))
  ·exact List.mem_cons_of_mem _ (List.mem_append.mpr (.inr (v3 h)))
theorem a0H{N N':List D}{S S':List Sp4}:∀{T:Tr} {q:Sp4},(∀i∈T.ids,N'[i]? = N[i]?∧∀x,S[i]? = some x→S'[i]? = some x)→Gd N S q T→Gd N' S' q T
 | .lf k,q,h,⟨a,b⟩=>by
  obtain⟨h1,h2⟩:=h k List.mem_cons_self
  exact⟨by rw[h1];exact a,h2 _ b⟩
 | .ct k w t l r,q,h,⟨a,b,c,d,e,f,g1,g2⟩=>by
  obtain⟨h1,h2⟩:=h k List.mem_cons_self
  exact⟨by rw[h1];exact a,h2 _ b,c,d,e,f,a0H (fun i m=>h i (List.mem_cons_of_mem _ (List.mem_append.mpr (.inl m)))) g1,a0H (fun i m=>h i (List.mem_cons_of_mem _ (List.mem_append.mpr (.inr m)))) g2⟩
theorem O7(u:Nat)(w:Bool)(t:Int)(n:Nat):∀{T:Tr},u ∉ T.lvs→T.rep u w t n=T
 | .lf k,h=>by
  unfold Tr.rep
  rw[if_neg (fun z=>h (by rw[← z];exact List.mem_cons_self))]
 | .ct k _ _ l r,h=>by
  unfold Tr.rep
  rw[O7 u w t n (fun m=>h (List.mem_append.mpr (.inl m))),O7 u w t n (fun m=>h (List.mem_append.mpr (.inr m)))]
theorem a8a{k:Nat}{w:Bool}{t:Int}{l r:Tr}(h:(Tr.ct k w t l r).ids.Nodup):l.ids.Nodup∧r.ids.Nodup∧(∀x∈l.ids,x ∉ r.ids)∧k ∉ l.ids∧k ∉ r.ids:=by
 have h':(k::(l.ids++r.ids)).Nodup:=h
 rw[List.nodup_cons,List.nodup_append]at h'
 obtain⟨a,b,c,d⟩:=h'
 exact⟨b,c,fun x m m2=>d x m x m2 rfl,fun m=>a (List.mem_append.mpr (.inl m)),fun m=>a (List.mem_append.mpr (.inr m))⟩
theorem a14(u:Nat)(w:Bool)(t:Int)(n:Nat):∀{T:Tr},T.ids.Nodup→u∈T.lvs→(T.rep u w t n).ids.Perm (T.ids++[n,n+1])
 | .lf k,_,m=>by
  unfold Tr.rep
  rw[if_pos (List.mem_singleton.mp m).symm]
  exact List.Perm.refl _
 | .ct k w' t' l r,h,m=>by
  obtain⟨h1,h2,h3,h4,h5⟩:=a8a h
  show(k::((l.rep u w t n).ids++(r.rep u w t n).ids)).Perm (k::(l.ids++r.ids)++[n,n+1])
  rw[List.cons_append]
  refine List.Perm.cons k ?_
  rcases List.mem_append.mp m with m | m
  ·rw[O7 u w t n (T:=r) (fun m2=>h3 u (v3 m) (v3 m2))]
   have ih:=a14 u w t n h1 m
   refine(ih.append_right _).trans ?_
   rw[List.append_assoc,List.append_assoc]
   exact List.Perm.append_left _ List.perm_append_comm
  ·rw[O7 u w t n (T:=l) (fun m2=>h3 u (v3 m2) (v3 m))]
   have ih:=a14 u w t n h2 m
   rw[List.append_assoc]
   exact ih.append_left _
theorem a15(u:Nat)(w:Bool)(t:Int)(n:Nat):∀{T:Tr} {x:Nat},x∈T.lvs→x≠u→x∈(T.rep u w t n).lvs
 | .lf k,x,m,z=>by
  have e:=List.mem_singleton.mp m
  unfold Tr.rep
  rw[if_neg (fun y=>z (by rw[e,y]))]
  exact m
 | .ct k _ _ l r,x,m,z=>by
  rcases List.mem_append.mp m with m | m
  ·exact List.mem_append.mpr (.inl (a15 u w t n m z))
  ·exact List.mem_append.mpr (.inr (a15 u w t n m z))
theorem a16(u:Nat)(w:Bool)(t:Int)(n:Nat):∀{T:Tr},u∈T.lvs→n∈(T.rep u w t n).lvs∧n+1∈(T.rep u w t n).lvs
 | .lf k,m=>by
  unfold Tr.rep
  rw[if_pos (List.mem_singleton.mp m).symm]
  exact⟨by simp[Tr.lvs],by simp[Tr.lvs]⟩
 | .ct k _ _ l r,m=>by
  rcases List.mem_append.mp m with m | m
  ·obtain⟨a,b⟩:=a16 u w t n m
   exact⟨List.mem_append.mpr (.inl a),List.mem_append.mpr (.inl b)⟩
  ·obtain⟨a,b⟩:=a16 u w t n m
   exact⟨List.mem_append.mpr (.inr a),List.mem_append.mpr (.inr b)⟩
theorem b0U{N:List D}{S:List Sp4}(u:Nat)(w:Bool)(t:Int)(n:Nat)(hN:N.length=n)(hS:S.length=n)(qu:Sp4)(hu:S[u]? = some qu)(h1:0<t)(h2:t<T9 qu w) :
  ∀{T:Tr} {q:Sp4},T.ids.Nodup→(∀i∈T.ids,i<n)→u∈T.lvs→Gd N S q T→Gd (N.set u (nd w t n (n+1))++[.non]++[.non]) (S++[pL qu w t]++[pR qu w t]) q (T.rep u w t n):=by
 have un:u<n:=by have:=(List.getElem?_eq_some_iff.mp hu).1;omega
 have lN:(N.set u (nd w t n (n+1))).length=n:=by rw[List.length_set,hN]
 have oN:∀i,i<n→(N.set u (nd w t n (n+1))++[.non]++[.non])[i]? = (N.set u (nd w t n (n+1)))[i]?:=fun i hi=>by
  rw[List.append_assoc,List.getElem?_append_left (by omega)]
 have oS:∀i,i<n→(S++[pL qu w t]++[pR qu w t])[i]? = S[i]?:=fun i hi=>by
  rw[List.append_assoc,List.getElem?_append_left (by omega)]
 have keep:∀{T:Tr},u ∉ T.ids→(∀i∈T.ids,i<n)→∀i∈T.ids,(N.set u (nd w t n (n+1))++[.non]++[.non])[i]? = N[i]?∧∀x,S[i]? = some x→(S++[pL qu w t]++[pR qu w t])[i]? = some x:=fun hu hi i m=>by
  refine⟨?_,fun x e=>by rw[oS i (hi i m)];exact e⟩
  rw[oN i (hi i m),List.getElem?_set_ne (fun z=>hu (by rw[z];exact m))]
 intro T
 induction T with
 | lf k =>
  intro q _ hi m ⟨a,b⟩
  have e:u=k:=List.mem_singleton.mp m
  subst e
  rw[hu]at b
  cases b
  unfold Tr.rep
  rw[if_pos rfl]
  refine⟨?_,?_,un,by show u<n+1;omega,h1,h2,⟨?_,?_⟩,⟨?_,?_⟩⟩
  ·rw[oN u un,List.getElem?_set_self (by omega)];rfl
  ·rw[oS u un];exact hu
  ·rw[List.append_assoc,List.getElem?_append_right (by omega),lN,Nat.sub_self];rfl
  ·rw[List.append_assoc,List.getElem?_append_right (by omega),hS,Nat.sub_self];rfl
  ·rw[List.append_assoc,List.getElem?_append_right (by omega),lN,Nat.add_sub_cancel_left];rfl
  ·rw[List.append_assoc,List.getElem?_append_right (by omega),hS,Nat.add_sub_cancel_left];rfl
 | ct k w' t' l r ihl ihr =>
  intro q hnd hi m ⟨a,b,c,d,e,f,g1,g2⟩
  obtain⟨n1,n2,n3,n4,n5⟩:=a8a hnd
  have hil:∀i∈l.ids,i<n:=fun i m=>hi i (List.mem_cons_of_mem _ (List.mem_append.mpr (.inl m)))
  have hir:∀i∈r.ids,i<n:=fun i m=>hi i (List.mem_cons_of_mem _ (List.mem_append.mpr (.inr m)))
  have hk:k<n:=hi k List.mem_cons_self
  rcases List.mem_append.mp m with m | m
  ·have uk:u≠k:=fun z=>n4 (by rw[← z];exact v3 m)
   have er:r.rep u w t n=r:=O7 u w t n (fun m2=>n3 u (v3 m) (v3 m2))
   show Gd _ _ q (.ct k w' t' (l.rep u w t n) (r.rep u w t n))
   rw[er]
   refine⟨?_,?_,by rw[a0t];exact c,d,e,f,ihl n1 hil m g1,a0H (keep (fun m2=>n3 u (v3 m) m2) hir) g2⟩
   ·rw[oN k hk,List.getElem?_set_ne uk,a0t];exact a
   ·rw[oS k hk];exact b
  ·have uk:u≠k:=fun z=>n5 (by rw[← z];exact v3 m)
   have er:l.rep u w t n=l:=O7 u w t n (fun m2=>n3 u (v3 m2) (v3 m))
   show Gd _ _ q (.ct k w' t' (l.rep u w t n) (r.rep u w t n))
   rw[er]
   refine⟨?_,?_,c,by rw[a0t];exact d,e,f,a0H (keep (fun m2=>n3 u m2 (v3 m)) hil) g1,ihr n2 hir m g2⟩
   ·rw[oN k hk,List.getElem?_set_ne uk,a0t];exact a
   ·rw[oS k hk];exact b
theorem nodup_le:∀{l m:List Nat},l.Nodup→(∀x∈l,x∈m)→l.length≤m.length
 | [],m,_,_=>Nat.zero_le _
 | a::l,m,h,s=>by
  rw[List.nodup_cons]at h
  have ih:=nodup_le (m:=m.erase a) h.2 fun x hx=>(List.mem_erase_of_ne (fun z=>h.1 (by rw[← z];exact hx))).mpr (s x (List.mem_cons_of_mem _ hx))
  rw[List.length_erase_of_mem (s a List.mem_cons_self)]at ih
  have:0<m.length:=List.length_pos_of_mem (s a List.mem_cons_self)
  rw[List.length_cons]
  omega
abbrev ptB:SF:=(d7 (y6 4 (C7 p8 3)) (d7 (y6 2 (eV 9)) (y6 3 (eC .non))))
theorem b0V(b c:D)(A N U:List D)(x5 x6 x7 x8:Sl)(d:D)(h1:U.length<sizeLine)(h2:A.length<sizeLine)(h3:N.length<sizeLine):ptB [.fz b,.fz c,.ow A,.ow N,.ow U,x5,x6,x7,x8,.fz d]=some (.nx [.fz b,.fz c,.ow (A++[d]),.ow (N++[.non]),.ow (U++[.int (N.length:Int)]),x5,x6,x7,x8,.fz d]):=by
 unfold ptB
 walk_at "eh"
theorem b1L(b c:D)(A N U:List D)(x5 x6 x7 x8:Sl)(o9:Option D)(d1 d2:D)(h1:U.length<1000000)(h2:A.length<1000000)(h3:N.length<1000000):x4 (g9 9) ptB [d1,d2] [.fz b,.fz c,.ow A,.ow N,.ow U,x5,x6,x7,x8,un o9]=some (.nx [.fz b,.fz c,.ow (A++[d1]++[d2]),.ow (N++[.non]++[.non]),.ow (U++[.int (N.length:Int)]++[.int ((N++[D.non]).length:Int)]),x5,x6,x7,x8,.fz d2]):=by
 have b1:∀(d:D) (A N U:List D) (o9:Option D),g9 9 d [.fz b,.fz c,.ow A,.ow N,.ow U,x5,x6,x7,x8,un o9]=some [.fz b,.fz c,.ow A,.ow N,.ow U,x5,x6,x7,x8,.fz d]:=fun d A N U o9=>by cases o9<;>rfl
 rw[U9,b1 d1 A N U o9,B8,b0V b c A N U x5 x6 x7 x8 d1 (by show _<2 ^ 24;omega) (by show _<2 ^ 24;omega) (by show _<2 ^ 24;omega),a1V]
 rw[U9,show g9 9 d2 [.fz b,.fz c,.ow (A++[d1]),.ow (N++[.non]),.ow (U++[.int (N.length:Int)]),x5,x6,x7,x8,.fz d1]=some [.fz b,.fz c,.ow (A++[d1]),.ow (N++[.non]),.ow (U++[.int (N.length:Int)]),x5,x6,x7,x8,.fz d2]from rfl,B8,b0V b c (A++[d1]) (N++[D.non]) (U++[D.int (N.length:Int)]) x5 x6 x7 x8 d2 (by rw[List.length_append];show _+1<2 ^ 24;omega) (by rw[List.length_append];show _+1<2 ^ 24;omega) (by rw[List.length_append];show _+1<2 ^ 24;omega),a1V,a3a]
abbrev trB(CU:List D→Option R1)(ZP:ZF)(LP:SF):SF:=(d7 (u7 6 (eB w6 (eV 5) (C7 p8 4))) (d7 (B5 7 CU (aC (p7 j7 2 (p7 j7 4 (eV 6))) (aC (eV 5) aN))) (x3 (bZ (eB (K8 true) (eV 7) (eC .non))) (d7 (u7 8 ZP) (d7 (V9 3 (eV 8) (eT (aC (eB d6 (eT (aC (eC (.str "across")) (aC (eC (.str "up")) aN))) (eB d6 (eV 7) (eC (.int 0)))) (aC (eB d6 (eV 7) (eC (.int 1))) (aC (C7 p8 3) (aC (eB p5 (C7 p8 3) (eC (.int 1))) aN)))))) LP)) A5)))
theorem b1M(CU:List D→Option R1)(ZP:ZF)(LP:SF)(b c:D)(A N U:List D)(x i u:Int)(q:D)(o6 o7 o8 o9:Option D)(h0:(0:Int)<(U.length:Int))(hi:x%(U.length:Int)=i)(a1:atI U i=some (.int u))(a2:atI A u=some q)(hc:CU [q,.int x]=some (.ret .non)) :
  trB CU ZP LP [.fz b,.fz c,.ow A,.ow N,.ow U,.fz (.int x),un o6,un o7,un o8,un o9]=some (.nx [.fz b,.fz c,.ow A,.ow N,.ow U,.fz (.int x),.fz (.int i),.fz .non,un o8,un o9]):=by
 unfold trB
 walk_at "eh"
theorem b1N(CU:List D→Option R1)(ZP:ZF)(LP:SF)(b c:D)(A N U U':List D)(x i u y t:Int)(wd:Str)(k:Nat)(q:D)(o6 o7 o8 o9:Option D)(e':DE)(h0:(0:Int)<(U.length:Int))(hi:x%(U.length:Int)=i)(a1:atI U i=some (.int u))(a2:atI A u=some q)(hc:CU [q,.int x]=some (.ret (.tup [.int y,.int t])))
  (hw:atI [D.str "across",D.str "up"] y=some (.str wd)) (hz:ZP [.fz b,.fz c,.ow A,.ow N,.ow U,.fz (.int x),.fz (.int i),.fz (.tup [.int y,.int t]),un o8,un o9]=some (.ok (.int u) [.fz b,.fz c,.ow A,.ow N,.ow U',.fz (.int x),.fz (.int i),.fz (.tup [.int y,.int t]),un o8,un o9]))
  (ix:M8 N.length u=some k) (hl:LP [.fz b,.fz c,.ow A,.ow (N.set k (.tup [.str wd,.int t,.int (N.length:Int),.int ((N.length:Int)+1)])),.ow U',.fz (.int x),.fz (.int i),.fz (.tup [.int y,.int t]),.fz (.int u),un o9]=some (.nx e')) :
  trB CU ZP LP [.fz b,.fz c,.ow A,.ow N,.ow U,.fz (.int x),un o6,un o7,un o8,un o9]=some (.nx e'):=by
 unfold trB
 walk_at "eh"
theorem b1O(PA:List D→Option R1)(b c:D)(A N U:List D)(x i u y t:Int)(q p:D)(s9:Sl)(a2:atI A u=some q)(h:PA [q,.int y,.int t]=some (.ret p)):(h9 PA (aC (p7 j7 2 (eV 8)) (aC (eB d6 (eV 7) (eC (.int 0))) (aC (eB d6 (eV 7) (eC (.int 1))) aN)))) [.fz b,.fz c,.ow A,.ow N,.ow U,.fz (.int x),.fz (.int i),.fz (.tup [.int y,.int t]),.fz (.int u),s9]=some (.ok p [.fz b,.fz c,.ow A,.ow N,.ow U,.fz (.int x),.fz (.int i),.fz (.tup [.int y,.int t]),.fz (.int u),s9]):=by
 walk_at "eh"
abbrev plB(PA:List D→Option R1):SF:=(a0A (h9 PA (aC (p7 j7 2 (eV 8)) (aC (eB d6 (eV 7) (eC (.int 0))) (aC (eB d6 (eV 7) (eC (.int 1))) aN)))) (g9 9) ptB)
theorem b1k(b c:D)(A N U:List D)(x5 s7 s8 s9:Sl)(i:Nat)(u:D)(hi:i<U.length)(hl:U.length≤1000000)(hu:U[i]? = some u):a0s 4 (eV 6) [.fz b,.fz c,.ow A,.ow N,.ow U,x5,.fz (.int (i:Int)),s7,s8,s9]=some (.ok u [.fz b,.fz c,.ow A,.ow N,.ow (U.eraseIdx i),x5,.fz (.int (i:Int)),s7,s8,s9]):=by
 show(if 0≤(i:Int)∧(i:Int)<U.length∧U.length≤1000000 then(match U[(i:Int).toNat]? with
   | some d=>some (L2.R.ok d (List.set [Sl.fz b,.fz c,.ow A,.ow N,.ow U,x5,.fz (.int (i:Int)),s7,s8,s9] 4 (.ow (U.eraseIdx (i:Int).toNat))))
   | none=>none)else none)=_
 rw[if_pos ⟨by omega,by omega,hl⟩,Int.toNat_natCast,hu]
 rfl
structure TrI(q0:Sp4)(m:Nat)(T:Tr)(S:List Sp4)(N:List D)(U:List Nat):Prop where
 lN:N.length=S.length
 le:S.length≤1+2*m
 ndp:T.ids.Nodup
 lt:∀i∈T.ids,i<S.length
 ln:T.ids.length=S.length
 ne:U≠[]
 un:U.Nodup
 uv:∀u∈U,u∈T.lvs
 rt:T.ix=0
 gd:Gd N S q0 T
theorem a3s{N:List D}{S:List Sp4}:∀{T:Tr} {q:Sp4},Gd N S q T→∀i∈T.ids,∃x,S[i]? = some x
 | .lf k,q,⟨a,b⟩,i,m=>⟨q,by rw[List.mem_singleton.mp m];exact b⟩
 | .ct k w t l r,q,⟨a,b,_,_,_,_,g1,g2⟩,i,m=>by
  rcases List.mem_cons.mp m with rfl | m
  ·exact⟨q,b⟩
  ·rcases List.mem_append.mp m with m | m
   ·exact a3s g1 i m
   ·exact a3s g2 i m
theorem TrI.step{q0:Sp4}{m:Nat}{T:Tr}{S:List Sp4}{N:List D}{U:List Nat}(I:TrI q0 m T S N U)(i:Nat)(hi:i<U.length)(qu:Sp4)(hu:S[U[i]]? = some qu)(w:Bool)(t:Int)(h1:0<t)(h2:t<T9 qu w) :
  TrI q0 (m+1) (T.rep U[i] w t S.length) (S++[pL qu w t]++[pR qu w t]) (N.set U[i] (nd w t S.length (S.length+1))++[.non]++[.non]) (U.eraseIdx i++[S.length]++[S.length+1]):=by
 have mu:U[i]∈T.lvs:=I.uv _ (List.getElem_mem hi)
 have pm:=a14 U[i] w t S.length I.ndp mu
 have lU:∀u∈U,u<S.length:=fun u m=>I.lt u (v3 (I.uv u m))
 have me:∀u∈U.eraseIdx i,u∈U∧u≠U[i]:=fun u m=>by
  obtain⟨j,hj,ne,e⟩:=List.mem_eraseIdx_iff_getElem.mp m
  refine⟨by rw[← e];exact List.getElem_mem hj,fun z=>ne ?_⟩
  rw[← e]at z
  exact(List.getElem_inj I.un).mp z
 have nds:(T.ids++[S.length,S.length+1]).Nodup:=by
  rw[List.nodup_append]
  refine⟨I.ndp,by simp,fun a ha b hb e=>?_⟩
  have:=I.lt a ha
  simp only[List.mem_cons,List.not_mem_nil,or_false]at hb
  omega
 refine⟨by simp only[List.length_append,List.length_set,List.length_cons,List.length_nil,I.lN],by have:=I.le;simp only[List.length_append,List.length_cons,List.length_nil];omega,pm.nodup_iff.mpr nds,fun j mj=>?_,?_,by simp,?_,fun u m=>?_,by rw[a0t];exact I.rt,b0U _ w t _ I.lN rfl qu hu h1 h2 I.ndp I.lt mu I.gd⟩
 ·have mj:=pm.mem_iff.mp mj
  simp only[List.length_append,List.length_cons,List.length_nil]
  rcases List.mem_append.mp mj with mj | mj
  ·have:=I.lt j mj;omega
  ·simp only[List.mem_cons,List.not_mem_nil,or_false]at mj;omega
 ·rw[pm.length_eq]
  simp only[List.length_append,List.length_cons,List.length_nil,I.ln]
 ·rw[List.append_assoc,List.nodup_append]
  refine⟨(List.eraseIdx_sublist _ _).nodup I.un,by simp,fun a ha b hb e=>?_⟩
  have:=lU a (me a ha).1
  simp only[List.cons_append,List.nil_append,List.mem_cons,List.not_mem_nil,or_false]at hb
  omega
 ·rw[List.append_assoc]at m
  rcases List.mem_append.mp m with m | m
  ·exact a15 _ w t _ (I.uv u (me u m).1) (me u m).2
  ·have n:=a16 U[i] w t S.length mu
   simp only[List.cons_append,List.nil_append,List.mem_cons,List.not_mem_nil,or_false]at m
   rcases m with rfl | rfl
   ·exact n.1
   ·exact n.2
theorem b0X(LP:SF)(w h:Int)(c:D)(A N U:List D)(s5 s6 s7 s8 s9:Sl)(hl:LP [.fz (.tup [.int w,.int h]),.fz c,.ow [.tup [.int 0,.int 0,.int w,.int h]],.ow [.non],.ow [.int 0],.no,.no,.no,.no,.no]=some (.nx [.fz (.tup [.int w,.int h]),.fz c,.ow A,.ow N,.ow U,s5,s6,s7,s8,s9])) :
  fD 10 2 (d7 (n6 2 (eL (aC (eT (aC (eC (.int 0)) (aC (eC (.int 0)) (aC (eB d6 (eV 0) (eC (.int 0))) (aC (eB d6 (eV 0) (eC (.int 1))) aN))))) aN))) (d7 (n6 3 (eL (aC (eC .non) aN))) (d7 (n6 4 (eL (aC (eC (.int 0)) aN))) (d7 LP (l9 (eT (aC (eV 2) (aC (eV 3) aN)))))))) [.tup [.int w,.int h],c]=some (.ret (.tup [.lst A,.lst N])):=by
 walk_at "eh"
theorem a9z(W H:Int)(cs:List Int)(hl:cs.length≤180):∃(T:Tr) (S:List Sp4) (N:List D) (U:List Nat),TrI ⟨0,0,W,H⟩ cs.length T S N U∧L7 [.tup [.int W,.int H],.lst (cs.map D.int)]=some (.ret (.tup [.lst (S.map sD),.lst N])):=by
 obtain⟨e',f,T,S,N,U,o5,o6,o7,o8,o9,I,rfl⟩:=S5 (b:=g9 5) (body:=trB M6 (a0s 4 (eV 6)) (plB n9)) D.int (fun pre e=>∃(T:Tr) (S:List Sp4) (N:List D) (U:List Nat) (o5 o6 o7 o8 o9:Option D),TrI ⟨0,0,W,H⟩ pre.length T S N U∧e=[.fz (.tup [.int W,.int H]),.fz (.lst (cs.map D.int)),.ow (S.map sD),.ow N,.ow (oL U),un o5,un o6,un o7,un o8,un o9]) cs [.fz (.tup [.int W,.int H]),.fz (.lst (cs.map D.int)),.ow [.tup [.int 0,.int 0,.int W,.int H]],.ow [.non],.ow [.int 0],.no,.no,.no,.no,.no]
  ⟨.lf 0,[⟨0,0,W,H⟩],[.non],[0],none,none,none,none,none,⟨rfl,by simp,by simp[Tr.ids],by simp[Tr.ids],rfl,by simp,by simp,by simp[Tr.lvs],rfl,rfl,rfl⟩,rfl⟩ (by
  rintro pre x post e hq ⟨T,S,N,U,o5,o6,o7,o8,o9,I,rfl⟩
  have hp:pre.length<180:=by have:=congrArg List.length hq;rw[List.length_append,List.length_cons]at this;omega
  have hb:g9 5 (.int x) [.fz (.tup [.int W,.int H]),.fz (.lst (cs.map D.int)),.ow (S.map sD),.ow N,.ow (oL U),un o5,un o6,un o7,un o8,un o9]=some [.fz (.tup [.int W,.int H]),.fz (.lst (cs.map D.int)),.ow (S.map sD),.ow N,.ow (oL U),.fz (.int x),un o6,un o7,un o8,un o9]:=by cases o5<;>rfl
  rw[hb,B8,List.length_append,List.length_singleton]
  have lU:0<U.length:=List.length_pos_iff.mpr I.ne
  have ll:(oL U).length=U.length:=List.length_map ..
  have lU2:U.length≤S.length:=by
   have:U.length≤T.ids.length:=nodup_le I.un fun u m=>v3 (I.uv u m)
   have:=I.ln
   omega
  have e1:=Int.emod_nonneg x (show(U.length:Int)≠0 by omega)
  have e2:=Int.emod_lt_of_pos x (show(0:Int)<(U.length:Int) by omega)
  obtain⟨i,hi⟩:∃i:Nat,x%(U.length:Int)=(i:Int):=⟨(x%(U.length:Int)).toNat,by omega⟩
  have hiU:i<U.length:=by omega
  have a1:atI (oL U) (i:Int)=some (.int (U[i]:Int)):=by
   apply G4
   rw[List.getElem?_map,List.getElem?_eq_getElem hiU]
   rfl
  obtain⟨qu,hqu⟩:=a3s I.gd U[i] (v3 (I.uv _ (List.getElem_mem hiU)))
  have hn:U[i]<S.length:=(List.getElem?_eq_some_iff.mp hqu).1
  have a2:atI (S.map sD) (U[i]:Int)=some (sD qu):=by
   apply G4
   rw[List.getElem?_map,hqu]
   rfl
  obtain⟨r,hr,hrb⟩:=b0T qu x
  have leS:=I.le
  cases r with
  | none =>
   exact⟨_,(congrArg A1 (b1M M6 _ _ _ _ _ _ _ x (i:Int) _ _ o6 o7 o8 o9 (by rw[ll];omega) (by rw[ll];exact hi) a1 a2 hr)).trans rfl,T,S,N,U,some (.int x),some (.int (i:Int)),some .non,o8,o9,⟨I.lN,by omega,I.ndp,I.lt,I.ln,I.ne,I.un,I.uv,I.rt,I.gd⟩,rfl⟩
  | some r =>
   obtain⟨w,t⟩:=r
   obtain⟨t1,t2⟩:=hrb w t rfl
   have st:=I.step i hiU qu hqu w t t1 t2
   have hz:=b1k (.tup [.int W,.int H]) (.lst (cs.map D.int)) (S.map sD) N (oL U) (.fz (.int x)) (.fz (.tup [.int (wI w),.int t])) (un o8) (un o9) i (.int (U[i]:Int)) (by rw[ll];exact hiU) (by rw[ll];omega) (by rw[List.getElem?_map,List.getElem?_eq_getElem hiU];rfl)
   have hw:atI [D.str "across",D.str "up"] (wI w)=some (D.str (wS w)):=by cases w<;>rfl
   have hf0:plB n9 [.fz (.tup [.int W,.int H]),.fz (.lst (cs.map D.int)),.ow (S.map sD),.ow (N.set U[i] (.tup [.str (wS w),.int t,.int (N.length:Int),.int ((N.length:Int)+1)])),.ow ((oL U).eraseIdx i),.fz (.int x),.fz (.int (i:Int)),.fz (.tup [.int (wI w),.int t]),.fz (.int (U[i]:Int)),un o9]=x4 (g9 9) ptB [sD (pL qu w t),sD (pR qu w t)] [.fz (.tup [.int W,.int H]),.fz (.lst (cs.map D.int)),.ow (S.map sD),.ow (N.set U[i] (.tup [.str (wS w),.int t,.int (N.length:Int),.int ((N.length:Int)+1)])),.ow ((oL U).eraseIdx i),.fz (.int x),.fz (.int (i:Int)),.fz (.tup [.int (wI w),.int t]),.fz (.int (U[i]:Int)),un o9]:=by
    unfold plB a0A
    rw[b1O n9 _ _ _ _ _ x _ _ _ _ _ _ _ a2 (a3r qu w t),a0h]
   have hf:=hf0.trans (b1L _ _ (S.map sD) _ _ _ _ _ _ o9 _ _ (by rw[List.length_eraseIdx,ll];split<;>omega) (by rw[List.length_map];omega) (by rw[List.length_set,I.lN];omega))
   refine⟨_,(congrArg A1 (b1N M6 _ _ _ _ _ _ _ _ x (i:Int) _ _ t (wS w) U[i] _ o6 o7 o8 o9 _ (by rw[ll];omega) (by rw[ll];exact hi) a1 a2 hr hw hz (a0F (by rw[I.lN];exact hn)) hf)).trans rfl,_,_,_,_,some (.int x),some (.int (i:Int)),some (.tup [.int (wI w),.int t]),some (.int (U[i]:Int)),some (sD (pR qu w t)),st,?_⟩
   have f1:S.map sD++[sD (pL qu w t)]++[sD (pR qu w t)]=(S++[pL qu w t]++[pR qu w t]).map sD:=by simp
   have f2:(D.tup [.str (wS w),.int t,.int (N.length:Int),.int ((N.length:Int)+1)])=nd w t S.length (S.length+1):=by rw[I.lN];rfl
   have f3:(oL U).eraseIdx i++[D.int (((N.set U[i] (D.tup [.str (wS w),.int t,.int (N.length:Int),.int ((N.length:Int)+1)])).length:Nat):Int)]++[D.int (((N.set U[i] (D.tup [.str (wS w),.int t,.int (N.length:Int),.int ((N.length:Int)+1)])++[D.non]).length:Nat):Int)]=oL (U.eraseIdx i++[S.length]++[S.length+1]):=by
    rw[List.length_append,List.length_set,I.lN]
    unfold oL
    rw[List.map_append,List.map_append,List.eraseIdx_eq_take_drop_succ,List.eraseIdx_eq_take_drop_succ,List.map_append,List.map_take,List.map_drop]
    rfl
   rw[f3,f2,f1]
   rfl)
 exact⟨T,S,N,U,I,b0X _ W H _ _ _ _ _ _ _ _ _ f⟩
inductive En where
 | wa
 | wr (i:Int) (b:Bool)
def eD:En→D
 | .wa=>.tup [.str "waste"]
 | .wr i b=>.tup [.str "ware",.int i,.bl b]
abbrev flB(MX:List D→Option R1)(GI:D→D→Option D):SF:=(d7 (u7 5 (a1T (eB gGt (eB d6 (p7 j7 0 (eV 4)) (eC (.int 2))) (eB d6 (p7 j7 0 (eV 4)) (eC (.int 0)))) (eB gGt (eB d6 (p7 j7 0 (eV 4)) (eC (.int 3))) (eB d6 (p7 j7 0 (eV 4)) (eC (.int 1)))))) (x3 (a1S (bZ (eB GI (p7 j7 1 (eV 4)) (eC .non))) (a1S (bZ (eV 5)) (bZ (eB gGt (eB w6 (h9 MX (aC (eV 2) (aC (eV 4) (aC (eC (.int 10007)) aN)))) (eC (.int 4))) (eC (.int 0)))))) (y6 3 (eV 4)) A5))
abbrev Z4(A N K:List D)(c:Int)(s4 s5:Sl):DE:=[.fz (.lst A),.fz (.lst N),.fz (.int c),.ow K,s4,s5,.no,.no,.no,.no,.no,.no]
theorem b1P(MX:List D→Option R1)(GI:D→D→Option D)(A N K:List D)(c k m w x y z:Int)(d:D)(b:Bool)(o5:Option D)(a1:atI A k=some (.tup [.int w,.int x,.int y,.int z]))(a2:atI N k=some d)(hd:GI d .non=some (.bl b))(hm:MX [.int c,.int k,.int 10007]=some (.ret (.int m)))(hK:K.length<sizeLine) :
  ∃(p:Bool) (v:D),flB MX GI (Z4 A N K c (.fz (.int k)) (un o5))=some (.nx (Z4 A N (if p=true then K++[.int k]else K) c (.fz (.int k)) (.fz v))):=by
 unfold flB Z4
 by_cases h1:y > w
 ·by_cases h2:z > x
  ·by_cases h3:m%4 > 0
   ·cases b
    ·refine⟨false,.bl true,?_⟩
     rw[if_neg (by decide)]
     walk_at "eh"
    ·refine⟨true,.bl true,?_⟩
     rw[if_pos rfl]
     walk_at "eh"
   ·refine⟨false,.bl true,?_⟩
    rw[if_neg (by decide)]
    cases b<;>walk_at "eh" <;>rfl
  ·refine⟨false,.bl false,?_⟩
   rw[if_neg (by decide)]
   cases b<;>walk_at "eh" <;>rfl
 ·refine⟨false,.bl false,?_⟩
  rw[if_neg (by decide)]
  cases b<;>walk_at "eh" <;>rfl
theorem a9A(d:D):∃b,K8 false d .non=some (.bl b):=by cases d<;>exact⟨_,rfl⟩
theorem b0Y{S:List Sp4}{k:Nat}(h:k<S.length):atI (S.map sD) (k:Int)=some (sD S[k]):=by
 apply G4
 rw[List.getElem?_map,List.getElem?_eq_getElem h]
 rfl
theorem b1Q{N:List D}{k:Nat}(h:k<N.length):atI N (k:Int)=some N[k]:=by
 apply G4
 rw[List.getElem?_eq_getElem h]
theorem b0Z(K:List Nat)(k:Nat):oL K++[.int (k:Int)]=oL (K++[k]):=by
 unfold oL
 rw[List.map_append]
 rfl
theorem a9B(S:List Sp4)(N:List D)(hN:N.length=S.length)(hl:S.length≤1000)(c:Int):∃(K:List Nat) (o4 o5:Option D),K.Nodup∧(∀k∈K,k<S.length)∧(Y3 a0m (aC (C7 p8 1) aN) (g9 4) (flB j6 (K8 false))) (Z4 (S.map sD) N [] c .no .no)=some (.nx (Z4 (S.map sD) N (oL K) c (un o4) (un o5))):=by
 obtain⟨e',f,K,o4,o5,hK,rfl⟩:=S5 (b:=g9 4) (body:=flB j6 (K8 false)) (fun(k:Nat)=>D.int (k:Int)) (fun pre e=>∃(K:List Nat) (o4 o5:Option D),K.Sublist pre∧e=Z4 (S.map sD) N (oL K) c (un o4) (un o5)) (List.range S.length) (Z4 (S.map sD) N [] c .no .no) ⟨[],none,none,List.Sublist.refl _,rfl⟩ (by
  rintro pre k post e hq ⟨K,o4,o5,hK,rfl⟩
  have hk:k<S.length:=List.mem_range.mp (by rw[hq];simp)
  have hp:pre.length<S.length:=by have:=congrArg List.length hq;rw[List.length_range,List.length_append,List.length_cons]at this;omega
  have hb:g9 4 (.int (k:Int)) (Z4 (S.map sD) N (oL K) c (un o4) (un o5))=some (Z4 (S.map sD) N (oL K) c (.fz (.int (k:Int))) (un o5)):=by cases o4<;>rfl
  obtain⟨m,_,hm⟩:=a1H c (k:Int) 10007 (by omega) (by omega) (by omega)
  obtain⟨b,hd⟩:=a9A (N[k]'(by omega))
  obtain⟨p,v,st⟩:=b1P j6 (K8 false) (S.map sD) N (oL K) c (k:Int) m _ _ _ _ _ b o5 (b0Y hk) (b1Q (by omega)) hd hm (by rw[List.length_map];have:=hK.length_le;show _<2 ^ 24;omega)
  rw[hb,B8]
  refine⟨_,(congrArg A1 st).trans rfl,if p=true then K++[k]else K,some (.int (k:Int)),some v,?_,?_⟩
  ·cases p
   ·exact hK.trans (List.sublist_append_left _ _)
   ·exact hK.append (List.Sublist.refl _)
  ·cases p
   ·rfl
   ·rw[if_pos rfl,if_pos rfl,b0Z]
    rfl)
 refine⟨K,o4,o5,hK.nodup List.nodup_range,fun k m=>List.mem_range.mp (hK.subset m),?_⟩
 have e0:(aC (C7 p8 1) aN) (Z4 (S.map sD) N [] c .no .no)=some (.ok [.int (N.length:Int)] (Z4 (S.map sD) N [] c .no .no)):=rfl
 rw[hN]at e0
 rw[a4p e0 (a6l hl),b0R]
 exact f
abbrev elK(MX:List D→Option R1):ZF:=(eT (aC (h9 MX (aC (eB B7 (eV 1) (eC (.int 5))) (aC (eV 0) (aC (eC (.int 7919)) aN)))) (aC (eV 0) aN)))
theorem b00(MX:List D→Option R1)(c k m:Int)(h:MX [.int (c/5),.int k,.int 7919]=some (.ret (.int m))):elK MX [.fz (.int k),.fz (.int c)]=some (.ok (.tup [.int m,.int k]) [.fz (.int k),.fz (.int c)]):=by
 unfold elK
 walk_at "eh"
theorem a4r(c:Int)(kf:Nat→List Int)(hf:∀k:Nat,k≤1000→elK j6 [.fz (.int (k:Int)),.fz (.int c)]=some (.ok (.tup ((kf k).map D.int)) [.fz (.int (k:Int)),.fz (.int c)]))(nn:∀k,kf k≠[]):∀K:List Nat,(∀k∈K,k≤1000)→O2 (elK j6) [.no,.fz (.int c)] (oL K)=some (K.map kf)
 | [],_=>rfl
 | k::K,h=>by
  show O2 (elK j6) [.no,.fz (.int c)] (.int (k:Int)::oL K)=_
  unfold O2
  rw[show([Sl.no,.fz (.int c)]:DE).set 0 (.fz (.int (k:Int)))=[.fz (.int (k:Int)),.fz (.int c)]from rfl,hf k (h k List.mem_cons_self)]
  show(match V0 ((kf k).map D.int)with
   | some x=>if x≠[]then(O2 (elK j6) [.no,.fz (.int c)] (oL K)).map (x :: ·)else none
   | none=>none)=_
  rw[L2.ints_map]
  show(if kf k≠[]then _ else _)=_
  rw[if_pos (nn k),a4r c kf hf nn K fun x m=>h x (List.mem_cons_of_mem _ m)]
  rfl
theorem a7z(c:Int)(e e1:DE)(K:List Nat)(hK:K.Nodup)(hk:∀k∈K,k<999)(h:(aC (eV 3) aN) e=some (.ok [.lst (oL K)] e1))(hc:m5 1 [2] e1=[.no,.fz (.int c)]):∃σ:List Nat,σ.Perm K∧a1F [2] (aC (eV 3) aN) (elK j6) e=some (.ok (oL σ) e1):=by
 have hx:∀k:Nat,k≤1000→∃m:Int,j6 [.int (c/5),.int (k:Int),.int 7919]=some (.ret (.int m)):=fun k h=>by
  obtain⟨m,_,hm⟩:=a1H (c/5) (k:Int) 7919 (by omega) (by omega) (by omega)
  exact⟨m,hm⟩
 let mf:Nat→Int:=fun k=>if h:k≤1000 then(hx k h).choose else 0
 have hmf:∀k:Nat,k≤1000→j6 [.int (c/5),.int (k:Int),.int 7919]=some (.ret (.int (mf k))):=fun k h=>by
  show _=some (R1.ret (.int (if h:k≤1000 then(hx k h).choose else 0)))
  rw[dif_pos h]
  exact(hx k h).choose_spec
 have hl9:K.length<1000:=by
  have:=nodup_le (m:=List.range 999) hK fun k m=>List.mem_range.mpr (hk k m)
  rw[List.length_range]at this
  omega
 generalize hkf:(fun k:Nat=>[mf k,(k:Int)])=kf at *
 have kfe:∀k,kf k=[mf k,(k:Int)]:=fun k=>by rw[← hkf]
 have key:=a4r c kf (fun k h=>by rw[kfe];exact b00 j6 c _ _ (hmf k h)) (fun k=>by rw[kfe];exact List.cons_ne_nil _ _) K (fun k m=>by have:=hk k m;omega)
 have ok:okK (K.map kf)=true:=by
  unfold okK
  rw[Bool.and_eq_true]
  constructor
  ·refine decide_eq_true ?_
   rw[List.nodup_iff_pairwise_ne,List.pairwise_map]
   refine List.Pairwise.imp ?_ hK
   intro i j h e
   rw[kfe,kfe]at e
   injection e with _ e
   injection e with e
   omega
  ·rw[List.all_eq_true]
   intro k mm
   obtain⟨i,hi,rfl⟩:=List.mem_map.mp mm
   cases K with
   | nil=>cases hi
   | cons a K=>rw[List.map_cons,List.headD_cons,kfe,kfe];rfl
 have hr:Z0 (K.map kf) (oL K)=K.map fun(k:Nat)=>((kf k,[D.int (k:Int)]):Q8):=by
  unfold Z0
  apply List.ext_getElem?
  intro i
  by_cases hi:i<K.length
  ·rw[List.getElem?_map,List.getElem?_range (by rw[List.length_map];exact hi),List.getElem?_map,List.getElem?_eq_getElem hi]
   show some ((K.map kf).getD i [],[(oL K).getD i .non])=some (kf K[i],[D.int (K[i]:Int)])
   rw[List.getD_eq_getElem?_getD,List.getElem?_map,List.getElem?_eq_getElem hi,List.getD_eq_getElem?_getD,List.getElem?_map,List.getElem?_eq_getElem hi]
   rfl
  ·rw[List.getElem?_eq_none (by rw[List.length_map,List.length_range,List.length_map];omega),List.getElem?_eq_none (by rw[List.length_map];omega)]
 obtain⟨σ,p1,p2⟩:=a7y (fun(k:Nat)=>((kf k,[D.int (k:Int)]):Q8)) (Y9 (Z0 (K.map kf) (oL K))) K hr
 refine⟨σ,p1,?_⟩
 unfold a1F
 rw[h,W5]
 show(if(oL K).length<1000 then(match O2 (elK j6) (m5 1 [2] e1) (oL K)with
  | some ks=>if okK ks=true then some (L2.R.ok ((Y8 (Z0 ks (oL K))).map fun q=>q.2.headD .non) e1)else none
  | none=>none)else none)=_
 rw[if_pos (by rw[List.length_map];exact hl9),hc,key]
 show(if okK (K.map kf)=true then _ else _)=_
 rw[if_pos ok,p2,List.map_map]
 rfl
abbrev f2B(MX:List D→Option R1):SF:=(d7 (u7 9 (eB v7 (eB d6 (p7 j7 0 (eV 4)) (eC (.int 2))) (eB d6 (p7 j7 0 (eV 4)) (eC (.int 0))))) (d7 (u7 10 (eB v7 (eB d6 (p7 j7 0 (eV 4)) (eC (.int 3))) (eB d6 (p7 j7 0 (eV 4)) (eC (.int 1))))) (d7 (B5 11 MX (aC (eB B7 (eV 2) (eC (.int 3))) (aC (eV 4) (aC (eC (.int 20011)) aN)))) (d7 (V9 8 (eV 4) (eT (aC (eC (.str "ware")) (aC (C7 p8 7) (aC (eB (u6 false) (eB w6 (eV 11) (eC (.int 3))) (eC (.int 0))) aN))))) (x3 (bZ (eB (u6 false) (eB w6 (eV 11) (eC (.int 3))) (eC (.int 0)))) (y6 7 (eT (aC (eV 10) (aC (eV 9) (aC (eC (.bl true)) aN))))) (y6 7 (eT (aC (eV 9) (aC (eV 10) (aC (eB (u6 false) (eB w6 (eB B7 (eV 11) (eC (.int 3))) (eC (.int 2))) (eC (.int 0))) aN))))))))))
abbrev f2E(A N K:D)(c:Int)(s4 s5:Sl)(O Wl E:List D)(s6:Sl)(s9 s10 s11:Sl):DE:=[.fz A,.fz N,.fz (.int c),.fz K,s4,s5,s6,.ow Wl,.ow E,s9,s10,s11]
theorem b1R(MX:List D→Option R1)(A:List D)(N K:D)(c k m w x y z:Int)(kn:Nat)(s5 s6:Sl)(O Wl E:List D)(o9 o10 o11:Option D)(a1:atI A k=some (.tup [.int w,.int x,.int y,.int z]))(hm:MX [.int (c/3),.int k,.int 20011]=some (.ret (.int m)))(ix:M8 E.length k=some kn)(hW:Wl.length<sizeLine) :
  ∃v:D,f2B MX (f2E (.lst A) N K c (.fz (.int k)) s5 O Wl E s6 (un o9) (un o10) (un o11))=some (.nx (f2E (.lst A) N K c (.fz (.int k)) s5 O (Wl++[v]) (E.set kn (.tup [.str "ware",.int (Wl.length:Int),.bl (decide (m%3=0))])) s6 (.fz (.int (y-w))) (.fz (.int (z-x))) (.fz (.int m)))):=by
 unfold f2B f2E
 by_cases h:m%3=0
 ·refine⟨.tup [.int (z-x),.int (y-w),.bl true],?_⟩
  walk_at "eh"
 ·refine⟨.tup [.int (y-w),.int (z-x),.bl (decide (m/3%2=0))],?_⟩
  walk_at "eh"
theorem b1l(S:List Sp4)(hl:S.length≤1000)(N K:D)(c:Int)(o4:Option D)(s5:Sl)(σ:List Nat)(hσ:∀k∈σ,k<S.length)(hs:σ.length≤1000):∃(Wl:List D) (L:List En) (p4 o9 o10 o11:Option D),L.length=S.length∧(∀k∈σ,∃i b,L[k]? = some (.wr i b)) ∧
  P3 6 (g9 4) (f2B j6) (f2E (.lst (S.map sD)) N K c (un o4) s5 [] [] ((List.replicate S.length En.wa).map eD) (.ow (oL σ)) .no .no .no)=some (.nx (f2E (.lst (S.map sD)) N K c (un p4) s5 [] Wl (L.map eD) (.ow (oL σ)) (un o9) (un o10) (un o11))):=by
 obtain⟨e',f,Wl,L,p4,o9,o10,o11,h1,h2,h3,rfl⟩:=S5 (b:=g9 4) (body:=f2B j6) (fun(k:Nat)=>D.int (k:Int)) (fun pre e=>∃(Wl:List D) (L:List En) (p4 o9 o10 o11:Option D),Wl.length=pre.length∧L.length=S.length∧(∀k∈pre,∃i b,L[k]? = some (.wr i b))∧e=f2E (.lst (S.map sD)) N K c (un p4) s5 [] Wl (L.map eD) (.hd (oL σ)) (un o9) (un o10) (un o11)) σ (f2E (.lst (S.map sD)) N K c (un o4) s5 [] [] ((List.replicate S.length En.wa).map eD) (.hd (oL σ)) .no .no .no) ⟨[],List.replicate S.length En.wa,o4,none,none,none,rfl,List.length_replicate ..,fun k m=>absurd m List.not_mem_nil,rfl⟩ (by
  rintro pre k post e hq ⟨Wl,L,p4,o9,o10,o11,h1,h2,h3,rfl⟩
  have hk:k<S.length:=hσ k (by rw[hq];simp)
  have hp:pre.length<1000:=by have:=congrArg List.length hq;rw[List.length_append,List.length_cons]at this;omega
  have hb:g9 4 (.int (k:Int)) (f2E (.lst (S.map sD)) N K c (un p4) s5 [] Wl (L.map eD) (.hd (oL σ)) (un o9) (un o10) (un o11))=some (f2E (.lst (S.map sD)) N K c (.fz (.int (k:Int))) s5 [] Wl (L.map eD) (.hd (oL σ)) (un o9) (un o10) (un o11)):=by cases p4<;>rfl
  obtain⟨m,_,hm⟩:=a1H (c/3) (k:Int) 20011 (by omega) (by omega) (by omega)
  obtain⟨v,st⟩:=b1R j6 (S.map sD) N K c (k:Int) m _ _ _ _ k s5 (.hd (oL σ)) [] Wl (L.map eD) o9 o10 o11 (b0Y hk) hm (a0F (by rw[List.length_map,h2];exact hk)) (by show _<2 ^ 24;omega)
  rw[hb,B8]
  refine⟨_,(congrArg A1 st).trans rfl,Wl++[v],L.set k (.wr (Wl.length:Int) (decide (m%3=0))),some (.int (k:Int)),some (.int (S[k].c-S[k].a)),some (.int (S[k].d-S[k].b)),some (.int m),by rw[List.length_append,List.length_append,h1];rfl,by rw[List.length_set,h2],fun j mj=>?_,?_⟩
  ·by_cases z:k=j
   ·subst z
    exact⟨_,_,List.getElem?_set_self (by omega)⟩
   ·rcases List.mem_append.mp mj with mj | mj
    ·rw[List.getElem?_set_ne z];exact h3 j mj
    ·exact absurd (List.mem_singleton.mp mj).symm z
  ·rw[List.map_set]
   rfl)
 refine⟨Wl,L,p4,o9,o10,o11,h2,h3,?_⟩
 show unhide 6 (oL σ) (x4 (g9 4) (f2B j6) (oL σ) (f2E (.lst (S.map sD)) N K c (un o4) s5 [] [] ((List.replicate S.length En.wa).map eD) (.hd (oL σ)) .no .no .no))=_
 rw[f]
 rfl
abbrev wsC:NF:=(Q0 1 1 [] (g9 0) R8 (eT (aC (eC (.str "waste")) aN)))
theorem b1m(A:D)(N:List D)(hl:N.length≤1000)(c K:D)(s4 s5 s6 s7:Sl):wsC [.fz A,.fz (.lst N),.fz c,.fz K,s4,s5,s6,s7,.no,.no,.no,.no]=some (.ok ((List.replicate N.length En.wa).map eD) [.fz A,.fz (.lst N),.fz c,.fz K,s4,s5,s6,s7,.no,.no,.no,.no]):=by
 show t5 (g9 0) R8 (eT (aC (eC (.str "waste")) aN)) [.no] _ N []=_
 have e0:N=N.map id:=(List.map_id N).symm
 rw[e0,O1 id (fun _=>D.tup [.str "waste"]) (fun _=>true) N [] (by show 0+_≤2 ^ 24;omega) (fun d _=>⟨[.fz d],[.fz d],rfl,rfl,fun _=>⟨[.fz d],rfl⟩⟩)]
 rw[List.filter_eq_self.mpr (fun _ _=>rfl),List.nil_append,List.map_const',List.map_replicate,List.map_id]
 rfl
theorem a7A(L1 L2:SF)(NS NW:NF)(A N:D)(c:Int)(K O Wl E E0:List D)(s4 s5 s4' s9 s10 s11:Sl)(h1:L1 [.fz A,.fz N,.fz (.int c),.ow [],.no,.no,.no,.no,.no,.no,.no,.no]=some (.nx [.fz A,.fz N,.fz (.int c),.ow K,s4,s5,.no,.no,.no,.no,.no,.no]))
  (h2:NS [.fz A,.fz N,.fz (.int c),.ow K,s4,s5,.no,.no,.no,.no,.no,.no]=some (.ok O [.fz A,.fz N,.fz (.int c),.fz (.lst K),s4,s5,.no,.no,.no,.no,.no,.no])) (h3:NW [.fz A,.fz N,.fz (.int c),.fz (.lst K),s4,s5,.ow O,.ow [],.no,.no,.no,.no]=some (.ok E0 [.fz A,.fz N,.fz (.int c),.fz (.lst K),s4,s5,.ow O,.ow [],.no,.no,.no,.no]))
  (h4:L2 [.fz A,.fz N,.fz (.int c),.fz (.lst K),s4,s5,.ow O,.ow [],.ow E0,.no,.no,.no]=some (.nx [.fz A,.fz N,.fz (.int c),.fz (.lst K),s4',s5,.ow O,.ow Wl,.ow E,s9,s10,s11])) :
  fD 12 3 (d7 (n6 3 (eL aN)) (d7 L1 (d7 (n6 6 NS) (d7 (n6 7 (eL aN)) (d7 (n6 8 NW) (d7 L2 (S6 7 8 6))))))) [A,N,.int c]=some (.owz [Wl,E,O]):=by
 have e:S6 7 8 6 [.fz A,.fz N,.fz (.int c),.fz (.lst K),s4',s5,.ow O,.ow Wl,.ow E,s9,s10,s11]=some (.rz [Wl,E,O]):=rfl
 generalize S6 7 8 6=RZ at *
 walk_at "eh"
theorem a6q(S:List Sp4)(N:List D)(hN:N.length=S.length)(hl:S.length<999)(c:Int):∃(Wl:List D) (L:List En) (σ:List Nat),L.length=S.length∧(∀k∈σ,k<S.length∧∃i b,L[k]? = some (.wr i b))∧σ.length≤1000∧F9 [.lst (S.map sD),.lst N,.int c]=some (.owz [Wl,L.map eD,oL σ]):=by
 obtain⟨K,o4,o5,nK,kK,f1⟩:=a9B S N hN (by omega) c
 obtain⟨σ,pσ,f2⟩:=a7z c (Z4 (S.map sD) N (oL K) c (un o4) (un o5)) [.fz (.lst (S.map sD)),.fz (.lst N),.fz (.int c),.fz (.lst (oL K)),un o4,un o5,.no,.no,.no,.no,.no,.no] K nK (fun k m=>by have:=kK k m;omega) rfl rfl
 have hσ:∀k∈σ,k<S.length:=fun k m=>kK k (pσ.mem_iff.mp m)
 have hs:σ.length≤1000:=by
  have:=nodup_le (m:=List.range 999) nK fun k m=>List.mem_range.mpr (by have:=kK k m;omega)
  rw[List.length_range]at this
  rw[pσ.length_eq]
  omega
 obtain⟨Wl,L,p4,o9,o10,o11,h1,h2,f4⟩:=b1l S (by omega) (.lst N) (.lst (oL K)) c o4 (un o5) σ hσ hs
 refine⟨Wl,L,σ,h1,fun k m=>⟨hσ k m,h2 k m⟩,hs,a7A _ _ _ _ _ _ _ _ _ _ _ _ _ _ _ _ _ _ f1 f2 ?_ f4⟩
 have:=b1m (.lst (S.map sD)) N (by omega) (.int c) (.lst (oL K)) (un o4) (un o5) (.ow (oL σ)) (.ow [])
 rw[hN]at this
 exact this
inductive Pl where
 | en (e:En)
 | ct (w:Bool) (t:Int) (l r:Pl)
def pD:Pl→D
 | .en e=>eD e
 | .ct w t l r=>.tup [.str (wS w),.int t,pD l,pD r]
def Tr.pl(f:Nat→En):Tr→Pl
 | .lf k=>.en (f k)
 | .ct _ w t l r=>.ct w t (l.pl f) (r.pl f)
def Tr.subs:Tr→List Tr
 | .lf k=>[.lf k]
 | .ct k w t l r=>.ct k w t l r::(l.subs++r.subs)
theorem a0u:∀T:Tr,T∈T.subs
 | .lf _=>List.mem_cons_self
 | .ct _ _ _ _ _=>List.mem_cons_self
theorem a0I{k:Nat}{w:Bool}{t:Int}{l r:Tr}:∀{T:Tr},Tr.ct k w t l r∈T.subs→l∈T.subs∧r∈T.subs
 | .lf _,h=>by cases List.mem_singleton.mp h
 | .ct k' w' t' l' r',h=>by
  rcases List.mem_cons.mp h with e | m
  ·cases e
   exact⟨List.mem_cons_of_mem _ (List.mem_append.mpr (.inl (a0u _))),List.mem_cons_of_mem _ (List.mem_append.mpr (.inr (a0u _)))⟩
  ·rcases List.mem_append.mp m with m | m
   ·obtain⟨a,b⟩:=a0I m
    exact⟨List.mem_cons_of_mem _ (List.mem_append.mpr (.inl a)),List.mem_cons_of_mem _ (List.mem_append.mpr (.inl b))⟩
   ·obtain⟨a,b⟩:=a0I m
    exact⟨List.mem_cons_of_mem _ (List.mem_append.mpr (.inr a)),List.mem_cons_of_mem _ (List.mem_append.mpr (.inr b))⟩
def Nok(N:List D):Tr→Prop
 | .lf k=>N[k]? = some .non
 | .ct k w t l r=>N[k]? = some (nd w t l.ix r.ix)∧k<l.ix∧k<r.ix
theorem a0_{N:List D}{S:List Sp4}:∀{T:Tr} {q:Sp4},Gd N S q T→∀X∈T.subs,Nok N X
 | .lf k,q,⟨a,_⟩,X,m=>by rw[List.mem_singleton.mp m];exact a
 | .ct k w t l r,q,⟨a,_,c,d,_,_,g1,g2⟩,X,m=>by
  rcases List.mem_cons.mp m with rfl | m
  ·exact⟨a,c,d⟩
  ·rcases List.mem_append.mp m with m | m
   ·exact a0_ g1 X m
   ·exact a0_ g2 X m
theorem a17:∀{T:Tr} {k:Nat},k∈T.ids→∃X∈T.subs,X.ix=k
 | .lf k,x,m=>⟨.lf k,List.mem_cons_self,(List.mem_singleton.mp m).symm⟩
 | .ct k w t l r,x,m=>by
  rcases List.mem_cons.mp m with rfl | m
  ·exact⟨_,List.mem_cons_self,rfl⟩
  ·rcases List.mem_append.mp m with m | m
   ·obtain⟨X,a,b⟩:=a17 m
    exact⟨X,List.mem_cons_of_mem _ (List.mem_append.mpr (.inl a)),b⟩
   ·obtain⟨X,a,b⟩:=a17 m
    exact⟨X,List.mem_cons_of_mem _ (List.mem_append.mpr (.inr a)),b⟩
theorem a1a:∀{T:Tr} {X:Tr},X∈T.subs→X.ix∈T.ids
 | .lf k,X,m=>by rw[List.mem_singleton.mp m];exact List.mem_cons_self
 | .ct k w t l r,X,m=>by
  rcases List.mem_cons.mp m with rfl | m
  ·exact List.mem_cons_self
  ·rcases List.mem_append.mp m with m | m
   ·exact List.mem_cons_of_mem _ (List.mem_append.mpr (.inl (a1a m)))
   ·exact List.mem_cons_of_mem _ (List.mem_append.mpr (.inr (a1a m)))
theorem b01{l:List Nat}(h:l.Nodup)(lt:∀i∈l,i<l.length){k:Nat}(hk:k<l.length):k∈l:=by
 by_cases m:k∈l
 ·exact m
 ·have:=nodup_le (l:=k::l) (m:=List.range l.length) (List.nodup_cons.mpr ⟨m,h⟩) fun x hx=>by
   rcases List.mem_cons.mp hx with rfl | hx
   ·exact List.mem_range.mpr hk
   ·exact List.mem_range.mpr (lt x hx)
  rw[List.length_cons,List.length_range]at this
  omega
abbrev jnB(GI:D→D→Option D):SF:=(d7 (u7 4 (eB v7 (eB v7 (C7 p8 0) (eC (.int 1))) (eV 3))) (x3 (bZ (eB GI (p7 j7 0 (eV 4)) (eC .non))) (V9 2 (eV 4) (eT (aC (eB d6 (p7 j7 0 (eV 4)) (eC (.int 0))) (aC (eB d6 (p7 j7 0 (eV 4)) (eC (.int 1))) (aC (p7 j7 2 (eB d6 (p7 j7 0 (eV 4)) (eC (.int 2)))) (aC (p7 j7 2 (eB d6 (p7 j7 0 (eV 4)) (eC (.int 3)))) aN)))))) A5))
theorem b1S(GI:D→D→Option D)(N B:List D)(E:D)(b k:Int)(o4:Option D)(hk:(N.length:Int)-1-b=k)(a:atI N k=some .non)(g:GI .non .non=some (.bl false)):jnB GI [.fz (.lst N),.fz E,.ow B,.fz (.int b),un o4]=some (.nx [.fz (.lst N),.fz E,.ow B,.fz (.int b),.fz (.int k)]):=by
 unfold jnB
 walk_at "eh"
theorem b1T(GI:D→D→Option D)(N B:List D)(E:D)(b k t i j:Int)(wd:Str)(x y:D)(kn:Nat)(o4:Option D)(hk:(N.length:Int)-1-b=k)(a:atI N k=some (.tup [.str wd,.int t,.int i,.int j]))(g:GI (.tup [.str wd,.int t,.int i,.int j]) .non=some (.bl true))(hi:atI B i=some x)(hj:atI B j=some y)(ix:M8 B.length k=some kn):jnB GI [.fz (.lst N),.fz E,.ow B,.fz (.int b),un o4]=some (.nx [.fz (.lst N),.fz E,.ow (B.set kn (.tup [.str wd,.int t,x,y])),.fz (.int b),.fz (.int k)]):=by
 unfold jnB
 walk_at "eh"
theorem a7B(LP:SF)(N:D)(E B:List D)(x:D)(s3 s4:Sl)(h:LP [.fz N,.fz (.lst E),.ow E,.no,.no]=some (.nx [.fz N,.fz (.lst E),.ow B,s3,s4]))(a:atI B 0=some x):fD 5 2 (d7 (n6 2 (nCV a1w 1)) (d7 LP (l9 (p7 j7 2 (eC (.int 0)))))) [N,.lst E]=some (.ret x):=by
 walk_at "eh"
theorem a6s{q0:Sp4}{m:Nat}{T:Tr}{S:List Sp4}{N:List D}{U:List Nat}(I:TrI q0 m T S N U)(hl:S.length≤1000)(L:List En)(hL:L.length=S.length)(f:Nat→En)(hf:∀k,k<S.length→L[k]? = some (f k)):F8 [.lst N,.lst (L.map eD)]=some (.ret (pD (T.pl f))):=by
 have nok:=a0_ I.gd
 have hN:=I.lN
 have ltS:∀X∈T.subs,X.ix<S.length:=fun X m=>I.lt _ (a1a m)
 obtain⟨e',fo,B,o3,o4,hB,b1,b2,rfl⟩:=S5 (b:=g9 3) (body:=jnB (K8 true)) (fun(k:Nat)=>D.int (k:Int)) (fun pre e=>∃(B:List D) (o3 o4:Option D),B.length=S.length∧(∀X∈T.subs,S.length≤X.ix+pre.length→B[X.ix]? = some (pD (X.pl f)))∧(∀k,k+pre.length<S.length→B[k]? = some (eD (f k)))∧e=[.fz (.lst N),.fz (.lst (L.map eD)),.ow B,un o3,un o4]) (List.range S.length) [.fz (.lst N),.fz (.lst (L.map eD)),.ow (L.map eD),.no,.no]
  ⟨L.map eD,none,none,by rw[List.length_map,hL],fun X m h=>absurd (ltS X m) (by rw[List.length_nil]at h;omega),fun k h=>by rw[List.getElem?_map,hf k (by omega)];rfl,rfl⟩ (by
  rintro pre k post e hq ⟨B,o3,o4,hB,b1,b2,rfl⟩
  have hk:k<S.length:=List.mem_range.mp (by rw[hq];simp)
  have hpk:pre.length=k:=by
   have:=congrArg (fun l=>l[pre.length]?) hq
   simp only[List.getElem?_append_right (Nat.le_refl _),Nat.sub_self,List.getElem?_cons_zero]at this
   have h2:pre.length<S.length:=by have:=congrArg List.length hq;rw[List.length_range,List.length_append,List.length_cons]at this;omega
   rw[List.getElem?_range h2]at this
   exact Option.some.inj this
  have hb:g9 3 (.int (k:Int)) [.fz (.lst N),.fz (.lst (L.map eD)),.ow B,un o3,un o4]=some [.fz (.lst N),.fz (.lst (L.map eD)),.ow B,.fz (.int (k:Int)),un o4]:=by cases o3<;>rfl
  rw[hb,B8]
  obtain⟨j,hj⟩:∃j,j=S.length-1-k:=⟨_,rfl⟩
  have hjI:(N.length:Int)-1-(k:Int)=(j:Int):=by rw[hN];omega
  obtain⟨X,mX,eX⟩:=a17 (b01 I.ndp (fun i m=>by rw[I.ln];exact I.lt i m) (k:=j) (by rw[I.ln];omega))
  have nX:=nok X mX
  cases X with
  | lf k' =>
   have eX:k'=j:=eX
   subst eX
   have a:atI N (k':Int)=some .non:=G4 nX
   refine⟨_,(congrArg A1 (b1S (K8 true) N B _ _ _ o4 hjI a rfl)).trans rfl,B,some (.int (k:Int)),some (.int (k':Int)),hB,fun Y mY hY=>?_,fun x hx=>b2 x (by rw[List.length_append,List.length_singleton]at hx;omega),rfl⟩
   rw[List.length_append,List.length_singleton]at hY
   by_cases z:Y.ix=k'
   ·have nY:=nok Y mY
    cases Y with
    | lf y =>
     have z:y=k':=z
     subst z
     exact b2 y (by omega)
    | ct y w t l r =>
     have z:y=k':=z
     subst z
     have nX:N[y]? = some .non:=nX
     have nY1:=nY.1
     rw[nX]at nY1
     cases nY1
   ·exact b1 Y mY (by omega)
  | ct k' w t l r =>
   have eX:k'=j:=eX
   subst eX
   obtain⟨n1,n2,n3⟩:=nX
   obtain⟨ml,mr⟩:=a0I mX
   have x1:=b1 l ml (by omega)
   have x2:=b1 r mr (by omega)
   have a:atI N (k':Int)=some (nd w t l.ix r.ix):=G4 n1
   refine⟨_,(congrArg A1 (b1T (K8 true) N B _ _ _ _ _ _ _ _ _ k' o4 hjI a rfl (G4 x1) (G4 x2) (a0F (by rw[hB];omega)))).trans rfl,B.set k' (pD (.ct w t (l.pl f) (r.pl f))),some (.int (k:Int)),some (.int (k':Int)),by rw[List.length_set,hB],fun Y mY hY=>?_,fun x hx=>?_,rfl⟩
   ·rw[List.length_append,List.length_singleton]at hY
    by_cases z:Y.ix=k'
    ·have nY:=nok Y mY
     cases Y with
     | lf y =>
      have z:y=k':=z
      subst z
      have nY:N[y]? = some .non:=nY
      rw[n1]at nY
      cases nY
     | ct y w' t' l' r' =>
      have z:y=k':=z
      subst z
      obtain⟨ml',mr'⟩:=a0I mY
      obtain⟨q1,q2,q3⟩:=nY
      rw[n1]at q1
      unfold nd at q1
      simp only[Option.some.injEq,D.tup.injEq,List.cons.injEq,D.str.injEq,D.int.injEq,and_true]at q1
      obtain⟨ew,et,el,er⟩:=q1
      have ew:w=w':=by
       revert ew
       unfold wS
       cases w<;>cases w' <;>decide +kernel
      have el:l.ix=l'.ix:=by omega
      have er:r.ix=r'.ix:=by omega
      have y1:=b1 l' ml' (by omega)
      have y2:=b1 r' mr' (by omega)
      rw[← el,x1]at y1
      rw[← er,x2]at y2
      show(B.set y _)[y]? = _
      rw[List.getElem?_set_self (by omega)]
      show some (D.tup [.str (wS w),.int t,pD (l.pl f),pD (r.pl f)])=some (D.tup [.str (wS w'),.int t',pD (l'.pl f),pD (r'.pl f)])
      rw[ew,et,Option.some.inj y1,Option.some.inj y2]
    ·rw[List.getElem?_set_ne (fun e=>z e.symm)]
     exact b1 Y mY (by omega)
   ·rw[List.length_append,List.length_singleton]at hx
    rw[List.getElem?_set_ne (by omega)]
    exact b2 x (by omega))
 rw[List.length_range]at b1
 refine a7B _ (.lst N) (L.map eD) B _ (un o3) (un o4) ?_ (G4 (j:=0) (by have:=b1 T (a0u T) (by omega);rw[I.rt]at this;exact this))
 have e0:(aC (C7 p8 0) aN) [.fz (.lst N),.fz (.lst (L.map eD)),.ow (L.map eD),.no,.no]=some (.ok [.int (N.length:Int)] [.fz (.lst N),.fz (.lst (L.map eD)),.ow (L.map eD),.no,.no]):=rfl
 rw[hN]at e0
 rw[a4p e0 (a6l hl),b0R]
 exact fo
theorem a0v{c:BF}{body:SF}(I:Nat→DE→Prop)(Fin:DE→Prop)(hs:∀m e,I m e→(∃e1 e2,c e=some (.ok true e1)∧A1 (body e1)=some (.nx e2)∧∃m',m'<m∧I m' e2)∨(∃e1,c e=some (.ok false e1)∧Fin e1)):∀(fuel m:Nat) (e:DE),m<fuel→I m e→∃e',L4 c body fuel e=some (.nx e')∧Fin e'
 | 0,_,_,h,_=>absurd h (Nat.not_lt_zero _)
 | fuel+1,m,e,h,hi=>by
  rcases hs m e hi with⟨e1,e2,h1,h2,m',hm,h3⟩ | ⟨e1,h1,h2⟩
  ·obtain⟨e',h4,h5⟩:=a0v I Fin hs fuel m' e2 (by omega) h3
   refine⟨e',?_,h5⟩
   rw[L4,h1,a0h,if_pos rfl]
   unfold A1 at h2
   split at h2
   ·rename_i q
    cases h2
    rw[q];exact h4
   ·rw[h2];exact h4
  ·exact⟨e1,by rw[L4,h1,a0h];rfl,h2⟩
abbrev Np:=Sp4×Pl
def l4(x:Np):D:=.tup [sD x.1,pD x.2]
def i9:Sp4→Pl→List Np
 | q,.en e=>[(q,.en e)]
 | q,.ct w t l r=>(q,.ct w t l r)::(i9 (pL q w t) l++i9 (pR q w t) r)
def psz:Pl→Nat
 | .en _=>1
 | .ct _ _ l r=>1+(psz l+psz r)
def V3:Pl→Bool
 | .en _=>false
 | .ct _ _ _ _=>true
theorem a0J:∀P:Pl,1≤psz P
 | .en _=>Nat.le_refl _
 | .ct _ _ l r=>by unfold psz;omega
theorem S3:∀(P:Pl) (q:Sp4),(i9 q P).length=psz P
 | .en _,_=>rfl
 | .ct w t l r,q=>by
  show(_::(i9 (pL q w t) l++i9 (pR q w t) r)).length=1+(psz l+psz r)
  rw[List.length_cons,List.length_append,S3 l,S3 r]
  omega
theorem a1I(P:Pl):n8 [pD P]=some (.ret (.bl (V3 P))):=by
 cases P with
 | en e=>cases e<;>rfl
 | ct w t l r=>cases w<;>rfl
abbrev ndB(IC CS:List D→Option R1):SF:=(d7 (T5 (a07 3) (F6 [(g9 4),(g9 5)])) (d7 (y6 2 (eT (aC (eV 4) (aC (eV 5) aN)))) (x3 (bZ (h9 IC (aC (eV 5) aN))) (d7 (T5 (h9 CS (aC (eV 4) (aC (eV 5) aN))) (F6 [(g9 6),(g9 7)])) (d7 (y6 3 (eT (aC (eV 7) (aC (eB d6 (eV 5) (eC (.int 3))) aN)))) (y6 3 (eT (aC (eV 6) (aC (eB d6 (eV 5) (eC (.int 2))) aN)))))) A5)))
theorem b1U(IC CS:List D→Option R1)(bx pl:D)(Out Z A:List D)(q p:D)(o4 o5 o6 o7:Option D)(z1:Z.getLast? = some (.tup [q,p]))(z2:Z.dropLast=A)(hl:Out.length<sizeLine)(hc:IC [p]=some (.ret (.bl false))):ndB IC CS [.fz bx,.fz pl,.ow Out,.ow Z,un o4,un o5,un o6,un o7]=some (.nx [.fz bx,.fz pl,.ow (Out++[.tup [q,p]]),.ow A,.fz q,.fz p,un o6,un o7]):=by
 unfold ndB
 walk_at "eh"
theorem b1V(IC CS:List D→Option R1)(bx pl:D)(Out Z A:List D)(q s t x y q1 q2:D)(o4 o5 o6 o7:Option D)(z1:Z.getLast? = some (.tup [q,.tup [s,t,x,y]]))(z2:Z.dropLast=A)(hl:Out.length<sizeLine)(hc:IC [.tup [s,t,x,y]]=some (.ret (.bl true)))(hs:CS [q,.tup [s,t,x,y]]=some (.ret (.tup [q1,q2])))(l1:A.length<sizeLine)(l2:(A++[D.tup [q2,y]]).length<sizeLine):ndB IC CS [.fz bx,.fz pl,.ow Out,.ow Z,un o4,un o5,un o6,un o7]=some (.nx [.fz bx,.fz pl,.ow (Out++[.tup [q,.tup [s,t,x,y]]]),.ow (A++[.tup [q2,y]]++[.tup [q1,x]]),.fz q,.fz (.tup [s,t,x,y]),.fz q1,.fz q2]):=by
 unfold ndB
 walk_at "eh"
theorem a4s(st:List Np)(x:Np):((st++[x]).map l4).getLast? = some (l4 x)∧((st++[x]).map l4).dropLast=st.map l4:=by
 rw[List.map_append,List.map_singleton]
 exact⟨List.getLast?_concat,List.dropLast_concat⟩
abbrev wcB:BF:=(bZ (eB gGt (C7 p8 3) (eC (.int 0))))
theorem a0K(s0 s1 s2:Sl)(Z:List D)(r:DE):wcB (s0::s1::s2 :: .ow Z::r)=some (.ok (decide ((Z.length:Int) > 0)) (s0::s1::s2 :: .ow Z::r)):=rfl
def fm(st:List Np):List Np:=st.reverse.flatMap fun x=>i9 x.1 x.2
theorem a1J(st:List Np)(x:Np):fm (st++[x])=i9 x.1 x.2++fm st:=by
 unfold fm
 rw[List.reverse_append,List.reverse_singleton,List.singleton_append,List.flatMap_cons]
def A9(st:List Np):Nat:=(st.map fun x=>psz x.2).sum
theorem w9(st:List Np)(x:Np):A9 (st++[x])=A9 st+psz x.2:=by
 unfold A9
 rw[List.map_append,List.sum_append]
 simp
theorem a8c(st:List Np):st.length≤A9 st:=by
 induction st with
 | nil=>exact Nat.zero_le _
 | cons a s ih =>
  have:=a0J a.2
  unfold A9 at *
  rw[List.map_cons,List.sum_cons,List.length_cons]
  omega
abbrev ndE(bx pl:D)(Out Z:List D)(s4 s5 s6 s7:Sl):DE:=[.fz bx,.fz pl,.ow Out,.ow Z,s4,s5,s6,s7]
theorem a9C(WH:SF)(w h:Int)(p:D)(Out Z:List D)(s4 s5 s6 s7:Sl)(hw:WH [.fz (.tup [.int w,.int h]),.fz p,.ow [],.ow [.tup [.tup [.int 0,.int 0,.int w,.int h],p]],.no,.no,.no,.no]=some (.nx [.fz (.tup [.int w,.int h]),.fz p,.ow Out,.ow Z,s4,s5,s6,s7])) :
  fD 8 2 (d7 (n6 2 (eL aN)) (d7 (n6 3 (eL (aC (eT (aC (eT (aC (eC (.int 0)) (aC (eC (.int 0)) (aC (eB d6 (eV 0) (eC (.int 0))) (aC (eB d6 (eV 0) (eC (.int 1))) aN))))) (aC (eV 1) aN))) aN))) (d7 WH (Y1 2)))) [.tup [.int w,.int h],p]=some (.own Out):=by
 walk_at "eh"
theorem a3t(W H:Int)(P:Pl)(hs:psz P≤1000):u5 [.tup [.int W,.int H],pD P]=some (.own ((i9 ⟨0,0,W,H⟩ P).map l4)):=by
 obtain⟨e',f,Z,s4,s5,s6,s7,rfl⟩:=a0v (c:=wcB) (body:=ndB n8 z7) (fun m e=>∃(out st:List Np) (o4 o5 o6 o7:Option D),e=ndE (.tup [.int W,.int H]) (pD P) (out.map l4) (st.map l4) (un o4) (un o5) (un o6) (un o7)∧out++fm st=i9 ⟨0,0,W,H⟩ P∧m=A9 st∧out.length+A9 st=psz P∧st.length≤A9 st) (fun e=>∃(Z:List D) (s4 s5 s6 s7:Sl),e=ndE (.tup [.int W,.int H]) (pD P) ((i9 ⟨0,0,W,H⟩ P).map l4) Z s4 s5 s6 s7) (by
  rintro m e ⟨out,st,o4,o5,o6,o7,rfl,h1,rfl,h2,h3⟩
  rcases List.eq_nil_or_concat st with rfl | ⟨st',x,rfl⟩
  ·right
   refine⟨_,a0K _ _ _ _ _,[],un o4,un o5,un o6,un o7,?_⟩
   rw[← h1]
   show _=ndE (.tup [.int W,.int H]) (pD P) ((out++[]).map l4) _ _ _ _ _
   rw[List.append_nil]
   rfl
  ·left
   rw[List.concat_eq_append]at *
   obtain⟨z1,z2⟩:=a4s st' x
   rw[w9]at h2 h3
   rw[List.length_append,List.length_singleton]at h3
   rw[a1J]at h1
   have hc:decide ((((st'++[x]).map l4).length:Int) > 0)=true:=decide_eq_true (by rw[List.length_map,List.length_append];show((_+1:Nat):Int) > 0;omega)
   obtain⟨q,X⟩:=x
   cases X with
   | en en0 =>
    have h2:out.length+(A9 st'+1)=psz P:=h2
    have h3:st'.length+1≤A9 st'+1:=h3
    refine⟨_,_,(a0K _ _ _ _ _).trans (by rw[hc]),(congrArg A1 (b1U n8 z7 _ _ (out.map l4) _ _ _ _ o4 o5 o6 o7 z1 z2 (by rw[List.length_map];show _<2 ^ 24;omega) (a1I (.en en0)))).trans rfl,A9 st',by rw[w9];show _<A9 st'+1;omega,out++[(q,.en en0)],st',some (sD q),some (pD (.en en0)),o6,o7,?_,?_,rfl,?_,by omega⟩
    ·rw[List.map_append];rfl
    ·rw[List.append_assoc];exact h1
    ·rw[List.length_append];show _+1+_=_;omega
   | ct w t l r =>
    have h2:out.length+(A9 st'+(1+(psz l+psz r)))=psz P:=h2
    have h3:st'.length+1≤A9 st'+(1+(psz l+psz r)):=h3
    have pl:=a0J l
    have pr:=a0J r
    have hst:=a8c st'
    have lz:(st'.map l4).length<sizeLine:=by rw[List.length_map];show _<2 ^ 24;omega
    refine⟨_,_,(a0K _ _ _ _ _).trans (by rw[hc]),(congrArg A1 (b1V n8 z7 _ _ (out.map l4) _ _ _ _ _ _ _ _ _ o4 o5 o6 o7 z1 z2 (by rw[List.length_map];show _<2 ^ 24;omega) (a1I (.ct w t l r)) (a6m q w t _ _) lz (by rw[List.length_append,List.length_map];show _+1<2 ^ 24;omega))).trans rfl,A9 (st'++[(pR q w t,r)]++[(pL q w t,l)]),?_,out++[(q,.ct w t l r)],st'++[(pR q w t,r)]++[(pL q w t,l)],some (sD q),some (pD (.ct w t l r)),some (sD (pL q w t)),some (sD (pR q w t)),?_,?_,rfl,?_,?_⟩
    ·rw[w9,w9,w9]
     show A9 st'+psz r+psz l<A9 st'+(1+(psz l+psz r))
     omega
    ·rw[List.map_append,List.map_append,List.map_append];rfl
    ·rw[a1J,a1J,List.append_assoc]
     show out++((q,Pl.ct w t l r)::(i9 (pL q w t) l++(i9 (pR q w t) r++fm st')))=_
     rw[← h1]
     show _=out++(((q,Pl.ct w t l r)::(i9 (pL q w t) l++i9 (pR q w t) r))++fm st')
     rw[List.cons_append,List.append_assoc]
    ·rw[w9,w9,List.length_append]
     show out.length+1+(A9 st'+psz r+psz l)=_
     omega
    ·rw[w9,w9,List.length_append,List.length_append]
     show st'.length+1+1≤A9 st'+psz r+psz l
     omega) 1000000 (psz P) (ndE (.tup [.int W,.int H]) (pD P) [] [l4 (⟨0,0,W,H⟩,P)] .no .no .no .no) (by omega) ⟨[],[(⟨0,0,W,H⟩,P)],none,none,none,none,rfl,by unfold fm;simp,by unfold A9;simp,by unfold A9;simp,by unfold A9;have:=a0J P;simp;omega⟩
 exact a9C _ W H _ _ Z s4 s5 s6 s7 f
abbrev V4(W H:Int)(P:Pl):List Np:=(i9 ⟨0,0,W,H⟩ P).filter fun x=>!V3 x.2
theorem b1W(NO:List D→Option R1)(b p:D)(L:List D)(h:NO [b,p]=some (.own L)):(h9 NO (aC (eV 0) (aC (eV 1) aN))) [.fz b,.fz p]=some (.ok (.lst L) [.fz b,.fz p]):=by
 walk_at "eh"
theorem b1X(IC:List D→Option R1)(q p:D)(b:Bool)(h:IC [p]=some (.ret (.bl b))):(J6 (bZ (h9 IC (aC (eV 1) aN)))) [.fz q,.fz p]=some (.ok (!b) [.fz q,.fz p]):=by
 walk_at "eh"
theorem b1Y(IC:List D→Option R1)(q p:D)(b:Bool)(h:IC [p]=some (.ret (.bl b))):(bZ (h9 IC (aC (eV 1) aN))) [.fz q,.fz p]=some (.ok b [.fz q,.fz p]):=by
 walk_at "eh"
theorem a6u(W H:Int)(P:Pl)(hs:psz P≤1000):z8 [.tup [.int W,.int H],pD P]=some (.own ((V4 W H P).map l4)):=by
 have e:(R9 2 [] (h9 u5 (aC (eV 0) (aC (eV 1) aN))) (F6 [(g9 0),(g9 1)]) (J6 (bZ (h9 n8 (aC (eV 1) aN)))) (eT (aC (eV 0) (aC (eV 1) aN)))) [.fz (.tup [.int W,.int H]),.fz (pD P)]=some (.ok ((V4 W H P).map l4) [.fz (.tup [.int W,.int H]),.fz (pD P)]):=by
  unfold R9
  rw[b1W u5 _ _ _ (a3t W H P hs),W5]
  show t5 (F6 [(g9 0),(g9 1)]) (J6 (bZ (h9 n8 (aC (eV 1) aN)))) (eT (aC (eV 0) (aC (eV 1) aN))) [.no,.no] _ ((i9 ⟨0,0,W,H⟩ P).map l4) []=_
  rw[O1 l4 l4 (fun x=>!V3 x.2) (i9 ⟨0,0,W,H⟩ P) [] (by rw[S3];show 0+_≤2 ^ 24;omega) (fun x _=>⟨[.fz (sD x.1),.fz (pD x.2)],[.fz (sD x.1),.fz (pD x.2)],rfl,b1X n8 _ _ _ (a1I x.2),fun _=>⟨_,rfl⟩⟩)]
  rw[List.nil_append]
 have:z8 [.tup [.int W,.int H],pD P]=W0 (M9 ((R9 2 [] (h9 u5 (aC (eV 0) (aC (eV 1) aN))) (F6 [(g9 0),(g9 1)]) (J6 (bZ (h9 n8 (aC (eV 1) aN)))) (eT (aC (eV 0) (aC (eV 1) aN)))) [.fz (.tup [.int W,.int H]),.fz (pD P)]) fun ds _=>some (.ro ds)):=rfl
 rw[this,e]
 rfl
theorem b1Z(NO:List D→Option R1)(p:D)(L:List D)(h:NO [.tup [.int 0,.int 0],p]=some (.own L)):(h9 NO (aC (eT (aC (eC (.int 0)) (aC (eC (.int 0)) aN))) (aC (eV 0) aN))) [.fz p]=some (.ok (.lst L) [.fz p]):=by
 walk_at "eh"
theorem a9D(CO:NF)(p:D)(L:List D)(h:CO [.fz p]=some (.ok L [.fz p])):fD 1 1 (l9 (U5 (g1 p8) (aC (zN CO) aN))) [p]=some (.ret (.int (L.length:Int))):=by
 walk_at "eh"
theorem a7C(P:Pl)(hs:psz P≤1000):D1 [pD P]=some (.ret (.int (((i9 ⟨0,0,0,0⟩ P).filter fun x=>V3 x.2).length:Int))):=by
 have e:(R9 2 [] (h9 u5 (aC (eT (aC (eC (.int 0)) (aC (eC (.int 0)) aN))) (aC (eV 0) aN))) (F6 [(g9 0),(g9 1)]) (bZ (h9 n8 (aC (eV 1) aN))) (eV 1)) [.fz (pD P)]=some (.ok (((i9 ⟨0,0,0,0⟩ P).filter fun x=>V3 x.2).map fun x=>pD x.2) [.fz (pD P)]):=by
  unfold R9
  rw[b1Z u5 _ _ (a3t 0 0 P hs),W5]
  show t5 (F6 [(g9 0),(g9 1)]) (bZ (h9 n8 (aC (eV 1) aN))) (eV 1) [.no,.no] _ ((i9 ⟨0,0,0,0⟩ P).map l4) []=_
  rw[O1 l4 (fun x=>pD x.2) (fun x=>V3 x.2) (i9 ⟨0,0,0,0⟩ P) [] (by rw[S3];show 0+_≤2 ^ 24;omega) (fun x _=>⟨[.fz (sD x.1),.fz (pD x.2)],[.fz (sD x.1),.fz (pD x.2)],rfl,b1Y n8 _ _ _ (a1I x.2),fun _=>⟨_,rfl⟩⟩)]
  rw[List.nil_append]
 refine(a9D _ _ _ e).trans ?_
 rw[List.length_map]
abbrev lpB(PA:List D→Option R1)(GE:D→D→Option D):SF:=(d7 (T5 (a07 3) (F6 [(g9 4),(g9 5)])) (x3 (W6 (bZ (eB GE (eB d6 (eV 5) (eC (.int 0))) (eC (.str "ware")))) (bZ (eB GE (eB d6 (eV 5) (eC (.int 0))) (eC (.str "waste"))))) (y6 2 (eT (aC (eV 4) (aC (eV 5) aN)))) (d7 (B5 6 PA (aC (eV 4) (aC (U5 (g1 a1C) (aC (eB GE (eB d6 (eV 5) (eC (.int 0))) (eC (.str "up"))) aN)) (aC (eB d6 (eV 5) (eC (.int 1))) aN)))) (d7 (y6 3 (eT (aC (eB d6 (eV 6) (eC (.int 1))) (aC (eB d6 (eV 5) (eC (.int 3))) aN)))) (y6 3 (eT (aC (eB d6 (eV 6) (eC (.int 0))) (aC (eB d6 (eV 5) (eC (.int 2))) aN))))))))
theorem b03(PA:List D→Option R1)(GE:D→D→Option D)(bx pl:D)(Out Z A:List D)(q s:D)(ps:List D)(b1:Bool)(o4 o5 o6:Option D)(z1:Z.getLast? = some (.tup [q,.tup (s::ps)]))(z2:Z.dropLast=A)(hl:Out.length<sizeLine)(gw:GE s (.str "ware")=some (.bl b1))(gx:b1=true∨GE s (.str "waste")=some (.bl true)):lpB PA GE [.fz bx,.fz pl,.ow Out,.ow Z,un o4,un o5,un o6]=some (.nx [.fz bx,.fz pl,.ow (Out++[.tup [q,.tup (s::ps)]]),.ow A,.fz q,.fz (.tup (s::ps)),un o6]):=by
 unfold lpB
 rcases gx with rfl | gx
 ·walk_at "eh"
 ·cases b1<;>walk_at "eh"
theorem b10(PA:List D→Option R1)(GE:D→D→Option D)(bx pl:D)(Out Z A:List D)(q s t x y q1 q2:D)(w:Bool)(o4 o5 o6:Option D)(z1:Z.getLast? = some (.tup [q,.tup [s,t,x,y]]))(z2:Z.dropLast=A)(gw:GE s (.str "ware")=some (.bl false))(gx:GE s (.str "waste")=some (.bl false))(gy:GE s (.str "up")=some (.bl w))(hp:PA [q,.int (if w=true then 1 else 0),t]=some (.ret (.tup [q1,q2])))(l1:A.length<sizeLine)(l2:(A++[D.tup [q2,y]]).length<sizeLine):lpB PA GE [.fz bx,.fz pl,.ow Out,.ow Z,un o4,un o5,un o6]=some (.nx [.fz bx,.fz pl,.ow Out,.ow (A++[.tup [q2,y]]++[.tup [q1,x]]),.fz q,.fz (.tup [s,t,x,y]),.fz (.tup [q1,q2])]):=by
 unfold lpB
 walk_at "eh"
theorem a6v(WH:SF)(w h:Int)(p:D)(Out Z:List D)(s4 s5 s6:Sl)(hw:WH [.fz (.tup [.int w,.int h]),.fz p,.ow [],.ow [.tup [.tup [.int 0,.int 0,.int w,.int h],p]],.no,.no,.no]=some (.nx [.fz (.tup [.int w,.int h]),.fz p,.ow Out,.ow Z,s4,s5,s6])) :
  fD 7 2 (d7 (n6 2 (eL aN)) (d7 (n6 3 (eL (aC (eT (aC (eT (aC (eC (.int 0)) (aC (eC (.int 0)) (aC (eB d6 (eV 0) (eC (.int 0))) (aC (eB d6 (eV 0) (eC (.int 1))) aN))))) (aC (eV 1) aN))) aN))) (d7 WH (Y1 2)))) [.tup [.int w,.int h],p]=some (.own Out):=by
 walk_at "eh"
def fl(st:List Np):List Np:=(fm st).filter fun x=>!V3 x.2
theorem a3u(st:List Np)(x:Np):fl (st++[x])=(i9 x.1 x.2).filter (fun x=>!V3 x.2)++fl st:=by
 unfold fl
 rw[a1J,List.filter_append]
theorem a5b(W H:Int)(P:Pl)(hs:psz P≤1000):G0 [.tup [.int W,.int H],pD P]=some (.own ((V4 W H P).map l4)):=by
 obtain⟨e',f,Z,s4,s5,s6,rfl⟩:=a0v (c:=wcB) (body:=lpB n9 (u6 false)) (fun m e=>∃(out st:List Np) (o4 o5 o6:Option D),e=[.fz (.tup [.int W,.int H]),.fz (pD P),.ow (out.map l4),.ow (st.map l4),un o4,un o5,un o6]∧out++fl st=V4 W H P∧m=A9 st∧out.length+A9 st≤psz P) (fun e=>∃(Z:List D) (s4 s5 s6:Sl),e=[.fz (.tup [.int W,.int H]),.fz (pD P),.ow ((V4 W H P).map l4),.ow Z,s4,s5,s6]) (by
  rintro m e ⟨out,st,o4,o5,o6,rfl,h1,rfl,h2⟩
  rcases List.eq_nil_or_concat st with rfl | ⟨st',x,rfl⟩
  ·right
   refine⟨_,a0K _ _ _ _ _,[],un o4,un o5,un o6,?_⟩
   rw[← h1]
   show _=([Sl.fz (.tup [.int W,.int H]),.fz (pD P),.ow ((out++[]).map l4),_,_,_,_]:DE)
   rw[List.append_nil]
   rfl
  ·left
   rw[List.concat_eq_append]at *
   obtain⟨z1,z2⟩:=a4s st' x
   rw[w9]at h2
   rw[a3u]at h1
   have hst:=a8c st'
   have hc:decide ((((st'++[x]).map l4).length:Int) > 0)=true:=decide_eq_true (by rw[List.length_map,List.length_append];show((_+1:Nat):Int) > 0;omega)
   obtain⟨q,X⟩:=x
   cases X with
   | en en0 =>
    have h2:out.length+(A9 st'+1)≤psz P:=h2
    have st:∃e2,A1 (lpB n9 (u6 false) [.fz (.tup [.int W,.int H]),.fz (pD P),.ow (out.map l4),.ow ((st'++[(q,Pl.en en0)]).map l4),un o4,un o5,un o6])=some (.nx e2)∧e2=[.fz (.tup [.int W,.int H]),.fz (pD P),.ow ((out++[(q,Pl.en en0)]).map l4),.ow (st'.map l4),un (some (sD q)),un (some (pD (.en en0))),un o6]:=by
     refine⟨_,?_,rfl⟩
     rw[show(out++[(q,Pl.en en0)]).map l4=out.map l4++[l4 (q,.en en0)] by rw[List.map_append];rfl]
     cases en0 with
     | wa=>exact(congrArg A1 (b03 n9 (u6 false) _ _ (out.map l4) _ _ _ (.str "waste") [] false o4 o5 o6 z1 z2 (by rw[List.length_map];show _<2 ^ 24;omega) rfl (.inr rfl))).trans rfl
     | wr i b=>exact(congrArg A1 (b03 n9 (u6 false) _ _ (out.map l4) _ _ _ (.str "ware") [.int i,.bl b] true o4 o5 o6 z1 z2 (by rw[List.length_map];show _<2 ^ 24;omega) rfl (.inl rfl))).trans rfl
    obtain⟨e2,st,ee⟩:=st
    refine⟨_,e2,(a0K _ _ _ _ _).trans (by rw[hc]),st,A9 st',by rw[w9];show _<A9 st'+1;omega,out++[(q,.en en0)],st',_,_,o6,ee,?_,rfl,?_⟩
    ·rw[List.append_assoc];exact h1
    ·rw[List.length_append];show _+1+_≤_;omega
   | ct w t l r =>
    have h2:out.length+(A9 st'+(1+(psz l+psz r)))≤psz P:=h2
    have lz:(st'.map l4).length<sizeLine:=by rw[List.length_map];show _<2 ^ 24;omega
    have gs:u6 false (.str (wS w)) (.str "ware")=some (.bl false)∧u6 false (.str (wS w)) (.str "waste")=some (.bl false)∧u6 false (.str (wS w)) (.str "up")=some (.bl w):=by cases w<;>exact⟨rfl,rfl,rfl⟩
    refine⟨_,_,(a0K _ _ _ _ _).trans (by rw[hc]),(congrArg A1 (b10 n9 (u6 false) _ _ (out.map l4) _ _ _ (.str (wS w)) (.int t) _ _ _ _ w o4 o5 o6 z1 z2 gs.1 gs.2.1 gs.2.2 (a3r q w t) lz (by rw[List.length_append,List.length_map];show _+1<2 ^ 24;omega))).trans rfl,A9 (st'++[(pR q w t,r)]++[(pL q w t,l)]),?_,out,st'++[(pR q w t,r)]++[(pL q w t,l)],some (sD q),some (pD (.ct w t l r)),some (.tup [sD (pL q w t),sD (pR q w t)]),?_,?_,rfl,?_⟩
    ·rw[w9,w9,w9]
     show A9 st'+psz r+psz l<A9 st'+(1+(psz l+psz r))
     omega
    ·rw[List.map_append,List.map_append];rfl
    ·rw[a3u,a3u,← h1]
     show out++((i9 (pL q w t) l).filter _++((i9 (pR q w t) r).filter _++fl st'))=out++((i9 (pL q w t) l++i9 (pR q w t) r).filter _++fl st')
     rw[List.filter_append,List.append_assoc]
    ·rw[w9,w9]
     show out.length+(A9 st'+psz r+psz l)≤_
     omega) 1000000 (psz P) [.fz (.tup [.int W,.int H]),.fz (pD P),.ow [],.ow [l4 (⟨0,0,W,H⟩,P)],.no,.no,.no] (by omega) ⟨[],[(⟨0,0,W,H⟩,P)],none,none,none,rfl,by unfold fl fm V4;simp,by unfold A9;simp,by unfold A9;simp⟩
 exact a6v _ W H _ _ Z s4 s5 s6 f
theorem b1n(LO CE TR FI JO PO LPI CC WH:List D→Option R1)(NS NC:NF)(L1 L2:SF)(G1 G2 GP GM:D→D→Option D)(ns:List Int)(c0 c1 c2 c3 w h B a:Int)(o9 o14:Option D)(C C1 C2 A N Wl E0 E1 O F:List D)(p:D)(nc:Int)
  (k0:CE [.scr ns,.int 0]=some (.ret (.int c0))) (k1:CE [.scr ns,.int 1]=some (.ret (.int c1))) (k2:CE [.scr ns,.int 2]=some (.ret (.int c2))) (k3:CE [.scr ns,.int 3]=some (.ret (.int c3))) (k4:LO [.int c0]=some (.ret (.int w))) (k5:LO [.int c1]=some (.ret (.int h)))
  (s1:NS [.fz (.scr ns),.fz (.tup [.int w,.int h]),.no,.no,.no,.no,.no,.no,.no,.no,.no,.no,.no,.no,.no,.no]=some (.ok C [.fz (.scr ns),.fz (.tup [.int w,.int h]),.no,.no,.no,.no,.no,.no,.no,.no,.no,.no,.no,.no,.no,.no])) (s2:NC [.fz (.scr ns),.fz (.tup [.int w,.int h]),.ow C,.no,.no,.no,.no,.no,.no,.no,.no,.no,.no,.no,.no,.no]=some (.ok C1 [.fz (.scr ns),.fz (.tup [.int w,.int h]),.fz (.lst C),.no,.no,.no,.no,.no,.no,.no,.no,.no,.no,.no,.no,.no])) (s3:(c3%4=3∧C2=C1)∨(¬c3%4=3∧C2=C))
  (tr:TR [.tup [.int w,.int h],.lst C2]=some (.ret (.tup [.lst A,.lst N]))) (fi:FI [.lst A,.lst N,.int c2]=some (.owz [Wl,E0,O])) (gp:GP (.int 10) (.int 20)=some (.int B)) (hB:0<B) (l1:L1 [.fz (.scr ns),.fz (.tup [.int w,.int h]),.fz (.lst C2),.fz (.lst A),.fz (.lst N),.ow Wl,.ow E0,.ow O,.fz (.int (c3%B)),.no,.no,.no,.no,.no,.no,.no]=some (.nx [.fz (.scr ns),.fz (.tup [.int w,.int h]),.fz (.lst C2),.fz (.lst A),.fz (.lst N),.ow Wl,.ow E1,.ow O,.fz (.int (c3%B)),un o9,.no,.no,.no,.no,.no,.no]))
  (jo:JO [.lst N,.lst E1]=some (.ret p)) (np:noL p=true) (po:PO [.tup [.int w,.int h],p]=some (.own F)) (lpi:LPI [.tup [.int w,.int h],p]=some (.own F)) (l2:L2 [.fz (.scr ns),.fz (.tup [.int w,.int h]),.fz (.lst C2),.fz (.lst A),.fz (.lst N),.ow Wl,.ow E1,.ow O,.fz (.int (c3%B)),un o9,.fz p,.ow F,.ow F,.fz (.int 0),.no,.no]=some (.nx [.fz (.scr ns),.fz (.tup [.int w,.int h]),.fz (.lst C2),.fz (.lst A),.fz (.lst N),.ow Wl,.ow E1,.ow O,.fz (.int (c3%B)),un o9,.fz p,.ow F,.ow F,.fz (.int a),un o14,.no])) (cc:CC [p]=some (.ret (.int nc))) (wh:WH [.int nc]=some (.ret (.bl true))) (hc:nc=(F.length:Int)-1) (gm:GM (.int w) (.int h)=some (.int a)) (gt1:G1 (.lst F) (.lst F)=some (.bl false)) (gt2:G2 (.lst F) (.lst F)=some (.bl true)) :
  fD 16 1 (d7 (u7 1 (eT (aC (h9 LO (aC (h9 CE (aC (eV 0) (aC (eC (.int 0)) aN))) aN)) (aC (h9 LO (aC (h9 CE (aC (eV 0) (aC (eC (.int 1)) aN))) aN)) aN)))) (d7 (n6 2 NS) (d7 (x3 (bZ (eB (u6 false) (eB w6 (h9 CE (aC (eV 0) (aC (eC (.int 3)) aN))) (eC (.int 4))) (eC (.int 3)))) (n6 2 NC) A5) (d7 (T5 (h9 TR (aC (eV 1) (aC (eV 2) aN))) (F6 [(g9 3),(g9 4)])) (d7 (a1E 5 6 7 FI (aC (eV 3) (aC (eV 4) (aC (h9 CE (aC (eV 0) (aC (eC (.int 2)) aN))) aN)))) (d7 (u7 8 (eB w6 (h9 CE (aC (eV 0) (aC (eC (.int 3)) aN))) (eB GP (eC (.int 10)) (eC (.int 20))))) (d7 L1 (d7 (u7 10 (a1D (h9 JO (aC (eV 4) (aC (eV 6) aN))))) (d7 (B5 11 PO (aC (eV 1) (aC (eV 10) aN))) (d7 (B5 12 LPI (aC (eV 1) (aC (eV 10) aN))) (d7 (x3 (W6 (J6 (bZ (U8 11 "list"))) (bZ (eB (u6 true) (C7 p8 11) (C7 p8 12)))) (l9 (eC (.bl false))) A5) (d7 (u7 13 (eC (.int 0))) (d7 L2 (d7 (B5 15 CC (aC (eV 10) aN)) (d7 (x3 (W6 (J6 (bZ (h9 WH (aC (eV 15) aN)))) (W6 (bZ (eB (u6 true) (eV 15) (eB v7 (C7 p8 11) (eC (.int 1))))) (bZ (eB (u6 true) (eV 13) (eB GM (eB d6 (eV 1) (eC (.int 0))) (eB d6 (eV 1) (eC (.int 1)))))))) (l9 (eC (.bl false))) A5) (d7 (x3 (bZ (a24 G1 11 12)) (l9 (eC (.bl false))) A5) (d7 (a0n 11 fun _=>[]) (l9 (eBW G2 (h9 PO (aC (eV 1) (aC (eV 10) aN))) 12))))))))))))))))))) [.scr ns]=some (.ret (.bl true)):=by
 subst hc
 rcases s3 with⟨z,rfl⟩ | ⟨z,rfl⟩<;>cases o9<;>cases o14<;>simp only[un]at * <;>walk_at "eh"
def arS(q:Sp4):Int:=(q.c-q.a)*(q.d-q.b)
theorem a7D(q:Sp4)(w:Bool)(t:Int):arS (pL q w t)+arS (pR q w t)=arS q:=by
 obtain⟨a,b,c,d⟩:=q
 cases w
 ·show(a+t-a)*(d-b)+(c-(a+t))*(d-b)=(c-a)*(d-b)
  rw[← Int.add_mul]
  congr 1
  omega
 ·show(c-a)*(b+t-b)+(c-a)*(d-(b+t))=(c-a)*(d-b)
  rw[← Int.mul_add]
  congr 1
  omega
def U0(F:List Np):Int:=(F.map fun x=>arS x.1).sum
theorem a4u(F G:List Np):U0 (F++G)=U0 F+U0 G:=by
 unfold U0
 rw[List.map_append,List.sum_append]
theorem a1b:∀(P:Pl) (q:Sp4),U0 ((i9 q P).filter fun x=>!V3 x.2)=arS q
 | .en e,q=>by
  show U0 [(q,Pl.en e)]=_
  unfold U0
  simp
 | .ct w t l r,q=>by
  show U0 ((i9 (pL q w t) l++i9 (pR q w t) r).filter _)=_
  rw[List.filter_append,a4u,a1b l,a1b r,a7D]
def lc:Pl→Nat
 | .en _=>1
 | .ct _ _ l r=>lc l+lc r
def kc:Pl→Nat
 | .en _=>0
 | .ct _ _ l r=>kc l+kc r+1
theorem a5c:∀P:Pl,lc P=kc P+1
 | .en _=>rfl
 | .ct _ _ l r=>by unfold lc kc;rw[a5c l,a5c r];omega
theorem a3w:∀(P:Pl) (q:Sp4),((i9 q P).filter fun x=>!V3 x.2).length=lc P
 | .en e,q=>rfl
 | .ct w t l r,q=>by
  show((i9 (pL q w t) l++i9 (pR q w t) r).filter fun x=>!V3 x.2).length=lc l+lc r
  rw[List.filter_append,List.length_append,a3w l,a3w r]
theorem a3x:∀(P:Pl) (q:Sp4),((i9 q P).filter fun x=>V3 x.2).length=kc P
 | .en e,q=>rfl
 | .ct w t l r,q=>by
  show((i9 (pL q w t) l++i9 (pR q w t) r).filter fun x=>V3 x.2).length+1=kc l+kc r+1
  rw[List.filter_append,List.length_append,a3x l,a3x r]
def PV:Sp4→Pl→Prop
 | _,.en _=>True
 | q,.ct w t l r=>0<t∧t<T9 q w∧PV (pL q w t) l∧PV (pR q w t) r
def Bq(q:Sp4):Prop:=0≤q.a∧q.a≤q.c∧q.c≤10 ^ 40∧0≤q.b∧q.b≤q.d∧q.d≤10 ^ 40
theorem a5d{N:List D}{S:List Sp4}(f:Nat→En):∀{T:Tr} {q:Sp4},Gd N S q T→PV q (T.pl f)
 | .lf k,q,_=>trivial
 | .ct k w t l r,q,⟨_,_,_,_,a,b,g1,g2⟩=>⟨a,b,a5d f g1,a5d f g2⟩
theorem b11{q:Sp4}{w:Bool}{t:Int}(h:Bq q)(h1:0<t)(h2:t<T9 q w):Bq (pL q w t)∧Bq (pR q w t):=by
 obtain⟨a,b,c,d⟩:=q
 obtain⟨a1,a2,a3,a4,a5,a6⟩:=h
 simp only at a1 a2 a3 a4 a5 a6
 cases w
 ·have h2:t<c-a:=h2
  exact⟨⟨a1,by show a≤a+t;omega,by show a+t≤_;omega,a4,a5,a6⟩,⟨by show 0≤a+t;omega,by show a+t≤c;omega,a3,a4,a5,a6⟩⟩
 ·have h2:t<d-b:=h2
  exact⟨⟨a1,a2,a3,a4,by show b≤b+t;omega,by show b+t≤_;omega⟩,⟨a1,a2,a3,by show 0≤b+t;omega,by show b+t≤d;omega,a6⟩⟩
theorem a18:∀{P:Pl} {q:Sp4},PV q P→Bq q→∀x∈i9 q P,Bq x.1
 | .en e,q,_,h,x,m=>by rw[List.mem_singleton.mp m];exact h
 | .ct w t l r,q,⟨a,b,g1,g2⟩,h,x,m=>by
  obtain⟨b1,b2⟩:=b11 h a b
  rcases List.mem_cons.mp m with rfl | m
  ·exact h
  ·rcases List.mem_append.mp m with m | m
   ·exact a18 g1 b1 x m
   ·exact a18 g2 b2 x m
theorem a3y(f:Nat→En):∀T:Tr,psz (T.pl f)=T.ids.length
 | .lf k=>rfl
 | .ct k w t l r=>by
  show 1+(psz (l.pl f)+psz (r.pl f))=(k::(l.ids++r.ids)).length
  rw[a3y f l,a3y f r,List.length_cons,List.length_append]
  omega
theorem a3z:∀P:Pl,noL (pD P)=true
 | .en e=>by cases e<;>rfl
 | .ct w t l r=>by
  show(noL (.str (wS w)) && (noL (.int t) && (noL (pD l) && (noL (pD r) && noLs []))))=true
  rw[a3z l,a3z r]
  rfl
theorem a7E(q:Sp4)(e:En):C0 [l4 (q,.en e)]=some (.ret (.bl true)):=by
 cases e<;>rfl
theorem a9E{x:Np}(h:(!V3 x.2)=true):∃e,x.2=.en e:=by
 obtain⟨q,P⟩:=x
 cases P with
 | en e=>exact⟨e,rfl⟩
 | ct w t l r=>cases h
abbrev l1B:SF:=(V9 6 (eV 9) (eT (aC (eC (.str "ware")) (aC (eB p5 (eB d6 (p7 j7 6 (eV 9)) (eC (.int 1))) (eV 8)) (aC (eB d6 (p7 j7 6 (eV 9)) (eC (.int 2))) aN)))))
theorem b12(s0 s1 s2 s3 s4 s5 s7:Sl)(E:List D)(k i m:Int)(b:Bool)(kn:Nat)(a:atI E k=some (.tup [.str "ware",.int i,.bl b]))(ix:M8 E.length k=some kn):l1B [s0,s1,s2,s3,s4,s5,.ow E,s7,.fz (.int m),.fz (.int k),.no,.no,.no,.no,.no,.no]=some (.nx [s0,s1,s2,s3,s4,s5,.ow (E.set kn (.tup [.str "ware",.int (i+m),.bl b])),s7,.fz (.int m),.fz (.int k),.no,.no,.no,.no,.no,.no]):=by
 unfold l1B
 walk_at "eh"
theorem b1o(s0 s1 s2 s3 s4 s5:Sl)(L:List En)(n:Nat)(hL:L.length=n)(σ:List Nat)(m:Int)(hσ:∀k∈σ,k<n∧∃i b,L[k]? = some (.wr i b)):∃(L':List En) (o9:Option D),L'.length=n∧P3 7 (g9 9) l1B [s0,s1,s2,s3,s4,s5,.ow (L.map eD),.ow (oL σ),.fz (.int m),.no,.no,.no,.no,.no,.no,.no]=some (.nx [s0,s1,s2,s3,s4,s5,.ow (L'.map eD),.ow (oL σ),.fz (.int m),un o9,.no,.no,.no,.no,.no,.no]):=by
 obtain⟨e',f,L',o9,h1,h2,rfl⟩:=S5 (b:=g9 9) (body:=l1B) (fun(k:Nat)=>D.int (k:Int)) (fun pre e=>∃(L':List En) (o9:Option D),L'.length=n∧(∀k∈σ,∃i b,L'[k]? = some (.wr i b))∧e=[s0,s1,s2,s3,s4,s5,.ow (L'.map eD),.hd (oL σ),.fz (.int m),un o9,.no,.no,.no,.no,.no,.no]) σ [s0,s1,s2,s3,s4,s5,.ow (L.map eD),.hd (oL σ),.fz (.int m),.no,.no,.no,.no,.no,.no,.no] ⟨L,none,hL,fun k mk=>(hσ k mk).2,rfl⟩ (by
  rintro pre k post e hq ⟨L',o9,h1,h2,rfl⟩
  have mk:k∈σ:=by rw[hq];simp
  have hk:=(hσ k mk).1
  obtain⟨i,b,hi⟩:=h2 k mk
  have hb:g9 9 (.int (k:Int)) [s0,s1,s2,s3,s4,s5,.ow (L'.map eD),.hd (oL σ),.fz (.int m),un o9,.no,.no,.no,.no,.no,.no]=some [s0,s1,s2,s3,s4,s5,.ow (L'.map eD),.hd (oL σ),.fz (.int m),.fz (.int (k:Int)),.no,.no,.no,.no,.no,.no]:=by cases o9<;>rfl
  rw[hb,B8]
  refine⟨_,(congrArg A1 (b12 s0 s1 s2 s3 s4 s5 _ _ (k:Int) i m b k (G4 (by rw[List.getElem?_map,hi];rfl)) (a0F (by rw[List.length_map,h1];exact hk)))).trans rfl,L'.set k (.wr (i+m) b),some (.int (k:Int)),by rw[List.length_set,h1],fun j mj=>?_,by rw[List.map_set];rfl⟩
  by_cases z:k=j
  ·subst z
   exact⟨_,_,List.getElem?_set_self (by omega)⟩
  ·rw[List.getElem?_set_ne z]
   exact h2 j mj)
 refine⟨L',o9,h1,?_⟩
 show unhide 7 (oL σ) (x4 (g9 9) l1B (oL σ) [s0,s1,s2,s3,s4,s5,.ow (L.map eD),.hd (oL σ),.fz (.int m),.no,.no,.no,.no,.no,.no,.no])=_
 rw[f]
 rfl
abbrev l2B(KI:List D→Option R1)(GM:D→D→Option D):SF:=(d7 (x3 (J6 (bZ (h9 KI (aC (eV 14) aN)))) (l9 (eC (.bl false))) A5) (u7 13 (eB p5 (eV 13) (eB GM (eB v7 (eB d6 (eB d6 (eV 14) (eC (.int 0))) (eC (.int 2))) (eB d6 (eB d6 (eV 14) (eC (.int 0))) (eC (.int 0)))) (eB v7 (eB d6 (eB d6 (eV 14) (eC (.int 0))) (eC (.int 3))) (eB d6 (eB d6 (eV 14) (eC (.int 0))) (eC (.int 1))))))))
abbrev l2E(s0 s1 s2 s3 s4 s5 s6 s7 s8 s9 s10 s11 s12:Sl)(a:Int)(s14:Sl):DE:=[s0,s1,s2,s3,s4,s5,s6,s7,s8,s9,s10,s11,s12,.fz (.int a),s14,.no]
theorem b13(KI:List D→Option R1)(GM:D→D→Option D)(s0 s1 s2 s3 s4 s5 s6 s7 s8 s9 s10 s11 s12:Sl)(a x y z w r:Int)(p:D)(hk:KI [.tup [.tup [.int x,.int y,.int z,.int w],p]]=some (.ret (.bl true)))(hm:GM (.int (z-x)) (.int (w-y))=some (.int r)):l2B KI GM (l2E s0 s1 s2 s3 s4 s5 s6 s7 s8 s9 s10 s11 s12 a (.fz (.tup [.tup [.int x,.int y,.int z,.int w],p])))=some (.nx (l2E s0 s1 s2 s3 s4 s5 s6 s7 s8 s9 s10 s11 s12 (a+r) (.fz (.tup [.tup [.int x,.int y,.int z,.int w],p])))):=by
 unfold l2B l2E
 walk_at "eh"
theorem b1p(s0 s1 s2 s3 s4 s5 s6 s7 s8 s9 s10 s12:Sl)(F:List Np)(h:∀x∈F,Bq x.1∧∃e,x.2=.en e):∃o14:Option D,P3 11 (g9 14) (l2B C0 E3) (l2E s0 s1 s2 s3 s4 s5 s6 s7 s8 s9 s10 (.ow (F.map l4)) s12 0 .no)=some (.nx (l2E s0 s1 s2 s3 s4 s5 s6 s7 s8 s9 s10 (.ow (F.map l4)) s12 (U0 F) (un o14))):=by
 obtain⟨e',f,o14,rfl⟩:=S5 (b:=g9 14) (body:=l2B C0 E3) l4 (fun pre e=>∃o14:Option D,e=l2E s0 s1 s2 s3 s4 s5 s6 s7 s8 s9 s10 (.hd (F.map l4)) s12 (U0 pre) (un o14)) F (l2E s0 s1 s2 s3 s4 s5 s6 s7 s8 s9 s10 (.hd (F.map l4)) s12 0 .no) ⟨none,rfl⟩ (by
  rintro pre x post e hq ⟨o14,rfl⟩
  obtain⟨⟨b1,b2,b3,b4,b5,b6⟩,en0,he⟩:=h x (by rw[hq];simp)
  have hb:g9 14 (l4 x) (l2E s0 s1 s2 s3 s4 s5 s6 s7 s8 s9 s10 (.hd (F.map l4)) s12 (U0 pre) (un o14))=some (l2E s0 s1 s2 s3 s4 s5 s6 s7 s8 s9 s10 (.hd (F.map l4)) s12 (U0 pre) (.fz (l4 x))):=by cases o14<;>rfl
  rw[hb,B8]
  obtain⟨q,P⟩:=x
  simp only at he b1 b2 b3 b4 b5 b6
  subst he
  have m:E3 (.int (q.c-q.a)) (.int (q.d-q.b))=some (.int (arS q)):=a1W (Fits.mul ((Y5 (i:=10 ^ 41)).le (by omega)) ((Y5 (i:=10 ^ 41)).le (by omega)))
  refine⟨_,(congrArg A1 (b13 C0 E3 _ _ _ _ _ _ _ _ _ _ _ _ _ _ _ _ _ _ _ _ (a7E q en0) m)).trans rfl,some (l4 (q,.en en0)),?_⟩
  rw[a4u,show U0 [(q,Pl.en en0)]=arS q by unfold U0;simp]
  rfl)
 refine⟨o14,?_⟩
 show unhide 11 (F.map l4) (x4 (g9 14) (l2B C0 E3) (F.map l4) (l2E s0 s1 s2 s3 s4 s5 s6 s7 s8 s9 s10 (.hd (F.map l4)) s12 0 .no))=_
 rw[f]
 rfl
theorem b14(CO1 CO2:NF)(GC:D→D→Option (List D))(s0 s1:Sl)(C B1 B2 X1 X2:List D)(r:DE)(h1:CO1 (s0::s1 :: .fz (.lst C)::r)=some (.ok B1 (s0::s1 :: .fz (.lst C)::r)))(h2:CO2 (s0::s1 :: .fz (.lst C)::r)=some (.ok B2 (s0::s1 :: .fz (.lst C)::r)))(gt1:GC (.lst C) (.lst B1)=some X1)(gt2:GC (.lst X1) (.lst B2)=some X2):(nB GC (zN (nB GC (eV 2) (zN CO1))) (zN CO2)) (s0::s1 :: .ow C::r)=some (.ok X2 (s0::s1 :: .fz (.lst C)::r)):=by
 walk_at "eh"
abbrev coN(p q:Int):NF:=(Q0 2 1 [] (g9 0) R8 (eB p5 (eB B7 (eV 0) (eC (.int p))) (eC (.int q))))
theorem b05(p q:Int)(hp:0<p∧p.natAbs.log2<9000)(s0 s1:Sl)(cs:List Int)(hl:cs.length≤1000)(r:DE):coN p q (s0::s1 :: .fz (.lst (cs.map D.int))::r)=some (.ok ((cs.map fun c=>c/p+q).map D.int) (s0::s1 :: .fz (.lst (cs.map D.int))::r)):=by
 show t5 (g9 0) R8 (eB p5 (eB B7 (eV 0) (eC (.int p))) (eC (.int q))) [.no] _ (cs.map D.int) []=_
 rw[O1 D.int (fun c=>D.int (c/p+q)) (fun _=>true) cs [] (by show 0+_≤2 ^ 24;omega) (fun c _=>⟨[.fz (.int c)],[.fz (.int c)],rfl,rfl,fun _=>⟨[.fz (.int c)],by
  have g:B7 (.int c) (.int p)=some (.int (c/p)):=a4k hp
  generalize B7=GD at *
  walk_at "eh"⟩⟩)]
 rw[List.filter_eq_self.mpr (fun _ _=>rfl),List.map_map]
 rfl
theorem a8e(a b:List Int)(h:a.length+b.length≤1000000):a02 (.lst (a.map D.int)) (.lst (b.map D.int))=some ((a++b).map D.int):=by
 show(if _ then _ else _)=_
 rw[if_pos (by rw[List.length_map,List.length_map];show _≤2 ^ 24;omega),List.map_append]
theorem main(ns:List Int)(hl:ns.length≤63)(hb:∀m∈ns,Builtin.Int.intBits m≤2 ^ 20):a79 [.scr ns]=some (.ret (.bl true)):=by
 obtain⟨w,w0,w1,hw⟩:=a4q (D0 ns 0)
 obtain⟨h,h0,h1,hh⟩:=a4q (D0 ns 1)
 obtain⟨B,gB,eB⟩:∃B:Int,Y0 (.int 10) (.int 20)=some (.int B)∧B=10 ^ 20:=⟨_,a1X (by decide +kernel),rfl⟩
 obtain⟨cs,hcs⟩:∃cs,cs=(ns.drop 4).take 59:=⟨_,rfl⟩
 have lcs:cs.length≤59:=by rw[hcs,List.length_take];omega
 have hc:a1Y (ns.map D.int) (some 4) (some 63)=cs.map D.int:=by
  rw[a9u (by omega) (by omega),show(4:Int).toNat=4 by omega,show((63:Int)-4).toNat=59 by omega,hcs,List.map_take,List.map_drop]
 obtain⟨c2,hc2,lc2⟩:∃c2:List Int,((D0 ns 3%4=3∧c2=cs++(cs.map fun c=>c/7+101)++(cs.map fun c=>c/49+10007))∨(¬D0 ns 3%4=3∧c2=cs))∧c2.length≤180:=by
  by_cases z:D0 ns 3%4=3
  ·exact⟨_,.inl ⟨z,rfl⟩,by simp only[List.length_append,List.length_map];omega⟩
  ·exact⟨_,.inr ⟨z,rfl⟩,by omega⟩
 obtain⟨T,S,N,U,I,tr⟩:=a9z w h c2 lc2
 have leS:=I.le
 obtain⟨Wl,L,σ,hL,hσ,lσ,fi⟩:=a6q S N I.lN (by omega) (D0 ns 2)
 obtain⟨L',o9,hL',l1⟩:=b1o (.fz (.scr ns)) (.fz (.tup [.int w,.int h])) (.fz (.lst (c2.map D.int))) (.fz (.lst (S.map sD))) (.fz (.lst N)) (.ow Wl) L S.length hL σ (D0 ns 3%B) hσ
 obtain⟨f,hf⟩:∃f:Nat→En,f=fun k=>L'.getD k .wa:=⟨_,rfl⟩
 have jo:=a6s I (by omega) L' hL' f (fun k hk=>by rw[hf];show _=some (L'.getD k .wa);rw[List.getD_eq_getElem?_getD,List.getElem?_eq_getElem (by omega)];rfl)
 have sz:psz (T.pl f)≤1000:=by rw[a3y,I.ln];omega
 have pv:PV ⟨0,0,w,h⟩ (T.pl f):=a5d f I.gd
 have bq:Bq ⟨0,0,w,h⟩:=⟨Int.le_refl _,w0,w1,Int.le_refl _,h0,h1⟩
 have hF:∀x∈V4 w h (T.pl f),Bq x.1∧∃e,x.2=.en e:=fun x m=>by
  obtain⟨m1,m2⟩:=List.mem_filter.mp m
  exact⟨a18 pv bq x m1,a9E m2⟩
 obtain⟨o14,l2⟩:=b1p (.fz (.scr ns)) (.fz (.tup [.int w,.int h])) (.fz (.lst (c2.map D.int))) (.fz (.lst (S.map sD))) (.fz (.lst N)) (.ow Wl) (.ow (L'.map eD)) (.ow (oL σ)) (.fz (.int (D0 ns 3%B))) (un o9) (.fz (pD (T.pl f))) (.ow ((V4 w h (T.pl f)).map l4)) (V4 w h (T.pl f)) hF
 rw[show U0 (V4 w h (T.pl f))=w*h from(a1b _ _).trans (by show(w-0)*(h-0)=_;rw[Int.sub_zero,Int.sub_zero])]at l2
 have geq:∀neg,W2 neg (.lst ((V4 w h (T.pl f)).map l4)) (.lst ((V4 w h (T.pl f)).map l4))=some (.bl (!neg)):=fun neg=>a58 neg (by
  simp only[i0]
  refine a3L fun x m=>?_
  obtain⟨_,e,he⟩:=hF x m
  unfold l4
  rw[he]
  cases e<;>rfl) (by
  have:=a59 (f:=l4) (l:=V4 w h (T.pl f)) (n:=3) (fun x m=>by
   obtain⟨_,e,he⟩:=hF x m
   unfold l4
   rw[he]
   cases e<;>simp[N0,G9,sD,pD,eD])
  simp only[N0]
  omega) rfl
 refine b1n D8 B4 L7 F9 F8 z8 G0 D1 A3 _ _ _ _ (W2 true) (W2 false) Y0 E3 ns (D0 ns 0) (D0 ns 1) (D0 ns 2) (D0 ns 3) w h B (w*h) o9 o14 (cs.map D.int) ((cs++(cs.map fun c=>c/7+101)++(cs.map fun c=>c/49+10007)).map D.int) (c2.map D.int) (S.map sD) N Wl (L.map eD) (L'.map eD) (oL σ) ((V4 w h (T.pl f)).map l4) (pD (T.pl f)) _ (a0G (by omega)) (a0G (by omega)) (a0G (by omega)) (a0G (by omega)) hw hh ?_ ?_ ?_ tr fi gB (by rw[eB];decide) l1 jo (a3z _) (a6u w h _ sz) (a5b w h _ sz) l2 (a7C _ sz) (a7x _) ?_ (a1W (Fits.mul ((Y5 (i:=10 ^ 41)).le (by omega)) ((Y5 (i:=10 ^ 41)).le (by omega)))) (geq true) (geq false)
 ·rw[← hc];rfl
 ·exact b14 (coN 7 101) (coN 49 10007) a02 _ _ _ _ _ _ _ _ (b05 7 101 (by decide) _ _ cs (by omega) _) (b05 49 10007 (by decide) _ _ cs (by omega) _) (a8e _ _ (by rw[List.length_map];omega)) (a8e _ _ (by simp only[List.length_append,List.length_map];omega))
 ·rcases hc2 with⟨z,e⟩ | ⟨z,e⟩
  ·exact .inl ⟨z,by rw[e]⟩
  ·exact .inr ⟨z,by rw[e]⟩
 ·rw[List.length_map,a3w,a3x,a5c]
  omega
def a1K(K:PySem.W.Frag)(c:Str→Addr):Sp:=fun vs H Q _=>∃a,∃ns:List Int,vs=[.ref a]∧Scr K H a (ns.map V.int)∧(∀m∈ns,Builtin.Int.intBits m≤2 ^ 20)∧ns.length≤63∧∀H',Q (.bl true) H'
theorem b06{TB:List (Addr×Str)}{f:Addr}{fd:FuncData}(F:Fun K "law" "law" J0 f fd)(T:Txt K mg c)(G_l_long:Own P w K mg base 3 "_law_long" ["_law_cell_here"] (i4 K c D8))(G_l_cell:Own P w K mg base 3 "_law_cell" ["_law_script","_law_k"] (i4 K c B4))(G_l_tree:Own P w K mg base 7 "_law_tree" ["_law_box","_law_cells"] (i4 K c L7))(G_l_filled:Own P w K mg base 8 "_law_filled" ["_law_spots","_law_nodes","_law_cell_here"] (Z1 TB (i4 K c F9)))(G_l_joined:Own P w K mg base 3 "_law_joined" ["_law_nodes","_law_ends"] (i4 K c F8))(G_pieces_of:Own P w K mg base 7 "pieces_of" ["box","plan"] (i4 K c z8))(G_l_pieces:Own P w K mg base 5 "_law_pieces" ["_law_box","_law_plan"] (i4 K c G0))(G_l_kinds:Own P w K mg base 5 "_law_kinds" ["_law_piece"] (i4 K c C0))(G_count_cuts:Own P w K mg base 7 "count_cuts" ["plan"] (i4 K c D1))(G_l_whole:Own P w K mg base 3 "_law_whole" ["_law_found"] (i4 K c A3)):FnOk P w K mg base (v8 P w) 10 f fd ["_law_script"] (Z1 TB (a1K K c)) :=
 (a9y F T G_l_long G_l_cell G_l_tree G_l_filled G_l_joined G_pieces_of G_l_pieces G_l_kinds G_count_cuts G_l_whole ).imp fun vs H Q E ⟨hT,a,ns,e,h,hb,hl,q⟩=>⟨hT,a8F e h q (main ns hl hb)⟩
def N4(l:List (Str×Addr))(x:Str):Addr:=(l.lookup x).getD 0
theorem all_mk{w:World}{K:PySem.W.Frag}{h:Heap}{mg:Str→Option Value}{fa:Addr}(X:K.In h)(G:h.Ns mainGlobals mg)(hfa:mg "law" = some (.ref fa)){q:Program}{loose:List Str}{mean:ExcName→Option Value}{mb:Str→Option Value}(Tp:PyProof.Rows.Top q loose mean mg mb h)
  {f_0:Addr} {oc_0 kV_0 dc_0 pm_0 cd_0 ct_0:Value} {od_0 an_0:Option Addr} {sl_0:Array (Option Value)} {f_1:Addr} {oc_1 kV_1 dc_1 pm_1 cd_1 ct_1:Value} {od_1 an_1:Option Addr} {sl_1:Array (Option Value)} {f_2:Addr} {oc_2 kV_2 dc_2 pm_2 cd_2 ct_2:Value} {od_2 an_2:Option Addr} {sl_2:Array (Option Value)} {f_3:Addr} {oc_3 kV_3 dc_3 pm_3 cd_3 ct_3:Value} {od_3 an_3:Option Addr} {sl_3:Array (Option Value)} {f_4:Addr} {oc_4 kV_4 dc_4 pm_4 cd_4 ct_4:Value} {od_4 an_4:Option Addr} {sl_4:Array (Option Value)} {f_5:Addr} {oc_5 kV_5 dc_5 pm_5 cd_5 ct_5:Value} {od_5 an_5:Option Addr} {sl_5:Array (Option Value)} {f_6:Addr} {oc_6 kV_6 dc_6 pm_6 cd_6 ct_6:Value} {od_6 an_6:Option Addr} {sl_6:Array (Option Value)} {f_7:Addr} {oc_7 kV_7 dc_7 pm_7 cd_7 ct_7:Value} {od_7 an_7:Option Addr} {sl_7:Array (Option Value)} {f_8:Addr} {oc_8 kV_8 dc_8 pm_8 cd_8 ct_8:Value} {od_8 an_8:Option Addr} {sl_8:Array (Option Value)} {f_9:Addr} {oc_9 kV_9 dc_9 pm_9 cd_9 ct_9:Value} {od_9 an_9:Option Addr} {sl_9:Array (Option Value)} {f_10:Addr} {oc_10 kV_10 dc_10 pm_10 cd_10 ct_10:Value} {od_10 an_10:Option Addr} {sl_10:Array (Option Value)} {f_11:Addr} {oc_11 kV_11 dc_11 pm_11 cd_11 ct_11:Value} {od_11 an_11:Option Addr} {sl_11:Array (Option Value)} {f_12:Addr} {oc_12 kV_12 dc_12 pm_12 cd_12 ct_12:Value} {od_12 an_12:Option Addr} {sl_12:Array (Option Value)} {f_13:Addr} {oc_13 kV_13 dc_13 pm_13 cd_13 ct_13:Value} {od_13 an_13:Option Addr} {sl_13:Array (Option Value)} {f_14:Addr} {oc_14 kV_14 dc_14 pm_14 cd_14 ct_14:Value} {od_14 an_14:Option Addr} {sl_14:Array (Option Value)} {f_15:Addr} {oc_15 kV_15 dc_15 pm_15 cd_15 ct_15:Value} {od_15 an_15:Option Addr} {sl_15:Array (Option Value)} {f_16:Addr} {oc_16 kV_16 dc_16 pm_16 cd_16 ct_16:Value} {od_16 an_16:Option Addr} {sl_16:Array (Option Value)} {cc_l_filled Pt_l_filled:Addr} {oq_l_filled:Value} {oe_l_filled:Option Addr} {vs_l_filled:Array Value} {sm_l_filled:Array (Option Value)}
  (a_0:PySem.W.nsIn K mainGlobals "is_cut" = some (some (.ref f_0)))
  (l_0:K.lookup f_0=some ⟨oc_0,od_0,.func (PySem.W.fnOf "is_cut" "is_cut" (l7 O3) (i7 O3) (c8 O3) .none kV_0 dc_0 pm_0 an_0 cd_0 ct_0),sl_0⟩)
  (c_0:PySem.W.codeIn K cd_0 "is_cut" = true)
  (k_0:PySem.W.keepIn K (.ref f_0)=true)
  (a_1:PySem.W.nsIn K mainGlobals "cut_spots" = some (some (.ref f_1)))
  (l_1:K.lookup f_1=some ⟨oc_1,od_1,.func (PySem.W.fnOf "cut_spots" "cut_spots" (l7 G5) (i7 G5) (c8 G5) .none kV_1 dc_1 pm_1 an_1 cd_1 ct_1),sl_1⟩)
  (c_1:PySem.W.codeIn K cd_1 "cut_spots" = true)
  (k_1:PySem.W.keepIn K (.ref f_1)=true)
  (a_2:PySem.W.nsIn K mainGlobals "nodes_of" = some (some (.ref f_2)))
  (l_2:K.lookup f_2=some ⟨oc_2,od_2,.func (PySem.W.fnOf "nodes_of" "nodes_of" (l7 K5) (i7 K5) (c8 K5) .none kV_2 dc_2 pm_2 an_2 cd_2 ct_2),sl_2⟩)
  (c_2:PySem.W.codeIn K cd_2 "nodes_of" = true)
  (k_2:PySem.W.keepIn K (.ref f_2)=true)
  (a_3:PySem.W.nsIn K mainGlobals "pieces_of" = some (some (.ref f_3)))
  (l_3:K.lookup f_3=some ⟨oc_3,od_3,.func (PySem.W.fnOf "pieces_of" "pieces_of" (l7 B9) (i7 B9) (c8 B9) .none kV_3 dc_3 pm_3 an_3 cd_3 ct_3),sl_3⟩)
  (c_3:PySem.W.codeIn K cd_3 "pieces_of" = true)
  (k_3:PySem.W.keepIn K (.ref f_3)=true)
  (a_4:PySem.W.nsIn K mainGlobals "count_cuts" = some (some (.ref f_4)))
  (l_4:K.lookup f_4=some ⟨oc_4,od_4,.func (PySem.W.fnOf "count_cuts" "count_cuts" (l7 A2) (i7 A2) (c8 A2) .none kV_4 dc_4 pm_4 an_4 cd_4 ct_4),sl_4⟩)
  (c_4:PySem.W.codeIn K cd_4 "count_cuts" = true)
  (k_4:PySem.W.keepIn K (.ref f_4)=true)
  (a_5:PySem.W.nsIn K mainGlobals "_law_whole" = some (some (.ref f_5)))
  (l_5:K.lookup f_5=some ⟨oc_5,od_5,.func (PySem.W.fnOf "_law_whole" "_law_whole" (l7 M3) (i7 M3) (c8 M3) .none kV_5 dc_5 pm_5 an_5 cd_5 ct_5),sl_5⟩)
  (c_5:PySem.W.codeIn K cd_5 "_law_whole" = true)
  (k_5:PySem.W.keepIn K (.ref f_5)=true)
  (a_6:PySem.W.nsIn K mainGlobals "_law_cell" = some (some (.ref f_6)))
  (l_6:K.lookup f_6=some ⟨oc_6,od_6,.func (PySem.W.fnOf "_law_cell" "_law_cell" (l7 O4) (i7 O4) (c8 O4) .none kV_6 dc_6 pm_6 an_6 cd_6 ct_6),sl_6⟩)
  (c_6:PySem.W.codeIn K cd_6 "_law_cell" = true)
  (k_6:PySem.W.keepIn K (.ref f_6)=true)
  (a_7:PySem.W.nsIn K mainGlobals "_law_mix" = some (some (.ref f_7)))
  (l_7:K.lookup f_7=some ⟨oc_7,od_7,.func (PySem.W.fnOf "_law_mix" "_law_mix" (l7 S7) (i7 S7) (c8 S7) .none kV_7 dc_7 pm_7 an_7 cd_7 ct_7),sl_7⟩)
  (c_7:PySem.W.codeIn K cd_7 "_law_mix" = true)
  (k_7:PySem.W.keepIn K (.ref f_7)=true)
  (a_8:PySem.W.nsIn K mainGlobals "_law_cut" = some (some (.ref f_8)))
  (l_8:K.lookup f_8=some ⟨oc_8,od_8,.func (PySem.W.fnOf "_law_cut" "_law_cut" (l7 S8) (i7 S8) (c8 S8) .none kV_8 dc_8 pm_8 an_8 cd_8 ct_8),sl_8⟩)
  (c_8:PySem.W.codeIn K cd_8 "_law_cut" = true)
  (k_8:PySem.W.keepIn K (.ref f_8)=true)
  (a_9:PySem.W.nsIn K mainGlobals "_law_parts" = some (some (.ref f_9)))
  (l_9:K.lookup f_9=some ⟨oc_9,od_9,.func (PySem.W.fnOf "_law_parts" "_law_parts" (l7 M4) (i7 M4) (c8 M4) .none kV_9 dc_9 pm_9 an_9 cd_9 ct_9),sl_9⟩)
  (c_9:PySem.W.codeIn K cd_9 "_law_parts" = true)
  (k_9:PySem.W.keepIn K (.ref f_9)=true)
  (a_10:PySem.W.nsIn K mainGlobals "_law_tree" = some (some (.ref f_10)))
  (l_10:K.lookup f_10=some ⟨oc_10,od_10,.func (PySem.W.fnOf "_law_tree" "_law_tree" (l7 O5) (i7 O5) (c8 O5) .none kV_10 dc_10 pm_10 an_10 cd_10 ct_10),sl_10⟩)
  (c_10:PySem.W.codeIn K cd_10 "_law_tree" = true)
  (k_10:PySem.W.keepIn K (.ref f_10)=true)
  (a_11:PySem.W.nsIn K mainGlobals "_law_joined" = some (some (.ref f_11)))
  (l_11:K.lookup f_11=some ⟨oc_11,od_11,.func (PySem.W.fnOf "_law_joined" "_law_joined" (l7 K6) (i7 K6) (c8 K6) .none kV_11 dc_11 pm_11 an_11 cd_11 ct_11),sl_11⟩)
  (c_11:PySem.W.codeIn K cd_11 "_law_joined" = true)
  (k_11:PySem.W.keepIn K (.ref f_11)=true)
  (a_12:PySem.W.nsIn K mainGlobals "_law_filled" = some (some (.ref f_12)))
  (l_12:K.lookup f_12=some ⟨oc_12,od_12,.func (PySem.W.fnOf "_law_filled" "_law_filled" (l7 y9) (i7 y9) (c8 y9) .none kV_12 dc_12 pm_12 an_12 cd_12 ct_12),sl_12⟩)
  (c_12:PySem.W.codeIn K cd_12 "_law_filled" = true)
  (k_12:PySem.W.keepIn K (.ref f_12)=true)
  (a_13:PySem.W.nsIn K mainGlobals "_law_long" = some (some (.ref f_13)))
  (l_13:K.lookup f_13=some ⟨oc_13,od_13,.func (PySem.W.fnOf "_law_long" "_law_long" (l7 O6) (i7 O6) (c8 O6) .none kV_13 dc_13 pm_13 an_13 cd_13 ct_13),sl_13⟩)
  (c_13:PySem.W.codeIn K cd_13 "_law_long" = true)
  (k_13:PySem.W.keepIn K (.ref f_13)=true)
  (a_14:PySem.W.nsIn K mainGlobals "_law_pieces" = some (some (.ref f_14)))
  (l_14:K.lookup f_14=some ⟨oc_14,od_14,.func (PySem.W.fnOf "_law_pieces" "_law_pieces" (l7 K7) (i7 K7) (c8 K7) .none kV_14 dc_14 pm_14 an_14 cd_14 ct_14),sl_14⟩)
  (c_14:PySem.W.codeIn K cd_14 "_law_pieces" = true)
  (k_14:PySem.W.keepIn K (.ref f_14)=true)
  (a_15:PySem.W.nsIn K mainGlobals "_law_kinds" = some (some (.ref f_15)))
  (l_15:K.lookup f_15=some ⟨oc_15,od_15,.func (PySem.W.fnOf "_law_kinds" "_law_kinds" (l7 M5) (i7 M5) (c8 M5) .none kV_15 dc_15 pm_15 an_15 cd_15 ct_15),sl_15⟩)
  (c_15:PySem.W.codeIn K cd_15 "_law_kinds" = true)
  (k_15:PySem.W.keepIn K (.ref f_15)=true)
  (a_16:PySem.W.nsIn K mainGlobals "law" = some (some (.ref f_16)))
  (l_16:K.lookup f_16=some ⟨oc_16,od_16,.func (PySem.W.fnOf "law" "law" (l7 J0) (i7 J0) (c8 J0) .none kV_16 dc_16 pm_16 an_16 cd_16 ct_16),sl_16⟩)
  (c_16:PySem.W.codeIn K cd_16 "law" = true)
  (k_16:PySem.W.keepIn K (.ref f_16)=true)
  (tc_l_filled:cd_12=.ref cc_l_filled)
  (tk_l_filled:K.lookup cc_l_filled=some ⟨oq_l_filled,oe_l_filled,.fields vs_l_filled,sm_l_filled⟩)
  (tp_l_filled:vs_l_filled.getD 11 .none=.ref Pt_l_filled)
  (tn_l_filled:K.lookup Pt_l_filled=none)
  (tr_l_filled:(PyProof.Rows.recsOf q).any (fun d=>d.name == "_law_filled")=true)
  (z_bool:PySem.W.nsIn K mainGlobals "bool" = some none)
  (z_int:PySem.W.nsIn K mainGlobals "int" = some none)
  (z_isinstance:PySem.W.nsIn K mainGlobals "isinstance" = some none)
  (z_len:PySem.W.nsIn K mainGlobals "len" = some none)
  (z_list:PySem.W.nsIn K mainGlobals "list" = some none)
  (z_max:PySem.W.nsIn K mainGlobals "max" = some none)
  (z_range:PySem.W.nsIn K mainGlobals "range" = some none)
  (z_sorted:PySem.W.nsIn K mainGlobals "sorted" = some none)
  (z_tuple:PySem.W.nsIn K mainGlobals "tuple" = some none)
  : ∃(fd:FuncData) (TB:List (Addr×Str)),(∀(s:Shared) (v:Value),BindsTo s fd ⟨[v],[]⟩ [("_law_script",v)])∧(∀Pa qq,TB.lookup Pa=some qq→(∃c,h.TableAt c Pa #[])∧K.lookup Pa=none)∧∃c:Str→Addr,∀base:Heap,K.In base→base.Ns mainGlobals mg→(∀b o,h.get? b=some o→o.cls≠.none→o.cls≠.type "list"→base.get? b=some o)→FnOk (PySem.Challenge.rw_cratefit_k59_pieces_of_a_plan).prog w K mg base (v8 (PySem.Challenge.rw_cratefit_k59_pieces_of_a_plan).prog w) 10 fa fd ["_law_script"] (Z1 TB (a1K K c)):=by
 have e:=hfa.symm.trans (PySem.W.mg_of X G a_16)
 cases e
 have T:Txt K mg (N4 []):=⟨PySem.W.mg_none_of X G z_bool,PySem.W.mg_none_of X G z_int,PySem.W.mg_none_of X G z_isinstance,PySem.W.mg_none_of X G z_len,PySem.W.mg_none_of X G z_list,PySem.W.mg_none_of X G z_max,PySem.W.mg_none_of X G z_range,PySem.W.mg_none_of X G z_sorted,PySem.W.mg_none_of X G z_tuple⟩
 have TT_l_filled:=b0b Tp X tr_l_filled (PySem.W.mg_of X G a_12) l_12 tc_l_filled tk_l_filled tp_l_filled
 refine⟨PySem.W.fnOf "law" "law" (l7 J0) (i7 J0) (c8 J0) .none kV_16 dc_16 pm_16 an_16 cd_16 ct_16,[(Pt_l_filled,("_law_filled.<locals>.<lambda>" : Str))],fun s v=>.of_eq rfl,fun Pa qq e=>?_,N4 [],fun base _ _ kp=>?_⟩
 ·simp only[List.lookup]at e
  split at e
  ·rename_i z;have z:=beq_iff_eq.mp z;subst z;exact⟨⟨_,TT_l_filled.1⟩,tn_l_filled⟩
  ·cases e
 have hL_l_filled:List.lookup Pt_l_filled [(Pt_l_filled,("_law_filled.<locals>.<lambda>" : Str))]=some "_law_filled.<locals>.<lambda>" := by simp[List.lookup]
 have F_0:=z9 (st:=O3) l_0 c_0 k_0
 have B_0:=F_0.binds (ps:=["plan"]) fun _ _ _ _ _ _ us hl=>match us,hl with | [_],_=>rfl
 have O_0:Own (PySem.Challenge.rw_cratefit_k59_pieces_of_a_plan).prog w K mg base 3 "is_cut" ["plan"] (i4 K (N4 []) n8):=⟨_,_,a6e F_0 T ,B_0,k_0,PySem.W.mg_of X G a_0⟩
 have F_1:=z9 (st:=G5) l_1 c_1 k_1
 have B_1:=F_1.binds (ps:=["spot","plan"]) fun _ _ _ _ _ _ us hl=>match us,hl with | [_,_],_=>rfl
 have O_1:Own (PySem.Challenge.rw_cratefit_k59_pieces_of_a_plan).prog w K mg base 3 "cut_spots" ["spot","plan"] (i4 K (N4 []) z7):=⟨_,_,a3l F_1 T ,B_1,k_1,PySem.W.mg_of X G a_1⟩
 have F_2:=z9 (st:=K5) l_2 c_2 k_2
 have B_2:=F_2.binds (ps:=["box","plan"]) fun _ _ _ _ _ _ us hl=>match us,hl with | [_,_],_=>rfl
 have O_2:Own (PySem.Challenge.rw_cratefit_k59_pieces_of_a_plan).prog w K mg base 5 "nodes_of" ["box","plan"] (i4 K (N4 []) u5):=⟨_,_,a3M F_2 T O_0 O_1,B_2,k_2,PySem.W.mg_of X G a_2⟩
 have F_3:=z9 (st:=B9) l_3 c_3 k_3
 have B_3:=F_3.binds (ps:=["box","plan"]) fun _ _ _ _ _ _ us hl=>match us,hl with | [_,_],_=>rfl
 have O_3:Own (PySem.Challenge.rw_cratefit_k59_pieces_of_a_plan).prog w K mg base 7 "pieces_of" ["box","plan"] (i4 K (N4 []) z8):=⟨_,_,a3n F_3 T O_0 O_2,B_3,k_3,PySem.W.mg_of X G a_3⟩
 have F_4:=z9 (st:=A2) l_4 c_4 k_4
 have B_4:=F_4.binds (ps:=["plan"]) fun _ _ _ _ _ _ us hl=>match us,hl with | [_],_=>rfl
 have O_4:Own (PySem.Challenge.rw_cratefit_k59_pieces_of_a_plan).prog w K mg base 7 "count_cuts" ["plan"] (i4 K (N4 []) D1):=⟨_,_,a2w F_4 T O_0 O_2,B_4,k_4,PySem.W.mg_of X G a_4⟩
 have F_5:=z9 (st:=M3) l_5 c_5 k_5
 have B_5:=F_5.binds (ps:=["_law_found"]) fun _ _ _ _ _ _ us hl=>match us,hl with | [_],_=>rfl
 have O_5:Own (PySem.Challenge.rw_cratefit_k59_pieces_of_a_plan).prog w K mg base 3 "_law_whole" ["_law_found"] (i4 K (N4 []) A3):=⟨_,_,a44 F_5 T ,B_5,k_5,PySem.W.mg_of X G a_5⟩
 have F_6:=z9 (st:=O4) l_6 c_6 k_6
 have B_6:=F_6.binds (ps:=["_law_script","_law_k"]) fun _ _ _ _ _ _ us hl=>match us,hl with | [_,_],_=>rfl
 have O_6:Own (PySem.Challenge.rw_cratefit_k59_pieces_of_a_plan).prog w K mg base 3 "_law_cell" ["_law_script","_law_k"] (i4 K (N4 []) B4):=⟨_,_,a6g F_6 T ,B_6,k_6,PySem.W.mg_of X G a_6⟩
 have F_7:=z9 (st:=S7) l_7 c_7 k_7
 have B_7:=F_7.binds (ps:=["_law_cell_here","_law_k","_law_prime"]) fun _ _ _ _ _ _ us hl=>match us,hl with | [_,_,_],_=>rfl
 have O_7:Own (PySem.Challenge.rw_cratefit_k59_pieces_of_a_plan).prog w K mg base 3 "_law_mix" ["_law_cell_here","_law_k","_law_prime"] (i4 K (N4 []) j6):=⟨_,_,a7u F_7 T ,B_7,k_7,PySem.W.mg_of X G a_7⟩
 have F_8:=z9 (st:=S8) l_8 c_8 k_8
 have B_8:=F_8.binds (ps:=["_law_spot","_law_cell_here"]) fun _ _ _ _ _ _ us hl=>match us,hl with | [_,_],_=>rfl
 have O_8:Own (PySem.Challenge.rw_cratefit_k59_pieces_of_a_plan).prog w K mg base 5 "_law_cut" ["_law_spot","_law_cell_here"] (i4 K (N4 []) M6):=⟨_,_,a7v F_8 T O_7,B_8,k_8,PySem.W.mg_of X G a_8⟩
 have F_9:=z9 (st:=M4) l_9 c_9 k_9
 have B_9:=F_9.binds (ps:=["_law_spot","_law_way","_law_at"]) fun _ _ _ _ _ _ us hl=>match us,hl with | [_,_,_],_=>rfl
 have O_9:Own (PySem.Challenge.rw_cratefit_k59_pieces_of_a_plan).prog w K mg base 3 "_law_parts" ["_law_spot","_law_way","_law_at"] (i4 K (N4 []) n9):=⟨_,_,a46 F_9 T ,B_9,k_9,PySem.W.mg_of X G a_9⟩
 have F_10:=z9 (st:=O5) l_10 c_10 k_10
 have B_10:=F_10.binds (ps:=["_law_box","_law_cells"]) fun _ _ _ _ _ _ us hl=>match us,hl with | [_,_],_=>rfl
 have O_10:Own (PySem.Challenge.rw_cratefit_k59_pieces_of_a_plan).prog w K mg base 7 "_law_tree" ["_law_box","_law_cells"] (i4 K (N4 []) L7):=⟨_,_,a6h F_10 T O_8 O_9,B_10,k_10,PySem.W.mg_of X G a_10⟩
 have F_11:=z9 (st:=K6) l_11 c_11 k_11
 have B_11:=F_11.binds (ps:=["_law_nodes","_law_ends"]) fun _ _ _ _ _ _ us hl=>match us,hl with | [_,_],_=>rfl
 have O_11:Own (PySem.Challenge.rw_cratefit_k59_pieces_of_a_plan).prog w K mg base 3 "_law_joined" ["_law_nodes","_law_ends"] (i4 K (N4 []) F8):=⟨_,_,a3O F_11 T ,B_11,k_11,PySem.W.mg_of X G a_11⟩
 have F_12:=z9 (st:=y9) l_12 c_12 k_12
 have B_12:=F_12.binds (ps:=["_law_spots","_law_nodes","_law_cell_here"]) fun _ _ _ _ _ _ us hl=>match us,hl with | [_,_,_],_=>rfl
 have O_12:Own (PySem.Challenge.rw_cratefit_k59_pieces_of_a_plan).prog w K mg base 8 "_law_filled" ["_law_spots","_law_nodes","_law_cell_here"] (Z1 [(Pt_l_filled,("_law_filled.<locals>.<lambda>" : Str))] (i4 K (N4 []) F9)):=⟨_,_,a3P F_12 T O_7 (tc_l_filled) (TT_l_filled.2 base kp).1 (TT_l_filled.2 base kp).2 hL_l_filled,B_12,k_12,PySem.W.mg_of X G a_12⟩
 have F_13:=z9 (st:=O6) l_13 c_13 k_13
 have B_13:=F_13.binds (ps:=["_law_cell_here"]) fun _ _ _ _ _ _ us hl=>match us,hl with | [_],_=>rfl
 have O_13:Own (PySem.Challenge.rw_cratefit_k59_pieces_of_a_plan).prog w K mg base 3 "_law_long" ["_law_cell_here"] (i4 K (N4 []) D8):=⟨_,_,a6j F_13 T ,B_13,k_13,PySem.W.mg_of X G a_13⟩
 have F_14:=z9 (st:=K7) l_14 c_14 k_14
 have B_14:=F_14.binds (ps:=["_law_box","_law_plan"]) fun _ _ _ _ _ _ us hl=>match us,hl with | [_,_],_=>rfl
 have O_14:Own (PySem.Challenge.rw_cratefit_k59_pieces_of_a_plan).prog w K mg base 5 "_law_pieces" ["_law_box","_law_plan"] (i4 K (N4 []) G0):=⟨_,_,a3Q F_14 T O_9,B_14,k_14,PySem.W.mg_of X G a_14⟩
 have F_15:=z9 (st:=M5) l_15 c_15 k_15
 have B_15:=F_15.binds (ps:=["_law_piece"]) fun _ _ _ _ _ _ us hl=>match us,hl with | [_],_=>rfl
 have O_15:Own (PySem.Challenge.rw_cratefit_k59_pieces_of_a_plan).prog w K mg base 5 "_law_kinds" ["_law_piece"] (i4 K (N4 []) C0):=⟨_,_,a4_ F_15 T O_5,B_15,k_15,PySem.W.mg_of X G a_15⟩
 have F_16:=z9 (st:=J0) l_16 c_16 k_16
 exact b06 F_16 T O_13 O_6 O_10 O_12 O_11 O_3 O_14 O_15 O_4 O_5
end Law
namespace Law
open PySem L2 PyProof.Rows
theorem walk{q:Program}{loose:List Str}{XP:(Str→Option Value)→Heap→Prop}{YP:World→Heap→Prop}{d:DefRec}{K:Params→PySem.W.Frag}(hdf:d.params.defaults=[])(hY:∀(w:World) (h:Heap),YP w h→(K w.params).In h)
  (F:∀(w:World) (mg mb:Str→Option Value) (fa:Addr) (h:Heap) (mean:ExcName→Option Value),(K w.params).In h→h.Ns mainGlobals mg→mg d.name=some (.ref fa)→PyProof.Rows.Top q (PySem.W.looseW q loose) mean mg mb h →
   ∃(fd:FuncData) (TB:List (Addr×Str)),(∀(s:Shared) (u:Value),BindsTo s fd ⟨[u],[]⟩ [("_law_script",u)])∧(∀Pa qq,TB.lookup Pa=some qq→(∃c,h.TableAt c Pa #[])∧(K w.params).lookup Pa=none)∧∃c:Str→Addr,∀base:Heap,(K w.params).In base→base.Ns mainGlobals mg→(∀b o,h.get? b=some o→o.cls≠.none→o.cls≠.type "list"→base.get? b=some o)→FnOk (PySem.Challenge.rw_cratefit_k59_pieces_of_a_plan).prog w (K w.params) mg base (v8 (PySem.Challenge.rw_cratefit_k59_pieces_of_a_plan).prog w) 10 fa fd ["_law_script"] (Z1 TB (a1K (K w.params) c))) :
  PySem.W.WalkO q loose XP YP (PySem.Challenge.rw_cratefit_k59_pieces_of_a_plan).row.toRowW d [] (fun f vs=>PySem.call f vs):=by
 refine L2.walk_ofT (l:=PySem.Challenge.rw_cratefit_k59_pieces_of_a_plan) (n:=63) (k:=10) (x := "_law_script") (K:=K) (CX:=fun w=>v8 (PySem.Challenge.rw_cratefit_k59_pieces_of_a_plan).prog w) (sp:=fun w vs H Q E=>∀c,a1K (K w.params) c vs H Q E) rfl (by decide) hdf ⟨rfl,by decide,by decide⟩ hY (fun w mg mb fa h mean KX G hm Tp=>?_) (fun w H a ns h1 h2 h3 c=>⟨a,ns,rfl,h3,h2,h1,fun _=>rfl⟩) fun w H s e s' z=>b09 H s e s' z
 obtain⟨fd,TB,hb,hTb,c,hF⟩:=F w mg mb fa h mean KX G hm Tp
 exact⟨fd,TB,hb,hTb,fun base kb nb kp=>(hF base kb nb kp).imp fun vs H Q E z=>⟨z.1,z.2 c⟩⟩
end Law
local macro_rules|`(#check 0)=>do
 let g:=fun(n:Lean.Name)=>do
  let y:=Lean.mkIdent (.str `PySem.W.Fast s!"tw{n.hash}")
  `(theorem $y:ident : True:=trivial)
 let mut r:=#[←g `PySem.Challenge.pw_cratefit_k59_pieces_of_a_plan]
 for x in ["sts_49","sts_131","tree_47","tree_130","tree_163","heap_39","heap_46","heap_164","view_39","env_41"]++(List.range 121).map (s!"o_{·+43}") do r:=r.push (←g (.str `PySem.Challenge.cw_cratefit_k59_pieces_of_a_plan_holds x))
 return Lean.mkNullNode r
#check 0
open PySem.W
set_option maxRecDepth 100000 in
set_option maxHeartbeats 0 in
theorem PySem.Challenge.cw_cratefit_k59_pieces_of_a_plan_holds : PySem.Challenge.rw_cratefit_k59_pieces_of_a_plan.Holds := by
 w_on;o_law;k_head; (case hw=>w_witness2)
 k_fill
 refine Law.walk rfl (fun w h Y=>PySem.W.km_in_of Y) ?F
 case F =>
  intro w mg mb fa h mean KX G hmg Tp
  refine' Law.all_mk KX G hmg Tp ?a_is_cut ?l_is_cut ?c_is_cut ?k_is_cut ?a_cut_spots ?l_cut_spots ?c_cut_spots ?k_cut_spots ?a_nodes_of ?l_nodes_of ?c_nodes_of ?k_nodes_of ?a_pieces_of ?l_pieces_of ?c_pieces_of ?k_pieces_of ?a_count_cuts ?l_count_cuts ?c_count_cuts ?k_count_cuts ?a_l_whole ?l_l_whole ?c_l_whole ?k_l_whole ?a_l_cell ?l_l_cell ?c_l_cell ?k_l_cell ?a_l_mix ?l_l_mix ?c_l_mix ?k_l_mix ?a_l_cut ?l_l_cut ?c_l_cut ?k_l_cut ?a_l_parts ?l_l_parts ?c_l_parts ?k_l_parts ?a_l_tree ?l_l_tree ?c_l_tree ?k_l_tree ?a_l_joined ?l_l_joined ?c_l_joined ?k_l_joined ?a_l_filled ?l_l_filled ?c_l_filled ?k_l_filled ?a_l_long ?l_l_long ?c_l_long ?k_l_long ?a_l_pieces ?l_l_pieces ?c_l_pieces ?k_l_pieces ?a_l_kinds ?l_l_kinds ?c_l_kinds ?k_l_kinds ?a_law ?l_law ?c_law ?k_law ?tc_l_filled ?tk_l_filled ?tp_l_filled ?tn_l_filled ?tr_l_filled ?z_bool ?z_int ?z_isinstance ?z_len ?z_list ?z_max ?z_range ?z_sorted ?z_tuple
  (case a_is_cut=>k_is)
  (case l_is_cut=>k_is)
  (case c_is_cut=>k_is)
  (case k_is_cut=>k_is)
  (case a_cut_spots=>k_is)
  (case l_cut_spots=>k_is)
  (case c_cut_spots=>k_is)
  (case k_cut_spots=>k_is)
  (case a_nodes_of=>k_is)
  (case l_nodes_of=>k_is)
  (case c_nodes_of=>k_is)
  (case k_nodes_of=>k_is)
  (case a_pieces_of=>k_is)
  (case l_pieces_of=>k_is)
  (case c_pieces_of=>k_is)
  (case k_pieces_of=>k_is)
  (case a_count_cuts=>k_is)
  (case l_count_cuts=>k_is)
  (case c_count_cuts=>k_is)
  (case k_count_cuts=>k_is)
  (case a_l_whole=>k_is)
  (case l_l_whole=>k_is)
  (case c_l_whole=>k_is)
  (case k_l_whole=>k_is)
  (case a_l_cell=>k_is)
  (case l_l_cell=>k_is)
  (case c_l_cell=>k_is)
  (case k_l_cell=>k_is)
  (case a_l_mix=>k_is)
  (case l_l_mix=>k_is)
  (case c_l_mix=>k_is)
  (case k_l_mix=>k_is)
  (case a_l_cut=>k_is)
  (case l_l_cut=>k_is)
  (case c_l_cut=>k_is)
  (case k_l_cut=>k_is)
  (case a_l_parts=>k_is)
  (case l_l_parts=>k_is)
  (case c_l_parts=>k_is)
  (case k_l_parts=>k_is)
  (case a_l_tree=>k_is)
  (case l_l_tree=>k_is)
  (case c_l_tree=>k_is)
  (case k_l_tree=>k_is)
  (case a_l_joined=>k_is)
  (case l_l_joined=>k_is)
  (case c_l_joined=>k_is)
  (case k_l_joined=>k_is)
  (case a_l_filled=>k_is)
  (case l_l_filled=>k_is)
  (case c_l_filled=>k_is)
  (case k_l_filled=>k_is)
  (case a_l_long=>k_is)
  (case l_l_long=>k_is)
  (case c_l_long=>k_is)
  (case k_l_long=>k_is)
  (case a_l_pieces=>k_is)
  (case l_l_pieces=>k_is)
  (case c_l_pieces=>k_is)
  (case k_l_pieces=>k_is)
  (case a_l_kinds=>k_is)
  (case l_l_kinds=>k_is)
  (case c_l_kinds=>k_is)
  (case k_l_kinds=>k_is)
  (case a_law=>k_is)
  (case l_law=>k_is)
  (case c_law=>k_is)
  (case k_law=>k_is)
  (case tc_l_filled=>exact rfl)
  (case tk_l_filled=>k_is)
  (case tp_l_filled=>exact rfl)
  (case tn_l_filled=>first | k_is | rfl | decide +kernel)
  (case tr_l_filled=>first | rfl | decide +kernel)
  (case z_bool=>k_is)
  (case z_int=>k_is)
  (case z_isinstance=>k_is)
  (case z_len=>k_is)
  (case z_list=>k_is)
  (case z_max=>k_is)
  (case z_range=>k_is)
  (case z_sorted=>k_is)
  (case z_tuple=>k_is)
