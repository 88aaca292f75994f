import PyProof.Rows.All
import Wide.All
import OpenK.AllK
import Wide.FinOn
import Lean
import PyProof.EqAt
import PyProof.EqKinds
import PyProof.TupleCall
import KE.KLam
import KE.KSortKey
import PyProof.ListRange
import PyProof.CollectIter
import PyProof.Rows.RuleB_bool
import PySem.Challenge.RW_cratefit_k56_whole_corners
set_option Elab.async false
set_option linter.all false
set_option maxRecDepth 100000
set_option hygiene false
namespace L2
open PySem PySem.Spec PyProof.Rows
abbrev L8:=Sum Int Str
def a8C:L8→Value→Bool
 | .inl k,v=>Value.isInt k v
 | .inr x,v=>Value.isStrOf x v
def b2z(w:World):L8→Int
 | .inl k=>hashInt k
 | .inr x=>hashStr w x
theorem u7:∀{k:L8} {v:Value},a8C k v=true→(∃i t,k=Sum.inl i∧v=Value.int i t)∨(∃x t,k=Sum.inr x∧v=Value.str x t)
 | .inl i,v,h=>by
  obtain⟨t,e⟩:=Value.isInt_shape (k:=i) (v:=v) h
  exact .inl ⟨i,t,rfl,e⟩
 | .inr x,v,h=>by
  obtain⟨t,e⟩:=Value.isStrOf_shape (x:=x) (v:=v) h
  exact .inr ⟨x,t,rfl,e⟩
theorem b0w(a b:Int):decide ((Sum.inl a:L8)=Sum.inl b)=(a == b):=by
 by_cases e:a=b
 ·subst e;simp
 ·have h:¬(Sum.inl a:L8)=Sum.inl b:=fun q=>e (Sum.inl.inj q)
  rw[decide_eq_false h]
  exact(beq_eq_false_iff_ne.mpr e).symm
theorem b0x(a b:Str):decide ((Sum.inr a:L8)=Sum.inr b)=decide (a=b):=by
 by_cases e:a=b
 ·subst e;simp
 ·have h:¬(Sum.inr a:L8)=Sum.inr b:=fun q=>e (Sum.inr.inj q)
  rw[decide_eq_false h,decide_eq_false e]
theorem b0y(a:Int)(b:Str):decide ((Sum.inl a:L8)=Sum.inr b)=false:=decide_eq_false (fun q=>nomatch q)
theorem b0z(a:Str)(b:Int):decide ((Sum.inr a:L8)=Sum.inl b)=false:=decide_eq_false (fun q=>nomatch q)
def a4s(prog:Program)(w:World):PySem.KeyKind prog w L8 where
 is:=a8C
 hash:=b2z w
 inj:=fun v a b ha hb=>by
  rcases u7 ha with⟨i,t,rfl,rfl⟩ | ⟨x,t,rfl,rfl⟩
  ·rcases u7 hb with⟨j,u,rfl,e⟩ | ⟨y,u,rfl,e⟩
   ·injection e with e1 _;rw[e1]
   ·exact nomatch e
  ·rcases u7 hb with⟨j,u,rfl,e⟩ | ⟨y,u,rfl,e⟩
   ·exact nomatch e
   ·injection e with e1 _;rw[e1]
 byValue:=fun k v h=>by
  rcases u7 h with⟨i,t,rfl,rfl⟩ | ⟨x,t,rfl,rfl⟩<;>rfl
 pyHash:=fun hv h=>by
  rcases u7 hv with⟨i,t,rfl,rfl⟩ | ⟨x,t,rfl,rfl⟩
  ·exact wpAny_pyHash_int h
  ·exact wpAny_pyHash_str h
 eqBool:=fun hu hv h=>by
  rcases u7 hu with⟨i,t,rfl,rfl⟩ | ⟨x,t,rfl,rfl⟩
  ·rcases u7 hv with⟨j,u,rfl,rfl⟩ | ⟨y,u,rfl,rfl⟩
   ·rw[b0w]at h;exact wpAny_eqBool_int h
   ·rw[b0y]at h;exact SeqAt.EqAt.int_str i t y u _ _ _ _ h
  ·rcases u7 hv with⟨j,u,rfl,rfl⟩ | ⟨y,u,rfl,rfl⟩
   ·rw[b0z]at h;exact SeqAt.EqAt.str_int x t j u _ _ _ _ h
   ·rw[b0x]at h;exact wpAny_eqBool_str h
 «strs» := fun k x t v h=>by
  rcases u7 h with⟨i,u,rfl,e⟩ | ⟨y,u,rfl,e⟩
  ·exact nomatch e
  ·injection e with e1 _
   subst e1
   cases v<;>rfl
inductive V where
 | non | bl (b:Bool) | int (i:Int) | str (x:Str) | byt (b:Array UInt8) | flt (b:UInt64) | ref (a:Addr) | ty (n:String)
 deriving DecidableEq
def RelV:V→Value→Prop
 | .non,u=>u=Value.none
 | .bl b,u=>u=Value.bool b
 | .int i,u=>∃t,u=Value.int i t
 | .str x,u=>∃t,u=Value.str x t
 | .byt b,u=>∃t,u=Value.bytes b t
 | .flt b,u=>∃t,u=Value.float b t
 | .ref a,u=>u=Value.ref a
 | .ty n,u=>u=Value.type n
abbrev Vals:List V→List Value→Prop:=Paired RelV
theorem Vals.length{xs:List V}{us:List Value}(r:Vals xs us):xs.length=us.length:=Paired.length r
theorem Vals.get:∀{xs:List V} {us:List Value} {i:Nat} {x:V},Vals xs us→xs[i]? = some x→∃u,us[i]? = some u∧RelV x u
 | _,_,_,_,.nil,e=>by simp at e
 | _,_,0,_,.cons r _,e=>by simp at e;subst e;exact⟨_,rfl,r⟩
 | _,_,i+1,x,.cons _ t,e=>by
  obtain⟨u,h1,h2⟩:=Vals.get (i:=i) (x:=x) t (by simpa using e)
  exact⟨u,by simpa using h1,h2⟩
theorem Vals.set{x:V}{u:Value}(r:RelV x u):∀{xs:List V} {us:List Value} (i:Nat),Vals xs us→Vals (xs.set i x) (us.set i u)
 | _,_,_,.nil=>.nil
 | _,_,0,.cons _ t=>.cons r t
 | _,_,i+1,.cons q t=>.cons q (Vals.set r i t)
theorem Vals.append:∀{xs ys:List V} {us ws:List Value},Vals xs us→Vals ys ws→Vals (xs++ys) (us++ws)
 | _,_,_,_,.nil,s=>s
 | _,_,_,_,.cons r t,s=>.cons r (Vals.append t s)
theorem Vals.take:∀{xs:List V} {us:List Value} (n:Nat),Vals xs us→Vals (xs.take n) (us.take n)
 | _,_,0,_=>.nil
 | _,_,_+1,.nil=>.nil
 | _,_,n+1,.cons r t=>.cons r (Vals.take n t)
theorem Vals.drop:∀{xs:List V} {us:List Value} (n:Nat),Vals xs us→Vals (xs.drop n) (us.drop n)
 | _,_,0,r=>r
 | _,_,_+1,.nil=>.nil
 | _,_,n+1,.cons _ t=>Vals.drop n t
def a7i:Option V→Option Value→Prop
 | some v,some u=>RelV v u
 | none,none=>True
 | _,_=>False
def KV{κ:Type}:List (κ×V)→List (κ×Value)→Prop:=Paired fun(p:κ×V) (q:κ×Value)=>p.1=q.1∧RelV p.2 q.2
def kV:L8→V
 | .inl i=>.int i
 | .inr x=>.str x
inductive HO where
 /-- a list -/
 | lst (xs:List V)
 /-- a tuple (never changes) -/
 | tup (xs:List V)
 /-- a dict whose keys are ints and texts; one whose keys are tuples of ints and texts (the empty one is both) -/
 | dK (kvs:List (L8×V)) | dT (kvs:List (List L8×V))
 /-- a set of ints: its members, its size -/
 | set (S:Int→Bool) (n:Nat)
 /-- an instance of the class at C, its dict at dx, its attributes -/
 | ins (C dx:Addr) (fs:List (Str×V))
 /-- the dict of the instance at x -/
 | own (x:Addr)
 /-- the dict of an exception -/
 | xd (fs:List (Str×V))
 /-- a bound method, f of x -/
 | met (f x:Addr)
 /-- a range object lo, lo + 1, .. below hi -/
 | rng (lo hi:Int)
 /-- a thing that is known to the object (the script; a dict while a loop walks it): read, never written while it is so -/
 | frz (o:Obj) (u:HO)
 /-- a code object's table -/
 | tbl (ps:Array Value)
 /-- any other thing, by what is true of its one object (a def of one's own: SetO a S n := HO.ext fun h => ..) -/
 | ext (φ:Heap→Prop)
abbrev Hp:=Addr→Option HO
def upd(H:Hp)(a:Addr)(o:HO):Hp:=fun b=>if b=a then some o else H b
theorem h7{H:Hp}{a:Addr}{o:HO}:upd H a o a=some o:=by unfold upd;rw[if_pos rfl]
theorem c8{H:Hp}{a b:Addr}{o:HO}(h:b≠a):upd H a o b=H b:=by unfold upd;rw[if_neg h]
theorem b10{H:Hp}{a b:Addr}{o u:HO}(h:H a=some o)(h':H b=some u)(d:o≠u):a≠b:=by
 intro e;subst e;rw[h]at h';exact d (Option.some.inj h')
theorem g8{H:Hp}{a b:Addr}{o:HO}(h:H a=some o)(h':H b=none):a≠b:=by
 intro e;subst e;rw[h]at h';cases h'
section
variable (P:Program)(w:World)
def ObjOk(H:Hp)(h:Heap)(a:Addr):HO→Prop
 | .lst xs=>xs.length≤sizeLine∧∃(its:List Value) (n:Nat),Vals xs its∧h.get? a=some { cls:=.type "list",data:=.seq its.toArray n }
 | .tup xs=>xs.length≤sizeLine∧∃its:List Value,Vals xs its∧IsTup h a its.toArray
 | .dK kvs=>kvs.length≤sizeLine∧(a == sysModules)=false∧∃vs,KV kvs vs∧h.DictOf (a4s P w) a vs
 | .dT kvs=>kvs.length≤sizeLine∧(a == sysModules)=false∧∃xs:List (List L8×Addr×Value),
   Paired (fun(p:List L8×V) (q:List L8×Addr×Value)=>p.1=q.1∧H q.2.1=some (.tup (p.1.map kV))∧RelV p.2 q.2.2) kvs xs ∧
   ∃o es ep,h.get? a=some o∧o.ExactDict∧o.data=.dict es ep∧es.toList=xs.map (entryOfKey (tupleKind (a4s P w)))∧(xs.map (·.1)).Nodup
 | .set S n=>h.SetOf (intKind P w) a S n
 | .ins C dx fs=>H dx=some (.own a)∧fs.length≤1000∧dx≠a∧h.get? a=some (W.instObj C dx) ∧
   ∃mA,h.Ns1 dx mA∧(∀f,a7i (fs.lookup f) (mA f))∧PySem.Within mA (fs.map (·.1))
 | .own _=>∃o,h.get? a=some o
 | .xd fs=>∃mA,h.Ns1 a mA∧∀f,a7i (fs.lookup f) (mA f)
 | .rng lo hi=>∃t u v,h.get? a=some { cls:=.type "range",data:=.fields #[.int lo t,.int hi u,.int 1 v] }
 | .frz o u=>h.get? a=some o∧ObjOk H h a u
 | .tbl qs=>∃ps:Array Value,h.get? a=some { cls:=.none,data:=.fields ps }∧TriplesOk ps.toList∧∀pos cv,codeAmong pos ps.toList=some cv→∃c oc u,cv=Value.ref c∧H c=some (.frz oc u)∧∃vs q t t2,oc.data=.fields vs∧vs[1]? = some (Value.str q t2)∧qs[0]? = some (Value.str q t)
 | .met f x=>h.get? a=some (W.methodObj (.ref f) (.ref x))
 | .ext φ=>φ h∧(∃o,h.get? a=some o)∧∀h1 h2:Heap,φ h1→(∀o,h1.get? a=some o→h2.get? a=some o)→φ h2
def HOk(H:Hp)(h:Heap):Prop:=∀a o,H a=some o→ObjOk P w H h a o
end
section
variable {P:Program}{w:World}{H H':Hp}{h h':Heap}{a:Addr}{o:HO}
theorem ObjOk.lt(x:ObjOk P w H h a o):a<h.objs.size:=by
 cases o with
 | lst xs=>obtain⟨_,_,_,_,e⟩:=x;exact Heap.lt_size e
 | tup xs=>obtain⟨_,_,_,p⟩:=x;exact p.lt
 | dK kvs=>obtain⟨_,_,_,_,o,_,_,e,_⟩:=x;exact Heap.lt_size e
 | dT kvs=>obtain⟨_,_,_,_,o,_,_,e,_⟩:=x;exact Heap.lt_size e
 | set S n=>obtain⟨o,_,_,_,e,_⟩:=x;exact Heap.lt_size e
 | ins C dx fs=>obtain⟨_,_,_,e,_⟩:=x;exact Heap.lt_size e
 | own y=>obtain⟨_,e⟩:=x;exact Heap.lt_size e
 | xd fs=>obtain⟨_,⟨_,_,_,e,_⟩,_⟩:=x;exact Heap.lt_size e
 | rng lo hi=>obtain⟨_,_,_,e⟩:=x;exact Heap.lt_size e
 | frz ob u=>obtain⟨e,_⟩:=x;exact Heap.lt_size e
 | tbl ps=>obtain⟨_,e,_⟩:=x;exact Heap.lt_size e
 | met f y=>exact Heap.lt_size (show h.get? a=some _ from x)
 | ext φ=>obtain⟨_,⟨_,e⟩,_⟩:=x;exact Heap.lt_size e
theorem Paired.mapP{α β:Type}{F G:α→β→Prop}:∀{l₁:List α} {l₂:List β},Paired F l₁ l₂→(∀a b,F a b→G a b)→Paired G l₁ l₂
 | _,_,.nil,_=>.nil
 | _,_,.cons r t,f=>.cons (f _ _ r) (Paired.mapP t f)
theorem ObjOk.stay(x:ObjOk P w H h a o)(k:∀b u,(b=a∨H b=some (.own a))→h.get? b=some u→h'.get? b=some u)
  (ho:∀b,H b=some (.own a)→H' b=some (.own a)) (ht:∀b xs,H b=some (.tup xs)→H' b=some (.tup xs)) (hz:∀b ob u,H b=some (.frz ob u)→H' b=some (.frz ob u)):ObjOk P w H' h' a o:=by
 induction o with
 | lst xs=>obtain⟨z,its,n,r,e⟩:=x;exact⟨z,its,n,r,k _ _ (.inl rfl) e⟩
 | tup xs=>obtain⟨z,its,r,ob,e,c⟩:=x;exact⟨z,its,r,ob,k _ _ (.inl rfl) e,c⟩
 | dK kvs=>obtain⟨z,y,vs,r,ob,es,ep,e,c⟩:=x;exact⟨z,y,vs,r,ob,es,ep,k _ _ (.inl rfl) e,c⟩
 | dT kvs =>
  obtain⟨z,y,xs,r,ob,es,ep,e,c⟩:=x
  exact⟨z,y,xs,Paired.mapP r fun p q z=>⟨z.1,ht _ _ z.2.1,z.2.2⟩,ob,es,ep,k _ _ (.inl rfl) e,c⟩
 | set S n=>obtain⟨ob,es,ep,t,e,c⟩:=x;exact⟨ob,es,ep,t,k _ _ (.inl rfl) e,c⟩
 | ins C dx fs =>
  obtain⟨d,z,ne,e,mA,⟨od,es,ep,e2,c⟩,r⟩:=x
  exact⟨ho _ d,z,ne,k _ _ (.inl rfl) e,mA,⟨od,es,ep,k _ _ (.inr d) e2,c⟩,r⟩
 | own y=>obtain⟨ob,e⟩:=x;exact⟨ob,k _ _ (.inl rfl) e⟩
 | xd fs=>obtain⟨mA,⟨od,es,ep,e,c⟩,r⟩:=x;exact⟨mA,⟨od,es,ep,k _ _ (.inl rfl) e,c⟩,r⟩
 | rng lo hi=>obtain⟨t,u,v,e⟩:=x;exact⟨t,u,v,k _ _ (.inl rfl) e⟩
 | frz ob u ih=>obtain⟨e,q⟩:=x;exact⟨k _ _ (.inl rfl) e,ih q⟩
 | tbl qs =>
  obtain⟨ps,e,tr,al⟩:=x
  refine⟨ps,k a _ (.inl rfl) e,tr,fun pos cv q=>?_⟩
  obtain⟨c,oc,u,e1,e3,r⟩:=al pos cv q
  exact⟨c,oc,u,e1,hz _ _ _ e3,r⟩
 | met f y =>
  have e:h.get? a=some (W.methodObj (.ref f) (.ref y)):=x
  show h'.get? a=some (W.methodObj (.ref f) (.ref y))
  exact k a _ (.inl rfl) e
 | ext φ=>obtain⟨p,⟨o,e⟩,st⟩:=x;exact⟨st _ _ p fun o q=>k _ _ (.inl rfl) q,⟨o,k _ _ (.inl rfl) e⟩,st⟩
theorem HOk.lt(x:HOk P w H h)(e:H a=some o):a<h.objs.size:=(x a o e).lt
theorem HOk.fresh(x:HOk P w H h)(e:h.objs.size≤a):H a=none:=by
 cases q:H a with
 | none=>rfl
 | some u=>exact absurd (Nat.lt_of_lt_of_le (x.lt q) e) (Nat.lt_irrefl _)
theorem HOk.kept(x:HOk P w H h)(k:∀b u,h.get? b=some u→h'.get? b=some u):HOk P w H h':=fun a o e =>
 (x a o e).stay (fun b u _ q=>k b u q) (fun _ q=>q) (fun _ _ q=>q) fun _ _ _ q=>q
theorem HOk.laid(x:HOk P w H h)(k:∀b u,h.get? b=some u→h'.get? b=some u)(hp:h.objs.size≤a)(new:ObjOk P w (upd H a o) h' a o):HOk P w (upd H a o) h':=fun b u e=>by
 have hn:=x.fresh hp
 by_cases hb:b=a
 ·subst hb;rw[h7]at e;cases e;exact new
 ·rw[c8 hb]at e
  exact(x b u e).stay (fun c v _ q=>k c v q) (fun c q=>by rw[c8 (g8 q hn)];exact q) (fun c xs q=>by rw[c8 (g8 q hn)];exact q) fun c ob u q=>by rw[c8 (g8 q hn)];exact q
end
def Rd(H:Hp)(a:Addr)(u:HO):Prop:=H a=some u∨∃o,H a=some (.frz o u)
theorem Rd.of{H:Hp}{a:Addr}{u:HO}(h:H a=some u):Rd H a u:=.inl h
theorem Rd.ok{P:Program}{w:World}{H:Hp}{h:Heap}{a:Addr}{u:HO}(r:Rd H a u)(x:HOk P w H h):ObjOk P w H h a u:=by
 rcases r with r | ⟨o,r⟩
 ·exact x a u r
 ·obtain⟨_,q⟩:=x a _ r
  exact q
def Mut:Option HO→Prop
 | some (.lst _)=>True
 | some (.dK _)=>True
 | some (.dT _)=>True
 | some (.set _ _)=>True
 | some (.ins _ _ _)=>True
 | some (.ext _)=>True
 | _=>False
section
variable {P:Program}{w:World}{H:Hp}{h h':Heap}{x e:Addr}{o':HO}
theorem HOk.write(ok:HOk P w H h)(mu:Mut (H x))(he:e=x∨H e=some (.own x))(k:∀b u,b≠e→h.get? b=some u→h'.get? b=some u)(heo:∃u,h'.get? e=some u)
  (new:ObjOk P w (upd H x o') h' x o'):HOk P w (upd H x o') h':=fun b u q=>by
 have nown:∀c y,H c=some (.own y)→c≠x:=fun c y r z=>by subst z;rw[r]at mu;exact mu
 have ntup:∀c xs,H c=some (.tup xs)→c≠x:=fun c xs r z=>by subst z;rw[r]at mu;exact mu
 by_cases hb:b=x
 ·subst hb;rw[h7]at q;cases q;exact new
 ·rw[c8 hb]at q
  by_cases hbe:b=e
  ·have q':H b=some (.own x):=by
    rcases he with z | z
    ·exact absurd (hbe.trans z) hb
    ·rw[hbe];exact z
   rw[q]at q';cases q'
   obtain⟨v,hv⟩:=heo
   exact⟨v,by rw[hbe];exact hv⟩
  ·refine(ok b u q).stay (fun c v hc r=>k c v ?_ r) (fun c r=>by rw[c8 (nown c b r)];exact r) (fun c xs r=>by rw[c8 (ntup c xs r)];exact r) fun c ob u r=>by rw[c8 (fun z=>by subst z;rw[r]at mu;exact mu)];exact r
   rcases hc with rfl | hc
   ·exact hbe
   ·rintro rfl
    rcases he with z | z
    ·exact nown c b hc z
    ·rw[hc]at z;cases z;exact hb rfl
end
structure Un(fs ex:List Addr)(H H':Hp)(h h':Heap):Prop where
 keep:∀b o,h.get? b=some o→H b=none→b ∉ fs→b ∉ ex→h'.get? b=some o
 slot:∀b o,h.get? b=some o→H b=none→b∈fs→b ∉ ex→∃sl,h'.get? b=some { o with slots:=sl }
 free:∀b o,h.get? b=some o→H b=none→b ∉ ex→H' b=none
 there:∀b o,h.get? b=some o→b ∉ ex→∃o',h'.get? b=some o'
 tups:∀b xs,H b=some (.tup xs)→H' b=some (.tup xs)
 frzs:∀b o u,H b=some (.frz o u)→H' b=some (.frz o u)
 tbls:∀b ps,H b=some (.tbl ps)→∃more,H' b=some (.tbl (ps++more))
section
variable {fs fs' ex ex':List Addr}{H H1 H2:Hp}{h h1 h2 h':Heap}{a x e:Addr}{o:HO}
theorem Un.any(u:Un fs ex H H1 h h1){b:Addr}{ob:Obj}(q:h.get? b=some ob)(n:H b=none)(hx:b ∉ ex):∃sl,h1.get? b=some { ob with slots:=sl }:=by
 by_cases hb:b∈fs
 ·exact u.slot b ob q n hb hx
 ·exact⟨ob.slots,u.keep b ob q n hb hx⟩
theorem Un.trans(a:Un fs ex H H1 h h1)(b:Un fs ex H1 H2 h1 h2):Un fs ex H H2 h h2 where
 keep:=fun c ob q n hc hx=>b.keep c ob (a.keep c ob q n hc hx) (a.free c ob q n hx) hc hx
 slot:=fun c ob q n hc hx=>by
  obtain⟨sl,e1⟩:=a.slot c ob q n hc hx
  obtain⟨sl',e2⟩:=b.slot c _ e1 (a.free c ob q n hx) hc hx
  exact⟨sl',e2⟩
 free:=fun c ob q n hx=>by
  obtain⟨o',e1⟩:=a.there c ob q hx
  exact b.free c o' e1 (a.free c ob q n hx) hx
 there:=fun c ob q hx=>by
  obtain⟨o',e1⟩:=a.there c ob q hx
  exact b.there c o' e1 hx
 tups:=fun c xs q=>b.tups c xs (a.tups c xs q)
 frzs:=fun c ob xs q=>b.frzs c ob xs (a.frzs c ob xs q)
 tbls:=fun c ps q=>by
  obtain⟨m1,e1⟩:=a.tbls c ps q
  obtain⟨m2,e2⟩:=b.tbls c _ e1
  exact⟨m1++m2,by rw[e2,Array.append_assoc]⟩
theorem Un.kept(k:∀b u,h.get? b=some u→h'.get? b=some u):Un fs ex H H h h' :=
 ⟨fun b ob q _ _ _=>k b ob q,fun b ob q _ _ _=>⟨ob.slots,k b ob q⟩,fun _ _ _ n _=>n,fun b ob q _=>⟨ob,k b ob q⟩,fun _ _ q=>q,fun _ _ _ q=>q,fun _ ps q=>⟨#[],by rw[q];simp⟩⟩
theorem Un.refl:Un fs ex H H h h:=Un.kept fun _ _ q=>q
theorem Un.laid(k:∀b u,h.get? b=some u→h'.get? b=some u)(hp:h.objs.size≤a)(hn:H a=none):Un fs ex H (upd H a o) h h' where
 keep:=fun b u q _ _ _=>k b u q
 slot:=fun b u q _ _ _=>⟨u.slots,k b u q⟩
 free:=fun b u q n _=>by rw[c8 (Nat.ne_of_lt (Nat.lt_of_lt_of_le (Heap.lt_size q) hp))];exact n
 there:=fun b u q _=>⟨u,k b u q⟩
 tups:=fun b xs q=>by rw[c8 (g8 q hn)];exact q
 frzs:=fun b u xs q=>by rw[c8 (g8 q hn)];exact q
 tbls:=fun b ps q=>⟨#[],by rw[c8 (g8 q hn),q];simp⟩
theorem Un.write(mu:Mut (H x))(he:e=x∨H e=some (.own x))(k:∀b u,b≠e→h.get? b=some u→h'.get? b=some u)(heo:∃u,h'.get? e=some u):Un fs ex H (upd H x o) h h':=by
 have hx:∀b,H b=none→b≠x:=fun b n z=>by subst z;rw[n]at mu;exact mu
 have hb:∀b,H b=none→b≠e:=fun b n z=>by
  subst z
  rcases he with r | r
  ·exact hx b n r
  ·rw[n]at r;cases r
 have hm:∀b u,H b=some u→¬Mut (some u)→b≠x:=fun b u q nm z=>by subst z;rw[q]at mu;exact nm mu
 refine⟨fun b u q n _ _=>k b u (hb b n) q,fun b u q n _ _=>⟨u.slots,k b u (hb b n) q⟩,fun b u q n _=>by rw[c8 (hx b n)];exact n,fun b u q _=>?_,
  fun b xs q=>by rw[c8 (hm b _ q fun z=>z)];exact q,fun b u xs q=>by rw[c8 (hm b _ q fun z=>z)];exact q,fun b ps q=>⟨#[],by rw[c8 (hm b _ q fun z=>z),q];simp⟩⟩
 by_cases hbe:b=e
 ·subst hbe;exact heo
 ·exact⟨u,k b u hbe q⟩
theorem Un.mono(u:Un fs ex H H1 h h1)(hs:∀b∈fs,b∈fs')(hx:∀b∈ex,b∈ex'):Un fs' ex' H H1 h h1 :=
 ⟨fun b ob q n hb he=>u.keep b ob q n (fun z=>hb (hs b z)) fun z=>he (hx b z),fun _ _ q n _ he=>u.any q n fun z=>he (hx _ z),fun b ob q n he=>u.free b ob q n fun z=>he (hx b z),fun b ob q he=>u.there b ob q fun z=>he (hx b z),u.tups,u.frzs,u.tbls⟩
end
def trk(h:Heap)(H:Hp):List Addr:=(List.range h.objs.size).filter fun a=>(H a).isSome
def U8(h:Heap)(H:Hp):Heap:=W.hideAll h (trk h H)
theorem a5S(h:Heap)(H:Hp):(U8 h H).objs.size=h.objs.size:=W.hideAll_size _ _
theorem a7j{h:Heap}{H:Hp}{b:Addr}{o:Obj}(e:h.get? b=some o)(n:H b=none):(U8 h H).get? b=some o :=
 W.hideAll_get _ e fun hm=>by
  have q:(H b).isSome=true:=(List.mem_filter.mp hm).2
  rw[n]at q;simp at q
theorem a9b{h:Heap}{H:Hp}{b:Addr}{o:Obj}(e:(U8 h H).get? b=some o):h.get? b=some o∧H b=none:=by
 have e':h.get? b=some o:=W.of_hideAll (trk h H) e
 refine⟨e',?_⟩
 cases q:H b with
 | none=>rfl
 | some x =>
  have hm:b∈trk h H:=List.mem_filter.mpr ⟨List.mem_range.mpr (Heap.lt_size e'),by simp[q]⟩
  have z:(U8 h H).get? b=none:=W.hideAll_none (trk h H) hm
  rw[z]at e;cases e
def a9c(g h:Heap)(L:Addr):List (Addr×Obj):=(List.range h.objs.size).filterMap fun a=>if a=L∨(g.get? a).isSome=true then none else(h.get? a).map fun o=>(a,o)
def t7(g h:Heap)(L d:Addr):List (Addr×Obj):=(a9c g h L).filter fun p=>decide (p.1≠d)
structure Mod(K:W.Frag)(mg:Str→Option Value)(base:Heap):Prop where
 kin:K.In base
 glob:base.Ns mainGlobals mg
 blt:∃mb,base.Ns builtinsNs mb∧∀x:Str,x≠"__name__"→mb x=bootBuiltins x
 nolimit:base.NoLimit
structure Cx where
 prog:Program
 w:World
 K:W.Frag
 mg:Str→Option Value
 base:Heap
 A:Around
 N:List Str
 s₀:Shared
 H₀:Hp
 env:Env
 outer:List Env
 stack:List Env
 ex:List Addr
 fn:Str→Bool
 calm:Bool
 pn:List (Addr×Obj)
 xe:Value→Shared→Prop
def B5(l:List Env):List Addr:=l.filterMap (·.frame)
abbrev Cx.fs(X:Cx):List Addr:=B5 X.outer
def Vis(sc:Scope)(x:Str):Prop:=sc.names.lookup x=some .local∨sc.names.lookup x=some .cell∨sc.names.lookup x=some .free
def Loc(sc:Scope)(x:Str):Prop:=sc.names.lookup x=some .local∨sc.names.lookup x=some .cell
def b2A(env:Env)(h:Heap)(m:Str→Option Value)(x:Str)(u:Value):Prop :=
 (env.kindOf x=some .local∧m x=some u)∨((env.kindOf x=some .cell∨env.kindOf x=some .free)∧∃c,env.cells.lookup x=some c∧h.IsCell c (some u))
structure Cx.Ok(X:Cx):Prop where
 mod:Mod X.K X.mg X.base
 kind:X.env.scope.kind=.function
 glob:X.env.globals=mainGlobals
 blt:X.env.builtins=builtinsNs
 above:X.s₀.heap.objs.size≤X.env.locals
 inj:∀x y c,X.env.cells.lookup x=some c→X.env.cells.lookup y=some c→x=y
 has:∀x,(X.env.kindOf x=some .cell∨X.env.kindOf x=some .free)→∃c,X.env.cells.lookup x=some c
 cab:∀x c,X.fn x=true→X.env.cells.lookup x=some c→X.s₀.heap.objs.size≤c
 hd:X.calm=true→X.A.handled=none
 frames:X.A.frames=some X.stack
 stk:X.stack=X.outer∨(X.stack=X.env::X.outer∧X.env.frame=some X.env.locals)
 exf:∀b∈X.ex,b≠X.env.locals∧∀x c,X.env.cells.lookup x=some c→c≠b
 bs:∀b o,X.base.get? b=some o→X.s₀.heap.get? b=some o∧X.H₀ b=none
 bsz:X.base.objs.size≤X.s₀.heap.objs.size
 noex:∀b o,X.base.get? b=some o→b ∉ X.ex
 exfs:∀b∈X.ex,b ∉ X.fs
 funs:X.s₀.heap.FunFrames X.base X.outer
 frf:∀b∈X.fs,X.H₀ b=none
structure Inv(X:Cx)(pins:List (Addr×Obj))(σ:List (Option V))(H:Hp)(s:Shared):Prop where
 ok:X.Ok
 os:s.os=X.s₀.os
 bare:AllBare s.gens
 base:Un X.fs X.ex X.H₀ H X.s₀.heap s.heap
 loc:∃m,s.heap.Ns X.env.locals m∧∀(i:Nat) (x:Str) (v:V),X.N[i]? = some x→σ[i]? = some (some v)→Vis X.env.scope x→∃u,RelV v u∧b2A X.env s.heap m x u
 cell:∀x c,X.env.cells.lookup x=some c→∃v,s.heap.IsCell c v
 free:H X.env.locals=none
 freeC:∀x c,X.env.cells.lookup x=some c→H c=none
 pin:∀p∈X.pn++pins,s.heap.get? p.1=some p.2∧H p.1=none∧p.1≠X.env.locals∧p.1 ∉ X.fs∧∀v,p.2.data≠.cell v
 hok:HOk X.prog X.w H s.heap
 len:σ.length=X.N.length
section
variable {X:Cx}{pins:List (Addr×Obj)}{σ:List (Option V)}{H H':Hp}{s:Shared}{h':Heap}
theorem Cx.Ok.nofr(ok:X.Ok){b:Addr}{o:Obj}(e:X.base.get? b=some o):b ∉ X.fs:=fun hb=>by
 have:=(ok.funs.mem hb).1
 rw[e]at this;cases this
theorem Inv.bs(I:Inv X pins σ H s):∀b o,X.base.get? b=some o→s.heap.get? b=some o∧H b=none:=fun b o e =>
 ⟨I.base.keep b o (I.ok.bs b o e).1 (I.ok.bs b o e).2 (I.ok.nofr e) (I.ok.noex b o e),I.base.free b o (I.ok.bs b o e).1 (I.ok.bs b o e).2 (I.ok.noex b o e)⟩
theorem Inv.bk(I:Inv X pins σ H s):∀b o,X.base.get? b=some o→s.heap.get? b=some o:=fun b o e=>(I.bs b o e).1
theorem Inv.mod(I:Inv X pins σ H s):Mod X.K X.mg X.base:=I.ok.mod
theorem Inv.kIn(I:Inv X pins σ H s):X.K.In s.heap:=I.ok.mod.kin.keeps I.bk
theorem Inv.nolimit(I:Inv X pins σ H s):s.heap.NoLimit:=I.ok.mod.nolimit.keeps I.bk
theorem Inv.fr(I:Inv X pins σ H s):∃m,Fr X.base X.env.locals s.heap m :=
 let ⟨m,hn,_⟩:=I.loc
 ⟨m,hn,I.bk,Nat.le_trans I.ok.bsz I.ok.above⟩
theorem Inv.lt(I:Inv X pins σ H s):X.env.locals<s.heap.objs.size:=let ⟨_,hn,_⟩:=I.loc;hn.lt
theorem Inv.sz(I:Inv X pins σ H s):X.s₀.heap.objs.size≤s.heap.objs.size:=Nat.le_trans I.ok.above (Nat.le_of_lt I.lt)
theorem Inv.nofs(I:Inv X pins σ H s){a:Addr}(h:s.heap.objs.size≤a):a ∉ X.fs:=fun hb=>by
 obtain⟨_,o,ho,_⟩:=I.ok.funs.mem hb
 exact absurd (Nat.lt_of_lt_of_le (Heap.lt_size ho) (Nat.le_trans I.sz h)) (Nat.lt_irrefl _)
theorem Inv.cne(I:Inv X pins σ H s):∀x c,X.env.cells.lookup x=some c→c≠X.env.locals:=fun x c e z=>by
 obtain⟨v,o,ho,hd⟩:=I.cell x c e
 obtain⟨m,⟨o',es,ep,ho',hd',_⟩,_⟩:=I.loc
 rw[z,ho']at ho;cases ho;rw[hd']at hd;cases hd
theorem Inv.funs(I:Inv X pins σ H s):s.heap.FunFrames X.base X.outer:=by
 have all:∀(l:List Env),(∀b∈B5 l,b∈X.fs)→X.s₀.heap.FunFrames X.base l→s.heap.FunFrames X.base l:=by
  intro l
  induction l with
  | nil=>intro _ _;trivial
  | cons env r ih =>
   intro hs hl
   obtain⟨hk,⟨L,o,hf,hn,ho,hd⟩,hr⟩:=hl
   have hL:L∈X.fs:=hs L (by unfold B5;rw[List.filterMap_cons,hf];exact List.mem_cons_self)
   obtain⟨sl,e⟩:=I.base.slot L o ho (I.ok.frf L hL) hL fun z=>I.ok.exfs L z hL
   exact⟨hk,⟨L,_,hf,hn,e,hd⟩,ih (fun b hb=>hs b (by unfold B5;rw[List.filterMap_cons,hf];exact List.mem_cons_of_mem _ hb)) hr⟩
 exact all X.outer (fun _ hb=>hb) I.ok.funs
theorem Inv.stack(I:Inv X pins σ H s):s.heap.FunFrames X.base X.stack:=by
 rcases I.ok.stk with e | ⟨e,hf⟩
 ·rw[e];exact I.funs
 ·rw[e]
  obtain⟨m,hn,_⟩:=I.loc
  refine .cons (by rw[I.ok.kind];decide) hf hn ?_ I.funs
  exact Heap.get?_none_of_le (Nat.le_trans I.ok.bsz I.ok.above)
theorem Inv.stkSub(I:Inv X pins σ H s):∀b∈B5 X.stack,b∈X.env.locals::X.fs:=fun b hb=>by
 rcases I.ok.stk with e | ⟨e,hf⟩
 ·rw[e]at hb;exact List.mem_cons_of_mem _ hb
 ·rw[e]at hb
  unfold B5 at hb
  rw[List.filterMap_cons,hf]at hb
  exact hb
theorem Inv.stkFree(I:Inv X pins σ H s):∀b∈B5 X.stack,H b=none:=fun b hb=>by
 rcases List.mem_cons.mp (I.stkSub b hb)with e | hb
 ·rw[e];exact I.free
 ·obtain⟨_,o,ho,_⟩:=I.ok.funs.mem hb
  exact I.base.free b o ho (I.ok.frf b hb) fun z=>I.ok.exfs b z hb
theorem Inv.step{g':Array GenState}{t':Nat}{d':Drawn}{ch:List Addr}(I:Inv X pins σ H s)
  (hch:∀b∈ch,(b∈X.ex∨X.s₀.heap.objs.size≤b)∧b≠X.env.locals∧(∀x c,X.env.cells.lookup x=some c→c≠b)∧∀p∈X.pn++pins,p.1≠b)
  (keep:∀b o,b≠X.env.locals→b ∉ X.fs→b ∉ ch→s.heap.get? b=some o→H b=none→h'.get? b=some o)
  (slot:∀b o,b≠X.env.locals→b∈X.fs→b ∉ ch→s.heap.get? b=some o→H b=none→∃sl,h'.get? b=some { o with slots:=sl }) (free:∀b o,b ∉ ch→s.heap.get? b=some o→H b=none→H' b=none)
  (there:∀b o,b ∉ ch→s.heap.get? b=some o→∃o',h'.get? b=some o')
  (tups:∀b xs,H b=some (.tup xs)→H' b=some (.tup xs)) (frzs:∀b o u,H b=some (.frz o u)→H' b=some (.frz o u)) (tbls:∀b ps,H b=some (.tbl ps)→∃more,H' b=some (.tbl (ps++more)))
  (ns:∀m,s.heap.Ns X.env.locals m→h'.Ns X.env.locals m) (hok:HOk X.prog X.w H' h') (hg:AllBare g') :
  Inv X pins σ H' { s with heap:=h',gens:=g',drawn:=d',toks:=t' }:=by
 have neL:∀b o,X.s₀.heap.get? b=some o→b≠X.env.locals:=fun b o e=>Nat.ne_of_lt (Nat.lt_of_lt_of_le (Heap.lt_size e) I.ok.above)
 have neC:∀b o,X.s₀.heap.get? b=some o→b ∉ X.ex→b ∉ ch:=fun b o e hx hb=>by
  rcases(hch b hb).1 with z | z
  ·exact hx z
  ·exact absurd (Nat.lt_of_lt_of_le (Heap.lt_size e) z) (Nat.lt_irrefl _)
 have cellK:∀x c,X.env.cells.lookup x=some c→∀v,s.heap.IsCell c v→h'.IsCell c v:=fun x c e v ⟨o,ho,hd⟩=>by
  have nch:c ∉ ch:=fun z=>(hch c z).2.2.1 x c e rfl
  by_cases hc:c∈X.fs
  ·obtain⟨sl,q⟩:=slot c o (I.cne x c e) hc nch ho (I.freeC x c e)
   exact⟨_,q,hd⟩
  ·exact⟨o,keep c o (I.cne x c e) hc nch ho (I.freeC x c e),hd⟩
 refine⟨I.ok,I.os,hg,⟨fun b o e n hb hx=>?_,fun b o e n hb hx=>?_,fun b o e n hx=>?_,fun b o e hx=>?_,fun b xs e=>tups b xs (I.base.tups b xs e),fun b o xs e=>frzs b o xs (I.base.frzs b o xs e),fun b ps e=>?_⟩,?_,fun x c e=>?_,?_,fun x c e=>?_,fun p hp=>?_,hok,I.len⟩
 ·exact keep b o (neL b o e) hb (neC b o e hx) (I.base.keep b o e n hb hx) (I.base.free b o e n hx)
 ·obtain⟨sl,e1⟩:=I.base.slot b o e n hb hx
  obtain⟨sl',e2⟩:=slot b _ (neL b o e) hb (neC b o e hx) e1 (I.base.free b o e n hx)
  exact⟨sl',e2⟩
 ·obtain⟨o',e1⟩:=I.base.there b o e hx
  exact free b o' (neC b o e hx) e1 (I.base.free b o e n hx)
 ·obtain⟨o',e1⟩:=I.base.there b o e hx
  exact there b o' (neC b o e hx) e1
 ·obtain⟨m1,e1⟩:=I.base.tbls b ps e
  obtain⟨m2,e2⟩:=tbls b _ e1
  exact⟨m1++m2,by rw[e2,Array.append_assoc]⟩
 ·obtain⟨m,hn,hl⟩:=I.loc
  refine⟨m,ns m hn,fun i x v e1 e2 e3=>?_⟩
  obtain⟨u,r,l⟩:=hl i x v e1 e2 e3
  refine⟨u,r,?_⟩
  rcases l with l | ⟨k,c,e,z⟩
  ·exact .inl l
  ·exact .inr ⟨k,c,e,cellK x c e _ z⟩
 ·obtain⟨v,z⟩:=I.cell x c e
  exact⟨v,cellK x c e v z⟩
 ·obtain⟨m,⟨o,_,_,ho,_⟩,_⟩:=I.loc
  exact free _ o (fun z=>(hch _ z).2.1 rfl) ho I.free
 ·obtain⟨v,o,ho,hd⟩:=I.cell x c e
  exact free c o (fun z=>(hch c z).2.2.1 x c e rfl) ho (I.freeC x c e)
 ·obtain⟨e,n,ne,nf,d⟩:=I.pin p hp
  have nch:p.1 ∉ ch:=fun z=>(hch p.1 z).2.2.2 p hp rfl
  exact⟨keep p.1 p.2 ne nf nch e n,free p.1 p.2 nch e n,ne,nf,d⟩
theorem Inv.un{t':Nat}(I:Inv X pins σ H s)(u:Un X.fs [] H H' s.heap h')(hok:HOk X.prog X.w H' h'):Inv X pins σ H' { s with heap:=h',toks:=t' }:=by
 obtain⟨m,⟨o,es,ep,ho,r⟩,_⟩:=id I.loc
 obtain⟨sl,hL⟩:=u.any ho I.free (by simp)
 exact I.step (g':=s.gens) (d':=s.drawn) (ch:=[]) (fun _ z=>nomatch z) (fun b o _ hb _ e n=>u.keep b o e n hb (by simp)) (fun b o _ hb _ e n=>u.slot b o e n hb (by simp)) (fun b o _ e n=>u.free b o e n (by simp)) (fun b o _ e=>u.there b o e (by simp)) u.tups u.frzs u.tbls (fun m' hm=>by
  obtain⟨o',es',ep',ho',r'⟩:=hm
  rw[ho]at ho';cases ho'
  exact⟨_,es',ep',hL,r'⟩) hok I.bare
theorem Inv.call{g':Array GenState}{t':Nat}{d':Drawn}{ch:List Addr}(I:Inv X pins σ H s)(u:Un (B5 X.stack) ch H H' s.heap h')(hok:HOk X.prog X.w H' h')(hg:AllBare g')
  (hch:∀b∈ch,(b∈X.ex∨X.s₀.heap.objs.size≤b)∧b≠X.env.locals∧(∀x c,X.env.cells.lookup x=some c→c≠b)∧∀p∈X.pn++pins,p.1≠b) :
  Inv X pins σ H' { s with heap:=h',gens:=g',drawn:=d',toks:=t' }:=by
 obtain⟨m,⟨o,es,ep,ho,r⟩,_⟩:=id I.loc
 obtain⟨sl,hL⟩:=u.any ho I.free fun z=>(hch _ z).2.1 rfl
 exact I.step (ch:=ch) hch (fun b o hL hb hc e n=>u.keep b o e n (fun z=>(List.mem_cons.mp (I.stkSub b z)).elim hL hb) hc) (fun b o _ _ hc e n=>u.any e n hc) (fun b o hc e n=>u.free b o e n hc) (fun b o hc e=>u.there b o e hc) u.tups u.frzs u.tbls (fun m' hm=>by
  obtain⟨o',es',ep',ho',r'⟩:=hm
  rw[ho]at ho';cases ho'
  exact⟨_,es',ep',hL,r'⟩) hok hg
theorem Inv.turned{t':Nat}{it:Addr}(I:Inv X pins σ H s)(k:∀b o,b≠it→s.heap.get? b=some o→h'.get? b=some o)(hn:H it=none)(hL:it≠X.env.locals)
  (h1:it∈X.ex∨X.s₀.heap.objs.size≤it) (h2:∀x c,X.env.cells.lookup x=some c→c≠it) (h3:∀p∈X.pn++pins,p.1≠it):Inv X pins σ H { s with heap:=h',toks:=t' }:=by
 have nit:∀b u,H b=some u→b≠it:=fun b u e z=>by rw[z,hn]at e;cases e
 refine I.step (g':=s.gens) (d':=s.drawn) (ch:=[it]) (fun b hb=>?_) (fun b o _ _ hc e _=>k b o (fun z=>hc (by simp[z])) e) (fun b o _ _ hc e _=>⟨o.slots,k b o (fun z=>hc (by simp[z])) e⟩) (fun _ _ _ _ n=>n)
  (fun b o hc e=>⟨o,k b o (fun z=>hc (by simp[z])) e⟩) (fun _ _ e=>e) (fun _ _ _ e=>e) (fun b ps e=>⟨#[],by rw[e];simp⟩) (fun m hm=>?_) (fun b u e=>?_) I.bare
 ·have e:b=it:=by simpa using hb
  subst e
  exact⟨h1,hL,h2,h3⟩
 ·obtain⟨o,es,ep,ho,r⟩:=hm
  exact⟨o,es,ep,k _ o (Ne.symm hL) ho,r⟩
 ·refine(I.hok b u e).stay (fun c v hc q=>k c v ?_ q) (fun _ q=>q) (fun _ _ q=>q) fun _ _ _ q=>q
  rcases hc with z | z
  ·rw[z];exact nit b u e
  ·exact nit c _ z
theorem Inv.tok(I:Inv X pins σ H s)(t:Nat):Inv X pins σ H { s with toks:=t }:=I.un (h':=s.heap) (t':=t) Un.refl I.hok
theorem Inv.kept{t':Nat}(I:Inv X pins σ H s)(k:∀b u,s.heap.get? b=some u→h'.get? b=some u):Inv X pins σ H { s with heap:=h',toks:=t' }:=I.un (Un.kept k) (I.hok.kept k)
theorem Inv.laid{a:Addr}{o:HO}{t':Nat}(I:Inv X pins σ H s)(k:∀b u,s.heap.get? b=some u→h'.get? b=some u)(hp:s.heap.objs.size≤a)(new:ObjOk X.prog X.w (upd H a o) h' a o) :
  Inv X pins σ (upd H a o) { s with heap:=h',toks:=t' }:=I.un (Un.laid k hp (I.hok.fresh hp)) (I.hok.laid k hp new)
theorem Inv.write{x e:Addr}{o:HO}{t':Nat}(I:Inv X pins σ H s)(mu:Mut (H x))(he:e=x∨H e=some (.own x))(k:∀b u,b≠e→s.heap.get? b=some u→h'.get? b=some u)(heo:∃u,h'.get? e=some u)
  (new:ObjOk X.prog X.w (upd H x o) h' x o):Inv X pins σ (upd H x o) { s with heap:=h',toks:=t' }:=I.un (Un.write mu he k heo) (I.hok.write mu he k heo new)
theorem Inv.weak{σ':List (Option V)}(I:Inv X pins σ H s)(hl:σ'.length=σ.length)(w:∀(i:Nat) v,σ'[i]? = some (some v)→σ[i]? = some (some v)):Inv X pins σ' H s :=
 ⟨I.ok,I.os,I.bare,I.base,let ⟨m,hn,hl'⟩:=I.loc; ⟨m,hn,fun i x v e1 e2 e3=>hl' i x v e1 (w i v e2) e3⟩,I.cell,I.free,I.freeC,I.pin,I.hok,hl.trans I.len⟩
theorem Inv.pins_of{pins':List (Addr×Obj)}(I:Inv X pins σ H s)(h:∀p∈pins',s.heap.get? p.1=some p.2∧H p.1=none∧p.1≠X.env.locals∧p.1 ∉ X.fs∧∀v,p.2.data≠.cell v):Inv X pins' σ H s :=
 ⟨I.ok,I.os,I.bare,I.base,I.loc,I.cell,I.free,I.freeC,fun p hp=>(List.mem_append.mp hp).elim (fun z=>I.pin p (List.mem_append_left _ z)) (h p),I.hok,I.len⟩
theorem a3d{N:List Str}(hN:N.Nodup){i j:Nat}{x:Str}(a:N[i]? = some x)(b:N[j]? = some x):i=j:=by
 obtain⟨h1,e1⟩:=List.getElem?_eq_some_iff.mp a
 obtain⟨h2,e2⟩:=List.getElem?_eq_some_iff.mp b
 exact(List.getElem_inj hN).mp (e1.trans e2.symm)
theorem a5T{M:Model}{A:Around}{E:Value→Shared→Prop}{i:Nat}{x:Str}{v:V}{u:Value}{Q:Unit→Shared→Prop}(I:Inv X pins σ H s)(hN:X.N.Nodup)(hi:X.N[i]? = some x)(hx:Loc X.env.scope x)(r:RelV v u)
  (h:∀s',Inv X pins (σ.set i (some v)) H s'→(∃a,Heap.SameBut a s.heap s'.heap∧(a=X.env.locals∨X.env.cells.lookup x=some a))→Q () s') (hf:X.fn x=true∨X.env.scope.names.lookup x=some .local:=by first | exact .inl rfl | exact .inr rfl | assumption):wpAny M A (storeName X.env x u) Q E s:=by
 obtain⟨m,hn,hl⟩:=id I.loc
 have hcls:(X.env.scope.kind == .class || (X.env.scope.kind == .module && X.env.locals != X.env.globals))=false:=by rw[I.ok.kind];rfl
 have hiσ:i<σ.length:=by rw[I.len];exact(List.getElem?_eq_some_iff.mp hi).1
 have cne:=I.cne
 have tracked:∀{a:Addr} {h':Heap},(∃o,s.heap.get? a=some o∧H a=none)→Heap.SameBut a s.heap h'→HOk X.prog X.w H h':=fun{a h'} ha hs b ob e=>by
  obtain⟨_,_,hfree⟩:=ha
  refine(I.hok b ob e).stay (fun c w' hc q=>(hs.2 c ?_).trans q) (fun _ q=>q) (fun _ _ q=>q) fun _ _ _ q=>q
  rintro rfl
  rcases hc with rfl | hc
  ·rw[hfree]at e;cases e
  ·rw[hfree]at hc;cases hc
 rcases hx with hk | hk
 ·refine wpAny_storeName_local hk hn (fun h' hn' hs=>?_) hcls
  obtain⟨oL,_,_,hoL,_⟩:=id hn
  refine h _ ⟨I.ok,I.os,I.bare,⟨fun b o e n hb hx=>?_,fun b o e n hb hx=>?_,I.base.free,fun b o e hx=>?_,I.base.tups,I.base.frzs,I.base.tbls⟩,⟨_,hn',fun j y v' e1 e2 e3=>?_⟩,fun y c e=>?_,I.free,I.freeC,fun p hp=>?_,tracked ⟨oL,hoL,I.free⟩ hs,by simpa using I.len⟩ ⟨_,hs,.inl rfl⟩
  ·exact(hs.2 b (Nat.ne_of_lt (Nat.lt_of_lt_of_le (Heap.lt_size e) I.ok.above))).trans (I.base.keep b o e n hb hx)
  ·obtain⟨sl,e1⟩:=I.base.slot b o e n hb hx
   exact⟨sl,(hs.2 b (Nat.ne_of_lt (Nat.lt_of_lt_of_le (Heap.lt_size e) I.ok.above))).trans e1⟩
  ·obtain⟨o',e1⟩:=I.base.there b o e hx
   exact⟨o',(hs.2 b (Nat.ne_of_lt (Nat.lt_of_lt_of_le (Heap.lt_size e) I.ok.above))).trans e1⟩
  ·by_cases hj:j=i
   ·subst hj
    rw[hi]at e1;cases e1
    rw[List.getElem?_set_self hiσ]at e2
    cases e2
    exact⟨u,r,.inl ⟨hk,by simp⟩⟩
   ·rw[List.getElem?_set_ne (Ne.symm hj)]at e2
    obtain⟨u',r',q⟩:=hl j y v' e1 e2 e3
    refine⟨u',r',?_⟩
    rcases q with⟨k,e⟩ | ⟨k,c,e,z⟩
    ·refine .inl ⟨k,?_⟩
     have:y≠x:=fun e=>hj (a3d hN e1 (e▸hi))
     simp[this,e]
    ·exact .inr ⟨k,c,e,z.sameBut hs (cne y c e)⟩
  ·obtain⟨w',z⟩:=I.cell y c e
   exact⟨w',z.sameBut hs (cne y c e)⟩
  ·obtain⟨e,n,ne,nf,d⟩:=I.pin p hp
   exact⟨(hs.2 p.1 ne).trans e,n,ne,nf,d⟩
 ·have hfn:X.fn x=true:=by
   rcases hf with z | z
   ·exact z
   ·rw[z]at hk;cases hk
  obtain⟨c,hc⟩:=I.ok.has x (.inl hk)
  obtain⟨w',z⟩:=I.cell x c hc
  refine wpAny_storeName_cell I.ok.kind hk hc z (fun h' hc' hs=>?_)
  obtain⟨oc,hoc,hocd⟩:=id z
  refine h { s with heap:=h' } ⟨I.ok,I.os,I.bare,⟨fun b o e n hb hx=>?_,fun b o e n hb hx=>?_,I.base.free,fun b o e hx=>?_,I.base.tups,I.base.frzs,I.base.tbls⟩,⟨m,hn.sameBut hs (Ne.symm (cne x c hc)),fun j y v' e1 e2 e3=>?_⟩,fun y c' e=>?_,I.free,I.freeC,fun p hp=>?_,tracked ⟨oc,hoc,I.freeC x c hc⟩ hs,by simpa using I.len⟩ ⟨c,hs,.inr hc⟩
  ·exact(hs.2 b (Nat.ne_of_lt (Nat.lt_of_lt_of_le (Heap.lt_size e) (I.ok.cab x c hfn hc)))).trans (I.base.keep b o e n hb hx)
  ·obtain⟨sl,e1⟩:=I.base.slot b o e n hb hx
   exact⟨sl,(hs.2 b (Nat.ne_of_lt (Nat.lt_of_lt_of_le (Heap.lt_size e) (I.ok.cab x c hfn hc)))).trans e1⟩
  ·obtain⟨o',e1⟩:=I.base.there b o e hx
   exact⟨o',(hs.2 b (Nat.ne_of_lt (Nat.lt_of_lt_of_le (Heap.lt_size e) (I.ok.cab x c hfn hc)))).trans e1⟩
  ·by_cases hj:j=i
   ·subst hj
    rw[hi]at e1;cases e1
    rw[List.getElem?_set_self hiσ]at e2
    cases e2
    exact⟨u,r,.inr ⟨.inl hk,c,hc,hc'⟩⟩
   ·rw[List.getElem?_set_ne (Ne.symm hj)]at e2
    obtain⟨u',r',q⟩:=hl j y v' e1 e2 e3
    refine⟨u',r',?_⟩
    rcases q with q | ⟨k,c',e,z'⟩
    ·exact .inl q
    ·refine .inr ⟨k,c',e,z'.sameBut hs ?_⟩
     rintro rfl
     exact hj (a3d hN e1 (I.ok.inj _ _ _ e hc▸hi))
  ·by_cases hcc:c'=c
   ·subst hcc;exact⟨_,hc'⟩
   ·obtain⟨w2,z2⟩:=I.cell y c' e
    exact⟨w2,z2.sameBut hs hcc⟩
  ·obtain⟨e,n,ne,nf,d⟩:=I.pin p hp
   refine⟨(hs.2 p.1 ?_).trans e,n,ne,nf,d⟩
   intro q
   rw[q,hoc]at e
   have q':oc=p.2:=Option.some.inj e
   exact d w' (by rw[← q'];exact hocd)
theorem a3e{M:Model}{A:Around}{E:Value→Shared→Prop}{i:Nat}{x:Str}{v:V}{u:Value}{Q:Unit→Shared→Prop}(I:Inv X pins σ H s)(hN:X.N.Nodup)(hi:X.N[i]? = some x)(hx:Loc X.env.scope x)(r:RelV v u)
  (h:∀s',Inv X pins (σ.set i (some v)) H s'→Q () s') (hf:X.fn x=true∨X.env.scope.names.lookup x=some .local:=by first | exact .inl rfl | exact .inr rfl | assumption):wpAny M A (storeName X.env x u) Q E s :=
 a5T I hN hi hx r (fun s' I' _=>h s' I') hf
theorem Inv.call'{s':Shared}{ch:List Addr}(I:Inv X pins σ H s)(ho:s'.os=s.os)(u:Un (B5 X.stack) ch H H' s.heap s'.heap)(hok:HOk X.prog X.w H' s'.heap)(hg:AllBare s'.gens)
  (hch:∀b∈ch,(b∈X.ex∨X.s₀.heap.objs.size≤b)∧b≠X.env.locals∧(∀x c,X.env.cells.lookup x=some c→c≠b)∧∀p∈X.pn++pins,p.1≠b):Inv X pins σ H' s':=by
 obtain⟨h',g',d',t',o'⟩:=s'
 have e:o'=s.os:=ho
 subst e
 exact I.call (g':=g') (t':=t') (d':=d') u hok hg hch
end
abbrev XK:=Value→Option Addr→Hp→Prop
abbrev St:=List (Option V)
abbrev VK:=V→Hp→Prop
abbrev TE:=St→Hp→VK→Prop
abbrev TT:=St→Hp→(Bool→Hp→Prop)→Prop
abbrev TA:=St→Hp→(List V→Hp→Prop)→Prop
structure Ends where
 nx:St→Hp→Prop
 rt:VK
 bk:St→Hp→Prop:=fun _ _=>False
 ct:St→Hp→Prop:=fun _ _=>False
abbrev TS:=Ends→St→Hp→Prop
def EP(X:Cx)(pins:List (Addr×Obj))(σ:St)(Q:VK)(u:Value)(s':Shared):Prop:=∃v H',Inv X pins σ H' s'∧RelV v u∧Q v H'
def TP(X:Cx)(pins:List (Addr×Obj))(σ:St)(Q:Bool→Hp→Prop)(b:Bool)(s':Shared):Prop:=∃H',Inv X pins σ H' s'∧Q b H'
def AP(X:Cx)(pins:List (Addr×Obj))(σ:St)(Q:List V→Hp→Prop)(us:List Value)(s':Shared):Prop:=∃vs H',Inv X pins σ H' s'∧Vals vs us∧Q vs H'
def SP(X:Cx)(pins:List (Addr×Obj))(D:Ends)(f:Flow)(s':Shared):Prop :=
 match f with
 | .next=>∃σ' H',Inv X pins σ' H' s'∧D.nx σ' H'
 | .brk=>∃σ' H',Inv X pins σ' H' s'∧D.bk σ' H'
 | .cont=>∃σ' H',Inv X pins σ' H' s'∧D.ct σ' H'
 | .ret u=>∃v σ' H',Inv X pins σ' H' s'∧RelV v u∧D.rt v H'
def PE(X:Cx)(e:Expr)(t:TE):Prop :=
 ∀(pins:List (Addr×Obj)) (s:Shared) (σ:St) (H:Hp) (Q:VK),Inv X pins σ H s→t σ H Q→wpAny (model X.prog X.w) X.A (eval e X.env) (EP X pins σ Q) X.xe s
def PT(X:Cx)(e:Expr)(t:TT):Prop :=
 ∀(pins:List (Addr×Obj)) (s:Shared) (σ:St) (H:Hp) (Q:Bool→Hp→Prop),Inv X pins σ H s→t σ H Q→wpAny (model X.prog X.w) X.A (isTrue e X.env (eval e X.env)) (TP X pins σ Q) X.xe s
def PW(X:Cx)(e:Expr)(t:TT):Prop :=
 ∀(whole:Sem Value) (pins:List (Addr×Obj)) (s:Shared) (σ:St) (H:Hp) (Q:Bool→Hp→Prop),Inv X pins σ H s→t σ H Q→wpAny (model X.prog X.w) X.A (isTrue e X.env whole) (TP X pins σ Q) X.xe s
theorem PW.pt{X:Cx}{e:Expr}{t:TT}(h:PW X e t):PT X e t:=h _
def PA(X:Cx)(es:List Expr)(t:TA):Prop :=
 ∀(pos:Pos) (pins:List (Addr×Obj)) (s:Shared) (σ:St) (H:Hp) (Q:List V→Hp→Prop),Inv X pins σ H s→t σ H Q→wpAny (model X.prog X.w) X.A (spliced (backTo pos (starEach es X.env))) (AP X pins σ Q) X.xe s
def PS(X:Cx)(st:Stmt)(t:TS):Prop :=
 ∀(pins:List (Addr×Obj)) (s:Shared) (σ:St) (H:Hp) (D:Ends),Inv X pins σ H s→t D σ H→wpAny (model X.prog X.w) X.A (exec st X.env) (SP X pins D) X.xe s
def PSs(X:Cx)(st:List Stmt)(t:TS):Prop :=
 ∀(pins:List (Addr×Obj)) (s:Shared) (σ:St) (H:Hp) (D:Ends),Inv X pins σ H s→t D σ H→wpAny (model X.prog X.w) X.A (execs st X.env) (SP X pins D) X.xe s
theorem i4{α:Type}{t:Sem α}{Q Q':α→Shared→Prop}{M:Model}{A:Around}{E:Value→Shared→Prop}{s:Shared}(h:wpAny M A t Q E s)(hQ:∀a s,Q a s→Q' a s):wpAny M A t Q' E s:=wpAny_mono h hQ fun _ _ x=>x
section
variable {X:Cx}
def E6(i:Nat):TE:=fun σ H Q=>∃v,σ[i]? = some (some v)∧Q v H
def tC(v:V):TE:=fun _ H Q=>Q v H
theorem b0B{i:Nat}{x:Str}{pos:Pos}(hN:X.N[i]? = some x)(hv:Vis X.env.scope x)(hd:(x == ("__debug__" : Str))=false:=by decide)(hcd:(x == ("__classdict__" : Str))=false:=by decide):PE X (.Name x pos) (E6 i):=by
 intro pins s σ H Q I h
 obtain⟨v,e,h⟩:=h
 obtain⟨m,hn,hl⟩:=I.loc
 obtain⟨u,r,l⟩:=hl i x v hN e hv
 have fin:EP X pins σ Q u s:=⟨v,H,I,r,h⟩
 rcases l with⟨hk,hm⟩ | ⟨hk,c,hc,hcell⟩
 ·exact wpAny_Name (wpAny_loadName_local I.ok.kind hk hn hm fin) hd
 ·rcases hk with hk | hk
  ·exact wpAny_Name (wpAny_loadName_cell I.ok.kind hk hc hcell fin) hd
  ·exact wpAny_Name (wpAny_loadName_free I.ok.kind hk hc hcell fin hcd) hd
theorem a6{i j pos}:PE X (.Constant (.int i) j pos) (tC (.int i)):=fun _ _ _ H _ I h=>wpAny_Constant_int ⟨.int i,H,I.tok _,⟨_,rfl⟩,h⟩
theorem z9{b j pos}:PE X (.Constant (.bool b) j pos) (tC (.bl b)):=fun _ _ _ H _ I h=>Constant_bool ⟨.bl b,H,I,rfl,h⟩
theorem K2{j pos}:PE X (.Constant .none j pos) (tC .non):=fun _ _ _ H _ I h=>Constant_none ⟨.non,H,I,rfl,h⟩
theorem b0C{x j pos}:PE X (.Constant (.str x) j pos) (tC (.str x)):=fun _ _ _ H _ I h=>Calls.Constant_str ⟨.str x,H,I.tok _,⟨_,rfl⟩,h⟩
def Gl(X:Cx)(x:Str):Prop:=X.env.kindOf x=some .globalImplicit
theorem a4t{E:Value→Shared→Prop}{pins:List (Addr×Obj)}{s:Shared}{σ:St}{H:Hp}{x:Str}{u:Value}{pos:Pos}{Q:Value→Shared→Prop}(I:Inv X pins σ H s)(hg:Gl X x)(hm:X.mg x=some u)(h:Q u s)
  (hd:(x == ("__debug__" : Str))=false:=by decide):wpAny (model X.prog X.w) X.A (eval (.Name x pos) X.env) Q E s :=
 Calls.Name_function_global I.ok.kind hg (Calls.loadGlobal_global (by rw[I.ok.glob];exact I.mod.glob.keeps I.bk) hm h) hd
theorem V5{E:Value→Shared→Prop}{pins:List (Addr×Obj)}{s:Shared}{σ:St}{H:Hp}{x:Str}{u:Value}{pos:Pos}{Q:Value→Shared→Prop}(I:Inv X pins σ H s)(hg:Gl X x)(hm:X.mg x=none)(hv:bootBuiltins x=some u)(h:Q u s)
  (hn:x≠"__name__" := by decide) (hd:(x == ("__debug__" : Str))=false:=by decide):wpAny (model X.prog X.w) X.A (eval (.Name x pos) X.env) Q E s:=by
 obtain⟨mb,h1,h2⟩:=I.mod.blt
 exact Calls.Name_function_global I.ok.kind hg (Calls.loadGlobal_builtin (by rw[I.ok.glob];exact I.mod.glob.keeps I.bk) hm (by rw[I.ok.blt];exact h1.keeps I.bk) ((h2 x hn).trans hv) h) hd
theorem V6{x:Str}{v:V}{u:Value}{pos:Pos}(hg:Gl X x)(hm:X.mg x=none)(hv:bootBuiltins x=some u)(r:RelV v u)(hn:x≠"__name__" := by decide)(hd:(x == ("__debug__" : Str))=false:=by decide):PE X (.Name x pos) (tC v) :=
 fun _ _ _ H _ I h=>V5 I hg hm hv ⟨v,H,I,r,h⟩ hn hd
variable {a b:Expr}{ta tb:TE}{pos:Pos}
def tB(t:TE):TT:=fun σ H Q=>t σ H fun x H1=>∃c,x=.bl c∧Q c H1
theorem y6{e:Expr}{t:TE}(h:PE X e t)(he:∀whole,isTrue e X.env whole=(do let v ← whole;standAt e.pos;holding [v] (truthy v)):=by intro _;rfl):PT X e (tB t):=by
 intro pins s σ H Q I hw
 refine isTrue_plain (i4 (h pins s σ H _ I hw) fun v s1 ⟨x,H1,I1,r1,q1⟩=>?_) (he _)
 obtain⟨d,rfl,q⟩:=q1
 cases r1
 exact wpAny_truthy_bool ⟨H1,I1,q⟩
variable {tA tB':TT}{t7:List Expr}
def b0D(t u:TT):TT:=fun σ H Q=>t σ H fun c H1=>if c=true then u σ H1 Q else Q false H1
def tOr(t u:TT):TT:=fun σ H Q=>t σ H fun c H1=>if c=true then Q true H1 else u σ H1 Q
def b0E(t:TT):TT:=fun σ H Q=>t σ H fun c H1=>Q (!c) H1
theorem V7(ha:PT X a tA):PW X (.BoolOp .And [a] pos) tA:=by
 intro wh pins s σ H Q I h
 refine isTrue_and (i4 (ha pins s σ H Q I h) fun c s1 e=>?_)
 cases c with
 | true=>exact isTrue_and_nil e
 | false=>exact e
theorem V8(ha:PT X a tA):PW X (.BoolOp .Or [a] pos) tA:=by
 intro wh pins s σ H Q I h
 refine isTrue_or (i4 (ha pins s σ H Q I h) fun c s1 e=>?_)
 cases c with
 | false=>exact isTrue_or_nil e
 | true=>exact e
theorem R8(ha:PT X a tA)(hb:PW X (.BoolOp .And (b::t7) pos) tB'):PW X (.BoolOp .And (a::b::t7) pos) (b0D tA tB'):=by
 intro wh pins s σ H Q I h
 refine isTrue_and (i4 (ha pins s σ H _ I h) fun c s1 ⟨H1,I1,q1⟩=>?_)
 cases c with
 | true=>exact hb wh pins s1 σ H1 Q I1 q1
 | false=>exact⟨H1,I1,q1⟩
theorem K3(ha:PT X a tA)(hb:PW X (.BoolOp .Or (b::t7) pos) tB'):PW X (.BoolOp .Or (a::b::t7) pos) (tOr tA tB'):=by
 intro wh pins s σ H Q I h
 refine isTrue_or (i4 (ha pins s σ H _ I h) fun c s1 ⟨H1,I1,q1⟩=>?_)
 cases c with
 | true=>exact⟨H1,I1,q1⟩
 | false=>exact hb wh pins s1 σ H1 Q I1 q1
theorem K4(ha:PT X a tA):PT X (.UnaryOp .Not a pos) (b0E tA):=by
 intro pins s σ H Q I h
 exact isTrue_not (ha pins s σ H (fun c H1=>Q (!c) H1) I h)
def a8G(ta tb:TE):TE:=fun σ H Q=>ta σ H fun x H1=>∃c,x=.bl c∧if c=true then tb σ H1 Q else Q (.bl false) H1
def b0F(ta tb:TE):TE:=fun σ H Q=>ta σ H fun x H1=>∃c,x=.bl c∧if c=true then Q (.bl true) H1 else tb σ H1 Q
def a8H(ta:TE):TE:=fun σ H Q=>ta σ H fun x H1=>∃c,x=.bl c∧Q (.bl (!c)) H1
theorem a0f{op}{t:TE}(h:PE X a t):PE X (.BoolOp op [a] pos) t:=fun pins s σ H Q I hw=>BoolOp_one (h pins s σ H Q I hw)
theorem a1k(ha:PE X a ta)(hb:PE X (.BoolOp .And (b::t7) pos) tb):PE X (.BoolOp .And (a::b::t7) pos) (a8G ta tb):=by
 intro pins s σ H Q I h
 refine BoolOp_and (i4 (ha pins s σ H _ I h) fun v s1 ⟨x,H1,I1,r1,q1⟩=>?_)
 obtain⟨c,rfl,q1⟩:=q1
 cases r1
 refine wpAny_truthy_bool ?_
 cases c with
 | true=>exact hb pins s1 σ H1 Q I1 q1
 | false=>exact⟨.bl false,H1,I1,rfl,q1⟩
theorem a45(ha:PE X a ta)(hb:PE X (.BoolOp .Or (b::t7) pos) tb):PE X (.BoolOp .Or (a::b::t7) pos) (b0F ta tb):=by
 intro pins s σ H Q I h
 refine BoolOp_or (i4 (ha pins s σ H _ I h) fun v s1 ⟨x,H1,I1,r1,q1⟩=>?_)
 obtain⟨c,rfl,q1⟩:=q1
 cases r1
 refine wpAny_truthy_bool ?_
 cases c with
 | false=>exact hb pins s1 σ H1 Q I1 q1
 | true=>exact⟨.bl true,H1,I1,rfl,q1⟩
theorem b0G(ha:PE X a ta):PE X (.UnaryOp .Not a pos) (a8H ta):=by
 intro pins s σ H Q I h
 refine UnaryOp_ (i4 (ha pins s σ H _ I h) fun v s1 ⟨x,H1,I1,r1,q1⟩=>?_)
 obtain⟨c,rfl,q1⟩:=q1
 cases r1
 exact not_of (wpAny_truthy_bool ⟨.bl (!c),H1,I1,rfl,q1⟩)
def tIf(t:TT)(ta tb:TE):TE:=fun σ H Q=>t σ H fun c H1=>if c=true then ta σ H1 Q else tb σ H1 Q
theorem a7k{c:Expr}(hc:PT X c tA)(ha:PE X a ta)(hb:PE X b tb):PE X (.IfExp c a b pos) (tIf tA ta tb):=by
 intro pins s σ H Q I h
 refine wpAny_IfExp (i4 (hc pins s σ H _ I h) fun d s1 ⟨H1,I1,q1⟩=>?_)
 cases d with
 | true=>exact ha pins s1 σ H1 Q I1 q1
 | false=>exact hb pins s1 σ H1 Q I1 q1
end
def SqL(K:W.Frag)(H:Hp)(a:Addr)(xs:List V):Prop :=
 Rd H a (.lst xs) ∨
  ∃(o:Obj) (its:Array Value) (n:Nat),K.lookup a=some o∧o.cls=.type "list"∧o.dict=none∧o.data=.seq its n∧its.size≤sizeLine∧Vals xs its.toList
def SqT(K:W.Frag)(H:Hp)(a:Addr)(xs:List V):Prop :=
 Rd H a (.tup xs) ∨
  ∃(o:Obj) (its:Array Value) (n:Nat),K.lookup a=some o∧o.cls=.type "tuple"∧o.data=.seq its n∧its.size≤sizeLine∧Vals xs its.toList
def b2B:Value→Option V
 | .none=>some .non
 | .bool b=>some (.bl b)
 | .int i _=>some (.int i)
 | .str x _=>some (.str x)
 | .bytes b _=>some (.byt b)
 | .float b _=>some (.flt b)
 | .ref a=>some (.ref a)
 | .type n=>some (.ty n)
 | _=>none
theorem RelV.abs{x:V}{u:Value}(r:RelV x u):b2B u=some x:=by
 cases x with
 | non=>cases r;rfl
 | bl _=>cases r;rfl
 | int _=>obtain⟨t,rfl⟩:=r;rfl
 | str _=>obtain⟨t,rfl⟩:=r;rfl
 | byt _=>obtain⟨t,rfl⟩:=r;rfl
 | flt _=>obtain⟨t,rfl⟩:=r;rfl
 | ref _=>cases r;rfl
 | ty _=>cases r;rfl
theorem RelV.inj{x y:V}{u:Value}(r:RelV x u)(q:RelV y u):x=y:=Option.some.inj (r.abs.symm.trans q.abs)
theorem Vals.inj:∀{xs ys:List V} {us:List Value},Vals xs us→Vals ys us→xs=ys
 | _,_,_,.nil,.nil=>rfl
 | _,_,_,.cons r t,.cons r' t'=>by rw[r.inj r',Vals.inj t t']
section
variable {X:Cx}{pins:List (Addr×Obj)}{σ:St}{H:Hp}{s:Shared}{a:Addr}{xs ys:List V}
theorem SqL.of{K:W.Frag}(h:H a=some (.lst xs)):SqL K H a xs:=.inl (.inl h)
theorem SqT.of{K:W.Frag}(h:H a=some (.tup xs)):SqT K H a xs:=.inl (.inl h)
theorem Inv.list(I:Inv X pins σ H s)(h:SqL X.K H a xs):∃its:List Value,Vals xs its∧PlainL s.heap a its.toArray∧xs.length≤sizeLine:=by
 rcases h with h | ⟨o,its,n,hk,hc,hd,hs,hz,r⟩
 ·obtain⟨z,its,n,r,e⟩:=h.ok I.hok
  exact⟨its,r,⟨_,n,e,rfl,rfl,rfl⟩,z⟩
 ·refine⟨its.toList,r,⟨o,n,I.kIn a o hk,hc,hd,by simpa using hs⟩,?_⟩
  have e:=r.length
  simp only[Array.length_toList]at e
  omega
theorem Inv.tuple(I:Inv X pins σ H s)(h:SqT X.K H a xs):∃its:List Value,Vals xs its∧IsTup s.heap a its.toArray∧xs.length≤sizeLine:=by
 rcases h with h | ⟨o,its,n,hk,hc,hs,hz,r⟩
 ·obtain⟨z,its,r,p⟩:=h.ok I.hok
  exact⟨its,r,p,z⟩
 ·refine⟨its.toList,r,⟨o,I.kIn a o hk,hc,n,by simpa using hs⟩,?_⟩
  have e:=r.length
  simp only[Array.length_toList]at e
  omega
theorem Inv.list_inj(I:Inv X pins σ H s)(h:SqL X.K H a xs)(h':SqL X.K H a ys):xs=ys:=by
 obtain⟨its,r,⟨o,n,e,_,_,d⟩,_⟩:=I.list h
 obtain⟨its',r',⟨o',n',e',_,_,d'⟩,_⟩:=I.list h'
 rw[e]at e';cases e'
 rw[d]at d'
 injection d' with d1 _
 have:its=its':=by simpa using congrArg Array.toList d1
 subst this
 exact r.inj r'
theorem Inv.tuple_inj(I:Inv X pins σ H s)(h:SqT X.K H a xs)(h':SqT X.K H a ys):xs=ys:=by
 obtain⟨its,r,⟨o,e,_,n,d⟩,_⟩:=I.tuple h
 obtain⟨its',r',⟨o',e',_,n',d'⟩,_⟩:=I.tuple h'
 rw[e]at e';cases e'
 rw[d]at d'
 injection d' with d1 _
 have:its=its':=by simpa using congrArg Array.toList d1
 subst this
 exact r.inj r'
end
abbrev Cx.wish(X:Cx)(E:Value→Shared→Prop):Cx:={ X with xe:=E }
abbrev Cx.nox(X:Cx):Cx:=X.wish fun _ _=>False
theorem Cx.Ok.wish{X:Cx}(ok:X.Ok)(E:Value→Shared→Prop):(X.wish E).Ok :=
 ⟨ok.mod,ok.kind,ok.glob,ok.blt,ok.above,ok.inj,ok.has,ok.cab,ok.hd,ok.frames,ok.stk,ok.exf,ok.bs,ok.bsz,ok.noex,ok.exfs,ok.funs,ok.frf⟩
theorem Cx.Ok.unwish{X:Cx}{E:Value→Shared→Prop}(ok:(X.wish E).Ok):X.Ok :=
 ⟨ok.mod,ok.kind,ok.glob,ok.blt,ok.above,ok.inj,ok.has,ok.cab,ok.hd,ok.frames,ok.stk,ok.exf,ok.bs,ok.bsz,ok.noex,ok.exfs,ok.funs,ok.frf⟩
section
variable {X:Cx}{pins:List (Addr×Obj)}{σ:St}{H:Hp}{s:Shared}{E:Value→Shared→Prop}
theorem Inv.wish(I:Inv X pins σ H s)(E:Value→Shared→Prop):Inv (X.wish E) pins σ H s:=⟨I.ok.wish E,I.os,I.bare,I.base,I.loc,I.cell,I.free,I.freeC,I.pin,I.hok,I.len⟩
theorem Inv.unwish(I:Inv (X.wish E) pins σ H s):Inv X pins σ H s:=⟨I.ok.unwish,I.os,I.bare,I.base,I.loc,I.cell,I.free,I.freeC,I.pin,I.hok,I.len⟩
theorem SP.unwish{D:Ends}{f:Flow}{s':Shared}(h:SP (X.wish E) pins D f s'):SP X pins D f s':=by
 cases f with
 | next=>obtain⟨σ',H',I,q⟩:=h;exact⟨σ',H',I.unwish,q⟩
 | brk=>obtain⟨σ',H',I,q⟩:=h;exact⟨σ',H',I.unwish,q⟩
 | cont=>obtain⟨σ',H',I,q⟩:=h;exact⟨σ',H',I.unwish,q⟩
 | ret u=>obtain⟨v,σ',H',I,r,q⟩:=h;exact⟨v,σ',H',I.unwish,r,q⟩
theorem PE.nox{e:Expr}{t:TE}(h:PE X.nox e t):PE X e t:=fun pins s σ H Q I hw =>
 wpAny_mono (h pins s σ H Q (I.wish _) hw) (fun _ _ ⟨v,H',I',r,q⟩=>⟨v,H',I'.unwish,r,q⟩) fun _ _ z=>False.elim z
theorem PT.nox{e:Expr}{t:TT}(h:PT X.nox e t):PT X e t:=fun pins s σ H Q I hw =>
 wpAny_mono (h pins s σ H Q (I.wish _) hw) (fun _ _ ⟨H',I',q⟩=>⟨H',I'.unwish,q⟩) fun _ _ z=>False.elim z
theorem PSs.nox{st:List Stmt}{t:TS}(h:PSs X.nox st t):PSs X st t:=fun pins s σ H D I hw =>
 wpAny_mono (h pins s σ H D (I.wish _) hw) (fun _ _ q=>q.unwish) fun _ _ z=>False.elim z
end
section
variable {X:Cx}{st:Stmt}{t7:List Stmt}{t u:TS}{e:Expr}{te:TE}{pos:Pos}
def a8I:TS:=fun D σ H=>D.nx σ H
def b0H(t u:TS):TS:=fun D σ H=>t { D with nx:=u D } σ H
theorem j4:PSs X [] a8I:=fun _ _ σ H _ I h=>wpAny_execs_nil ⟨σ,H,I,h⟩
theorem c9(h1:PS X st t)(h2:PSs X t7 u):PSs X (st::t7) (b0H t u):=by
 intro pins s σ H D I h
 refine wpAny_execs_cons (i4 (h1 pins s σ H { D with nx:=u D } I h) fun f s1 q=>?_)
 cases f with
 | next =>
  obtain⟨σ',H',I',q⟩:=q
  exact h2 pins s1 σ' H' D I' q
 | ret v=>exact q
 | brk=>exact q
 | cont=>exact q
theorem d9(h1:PS X st t):PSs X [st] t:=by
 intro pins s σ H D I h
 refine wpAny_execs_cons (i4 (h1 pins s σ H D I h) fun f s1 q=>?_)
 cases f with
 | next=>exact wpAny_execs_nil q
 | ret v=>exact q
 | brk=>exact q
 | cont=>exact q
def a8J:TS:=fun D σ H=>D.ct σ H
theorem a3_:PS X (.Continue pos) a8J:=fun _ _ σ H _ I h=>wpAny_Continue ⟨σ,H,I,h⟩
theorem Inv.quiet{pins:List (Addr×Obj)}{σ:St}{H:Hp}{s:Shared}(I:Inv X pins σ H s):interactive X.env=false:=by simp[interactive,I.ok.kind]
def a46(te:TE):TS:=fun D σ H=>te σ H fun _ H1=>D.nx σ H1
theorem a1W(he:PE X e te)(hs:swapsWith e none pos.line X.env=pure false:=by rfl):PS X (.Expr e pos) (a46 te):=by
 intro pins s σ H D I h
 exact wpAny_Expr_any (i4 (he pins s σ H _ I h) fun v s1 ⟨x,H1,I1,r1,q1⟩=>⟨σ,H1,I1,q1⟩) I.quiet hs
def a3f(te:TE):TS:=fun D σ H=>te σ H D.rt
theorem h8(he:PE X e te):PS X (.Return (some e) pos) (a3f te):=by
 intro pins s σ H D I h
 exact wpAny_Return_some (i4 (he pins s σ H _ I h) fun v s1 ⟨x,H1,I1,r1,q1⟩=>⟨x,σ,H1,I1,r1,q1⟩)
def b0I(c:TT)(t u:TS):TS:=fun D σ H=>c σ H fun b H1=>if b=true then t D σ H1 else u D σ H1
theorem t4{c:Expr}{a b:List Stmt}{tc:TT}(hc:PT X c tc)(ha:PSs X a t)(hb:PSs X b u):PS X (.If c a b pos) (b0I tc t u):=by
 intro pins s σ H D I h
 refine wpAny_If (i4 (hc pins s σ H _ I h) fun d s1 ⟨H1,I1,q1⟩=>?_)
 cases d with
 | true=>exact ha pins s1 σ H1 D I1 q1
 | false=>exact hb pins s1 σ H1 D I1 q1
end
abbrev TG:=V→St→Hp→(St→Hp→Prop)→Prop
abbrev TGs:=List V→St→Hp→(St→Hp→Prop)→Prop
def PG(X:Cx)(target:Expr)(t:TG):Prop :=
 ∀(pins:List (Addr×Obj)) (s:Shared) (σ:St) (H:Hp) (v:V) (u:Value) (Q:St→Hp→Prop),Inv X pins σ H s→RelV v u→t v σ H Q →
  wpAny (model X.prog X.w) X.A (assign target X.env u) (fun _ s'=>∃σ' H',Inv X pins σ' H' s'∧Q σ' H') X.xe s
def PGs(X:Cx)(ts:List Expr)(t:TGs):Prop :=
 ∀(pins:List (Addr×Obj)) (s:Shared) (σ:St) (H:Hp) (vs:List V) (us:List Value) (Q:St→Hp→Prop),Inv X pins σ H s→Vals vs us→t vs σ H Q →
  wpAny (model X.prog X.w) X.A (assignInOrder ((assignEach ts X.env).map (·.2)) us) (fun _ s'=>∃σ' H',Inv X pins σ' H' s'∧Q σ' H') X.xe s
abbrev a7l:=V→V→V→Hp→(Hp→Prop)→Prop
def b0J(X:Cx)(t:a7l):Prop :=
 ∀(pins:List (Addr×Obj)) (s:Shared) (σ:St) (H:Hp) (o i v:V) (ov iv u:Value) (Q:Hp→Prop),Inv X pins σ H s→RelV o ov→RelV i iv→RelV v u→t o i v H Q →
  wpAny (model X.prog X.w) X.A (setItem ov iv u) (fun _ s'=>∃H',Inv X pins σ H' s'∧Q H') X.xe s
section
variable {X:Cx}{pos:Pos}
def X6(i:Nat):TG:=fun v σ H Q=>Q (σ.set i (some v)) H
theorem g5{i:Nat}{x:Str}(hN:X.N.Nodup)(hi:X.N[i]? = some x)(hx:Loc X.env.scope x)(hf:X.fn x=true∨X.env.scope.names.lookup x=some .local:=by first | exact .inl rfl | exact .inr rfl | assumption):PG X (.Name x pos) (X6 i):=by
 intro pins s σ H v u Q I r h
 exact wpAny_assign_Name (a3e I hN hi hx r (fun s' I'=>⟨_,H,I',h⟩) hf)
def b0K:TGs:=fun vs σ H Q=>vs=[]∧Q σ H
def a8K(t:TG)(u:TGs):TGs:=fun vs σ H Q=>∃v r,vs=v::r∧t v σ H fun σ' H'=>u r σ' H' Q
theorem M0:PGs X [] b0K:=by
 intro pins s σ H vs us Q I r h
 obtain⟨e,h⟩:=h
 subst e
 cases r
 exact assignInOrder_nil ⟨σ,H,I,h⟩
theorem k7{e:Expr}{es:List Expr}{t:TG}{u:TGs}(h1:PG X e t)(h2:PGs X es u)
  (hs:(assignEach (e::es) X.env).map (·.2)=assign e X.env::(assignEach es X.env).map (·.2):=by rfl):PGs X (e::es) (a8K t u):=by
 intro pins s σ H vs us Q I r h
 obtain⟨v,vr,e1,h⟩:=h
 subst e1
 cases r with
 | cons r rr =>
  rw[hs]
  refine assignInOrder_cons (i4 (h1 pins s σ H _ _ _ I r h) fun _ s1 ⟨σ1,H1,I1,q1⟩=>?_)
  exact h2 pins s1 σ1 H1 _ _ Q I1 rr q1
def a7m(K:W.Frag)(n:Nat)(t:TGs):TG:=fun v σ H Q=>∃a xs,v=.ref a∧SqT K H a xs∧xs.length=n∧t xs σ H Q
theorem b0L{es:List Expr}{k:Nat}{t:TGs}{n:Nat}(hc:X.calm=true)(h:PGs X es t)
  (hn:(assignEach es X.env).length=n:=by rfl) (hst:(assignEach es X.env).findIdx? (·.1)=none:=by rfl):PG X (.Tuple es k pos) (a7m X.K n t):=by
 intro pins s σ H v u Q I r hw
 obtain⟨a,xs,e1,hq,hl,hw⟩:=hw
 subst e1
 cases r
 obtain⟨its,rv,ht,hz⟩:=I.tuple hq
 refine assign_Tuple_tuple (I.ok.hd hc) ht (by simp[hn,← hl,rv.length]) hst fun h' hx=>?_
 have I1:Inv X pins σ H { s with heap:=h' }:=I.kept (t':=s.toks) fun b o e=>hx b o (Nat.ne_of_lt (Heap.lt_size e)) e
 exact h pins _ σ H xs _ Q I1 (by simpa using rv) hw
def b0M(to ti:TE)(t:a7l):TG:=fun v σ H Q=>to σ H fun o H1=>ti σ H1 fun i H2=>t o i v H2 fun H3=>Q σ H3
theorem b0N{o i:Expr}{to ti:TE}{t:a7l}(ho:PE X o to)(hi:PE X i ti)(hs:b0J X t)
  (ha:∀v,assign (.Subscript o i pos) X.env v=(do
   let ov ← holding [v] (eval o X.env)
   let iv ← holding [v,ov] (eval i X.env)
   standAt pos
   holding [v,ov,iv] (setItem ov iv v)
   release [v,ov,iv] []):=by intro _;rfl):PG X (.Subscript o i pos) (b0M to ti t):=by
 intro pins s σ H v u Q I r h
 rw[ha]
 refine wpAny_bind (wpAny_holding (i4 (ho pins s σ H _ I h) fun ov s1 ⟨x,H1,I1,r1,q1⟩=>?_))
 refine wpAny_bind (wpAny_holding (i4 (hi pins s1 σ H1 _ I1 q1) fun iv s2 ⟨y,H2,I2,r2,q2⟩=>?_))
 refine wpAny_bind (wpAny_standAt (wpAny_bind (wpAny_holding (i4 (hs pins s2 σ H2 x y v ov iv u _ I2 r1 r2 r q2) fun _ s3 ⟨H3,I3,q3⟩=>?_))))
 exact wpAny_release ⟨σ,H3,I3,q3⟩
def a0h(te:TE)(g:TG):TS:=fun D σ H=>te σ H fun x H1=>g x σ H1 D.nx
theorem O4{tg e:Expr}{te:TE}{g:TG}(he:PE X e te)(hg:PG X tg g)(hs:swapsWithSole [tg] e pos.line X.env=pure false:=by rfl)(hw:swappedStores [tg] e X.env=pure none:=by rfl)
  (h1:(assignEach [tg] X.env).map (·.2)=[assign tg X.env]:=by rfl):PS X (.Assign [tg] e pos) (a0h te g):=by
 intro pins s σ H D I h
 refine wpAny_Assign_stores (i4 (he pins s σ H _ I h) fun v s1 ⟨x,H1,I1,r1,q1⟩=>?_) hs hw
 rw[h1]
 exact i4 (hg pins s1 σ H1 x v _ I1 r1 q1) fun _ s2 q=>q
theorem l4{i:Nat}{x:Str}{e:Expr}{te:TE}{pos':Pos}(hN:X.N.Nodup)(hi:X.N[i]? = some x)(hx:Loc X.env.scope x)(he:PE X e te)(hs:swapsWith e (some (.Name x pos')) pos.line X.env=pure false:=by rfl)(hf:X.fn x=true∨X.env.scope.names.lookup x=some .local:=by first | exact .inl rfl | exact .inr rfl | assumption) :
  PS X (.Assign [.Name x pos'] e pos) (a0h te (X6 i)):=by
 intro pins s σ H D I h
 refine wpAny_Assign_Name (i4 (he pins s σ H _ I h) fun v s1 ⟨y,H1,I1,r1,q1⟩=>?_) hs
 exact a3e I1 hN hi hx r1 (fun s2 I2=>⟨_,H1,I2,q1⟩) hf
end
structure It where
 go:Nat→Hp→Prop
 yld:Nat→Hp→V→Hp→Prop
 stop:Nat→Hp→Prop
def FpOk(X:Cx)(pins:List (Addr×Obj))(H:Hp)(b:Addr):Prop :=
 H b=none∧b≠X.env.locals∧b ∉ X.fs∧(b∈X.ex∨X.s₀.heap.objs.size≤b)∧(∀x c,X.env.cells.lookup x=some c→c≠b)∧∀p∈X.pn++pins,p.1≠b
theorem Inv.fpOk{X:Cx}{pins:List (Addr×Obj)}{σ:St}{H H':Hp}{s:Shared}{b:Addr}(I:Inv X pins σ H s)(hb:s.heap.objs.size≤b)(hn:H' b=none):FpOk X pins H' b:=by
 refine⟨hn,Nat.ne_of_gt (Nat.lt_of_lt_of_le I.lt hb),I.nofs hb,.inr (Nat.le_trans I.sz hb),fun x c e z=>?_,fun p hp z=>?_⟩
 ·obtain⟨v,q⟩:=I.cell x c e
  exact absurd (Nat.lt_of_lt_of_le q.lt (by rw[z];exact hb)) (Nat.lt_irrefl _)
 ·exact absurd (Nat.lt_of_lt_of_le (Heap.lt_size (I.pin p hp).1) (by rw[z];exact hb)) (Nat.lt_irrefl _)
structure Turn(P:Program)(w:World)(K:W.Frag)(tg:Expr)(J:It)(fp:List Addr)(it:Addr)(tn:Nat→Heap→Prop):Prop where
 mem:it∈fp
 obj:∀i h,tn i h→∀b∈fp,∃o,h.get? b=some o∧∀v,o.data≠.cell v
 keep:∀i h h',tn i h→(∀b∈fp,∀o,h.get? b=some o→h'.get? b=some o)→tn i h'
 item:∀(X:Cx),X.prog=P→X.w=w→X.K=K→X.calm=true→∀(i:Nat) (pins:List (Addr×Obj)) (s:Shared) (σ:St) (H:Hp) (E:Value→Shared→Prop),Inv X pins σ H s→(∀b∈fp,FpOk X pins H b)→tn i s.heap→J.go i H →
  wpAny (model P w) X.A (pyNext (.ref it)) (fun r s1=>∃u,r=some u ∧
   wpAny (model P w) X.A (letOwnedTupleGo tg (.ref it) u) (fun _ s2=>∃x H',Inv X pins σ H' s2∧RelV x u∧J.yld i H x H'∧tn (i+1) s2.heap∧∀b∈fp,H' b=none) E s1) E s
 done:∀(X:Cx),X.prog=P→X.w=w→X.K=K→X.calm=true→∀(i:Nat) (pins:List (Addr×Obj)) (s:Shared) (σ:St) (H:Hp) (E:Value→Shared→Prop),Inv X pins σ H s→(∀b∈fp,FpOk X pins H b)→tn i s.heap→J.stop i H →
  wpAny (model P w) X.A (pyNext (.ref it)) (fun r s1=>r=none∧Inv X pins σ H s1) E s
 self:∀(A:Around) (i:Nat) (s:Shared) (Q:Value→Shared→Prop) (E:Value→Shared→Prop),tn i s.heap→Q (.ref it) s→wpAny (model P w) A (pyIter (.ref it)) Q E s
abbrev TI:=St→Hp→(It→Hp→Prop)→Prop
def PIE(X:Cx)(pins:List (Addr×Obj))(σ:St)(tg:Expr)(R:It→Hp→Prop)(itv:Value)(s2:Shared):Prop :=
 ∃(it:Addr) (fp:List Addr) (tn:Nat→Heap→Prop) (J:It) (H':Hp),itv=.ref it∧Inv X pins σ H' s2∧Turn X.prog X.w X.K tg J fp it tn∧tn 0 s2.heap∧(∀b∈fp,FpOk X pins H' b)∧R J H'
def PI(X:Cx)(tg iter:Expr)(wi:TI):Prop :=
 ∀(pins:List (Addr×Obj)) (s:Shared) (σ:St) (H:Hp) (R:It→Hp→Prop),Inv X pins σ H s→wi σ H R →
  wpAny (model X.prog X.w) X.A (eval iter X.env) (fun v s1=>wpAny (model X.prog X.w) X.A (pyIter v) (PIE X pins σ tg R) X.xe s1) X.xe s
theorem a8L{M:Model}{A:Around}{E:Value→Shared→Prop}{s:Shared}{tg:Expr}{it:Addr}{u:Value}{o:Obj}{n:String}{vs:Array Value}{Q:Unit→Shared→Prop}(ho:s.heap.get? it=some o)(hc:o.cls=.type n)(hd:o.data=.fields vs)
  (hn:["enumerate","zip","dict_itemiterator","dict_reverseitemiterator","odict_iterator","itertools.zip_longest","itertools.pairwise"].contains n=false) (hQ:Q () s):wpAny M A (letOwnedTupleGo tg (.ref it) u) Q E s:=by
 unfold letOwnedTupleGo
 cases tg<;>first
  | exact wpAny_pure hQ
  | (cases u<;>first
    | exact wpAny_pure hQ
    | (refine wpAny_bind (wpAny_load ho ?_)
       rw[hc,hd]
       show wpAny M A (if(["enumerate","zip","dict_itemiterator","dict_reverseitemiterator","odict_iterator","itertools.zip_longest","itertools.pairwise"].contains n && vs[0]? == some (rawInt _))=true then _ else _) Q E s
       rw[if_neg (by intro h;rw[hn,Bool.false_and]at h;cases h)]
       exact wpAny_pure hQ))
def Itl(K:W.Frag)(a:Addr):It :=
 ⟨fun i H=>∃xs x,SqL K H a xs∧xs[i]? = some x,fun i H x H'=>H'=H∧∀xs,SqL K H a xs→xs[i]? = some x,fun i H=>∃xs,SqL K H a xs∧xs.length≤i⟩
def Itt(K:W.Frag)(a:Addr):It :=
 ⟨fun i H=>∃xs x,SqT K H a xs∧xs[i]? = some x,fun i H x H'=>H'=H∧∀xs,SqT K H a xs→xs[i]? = some x,fun i H=>∃xs,SqT K H a xs∧xs.length≤i⟩
theorem a5V{P:Program}{w:World}{K:W.Frag}{tg:Expr}(a it:Addr):Turn P w K tg (Itl K a) [it] it (fun i h=>h.IsListIter it a i) where
 mem:=by simp
 obj:=fun i h st b hb=>by
  have e:b=it:=by simpa using hb
  subst e
  obtain⟨o,e,c,d⟩:=st
  exact⟨o,e,fun v z=>by rw[d]at z;cases z⟩
 keep:=fun i h h' st k=>st.at fun o e=>k it (by simp) o e
 item:=by
  intro X hP hw hK hc i pins s σ H E I hf st hg
  subst hP hw hK
  obtain⟨xs,x,hq,hx⟩:=hg
  obtain⟨its,rv,p,hz⟩:=I.list hq
  obtain⟨u,hu,ru⟩:=rv.get hx
  obtain⟨f0,f1,f2,f3,f4,f5⟩:=hf it (by simp)
  refine wpAny_pyNext_list_item st p.isList (x:=u) (by simpa using hu) fun h' st' sb=>?_
  have I1:Inv X pins σ H { s with heap:=h' }:=I.turned (t':=s.toks) (fun b o hb e=>(sb.2 b hb).trans e) f0 f1 f3 f4 f5
  obtain⟨o,e,c,d⟩:=id st'
  exact⟨u,rfl,a8L (s:={ s with heap:=h' }) e c d (by decide) ⟨x,H,I1,ru,⟨rfl,fun ys hy=>by rw[I.list_inj hy hq];exact hx⟩,st',fun b hb=>(hf b hb).1⟩⟩
 done:=by
  intro X hP hw hK hc i pins s σ H E I hf st hg
  subst hP hw hK
  obtain⟨xs,hq,hx⟩:=hg
  obtain⟨its,rv,p,hz⟩:=I.list hq
  obtain⟨f0,f1,f2,f3,f4,f5⟩:=hf it (by simp)
  have hl:=rv.length
  exact wpAny_pyNext_list_end (I.ok.hd hc) st p.isList (by simp;omega) fun h' eb=>⟨rfl,I.turned (t':=s.toks) (fun b o hb e=>eb b o hb e) f0 f1 f3 f4 f5⟩
 self:=fun _ _ _ _ _ st h=>wpAny_pyIter_listiter st h
theorem a47{P:Program}{w:World}{K:W.Frag}{tg:Expr}(a it:Addr):Turn P w K tg (Itt K a) [it] it (fun i h=>h.IsTupleIter it a i) where
 mem:=by simp
 obj:=fun i h st b hb=>by
  have e:b=it:=by simpa using hb
  subst e
  obtain⟨o,e,c,d⟩:=st
  exact⟨o,e,fun v z=>by rw[d]at z;cases z⟩
 keep:=fun i h h' st k=>st.at fun o e=>k it (by simp) o e
 item:=by
  intro X hP hw hK hc i pins s σ H E I hf st hg
  subst hP hw hK
  obtain⟨xs,x,hq,hx⟩:=hg
  obtain⟨its,rv,p,hz⟩:=I.tuple hq
  obtain⟨u,hu,ru⟩:=rv.get hx
  obtain⟨f0,f1,f2,f3,f4,f5⟩:=hf it (by simp)
  refine wpAny_pyNext_tuple_item st (show s.heap.IsTuple a its.toArray from p) (x:=u) (by simpa using hu) fun h' st' sb=>?_
  have I1:Inv X pins σ H { s with heap:=h' }:=I.turned (t':=s.toks) (fun b o hb e=>(sb.2 b hb).trans e) f0 f1 f3 f4 f5
  obtain⟨o,e,c,d⟩:=id st'
  exact⟨u,rfl,a8L (s:={ s with heap:=h' }) e c d (by decide) ⟨x,H,I1,ru,⟨rfl,fun ys hy=>by rw[I.tuple_inj hy hq];exact hx⟩,st',fun b hb=>(hf b hb).1⟩⟩
 done:=by
  intro X hP hw hK hc i pins s σ H E I hf st hg
  subst hP hw hK
  obtain⟨xs,hq,hx⟩:=hg
  obtain⟨its,rv,p,hz⟩:=I.tuple hq
  obtain⟨f0,f1,f2,f3,f4,f5⟩:=hf it (by simp)
  have hl:=rv.length
  exact wpAny_pyNext_tuple_end (I.ok.hd hc) st (show s.heap.IsTuple a its.toArray from p) (by simp;omega) fun h' eb=>⟨rfl,I.turned (t':=s.toks) (fun b o hb e=>eb b o hb e) f0 f1 f3 f4 f5⟩
 self:=fun _ _ _ _ _ st h=>wpAny_pyIter_tupleiter st h
section
variable {X:Cx}{tg:Expr}
def a1l(K:W.Frag)(tl:TE):TI:=fun σ H R=>tl σ H fun x H1=>∃a,x=.ref a∧(∃xs,SqL K H1 a xs)∧R (Itl K a) H1
def b0O(K:W.Frag)(tl:TE):TI:=fun σ H R=>tl σ H fun x H1=>∃a,x=.ref a∧(∃xs,SqT K H1 a xs)∧R (Itt K a) H1
theorem r8{l:Expr}{tl:TE}(hl:PE X l tl):PI X tg l (a1l X.K tl):=by
 intro pins s σ H R I h
 refine i4 (hl pins s σ H _ I h) fun v s1 ⟨x,H1,I1,r1,q1⟩=>?_
 obtain⟨a,e,⟨xs,hq⟩,q⟩:=q1
 subst e
 cases r1
 obtain⟨its,rv,p,hz⟩:=I1.list hq
 refine wpAny_pyIter_list p.isList ?_
 refine⟨s1.heap.objs.size,[s1.heap.objs.size],_,_,H1,rfl,I1.kept (t':=s1.toks) fun b o e=>Heap.get?_push_of_some _ e,a5V a _,⟨_,Heap.get?_push_size _ rfl,rfl,rfl⟩,fun b hb=>?_,q⟩
 have e:b=s1.heap.objs.size:=by simpa using hb
 subst e
 exact I1.fpOk (Nat.le_refl _) (I1.hok.fresh (Nat.le_refl _))
theorem a5W{l:Expr}{tl:TE}(hl:PE X l tl):PI X tg l (b0O X.K tl):=by
 intro pins s σ H R I h
 refine i4 (hl pins s σ H _ I h) fun v s1 ⟨x,H1,I1,r1,q1⟩=>?_
 obtain⟨a,e,⟨xs,hq⟩,q⟩:=q1
 subst e
 cases r1
 obtain⟨its,rv,p,hz⟩:=I1.tuple hq
 refine wpAny_pyIter_tuple (show s1.heap.IsTuple a its.toArray from p) ?_
 refine⟨s1.heap.objs.size,[s1.heap.objs.size],_,_,H1,rfl,I1.kept (t':=s1.toks) fun b o e=>Heap.get?_push_of_some _ e,a47 a _,⟨_,Heap.get?_push_size _ rfl,rfl,rfl⟩,fun b hb=>?_,q⟩
 have e:b=s1.heap.objs.size:=by simpa using hb
 subst e
 exact I1.fpOk (Nat.le_refl _) (I1.hok.fresh (Nat.le_refl _))
def a7n(wi:TI)(g:TG)(tb:TS):TS:=fun D σ H=>wi σ H fun J H1=>∃W:Nat→Nat→St→Hp→Prop,(∃m,W 0 m σ H1)∧∀i m σ H,W i m σ H →
 (J.stop i H∧D.nx σ H)∨(J.go i H∧∃N:St→Hp→Prop,(∀σ' H',N σ' H'→∃m',m'<m∧W (i+1) m' σ' H')∧∀x H',J.yld i H x H'→g x σ H' fun σ2 H2=>tb { D with nx:=N,ct:=N,bk:=D.nx } σ2 H2)
def a0i(fp:List Addr)(h:Heap):List (Addr×Obj):=fp.filterMap fun b=>(h.get? b).map fun o=>(b,o)
theorem Q3{fp:List Addr}{h:Heap}{b:Addr}{o:Obj}(hb:b∈fp)(e:h.get? b=some o):(b,o)∈a0i fp h:=List.mem_filterMap.mpr ⟨b,hb,by rw[e];rfl⟩
theorem a5X{fp:List Addr}{h:Heap}{p:Addr×Obj}(hp:p∈a0i fp h):p.1∈fp∧h.get? p.1=some p.2:=by
 obtain⟨b,hb,e⟩:=List.mem_filterMap.mp hp
 cases q:h.get? b with
 | none=>rw[q]at e;cases e
 | some o =>
  rw[q]at e
  have e':(b,o)=p:=Option.some.inj e
  subst e'
  exact⟨hb,q⟩
theorem Inv.pinned{pins:List (Addr×Obj)}{σ:St}{H:Hp}{s:Shared}{fp:List Addr}(I:Inv X pins σ H s)(hf:∀b∈fp,FpOk X pins H b)(ho:∀b∈fp,∃o,s.heap.get? b=some o∧∀v,o.data≠.cell v):Inv X (pins++a0i fp s.heap) σ H s :=
 I.pins_of fun p hp=>(List.mem_append.mp hp).elim (fun z=>I.pin p (List.mem_append_right _ z)) fun z=>by
  obtain⟨hb,e⟩:=a5X z
  obtain⟨f0,f1,f2,_⟩:=hf p.1 hb
  obtain⟨o,e',d⟩:=ho p.1 hb
  rw[e]at e';cases e'
  exact⟨e,f0,f1,f2,d⟩
theorem Inv.unpinned{pins pl:List (Addr×Obj)}{σ:St}{H:Hp}{s:Shared}(I:Inv X (pins++pl) σ H s):Inv X pins σ H s:=I.pins_of fun p hp=>I.pin p (List.mem_append_right _ (List.mem_append_left _ hp))
theorem K5{iter:Expr}{body:List Stmt}{wi:TI}{g:TG}{tb:TS}{pos:Pos}(hp:PassesOwn (model X.prog X.w) X.A X.env X.xe)(hc:X.calm=true)(hi:PI X tg iter wi)(hg:PG X tg g)(hb:PSs X body tb)
  (hs:∀x,foldedSetIterable iter X.env x=pure x:=by intro _;rfl):PS X (.For tg iter body [] pos) (a7n wi g tb):=by
 intro pins s σ H D I h
 refine wpAny_For (i4 (hi pins s σ H _ I h) fun v s1 h1=>i4 h1 fun itv s2 h2=>?_) hs
 obtain⟨it,fp,tn,J,H2,e,I2,T,st2,f2,W,⟨m0,w0⟩,turn⟩:=h2
 subst e
 -- what stays true of the iterator's objects through the loop
 have stat:∀{H':Hp},(∀b∈fp,H' b=none)→∀b∈fp,FpOk X pins H' b:=fun hn b hb=>⟨hn b hb,(f2 b hb).2⟩
 refine codeAny_forLoop_any (fun n s'=>∃i σ' H',Inv X pins σ' H' s'∧tn i s'.heap∧(∀b∈fp,H' b=none)∧W i n σ' H') ?_ m0 ⟨0,σ,H2,I2,st2,fun b hb=>(f2 b hb).1,w0⟩
 rintro n s3 ⟨i,σ3,H3,I3,st3,fr3,w3⟩
 rcases turn i n σ3 H3 w3 with⟨stop,qn⟩ | ⟨go,N,hN,step⟩
 ·refine wpAny_passesOwn hp (i4 (T.done X rfl rfl rfl hc i pins s3 σ3 H3 X.xe I3 (stat fr3) st3 stop) fun r s4 ⟨hr,I4⟩=>?_)
  subst hr
  exact wpAny_execs_nil ⟨σ3,H3,I4,qn⟩
 ·refine wpAny_passesOwn hp (i4 (T.item X rfl rfl rfl hc i pins s3 σ3 H3 X.xe I3 (stat fr3) st3 go) fun r s4 ⟨u,hr,h4⟩=>?_)
  subst hr
  refine wpAny_passesOwn hp (i4 h4 fun _ s5 ⟨x,H5,I5,r5,y5,st5,fr5⟩=>?_)
  have I5':=I5.pinned (stat fr5) (T.obj _ _ st5)
  refine wpAny_passesOwn hp (i4 (hg _ s5 σ3 H5 x u _ I5' r5 (step x H5 y5)) fun _ s6 ⟨σ6,H6,I6,q6⟩=>?_)
  refine wpAny_passesOwn hp (i4 (hb _ s6 σ6 H6 _ I6 q6) fun f s7 q7=>?_)
  have again:∀{σ7:St} {H7:Hp},Inv X (pins++a0i fp s5.heap) σ7 H7 s7→N σ7 H7→∃m,m<n∧∃i σ' H',Inv X pins σ' H' s7∧tn i s7.heap∧(∀b∈fp,H' b=none)∧W i m σ' H':=fun{σ7 H7} I7 n7=>by
   obtain⟨m',hm,w7⟩:=hN σ7 H7 n7
   refine⟨m',hm,i+1,σ7,H7,I7.unpinned,T.keep _ _ _ st5 fun b hb o e=>(I7.pin (b,o) (List.mem_append_right _ (List.mem_append_right _ (Q3 hb e)))).1,fun b hb=>?_,w7⟩
   obtain⟨o,e,d⟩:=T.obj _ _ st5 b hb
   exact(I7.pin (b,o) (List.mem_append_right _ (List.mem_append_right _ (Q3 hb e)))).2.1
  cases f with
  | next=>obtain⟨σ7,H7,I7,n7⟩:=q7;exact again I7 n7
  | cont=>obtain⟨σ7,H7,I7,n7⟩:=q7;exact again I7 n7
  | brk=>obtain⟨σ7,H7,I7,q7⟩:=q7;exact⟨σ7,H7,I7.unpinned,q7⟩
  | ret v=>obtain⟨x7,σ7,H7,I7,r7,q7⟩:=q7;exact⟨x7,σ7,H7,I7.unpinned,r7,q7⟩
end
theorem a7o{K:PySem.W.Frag}{a:Addr}{xs:List V}{g:TG}{tb:TS}{D:Ends}{σ:St}{H:Hp}(Pv:Nat→St→Hp→Prop)(h0:Pv 0 σ H)(hl:∀i σ H,i≤xs.length→Pv i σ H→SqL K H a xs)
  (hs:∀i x σ H,xs[i]? = some x→Pv i σ H→g x σ H fun σ2 H2=>tb { D with nx:=Pv (i+1),ct:=Pv (i+1),bk:=D.nx } σ2 H2) (hd:∀σ H,Pv xs.length σ H→D.nx σ H) :
  ∃W:Nat→Nat→St→Hp→Prop,(∃m,W 0 m σ H)∧∀i m σ H,W i m σ H →
   ((Itl K a).stop i H∧D.nx σ H)∨((Itl K a).go i H∧∃N:St→Hp→Prop,(∀σ' H',N σ' H'→∃m',m'<m∧W (i+1) m' σ' H')∧∀x H',(Itl K a).yld i H x H'→g x σ H' fun σ2 H2=>tb { D with nx:=N,ct:=N,bk:=D.nx } σ2 H2):=by
 refine⟨fun i m σ H=>m=xs.length-i∧i≤xs.length∧Pv i σ H,⟨xs.length,by simp,Nat.zero_le _,h0⟩,?_⟩
 rintro i m σ H ⟨rfl,hi,p⟩
 have q:=hl i σ H hi p
 by_cases hlt:i<xs.length
 ·refine .inr ⟨⟨xs,xs[i],q,by simp[hlt]⟩,Pv (i+1),fun σ' H' p'=>⟨xs.length-(i+1),by omega,rfl,hlt,p'⟩,fun x H' y=>?_⟩
  obtain⟨e,y⟩:=y
  subst e
  exact hs i x σ _ (y xs q) p
 ·have e:i=xs.length:=by omega
  subst e
  exact .inl ⟨⟨xs,q,Nat.le_refl _⟩,hd σ H p⟩
abbrev R2:=V→V→Hp→VK→Prop
def B8(X:Cx)(f:Value→Value→Sem Value)(r:R2):Prop :=
 ∀(pins:List (Addr×Obj)) (s:Shared) (σ:St) (H:Hp) (x y:V) (v u:Value) (Q:VK),Inv X pins σ H s→RelV x v→RelV y u→r x y H Q →
  wpAny (model X.prog X.w) X.A (f v u) (EP X pins σ Q) X.xe s
def UnR(X:Cx)(f:Value→Sem Value)(r:V→Hp→VK→Prop):Prop :=
 ∀(pins:List (Addr×Obj)) (s:Shared) (σ:St) (H:Hp) (x:V) (v:Value) (Q:VK),Inv X pins σ H s→RelV x v→r x H Q →
  wpAny (model X.prog X.w) X.A (f v) (EP X pins σ Q) X.xe s
def F8(X:Cx)(f:Value)(r:List V→Hp→VK→Prop):Prop :=
 ∀(pins:List (Addr×Obj)) (s:Shared) (σ:St) (H:Hp) (xs:List V) (us:List Value) (Q:VK),Inv X pins σ H s→Vals xs us→r xs H Q →
  wpAny (model X.prog X.w) X.A (call f us) (EP X pins σ Q) X.xe s
def tOp(r:R2)(ta tb:TE):TE:=fun σ H Q=>ta σ H fun x H1=>tb σ H1 fun y H2=>r x y H2 Q
def tUn(r:V→Hp→VK→Prop)(ta:TE):TE:=fun σ H Q=>ta σ H fun x H1=>r x H1 Q
def rI(C:Int→Int→Prop)(g:Int→Int→V):R2:=fun x y H Q=>∃i j,x=.int i∧y=.int j∧C i j∧Q (g i j) H
def V9(g:Int→Int→V):R2:=fun x y H Q=>∃i j,x=.int i∧y=.int j∧Q (g i j) H
def rU(g:Int→V):V→Hp→VK→Prop:=fun x H Q=>∃i,x=.int i∧Q (g i) H
section
variable {X:Cx}{a b c:Expr}{ta tb tc:TE}{pos:Pos}
theorem a7p(ha:PE X a ta)(hb:PE X b tb){pins:List (Addr×Obj)}{s:Shared}{σ:St}{H:Hp}{R:V→V→Hp→Prop}(I:Inv X pins σ H s)
  (h:ta σ H fun x H1=>tb σ H1 fun y H2=>R x y H2) {Q:Value→Shared→Prop} {f:Value→Value→Sem Value}
  (hf:∀v u s2 x y H2,Inv X pins σ H2 s2→RelV x v→RelV y u→R x y H2→wpAny (model X.prog X.w) X.A (f v u) Q X.xe s2) :
  wpAny (model X.prog X.w) X.A (eval a X.env) (fun v s₁=>wpAny (model X.prog X.w) X.A (eval b X.env) (fun u s₂=>wpAny (model X.prog X.w) X.A (f v u) Q X.xe s₂) X.xe s₁) X.xe s:=by
 refine i4 (ha pins s σ H _ I h) fun v s1 ⟨x,H1,I1,r1,q1⟩=>?_
 refine i4 (hb pins s1 σ H1 _ I1 q1) fun u s2 ⟨y,H2,I2,r2,q2⟩=>?_
 exact hf v u s2 x y H2 I2 r1 r2 q2
theorem g0{op:Operator}{r:R2}(ho:B8 X (binaryOp op) r)(ha:PE X a ta)(hb:PE X b tb):PE X (.BinOp a op b pos) (tOp r ta tb):=by
 intro pins s σ H Q I h
 exact wpAny_BinOp (a7p ha hb I h fun v u s2 x y H2 I2 rx ry q=>ho pins s2 σ H2 x y v u Q I2 rx ry q)
theorem a8N{op:UnaryOp}{r:V→Hp→VK→Prop}(ho:UnR X (unaryOp op) r)(ha:PE X a ta):PE X (.UnaryOp op a pos) (tUn r ta):=by
 intro pins s σ H Q I h
 exact UnaryOp_ (i4 (ha pins s σ H _ I h) fun v s1 ⟨x,H1,I1,r1,q1⟩=>ho pins s1 σ H1 x v Q I1 r1 q1)
theorem opI{f:Value→Value→Sem Value}{C:Int→Int→Prop}{g:Int→Int→Int}
  (rule:∀(i j:Int) (t u:Tok) (s:Shared) (Q:Value→Shared→Prop) (E:Value→Shared→Prop),C i j→Q (.int (g i j) s.toks) { s with toks:=s.toks+1 }→wpAny (model X.prog X.w) X.A (f (.int i t) (.int j u)) Q E s) :
  B8 X f (rI C fun i j=>.int (g i j)):=by
 intro pins s σ H x y v u Q I rx ry h
 obtain⟨i,j,rfl,rfl,hc,q⟩:=h
 obtain⟨t,rfl⟩:=rx
 obtain⟨t',rfl⟩:=ry
 exact rule i j t t' s _ _ hc ⟨.int (g i j),H,I.tok _,⟨_,rfl⟩,q⟩
theorem b2C{f:Value→Value→Sem Value}{g:Int→Int→Int}
  (rule:∀(i j:Int) (t u:Tok) (s:Shared) (Q:Value→Shared→Prop) (E:Value→Shared→Prop),Q (.int (g i j) s.toks) { s with toks:=s.toks+1 }→wpAny (model X.prog X.w) X.A (f (.int i t) (.int j u)) Q E s) :
  B8 X f (V9 fun i j=>.int (g i j)):=by
 intro pins s σ H x y v u Q I rx ry h
 obtain⟨i,j,rfl,rfl,q⟩:=h
 obtain⟨t,rfl⟩:=rx
 obtain⟨t',rfl⟩:=ry
 exact rule i j t t' s _ _ ⟨.int (g i j),H,I.tok _,⟨_,rfl⟩,q⟩
theorem a48{f:Value→Value→Sem Value}{g:Int→Int→Bool}
  (rule:∀(i j:Int) (t u:Tok) (s:Shared) (Q:Value→Shared→Prop) (E:Value→Shared→Prop),Q (.bool (g i j)) s→wpAny (model X.prog X.w) X.A (f (.int i t) (.int j u)) Q E s) :
  B8 X f (V9 fun i j=>.bl (g i j)):=by
 intro pins s σ H x y v u Q I rx ry h
 obtain⟨i,j,rfl,rfl,q⟩:=h
 obtain⟨t,rfl⟩:=rx
 obtain⟨t',rfl⟩:=ry
 exact rule i j t t' s _ _ ⟨.bl (g i j),H,I,rfl,q⟩
def a1X(i j:Int):Prop:=0≤j∧j≤1000000∧i.natAbs<2 ^ 64
def CMul(i j:Int):Prop:=(-(2 ^ 64)<i∧i<2 ^ 64)∨(-(2 ^ 64)<j∧j<2 ^ 64)
theorem CMul.ok{i j:Int}(h:CMul i j):IntMulOk i j:=by
 rcases h with⟨h1,h2⟩ | ⟨h1,h2⟩
 ·exact .of_left (intBits_le_64 h1 h2)
 ·exact .of_right (intBits_le_64 h1 h2)
theorem v3:B8 X (binaryOp .Add) (V9 fun i j=>.int (i+j)):=b2C fun _ _ _ _ _ _ _ q=>add_int q
theorem y8:B8 X (binaryOp .Mod) (rI (fun _ j=>0<j) fun i j=>.int (i%j)):=opI fun i j _ _ _ _ _ hc q=>by
 have h1:(0:Int)<j:=hc
 exact mod_int' (by omega) (by rw[Int.fmod_eq_emod_of_nonneg i (by omega)];exact q)
theorem W0:B8 X (binaryOp .Pow) (rI a1X fun i j=>.int (i ^ j.toNat)):=opI fun _ _ _ _ _ _ _ hc q=>pow_int_small hc.1 hc.2.1 hc.2.2 q
theorem unI{f:Value→Sem Value}{g:Int→Int}
  (rule:∀(i:Int) (t:Tok) (s:Shared) (Q:Value→Shared→Prop) (E:Value→Shared→Prop),Q (.int (g i) s.toks) { s with toks:=s.toks+1 }→wpAny (model X.prog X.w) X.A (f (.int i t)) Q E s) :
  UnR X f (rU fun i=>.int (g i)):=by
 intro pins s σ H x v Q I rx h
 obtain⟨i,rfl,q⟩:=h
 obtain⟨t,rfl⟩:=rx
 exact rule i t s _ _ ⟨.int (g i),H,I.tok _,⟨_,rfl⟩,q⟩
theorem a5Y:UnR X (unaryOp .USub) (rU fun i=>.int (-i)):=unI fun _ _ _ _ _ q=>neg_int q
end
def a49:V→V→Bool
 | .non,.non=>true | .non,.int _=>true | .int _,.non=>true | .non,.bl _=>true | .bl _,.non=>true | .non,.str _=>true | .str _,.non=>true
 | .int _,.int _=>true | .bl _,.bl _=>true | .str _,.str _=>true | .byt _,.byt _=>true
 | .int _,.str _=>true | .str _,.int _=>true | .bl _,.str _=>true | .str _,.bl _=>true
 | _,_=>false
def rEq:R2:=fun x y H Q=>a49 x y=true∧Q (.bl (decide (x=y))) H
def rNe:R2:=fun x y H Q=>a49 x y=true∧Q (.bl (!decide (x=y))) H
theorem a4u{i j:Int}:decide (V.int i=V.int j)=(i == j):=by
 rw[Bool.eq_iff_iff]
 simp
theorem a5Z{i j:Bool}:decide (V.bl i=V.bl j)=(i == j):=by
 rw[Bool.eq_iff_iff]
 simp
theorem a4v{i j:Str}:decide (V.str i=V.str j)=(i == j):=by
 rw[Bool.eq_iff_iff]
 simp
theorem a4w{i j:Array UInt8}:decide (V.byt i=V.byt j)=(i.toList == j.toList):=by
 rw[Bool.eq_iff_iff]
 cases i
 cases j
 simp
section
variable {X:Cx}{a b c:Expr}{ta tb tc:TE}{pos:Pos}
theorem i9{pins:List (Addr×Obj)}{σ:St}{H:Hp}{s:Shared}{Q:VK}{k k':Bool}(I:Inv X pins σ H s)(q:Q (.bl k) H)(e:k=k'):EP X pins σ Q (.bool k') s:=by
 subst e
 exact⟨.bl k,H,I,rfl,q⟩
theorem X7:B8 X (compareOp .Eq) rEq:=by
 intro pins s σ H x y v u Q I rx ry h
 obtain⟨hs,q⟩:=h
 cases x with
 | non =>
  cases rx
  cases y with
  | non=>cases ry;exact PySem.EqNone.eq_none_none (i9 I q (by simp))
  | bl j=>cases ry;exact PySem.EqNone.eq_none_bool (i9 I q (by simp))
  | int j=>obtain⟨t',rfl⟩:=ry;exact PySem.EqNone.eq_none_int (i9 I q (by simp))
  | str j=>obtain⟨t',rfl⟩:=ry;exact PySem.EqNone.eq_none_str (i9 I q (by simp))
  | _=>exact absurd (show false=true from hs) Bool.false_ne_true
 | bl i =>
  cases rx
  cases y with
  | non=>cases ry;exact PySem.EqNone.eq_bool_none (i9 I q (by simp))
  | bl j=>cases ry;exact eq_bool (i9 I q a5Z)
  | str j=>obtain⟨t',rfl⟩:=ry;exact PySem.EqMixed.eq_bool_str (i9 I q (by simp))
  | _=>exact absurd (show false=true from hs) Bool.false_ne_true
 | int i =>
  obtain⟨t,rfl⟩:=rx
  cases y with
  | non=>cases ry;exact PySem.EqNone.eq_int_none (i9 I q (by simp))
  | int j=>obtain⟨t',rfl⟩:=ry;exact eq_int (i9 I q a4u)
  | str j=>obtain⟨t',rfl⟩:=ry;exact PySem.EqMixed.eq_int_str (i9 I q (by simp))
  | _=>exact absurd (show false=true from hs) Bool.false_ne_true
 | str i =>
  obtain⟨t,rfl⟩:=rx
  cases y with
  | non=>cases ry;exact PySem.EqNone.eq_str_none (i9 I q (by simp))
  | bl j=>cases ry;exact PySem.EqMixed.eq_str_bool (i9 I q (by simp))
  | int j=>obtain⟨t',rfl⟩:=ry;exact PySem.EqMixed.eq_str_int (i9 I q (by simp))
  | str j=>obtain⟨t',rfl⟩:=ry;exact eq_str (i9 I q a4v)
  | _=>exact absurd (show false=true from hs) Bool.false_ne_true
 | byt i =>
  obtain⟨t,rfl⟩:=rx
  cases y with
  | byt j=>obtain⟨t',rfl⟩:=ry;exact W.eq_bytes (i9 I q a4w)
  | _=>exact absurd (show false=true from hs) Bool.false_ne_true
 | _=>cases y<;>exact absurd (show false=true from hs) Bool.false_ne_true
theorem a25:B8 X (compareOp .NotEq) rNe:=by
 intro pins s σ H x y v u Q I rx ry h
 obtain⟨hs,q⟩:=h
 cases x with
 | non =>
  cases rx
  cases y with
  | non=>cases ry;exact PySem.EqNone.ne_none_none (i9 I q (by simp))
  | bl j=>cases ry;exact PySem.EqNone.ne_none_bool (i9 I q (by simp))
  | int j=>obtain⟨t',rfl⟩:=ry;exact PySem.EqNone.ne_none_int (i9 I q (by simp))
  | str j=>obtain⟨t',rfl⟩:=ry;exact PySem.EqNone.ne_none_str (i9 I q (by simp))
  | _=>exact absurd (show false=true from hs) Bool.false_ne_true
 | bl i =>
  cases rx
  cases y with
  | non=>cases ry;exact PySem.EqNone.ne_bool_none (i9 I q (by simp))
  | bl j=>cases ry;exact ne_bool (i9 I q (congrArg not a5Z))
  | str j=>obtain⟨t',rfl⟩:=ry;exact PySem.EqMixed.ne_bool_str (i9 I q (by simp))
  | _=>exact absurd (show false=true from hs) Bool.false_ne_true
 | int i =>
  obtain⟨t,rfl⟩:=rx
  cases y with
  | non=>cases ry;exact PySem.EqNone.ne_int_none (i9 I q (by simp))
  | int j=>obtain⟨t',rfl⟩:=ry;exact ne_int (i9 I q (congrArg not a4u))
  | str j=>obtain⟨t',rfl⟩:=ry;exact PySem.EqMixed.ne_int_str (i9 I q (by simp))
  | _=>exact absurd (show false=true from hs) Bool.false_ne_true
 | str i =>
  obtain⟨t,rfl⟩:=rx
  cases y with
  | non=>cases ry;exact PySem.EqNone.ne_str_none (i9 I q (by simp))
  | bl j=>cases ry;exact PySem.EqMixed.ne_str_bool (i9 I q (by simp))
  | int j=>obtain⟨t',rfl⟩:=ry;exact PySem.EqMixed.ne_str_int (i9 I q (by simp))
  | str j=>obtain⟨t',rfl⟩:=ry;exact ne_str (i9 I q (congrArg not a4v))
  | _=>exact absurd (show false=true from hs) Bool.false_ne_true
 | byt i =>
  obtain⟨t,rfl⟩:=rx
  cases y with
  | byt j=>obtain⟨t',rfl⟩:=ry;exact W.ne_bytes (i9 I q (congrArg not a4w))
  | _=>exact absurd (show false=true from hs) Bool.false_ne_true
 | _=>cases y<;>exact absurd (show false=true from hs) Bool.false_ne_true
theorem X8:B8 X (compareOp .Lt) (V9 fun i j=>.bl (decide (i<j))):=a48 fun _ _ _ _ _ _ _ q=>lt_int q
theorem a0x:B8 X (compareOp .LtE) (V9 fun i j=>.bl (decide (i≤j))):=a48 fun _ _ _ _ _ _ _ q=>le_int q
theorem a8P:B8 X (compareOp .Gt) (V9 fun i j=>.bl (decide (j<i))):=a48 fun _ _ _ _ _ _ _ q=>gt_int q
theorem a8Q:B8 X (compareOp .GtE) (V9 fun i j=>.bl (decide (j≤i))):=a48 fun _ _ _ _ _ _ _ q=>ge_int q
theorem a3g:B8 X (compareOp .Is) (fun x y H Q=>y=.non∧Q (.bl (decide (x=.non))) H):=by
 intro pins s σ H x y v u Q I rx ry h
 obtain⟨rfl,q⟩:=h
 cases ry
 refine is_none_gen (i9 I q ?_)
 cases x<;>first
  | (cases rx;rfl)
  | (obtain⟨t,rfl⟩:=rx;rfl)
theorem a1Y:B8 X (compareOp .IsNot) (fun x y H Q=>y=.non∧Q (.bl (!decide (x=.non))) H):=by
 intro pins s σ H x y v u Q I rx ry h
 obtain⟨rfl,q⟩:=h
 cases ry
 refine isnot_none_gen (i9 I q ?_)
 cases x<;>first
  | (cases rx;rfl)
  | (obtain⟨t,rfl⟩:=rx;rfl)
theorem g9(b:Expr){op:CmpOp}(h:op≠.In:=by decide)(h2:op≠.NotIn:=by decide):behindInMarks op b=false:=by
 have e1:(op == CmpOp.In)=false:=by cases op<;>first | rfl | exact absurd rfl h
 have e2:(op == CmpOp.NotIn)=false:=by cases op<;>first | rfl | exact absurd rfl h2
 cases b<;>simp[behindInMarks,e1,e2]
theorem B9{op:CmpOp}{r:R2}(ho:B8 X (compareOp op) r)(ha:PE X a ta)(hb:PE X b tb)(hm:behindInMarks op b=false):PE X (.Compare a [op] [b] pos) (tOp r ta tb):=by
 intro pins s σ H Q I h
 exact wpAny_Compare1 (a7p ha hb I h fun v u s2 x y H2 I2 rx ry q=>ho pins s2 σ H2 x y v u Q I2 rx ry q) hm
def a8R(t:TE):TT:=fun σ H Q=>t σ H fun x H'=>∃k,x=.bl k∧Q k H'
theorem i5{op:CmpOp}{r:R2}(ho:B8 X (compareOp op) r)(ha:PE X a ta)(hb:PE X b tb)(hm:behindInMarks op b=false):PT X (.Compare a [op] [b] pos) (a8R (tOp r ta tb)):=by
 intro pins s σ H Q I h
 refine wpAny_isTrue_Compare1 (i4 (ha pins s σ H _ I h) fun v s1 ⟨x,H1,I1,r1,q1⟩=>i4 (hb pins s1 σ H1 _ I1 q1) fun u s2 ⟨y,H2,I2,r2,q2⟩ =>
  i4 (ho pins s2 σ H2 x y v u _ I2 r1 r2 q2) fun c s3 ⟨z,H3,I3,r3,k,e,q3⟩=>?_) hm
 subst e
 cases r3
 exact wpAny_truthy_bool ⟨H3,I3,q3⟩
theorem a1n:(sizeLine:Nat)<2 ^ 63:=by rw[sizeLine_eq];decide
theorem a4_{x:V}{us:List Value}(r:Vals [x] us):∃u,us=[u]∧RelV x u:=by
 cases r with
 | cons r1 r2=>cases r2;exact⟨_,rfl,r1⟩
theorem b11{x y:V}{us:List Value}(r:Vals [x,y] us):∃u w',us=[u,w']∧RelV x u∧RelV y w':=by
 cases r with
 | cons r1 r2 =>
  cases r2 with
  | cons r3 r4=>cases r4;exact⟨_,_,rfl,r1,r3⟩
end
structure ObjM(h:Heap)(x dx C:Addr)(mA:Str→Option Value):Prop where
 obj:h.get? x=some (W.instObj C dx)
 ns:h.Ns1 dx mA
 ne:dx≠x
theorem a50{h:Heap}{dx:Addr}{mA:Str→Option Value}(n:h.Ns1 dx mA):∃od,h.get? dx=some od∧∀name,W.lookIn name od=some (mA name):=by
 obtain⟨o,es,ep,ho,hd,hk,_,hm⟩:=n
 refine⟨o,ho,fun name=>?_⟩
 have e:=hm name
 unfold nsFind findBy at e
 rw[← Array.find?_toList]at e
 unfold W.lookIn
 rw[hd]
 dsimp only
 split
 ·rename_i y q
  rw[q]at e
  exact congrArg some e
 ·rename_i q
  rw[q]at e
  have a:es.toList.any (·.refKey)=false:=by
   rw[List.any_eq_false]
   intro y hy
   obtain⟨z,t,hkey⟩:=hk y (Array.mem_toList_iff.mp hy)
   simp[DictEntry.refKey,hkey]
  have a':¬es.toList.any (·.refKey)=true:=by rw[a];exact Bool.false_ne_true
  rw[if_neg a']
  exact congrArg some e
theorem ObjM.look{h:Heap}{x dx C:Addr}{mA:Str→Option Value}(I:ObjM h x dx C mA):∃od,W.InstAt h x (W.instObj C dx) C (some od)∧∀name,W.lookIn name od=some (mA name) :=
 let ⟨od,ho,hl⟩:=a50 I.ns
 ⟨od,⟨I.obj,rfl,rfl,ho⟩,hl⟩
section
variable {P:Program}{w:World}{H H':Hp}{h h':Heap}{a C dx:Addr}{fs fs':List (Str×V)}
theorem a9d(hok:HOk P w H h)(e:H a=some (.ins C dx fs)):∃mA,ObjM h a dx C mA∧(∀f,a7i (fs.lookup f) (mA f))∧PySem.Within mA (fs.map (·.1))∧fs.length≤1000∧H dx=some (.own a):=by
 obtain⟨d,z,ne,ob,mA,n,r,q⟩:=(show ObjOk P w H h a (.ins C dx fs)from hok a _ e)
 exact⟨mA,⟨ob,n,ne⟩,r,q,z,d⟩
end
structure Cls(K:W.Frag)(C:Addr):Prop where
 pg:W.plainGet K C Str.empty=true
 hd:W.hasDictIn K C=true
 po:W.plainOver K C=true
 sa:W.findIn K (.ref C) "__setattr__" = some (some (.builtin "object.__setattr__"))
theorem Cls.get{K:W.Frag}{C:Addr}(c:Cls K C)(f:Str):W.plainGet K C f=true:=c.pg
section
variable {X:Cx}{pins:List (Addr×Obj)}{σ:St}{H:Hp}{s:Shared}{a C dx:Addr}{fs:List (Str×V)}{f:Str}{v:V}{A:Around}{E:Value→Shared→Prop}
theorem Inv.made(I:Inv X pins σ H s):Inv X pins σ (upd (upd H s.heap.objs.size (.own (s.heap.objs.size+1))) (s.heap.objs.size+1) (.ins C s.heap.objs.size []))
  { s with heap:=(s.heap.push W.emptyDict).push (W.instObj C s.heap.objs.size) }:=by
 have e1:(s.heap.push W.emptyDict).get? s.heap.objs.size=some W.emptyDict:=Heap.get?_push_size s.heap rfl
 have e2:((s.heap.push W.emptyDict).push (W.instObj C s.heap.objs.size)).get? (s.heap.objs.size+1)=some (W.instObj C s.heap.objs.size):=by
  have:=Heap.get?_push_size (s.heap.push W.emptyDict) (o:=W.instObj C s.heap.objs.size) rfl
  rwa [Heap.size_push]at this
 have e3:(s.heap.push W.emptyDict).Ns s.heap.objs.size (fun _=>none):=⟨W.emptyDict,#[],_,e1,rfl,(fun e he=>absurd he (by simp)),fun _=>rfl⟩
 have I1:=I.laid (a:=s.heap.objs.size) (o:=.own (s.heap.objs.size+1)) (h':=s.heap.push W.emptyDict) (t':=s.toks) (fun b u q=>Heap.get?_push_of_some _ q) (Nat.le_refl _) ⟨_,e1⟩
 refine I1.laid (a:=s.heap.objs.size+1) (o:=.ins C s.heap.objs.size []) (t':=s.toks) (fun b u q=>Heap.get?_push_of_some _ q) (Nat.le_of_eq (Heap.size_push _ _)) ?_
 have ne:s.heap.objs.size≠s.heap.objs.size+1:=Nat.ne_of_lt (Nat.lt_succ_self _)
 refine⟨by rw[c8 ne,h7],Nat.zero_le _,ne,e2,fun _=>none,(Heap.Ns1.of_empty e3).at fun o q=>Heap.get?_push_of_some _ q,fun _=>True.intro,fun y hy=>absurd rfl hy⟩
end
section
variable {X:Cx}{pins:List (Addr×Obj)}{σ:St}{H:Hp}{s:Shared}{A:Around}{E:Value→Shared→Prop}{Q:Value→Shared→Prop}{c:Value}{b:Bool}
inductive TyOf(K:W.Frag)(H:Hp):V→Value→Prop where
 | non:TyOf K H .non (.type "NoneType")
 | bl (x:Bool):TyOf K H (.bl x) (.type "bool")
 | int (i:Int):TyOf K H (.int i) (.type "int")
 | str (x:Str):TyOf K H (.str x) (.type "str")
 | flt (x:UInt64):TyOf K H (.flt x) (.type "float")
 | lst {a:Addr} {xs:List V} (e:H a=some (.lst xs)):TyOf K H (.ref a) (.type "list")
 | frz {a:Addr} {o:Obj} {xs:List V} (e:H a=some (.frz o (.lst xs))):TyOf K H (.ref a) (.type "list")
 | tup {a:Addr} {xs:List V} (e:H a=some (.tup xs)):TyOf K H (.ref a) (.type "tuple")
 | dK {a:Addr} {kvs:List (L8×V)} (e:H a=some (.dK kvs)):TyOf K H (.ref a) (.type "dict")
 | dT {a:Addr} {kvs:List (List L8×V)} (e:H a=some (.dT kvs)):TyOf K H (.ref a) (.type "dict")
 | ins {a C dx:Addr} {fs:List (Str×V)} (e:H a=some (.ins C dx fs)) (cl:Cls K C) (ha:W.findIn K (.ref C) "__class__" = some (some (.builtin "object.__class__")))
   (hn:W.specialIn K (.builtin "object.__class__") "__get__" = some (some (.builtin "getset_descriptor.__get__"))) (htk:W.takesIn K (.builtin "object.__class__")=some true)
   (hm:W.mroIn K C (.type "object")=some true):TyOf K H (.ref a) (.ref C)
end
structure Room(k:Nat)(A:Around):Prop where
 hd:A.handled=none
 dp:A.depth+3*k+5<recursionLimit
 un:A.units+16*k+200<cLine
theorem Room.mono{j k:Nat}{A:Around}(r:Room k A)(h:j≤k):Room j A:=⟨r.hd,by have:=r.dp;omega,by have:=r.un;omega⟩
theorem Room.deeper{k:Nat}{A:Around}(r:Room (k+1) A)(env:Env):Room k (A.deeper env) :=
 ⟨r.hd,by have:=r.dp;show A.depth+1+3*k+5<_;omega,by have:=r.un;show A.units+3+16*k+200<_;omega⟩
theorem Room.in1{k:Nat}{A:Around}(r:Room (k+1) A):Room k A.in1 :=
 ⟨r.hd,by have:=r.dp;show A.depth+3*k+5<_;omega,by have:=r.un;show A.units+1+16*k+200<_;omega⟩
theorem Room.depth{k:Nat}{A:Around}(r:Room k A):A.depth<recursionLimit:=by have:=r.dp;omega
theorem Room.units{k:Nat}{A:Around}(r:Room k A):A.units+64<cLine:=by have:=r.un;omega
def a0j:TA:=fun _ H Q=>Q [] H
def Q4(ta:TE)(tr:TA):TA:=fun σ H Q=>ta σ H fun x H1=>tr σ H1 fun xs H2=>Q (x::xs) H2
section
variable {X:Cx}{e:Expr}{es:List Expr}{te:TE}{t:TA}{pos:Pos}
theorem c7:PA X [] a0j:=fun _ _ _ _ H Q I h=>Calls.spliced_nil ⟨[],H,I,.nil,h⟩
theorem a5(ha:PE X e te)(hr:PA X es t)(hs:starEach (e::es) X.env=(false,eval e X.env)::starEach es X.env:=by rfl):PA X (e::es) (Q4 te t):=by
 intro pos pins s σ H Q I h
 rw[hs]
 show wpAny _ _ (spliced ((false,eval e X.env)::backTo pos (starEach es X.env))) _ _ s
 refine Calls.spliced_cons (i4 (ha pins s σ H _ I h) fun u s1 ⟨x,H1,I1,r1,q1⟩=>?_)
 exact i4 (hr pos pins s1 σ H1 _ I1 q1) fun us s2 ⟨xs,H2,I2,r2,q2⟩=>⟨x::xs,H2,I2,.cons r1 r2,q2⟩
def b0Q(t:TA):TE:=fun σ H Q=>t σ H fun xs H1=>xs.length≤sizeLine∧∀p,H1 p=none→Q (.ref p) (upd H1 p (.tup xs))
def b0R(t:TA):TE:=fun σ H Q=>t σ H fun xs H1=>xs.length≤sizeLine∧∀p,H1 p=none→Q (.ref p) (upd H1 p (.lst xs))
theorem r9{x1}(h:PA X es t):PE X (.Tuple es x1 pos) (b0Q t):=by
 intro pins s σ H Q I hq
 refine wpAny_Tuple_spliced (i4 (h pos pins s σ H _ I hq) fun us s1 ⟨xs,H1,I1,r,z,q⟩=>⟨by rw[← r.length];exact z,?_⟩)
 have hf:H1 s1.heap.objs.size=none:=I1.hok.fresh (Nat.le_refl _)
 refine⟨.ref s1.heap.objs.size,upd H1 s1.heap.objs.size (.tup xs),I1.laid (t':=s1.toks) (fun b u e=>Heap.get?_push_of_some _ e) (Nat.le_refl _) ?_,rfl,q _ hf⟩
 exact⟨z,us,r,⟨_,Heap.get?_push_size _ rfl,rfl,_,rfl⟩⟩
theorem D7(h:PA X es t):PE X (.List es pos) (b0R t):=by
 intro pins s σ H Q I hq
 refine wpAny_List_spliced (i4 (h pos pins s σ H _ I hq) fun us s1 ⟨xs,H1,I1,r,z,q⟩=>⟨by rw[← r.length];exact z,?_⟩)
 have hf:H1 s1.heap.objs.size=none:=I1.hok.fresh (Nat.le_refl _)
 refine⟨.ref s1.heap.objs.size,upd H1 s1.heap.objs.size (.lst xs),I1.laid (t':=s1.toks) (fun b u e=>Heap.get?_push_of_some _ e) (Nat.le_refl _) ?_,rfl,q _ hf⟩
 exact⟨z,us,0,r,Heap.get?_push_size _ rfl⟩
end
abbrev Sp:=List V→Hp→VK→XK→Prop
abbrev T6:=List Env→Hp→Shared→XK→Value→Shared→Prop
structure Env0(P:Program)(w:World)(K:W.Frag)(mg:Str→Option Value)(base:Heap)(A:Around)(outer:List Env)(s:Shared)(H:Hp):Prop where
 frames:A.frames=some outer
 mod:Mod K mg base
 bs:∀b o,base.get? b=some o→s.heap.get? b=some o∧H b=none
 bsz:base.objs.size≤s.heap.objs.size
 funs:s.heap.FunFrames base outer
 frf:∀b∈B5 outer,H b=none
 hok:HOk P w H s.heap
 bare:AllBare s.gens
def CE(outer:List Env)(P:Program)(w:World)(H:Hp)(s:Shared)(Q:VK)(u:Value)(s':Shared):Prop :=
 ∃v H',s'.os=s.os∧AllBare s'.gens∧Un (B5 outer) [] H H' s.heap s'.heap∧HOk P w H' s'.heap∧RelV v u∧Q v H'
def CR(CX:T6)(outer:List Env)(P:Program)(w:World)(H:Hp)(s:Shared)(Q:VK)(E:XK)(r:Result)(s':Shared):Prop :=
 match r with
 | .ok (.ret u)=>CE outer P w H s Q u s'
 | .ok _=>False
 | .error e=>CX outer H s E e s'
structure FnOk(P:Program)(w:World)(K:W.Frag)(mg:Str→Option Value)(base:Heap)(CX:T6)(k:Nat)(f:Addr)(fd:FuncData)(ps:List Str)(sp:Sp):Prop where
 len:∀vs H Q E,sp vs H Q E→vs.length=ps.length
 run:∀(A:Around) (outer:List Env) (s:Shared) (H:Hp) (args:Args) (us:List Value) (vs:List V) (Q:VK) (E:XK),Room k A→Env0 P w K mg base A outer s H→BindsTo s fd args (ps.zip us)→Vals vs us→sp vs H Q E →
  codeAny (model P w) A (.call (.ref f) args) (CR CX outer P w H s Q E) s
theorem FnOk.mono{P:Program}{w:World}{K:W.Frag}{mg:Str→Option Value}{base:Heap}{CX:T6}{j k:Nat}{f:Addr}{fd:FuncData}{ps:List Str}{sp:Sp}(F:FnOk P w K mg base CX j f fd ps sp)(h:j≤k) :
  FnOk P w K mg base CX k f fd ps sp:=⟨F.len,fun A outer s H args us vs Q E hr=>F.run A outer s H args us vs Q E (hr.mono h)⟩
theorem FnOk.imp{P:Program}{w:World}{K:W.Frag}{mg:Str→Option Value}{base:Heap}{CX:T6}{k:Nat}{f:Addr}{fd:FuncData}{ps:List Str}{sp sp':Sp}(F:FnOk P w K mg base CX k f fd ps sp)
  (h:∀vs H Q E,sp' vs H Q E→sp vs H Q E):FnOk P w K mg base CX k f fd ps sp' :=
 ⟨fun vs H Q E q=>F.len vs H Q E (h _ _ _ _ q),fun A outer s H args us vs Q E hr he hb hv hs=>F.run A outer s H args us vs Q E hr he hb hv (h _ _ _ _ hs)⟩
theorem Env0.in1{P:Program}{w:World}{K:W.Frag}{mg:Str→Option Value}{base:Heap}{A:Around}{outer:List Env}{s:Shared}{H:Hp}(e:Env0 P w K mg base A outer s H) :
  Env0 P w K mg base A.in1 outer s H:=⟨e.frames,e.mod,e.bs,e.bsz,e.funs,e.frf,e.hok,e.bare⟩
section
variable {X:Cx}{pins:List (Addr×Obj)}{σ:St}{H:Hp}{s s':Shared}
theorem Inv.env0(I:Inv X pins σ H s):Env0 X.prog X.w X.K X.mg X.base X.A X.stack s H :=
 ⟨I.ok.frames,I.ok.mod,I.bs,Nat.le_trans I.ok.bsz I.sz,I.stack,I.stkFree,I.hok,I.bare⟩
theorem Inv.after{Q:VK}{u:Value}(I:Inv X pins σ H s)(h:CE X.stack X.prog X.w H s Q u s'):EP X pins σ Q u s':=by
 obtain⟨v,H',os,bare,un,hok,r,q⟩:=h
 obtain⟨hh,g,d,t,os'⟩:=s'
 obtain rfl:os'=s.os:=os
 exact⟨v,H',I.call (h':=hh) (g':=g) (d':=d) (t':=t) (ch:=[]) un hok bare (fun b z=>absurd z (by simp)),r,q⟩
end
def T7(sp:Sp)(dvs:List V)(E:XK)(t:TA):TE:=fun σ H Q=>t σ H fun vs H1=>sp (vs++dvs) H1 Q E
def Binds(K:W.Frag)(fd:FuncData)(ps:List Str)(ds:List Value):Prop :=
 ∀(s:Shared) (us:List Value),K.In s.heap→(us++ds).length=ps.length→BindsTo s fd ⟨us,[]⟩ (ps.zip (us++ds))
theorem Binds.all{K:W.Frag}{fd:FuncData}{ps:List Str}(h:∀us:List Value,us.length=ps.length→bindArgs fd ⟨us,[]⟩=pure (ps.zip us)):Binds K fd ps []:=fun s us _ hl=>by
 rw[List.append_nil]at hl ⊢
 exact .of_eq (h us hl)
def W3(CX:T6)(X:Cx)(E:XK):Prop:=∀(pins:List (Addr×Obj)) (σ:St) (H:Hp) (s:Shared) (e:Value) (s':Shared),Inv X pins σ H s→CX X.stack H s E e s'→X.xe e s'
section
variable {X:Cx}{CX:T6}{k:Nat}{f C:Addr}{fd:FuncData}{ps:List Str}{sp:Sp}{dvs:List V}{ds:List Value}{E:XK}{x m:Str}{p pos apos:Pos}{e o:Expr}{es:List Expr}{ta:TE}{t:TA}
theorem b0S{pins:List (Addr×Obj)}{σ:St}{H:Hp}{s:Shared}{Q:VK}{us:List Value}{vs:List V}(F:FnOk X.prog X.w X.K X.mg X.base CX k f fd ps sp)(hr:Room k X.A)(hb:Binds X.K fd ps ds)(hd:Vals dvs ds)(hx:W3 CX X E)
  (I:Inv X pins σ H s) (r:Vals vs us) (h:sp (vs++dvs) H Q E):wpAny (model X.prog X.w) X.A (call (.ref f) us) (EP X pins σ Q) X.xe s:=by
 have r2:Vals (vs++dvs) (us++ds):=r.append hd
 have hl:(us++ds).length=ps.length:=by rw[← r2.length];exact F.len _ _ _ _ h
 refine wpAny_call (codeAny_mono (F.run X.A X.stack s H ⟨us,[]⟩ (us++ds) (vs++dvs) Q E hr I.env0 (hb s us I.kIn hl) r2 h) fun r s' hq=>?_)
 cases r with
 | error e=>exact hx pins σ H s e s' I hq
 | ok fl =>
  cases fl with
  | ret u=>exact I.after hq
  | next=>exact False.elim hq
  | brk=>exact False.elim hq
  | cont=>exact False.elim hq
theorem a9e(F:FnOk X.prog X.w X.K X.mg X.base CX k f fd ps sp)(hr:Room k X.A)(hg:Gl X x)(hm:X.mg x=some (.ref f))(hk:W.keepIn X.K (.ref f)=true)(hb:Binds X.K fd ps ds)(hd:Vals dvs ds)(hx:W3 CX X E)
  (ha:PA X (e::es) t) (hdb:(x == ("__debug__" : Str))=false:=by decide) (he:starEach (e::es) X.env=(false,eval e X.env)::starEach es X.env:=by rfl) (hpl:(backTo pos (starEach es X.env)).any (·.1)=false:=by rfl) :
  PE X (.Call (.Name x p) (e::es) [] pos) (T7 sp dvs E t):=by
 intro pins s σ H Q I h
 refine wpAny_Call_Name_kw (a4t I hg hm ?_ hdb)
 refine W.callWith_K (h₀:=X.base) I.ok.mod.kin hk (i4 (ha pos pins s σ H _ I h) fun us s1 ⟨vs,H1,I1,r,q⟩=>⟨I1.kIn,?_⟩) he hpl
 exact b0S F hr hb hd hx I1 r q
end
def PK(X:Cx)(kws:List Keyword)(t:TA):Prop :=
 ∀(pos:Pos) (pins:List (Addr×Obj)) (s:Shared) (σ:St) (H:Hp) (Q:List V→Hp→Prop),Inv X pins σ H s→t σ H Q→wpAny (model X.prog X.w) X.A (evalAll ((backToKw pos (keywordEach kws X.env)).map (·.2))) (AP X pins σ Q) X.xe s
section
variable {X:Cx}{CX:T6}{k:Nat}{f C:Addr}{fd:FuncData}{ps ks:List Str}{sp:Sp}{E:XK}{x m:Str}{p pos apos kpos:Pos}{e o:Expr}{es:List Expr}{kws:List Keyword}{te ta:TE}{t tk:TA}{nm:Option Str}
theorem b0T:PK X [] a0j:=fun _ _ _ _ H Q I h=>wpAny_evalAll_nil ⟨[],H,I,.nil,h⟩
theorem a9f(ha:PE X e te)(hr:PK X kws t):PK X (⟨nm,e,kpos⟩ :: kws) (Q4 te t):=by
 intro pos pins s σ H Q I h
 show wpAny _ _ (evalAll ((do let v ← eval e X.env;standAt pos;pure v)::(backToKw pos (keywordEach kws X.env)).map (·.2))) _ _ s
 refine wpAny_evalAll_cons (wpAny_bind (i4 (ha pins s σ H _ I h) fun u s1 ⟨x,H1,I1,r1,q1⟩=>wpAny_bind (wpAny_standAt (wpAny_pure ?_))))
 exact i4 (hr pos pins s1 σ H1 _ I1 q1) fun us s2 ⟨xs,H2,I2,r2,q2⟩=>⟨x::xs,H2,I2,.cons r1 r2,q2⟩
variable {g:List Value→List Value→List Value}{gV:List V→List V→List V}
end
structure FnScope(N P:List Str)(sc:Scope):Prop where
 kind:sc.kind=.function
 co:sc.isCoroutine=false
 gen:sc.isGenerator=false
 nd:N.Nodup
 pre:N.take P.length=P
 par:∀x∈P,sc.names.lookup x=some .local∨sc.names.lookup x=some .cell
 nofree:∀y∈sc.names,y.2≠.free
theorem a2u{kindOf:Str→Option NameKind}{x:Str}:∀{binds:List (Str×Value)} {m:Str→Option Value},(∀v,(x,v) ∉ binds)→bindL kindOf binds m x=m x
 | [],_,_=>rfl
 | (n,v)::r,m,h=>by
  unfold bindL
  rw[a2u fun w hw=>h w (List.mem_cons_of_mem _ hw)]
  split
  ·have:x≠n:=by rintro rfl;exact h v List.mem_cons_self
   simp[this]
  ·rfl
theorem a2v{kindOf:Str→Option NameKind}{x:Str}:∀{binds:List (Str×Value)} {m:Str→Option Value},(∀v,(x,v) ∉ binds)→bindC kindOf binds m x=m x
 | [],_,_=>rfl
 | (n,v)::r,m,h=>by
  unfold bindC
  rw[a2v fun w hw=>h w (List.mem_cons_of_mem _ hw)]
  split
  ·rfl
  ·have:x≠n:=by rintro rfl;exact h v List.mem_cons_self
   simp[this]
theorem a2w{kindOf:Str→Option NameKind}{x:Str}{v:Value}:∀{P:List Str} {vs:List Value} {i:Nat} {m:Str→Option Value},P.Nodup→P[i]? = some x→vs[i]? = some v→kindOf x=some .local →
  bindL kindOf (P.zip vs) m x=some v
 | [],_,_,_,_,h,_,_=>by simp at h
 | _::_,[],_,_,_,_,h,_=>by simp at h
 | p::P,w::vs,0,m,nd,h1,h2,hk=>by
  simp at h1 h2;subst h1;subst h2
  show bindL kindOf ((p,w)::P.zip vs) m p=_
  unfold bindL
  rw[a2u fun v hv=>(List.nodup_cons.mp nd).1 (List.of_mem_zip hv).1,if_pos hk]
  simp
 | p::P,w::vs,i+1,m,nd,h1,h2,hk=>by
  show bindL kindOf ((p,w)::P.zip vs) m x=_
  unfold bindL
  exact a2w (i:=i) (List.nodup_cons.mp nd).2 (by simpa using h1) (by simpa using h2) hk
theorem a2x{kindOf:Str→Option NameKind}{x:Str}{v:Value}:∀{P:List Str} {vs:List Value} {i:Nat} {m:Str→Option Value},P.Nodup→P[i]? = some x→vs[i]? = some v→kindOf x≠some .local →
  bindC kindOf (P.zip vs) m x=some v
 | [],_,_,_,_,h,_,_=>by simp at h
 | _::_,[],_,_,_,_,h,_=>by simp at h
 | p::P,w::vs,0,m,nd,h1,h2,hk=>by
  simp at h1 h2;subst h1;subst h2
  show bindC kindOf ((p,w)::P.zip vs) m p=_
  unfold bindC
  rw[a2v fun v hv=>(List.nodup_cons.mp nd).1 (List.of_mem_zip hv).1,if_neg hk]
  simp
 | p::P,w::vs,i+1,m,nd,h1,h2,hk=>by
  show bindC kindOf ((p,w)::P.zip vs) m x=_
  unfold bindC
  exact a2x (i:=i) (List.nodup_cons.mp nd).2 (by simpa using h1) (by simpa using h2) hk
def start(N:List Str)(vs:List V):St:=vs.map some++List.replicate (N.length-vs.length) none
def K6(CX:T6)(P:Program)(w:World)(K:W.Frag)(mg:Str→Option Value)(base:Heap)(N:List Str)(qual:Str)(scope:Scope)(f:Addr)(cd:Value)(A:Around)(outer:List Env)(s:Shared)(H:Hp)(E:XK):Cx where
 prog:=P
 w:=w
 K:=K
 mg:=mg
 base:=base
 A:=A.deeper (envOfC qual scope s.heap.objs.size f cd)
 N:=N
 s₀:=s
 H₀:=H
 env:=envOfC qual scope s.heap.objs.size f cd
 outer:=outer
 stack:=envOfC qual scope s.heap.objs.size f cd::outer
 ex:=[]
 calm:=true
 fn:=fun _=>true
 pn:=[]
 xe:=fun e s'=>wpAny (model P w) (A.deeper (envOfC qual scope s.heap.objs.size f cd)) (leaving (envOfC qual scope s.heap.objs.size f cd) e) (fun _ s''=>CX outer H s E e s'') (fun e' s''=>CX outer H s E e' s'') s'
theorem a3h{sc:Scope}{n:Nat}{x:Str}(h:sc.names.lookup x=some .cell):∃c,(cellsFrom n sc.names []).lookup x=some c:=by
 have q:=W.cellsFrom_some sc.names n [] (.inl h)
 exact Option.isSome_iff_exists.mp q
theorem a51{CX:T6}{P:Program}{w:World}{K:W.Frag}{mg:Str→Option Value}{base:Heap}{N ps:List Str}{qual:Str}{scope:Scope}{f:Addr}{cd:Value}{A:Around}{outer:List Env}{s s1:Shared}{H:Hp}{E:XK}{us:List Value}{vs:List V}
  (S:FnScope N ps scope) (hd:A.handled=none) (e0:Env0 P w K mg base A outer s H) (hl:vs.length=ps.length) (r:Vals vs us)
  (x:InCallC s s.heap.objs.size (bindL (envOfC qual scope s.heap.objs.size f cd).kindOf (ps.zip us) fun _=>none) (cellsFrom (s.heap.objs.size+1) scope.names []) (bindC (envOfC qual scope s.heap.objs.size f cd).kindOf (ps.zip us) fun _=>none) s1) :
  Inv (K6 CX P w K mg base N qual scope f cd A outer s H E) [] (start N vs) H s1:=by
 have hpl:ps.length≤N.length:=by have:=congrArg List.length S.pre;rw[List.length_take]at this;omega
 obtain⟨h1,tk,rfl,hk⟩:=x.done
 have noA:∀b:Addr,b ∉ (K6 CX P w K mg base N qual scope f cd A outer s H E).ex:=fun b z=>absurd (show b∈([]:List Addr)from z) (by simp)
 refine⟨⟨e0.mod,S.kind,rfl,rfl,Nat.le_refl _,fun y z c h1 h2=>?_,fun y hy=>?_,fun y c _ h=>?_,fun _=>hd,Around.frames_deeper e0.frames,.inr ⟨rfl,rfl⟩,fun b z=>absurd z (noA b),e0.bs,e0.bsz,fun b _ _=>noA b,fun b z=>absurd z (noA b),e0.funs,e0.frf⟩,
  rfl,e0.bare,Un.kept hk,⟨_,x.toInCall.ns,fun i y v h1 h2 h3=>?_⟩,fun y c h=>⟨_,x.cell y c h⟩,e0.hok.fresh (Nat.le_refl _),fun y c h=>?_,fun p hp=>absurd (show p∈([]:List (Addr×Obj))from hp) (by simp),e0.hok.kept hk,?_⟩
 ·exact name_of_addr x.apart (PySem.mem_of_lookup h1) (PySem.mem_of_lookup h2)
 ·have hy:scope.names.lookup y=some .cell∨scope.names.lookup y=some .free:=hy
  rcases hy with hy | hy
  ·exact a3h hy
  ·exact absurd rfl (S.nofree _ (PySem.mem_of_lookup hy))
 ·exact Nat.le_of_lt (x.above y c (PySem.mem_of_lookup h))
 ·have hi:i<vs.length:=by
   unfold start at h2
   by_cases hi:i<vs.length
   ·exact hi
   ·rw[List.getElem?_append_right (by simpa using hi)]at h2
    rw[List.getElem?_replicate]at h2
    split at h2<;>cases h2
  have ha:vs[i]? = some v:=by
   unfold start at h2
   rw[List.getElem?_append_left (by simpa using hi),List.getElem?_map]at h2
   cases e:vs[i]? with
   | none=>rw[e]at h2;cases h2
   | some a=>rw[e]at h2;cases h2;rfl
  obtain⟨u,hu,rv⟩:=r.get ha
  have hp:ps[i]? = some y:=by
   rw[← S.pre,List.getElem?_take_of_lt (by omega)];exact h1
  have ndP:ps.Nodup:=by rw[← S.pre];exact S.nd.sublist (List.take_sublist _ _)
  refine⟨u,rv,?_⟩
  rcases S.par y (List.mem_of_getElem? hp)with k | k
  ·exact .inl ⟨k,a2w ndP hp hu k⟩
  ·obtain⟨c,e⟩:=a3h (n:=s.heap.objs.size+1) k
   refine .inr ⟨.inl k,c,e,?_⟩
   have q:=x.cell y c e
   rw[a2x ndP hp hu (by show scope.names.lookup y≠_;rw[k];decide)]at q
   exact q
 ·exact e0.hok.fresh (Nat.le_of_lt (x.above y c (PySem.mem_of_lookup h)))
 ·unfold start
  show _=N.length
  rw[List.length_append,List.length_map,List.length_replicate]
  omega
theorem a1o{CX:T6}{P:Program}{w:World}{K:W.Frag}{mg:Str→Option Value}{base:Heap}{k:Nat}{f:Addr}{name qual:Str}{params:Arguments}{body:List Stmt}{scope:Scope}{dV kV doc pm cdv ct oc:Value}{an od:Option Addr}
  {osl:Array (Option Value)} {N ps:List Str} {sp:Sp} (lk:K.lookup f=some ⟨oc,od,.func (W.fnOf name qual params body scope dV kV doc pm an cdv ct),osl⟩) (hcd:W.codeIn K cdv qual=true) (S:FnScope N ps scope)
  (len:∀vs H Q E,sp vs H Q E→vs.length=ps.length)
  (hbody:∀(A:Around) (outer:List Env) (s:Shared) (H:Hp) (vs:List V) (Q:VK) (E:XK),Room k (A.deeper (envOfC qual scope s.heap.objs.size f cdv))→sp vs H Q E →
   ∃t,PSs (K6 CX P w K mg base N qual scope f cdv A outer s H E) body t∧t { nx:=fun _ H'=>Q .non H',rt:=Q } (start N vs) H) :
  FnOk P w K mg base CX (k+1) f (W.fnOf name qual params body scope dV kV doc pm an cdv ct) ps sp:=by
 refine⟨len,fun A outer s H args us vs Q E hr e0 hb r hsp=>?_⟩
 have hl:=len _ _ _ _ hsp
 have KX:K.In s.heap:=e0.mod.kin.keeps fun b o e=>(e0.bs b o e).1
 have lim:s.heap.NoLimit:=e0.mod.nolimit.keeps fun b o e=>(e0.bs b o e).1
 have hkind:∀y∈ps.zip us,scope.names.lookup y.1=some .local∨(scope.names.lookup y.1=some .cell∧((cellsFrom (s.heap.objs.size+1) scope.names []).lookup y.1).isSome=true):=fun⟨n,v⟩ hy=>by
  rcases S.par n (List.of_mem_zip hy).1 with q | q
  ·exact .inl q
  ·exact .inr ⟨q,W.cellsFrom_some _ _ _ (.inl q)⟩
 refine codeAny_call_function hr.depth (KX _ _ lk) rfl S.co S.gen rfl (W.codeRec_of KX hcd) (hb _ _ _ _ ?_)
 refine wpAny_newFunctionEnv_cells S.kind hkind fun env he s1 x=>?_
 subst he
 refine⟨lim.keeps x.toInCall.keep,codeAny_func ?_⟩
 obtain⟨t,ht,hq⟩:=hbody A outer s H vs Q E (hr.deeper _) hsp
 have I:Inv (K6 CX P w K mg base N qual scope f cdv A outer s H E) [] (start N vs) H s1:=a51 S hr.hd e0 hl r x
 refine wpAny_mono (ht [] s1 (start N vs) H _ I hq) (fun fl s' hs=>?_) fun e s' hs=>hs
 have fin:∀{σ':St} {H':Hp} {v:V} {u:Value},Inv (K6 CX P w K mg base N qual scope f cdv A outer s H E) [] σ' H' s'→RelV v u→Q v H'→CE outer P w H s Q u s' :=
  fun{σ' H' v u} J rv q=>⟨v,H',J.os,J.bare,J.base,J.hok,rv,q⟩
 cases fl with
 | ret u =>
  obtain⟨v,σ',H',J,rv,q⟩:=hs
  exact fin J rv q
 | next =>
  obtain⟨σ',H',J,q⟩:=hs
  exact fin (v:=V.non) (u:=Value.none) J rfl q
 | brk =>
  obtain⟨_,_,_,q⟩:=hs
  exact False.elim q
 | cont =>
  obtain⟨_,_,_,q⟩:=hs
  exact False.elim q
section
variable {X:Cx}{x:Str}{p pos:Pos}{e:Expr}{es:List Expr}{t:TA}{id T:String}{r:List V→Hp→VK→Prop}
def tCB(r:List V→Hp→VK→Prop)(t:TA):TE:=fun σ H Q=>t σ H fun vs H1=>r vs H1 Q
theorem t8(hc:F8 X (.builtin id) r)(hg:Gl X x)(hm:X.mg x=none)(hv:bootBuiltins x=some (.builtin id))(ha:PA X (e::es) t)(hn:x≠"__name__" := by decide)(hdb:(x == ("__debug__" : Str))=false:=by decide)
  (he:starEach (e::es) X.env=(false,eval e X.env)::starEach es X.env:=by rfl) (hpl:(backTo pos (starEach es X.env)).any (·.1)=false:=by rfl):PE X (.Call (.Name x p) (e::es) [] pos) (tCB r t):=by
 intro pins s σ H Q I h
 refine wpAny_Call_Name_kw (V5 I hg hm hv ?_ hn hdb)
 exact PyProof.Rows.callWith_builtin1 (i4 (ha pos pins s σ H _ I h) fun us s1 ⟨vs,H1,I1,r1,q1⟩=>hc pins s1 σ H1 vs us Q I1 r1 q1) he hpl
theorem O5(hc:F8 X (.type T) r)(hg:Gl X x)(hm:X.mg x=none)(hv:bootBuiltins x=some (.type T))(ha:PA X (e::es) t)(hn:x≠"__name__" := by decide)(hdb:(x == ("__debug__" : Str))=false:=by decide)
  (he:starEach (e::es) X.env=(false,eval e X.env)::starEach es X.env:=by rfl) (hpl:(backTo pos (starEach es X.env)).any (·.1)=false:=by rfl):PE X (.Call (.Name x p) (e::es) [] pos) (tCB r t):=by
 intro pins s σ H Q I h
 refine wpAny_Call_Name_kw (V5 I hg hm hv ?_ hn hdb)
 exact PyProof.Rows.callWith_type1 (i4 (ha pos pins s σ H _ I h) fun us s1 ⟨vs,H1,I1,r1,q1⟩=>hc pins s1 σ H1 vs us Q I1 r1 q1) he hpl
end
end L2
namespace HT
open PySem PyProof.Rows
def lexLt:List Int→List Int→Bool
 | [],[]=>false
 | [],_::_=>true
 | _::_,[]=>false
 | x::xs,y::ys=>if x=y then lexLt xs ys else decide (x<y)
theorem lexLt_cons(x y:Int)(xs ys:List Int):lexLt (x::xs) (y::ys)=if x=y then lexLt xs ys else decide (x<y):=rfl
theorem lexLt_nil_nil:lexLt [] []=false:=rfl
theorem a1Z(y:Int)(ys:List Int):lexLt [] (y::ys)=true:=rfl
theorem a10(x:Int)(xs:List Int):lexLt (x::xs) []=false:=rfl
theorem a3i(A:Around)(s:Shared)(a:Int)(t:Tok)(c:Int)(u:Tok):∃e,SeqAt.EqAt A s (.int a t) (.int c u) e∧(e=true↔a=c) :=
 ⟨(a == c),SeqAt.EqAt.int_int a t c u,by simp⟩
theorem a3j(A:Around)(s:Shared)(a:Int)(t:Tok)(c:Int)(u:Tok)(prog:Program)(w:World)(E:Value→Shared→Prop)(Q:Value→Shared→Prop)(h:Q (.bool (decide (a<c))) s) :
  wpAny (model prog w) A (richCompare .Lt (.int a t) (.int c u)) Q E s :=
 (PyProof.Rows.lt_int h:wpAny (model prog w) A (compareOp .Lt (.int a t) (.int c u)) Q E s)
section
open PySem.SeqAt
open PySem.AutoSeq1 (wpAny_loadPart')
open PySem.MeetsSeq PySem.MeetsSeq2 PySem.MeetsSeq3
theorem a2V(l b:Addr)(items items2:Array Value)(n n2:Nat)(dd dd2:Option Addr)(sl sl2:Array (Option Value))(ns ms:List Int)(hi:IntsAre items.toList ns)(hj:IntsAre items2.toList ms) :
  Meets (Builtin.«tuple.__lt__» ⟨[.ref l,.ref b],[]⟩)
   (fun _ R s=>s.heap.get? l=some { cls:=.type "tuple",dict:=dd,data:=.seq items n,slots:=sl }∧s.heap.get? b=some { cls:=.type "tuple",dict:=dd2,data:=.seq items2 n2,slots:=sl2 } ∧
    R (.ok (.ret (.bool (lexLt ns ms)))) s) :=
 .of_wp fun prog w A R s h=>by
  obtain⟨hp,g,d,tk,os⟩:=s;obtain⟨hl,hb,h⟩:=h
  have f2:=AutoSeq1.sub_tuple_tuple
  have z1:items.size=ns.length:=by rw[← hi.length];simp
  have z2:items2.size=ms.length:=by rw[← hj.length];simp
  wp_walk using wpAny_loadPart' hl,wpAny_loadPart' hb,wpAny_forIn_list _ (fun t7 b s'=>b.1=none∧s'=⟨hp,g,d,tk,os⟩∧∃(vs ws:List Value) (ns' ms':List Int),t7=vs.zip ws ∧
   IntsAre vs ns'∧IntsAre ws ms'∧ns'.length+items2.size=ms'.length+items.size∧R (.ok (.ret (.bool (lexLt ns' ms')))) ⟨hp,g,d,tk,os⟩) _
  case turn =>
   rintro⟨y,x⟩ t7 b s' ⟨hb',rfl,vs,ws,ns',ms',hz,hvi,hwi,hlen,hR⟩
   cases hvi with
   | nil=>rw[List.zip_nil_left]at hz;cases hz
   | cons a t hvi' =>
    cases hwi with
    | nil=>rw[List.zip_nil_right]at hz;cases hz
    | cons c u hwi' =>
     rw[List.zip_cons_cons]at hz
     injection hz with hyx hrest
     injection hyx with hy hx
     subst hy hx
     rw[lexLt_cons]at hR
     simp only[List.length_cons]at hlen
     obtain⟨e,he,hiff⟩:=a3i A.in1 ⟨hp,g,d,tk,os⟩ a t c u
     refine wpAny_bind (he prog w _ _ ?_)
     cases e with
     | true =>
      rw[if_pos (hiff.mp rfl)]at hR
      wp_walk
      exact⟨rfl,rfl,_,_,_,_,hrest,hvi',hwi',by omega,hR⟩
     | false =>
      rw[if_neg (fun q=>absurd (hiff.mpr q) Bool.false_ne_true)]at hR
      have hri:=a3j A.in1 ⟨hp,g,d,tk,os⟩ a t c u prog w
      wp_walk using hri
      exact⟨_,rfl,by simpa using hR⟩
  case fin =>
   rintro⟨b1,b2⟩ s' ⟨hb',rfl,vs,ws,ns',ms',hz,hvi,hwi,hlen,hR⟩
   simp only at hb'
   subst hb'
   have hv:lexLt ns' ms'=decide (items.size<items2.size):=by
    cases hvi with
    | nil =>
     cases hwi with
     | nil =>
      simp only[List.length_nil]at hlen
      rw[lexLt_nil_nil]
      exact(decide_eq_false (by omega)).symm
     | cons c u hw =>
      simp only[List.length_nil,List.length_cons]at hlen
      rw[a1Z]
      exact(decide_eq_true (by omega)).symm
    | cons a t hv =>
     cases hwi with
     | nil =>
      simp only[List.length_nil,List.length_cons]at hlen
      rw[a10]
      exact(decide_eq_false (by omega)).symm
     | cons c u hw =>
      rw[List.zip_cons_cons]at hz
      cases hz
   rw[hv]at hR
   wp_walk
   exact⟨_,rfl,by simpa [Builtin.Tuple.tupleCompareSizes]using hR⟩
  case h =>
   exact⟨rfl,rfl,items.toList,items2.toList,ns,ms,rfl,hi,hj,by omega,h⟩
end
section
variable {prog:Program}{w:World}{A:Around}{E:Value→Shared→Prop}{s:Shared}
theorem lt_tupInts{l b:Addr}{items items2:Array Value}{ns ms:List Int}{Q:Value→Shared→Prop}(hl:IsTup s.heap l items)(hb:IsTup s.heap b items2)(hi:IntsAre items.toList ns)(hj:IntsAre items2.toList ms)
  (hu:A.units<cLine) (h:Q (.bool (lexLt ns ms)) s):wpAny (model prog w) A (compareOp .Lt (.ref l) (.ref b)) Q E s:=by
 obtain⟨⟨cls,dd,data,sl⟩,ho,hc,n,hd⟩:=id hl
 obtain⟨⟨cls2,dd2,data2,sl2⟩,ho2,hc2,n2,hd2⟩:=id hb
 simp only at hc hd hc2 hd2
 subst hc hd hc2 hd2
 exact richCompare_meets_room (op:=.Lt) ⟨_,ho,rfl⟩ ⟨_,ho2,rfl⟩ PySem.F.slot_tuple_lt PySem.F.entry_tuple_lt (PySem.F.args_tuple_lt_2 _ _) (a2V l b items items2 n n2 dd dd2 sl sl2 ns ms hi hj)
  ⟨ho,ho2,show Value.bool (lexLt ns ms)≠Value.notImplemented∧Q (.bool (lexLt ns ms)) s from⟨(fun x=>nomatch x),h⟩⟩ hu
def sIx(n d:Nat):Option Int→Nat
 | none=>d
 | some v=>if v<0 then(v+(n:Int)).toNat else min v.toNat n
theorem sIx_nat(n d k:Nat):sIx n d (some (k:Int))=min k n:=by
 show(if(k:Int)<0 then((k:Int)+(n:Int)).toNat else min (k:Int).toNat n)=min k n
 rw[if_neg (by omega),Int.toNat_natCast]
end
end HT
namespace L2
open PySem PySem.Spec PyProof.Rows
abbrev TO:=St→Hp→(Option Int→Hp→Prop)→Prop
def PO(X:Cx)(e:Option Expr)(t:TO):Prop :=
 ∀(pins:List (Addr×Obj)) (s:Shared) (σ:St) (H:Hp) (Q:Option Int→Hp→Prop),Inv X pins σ H s→t σ H Q →
  wpAny (model X.prog X.w) X.A (evalPart e X.env) (fun u s'=>∃o H',Inv X pins σ H' s'∧IsPart u o∧Q o H') X.xe s
def a8S(t:TE):TO:=fun σ H Q=>t σ H fun x H1=>∃i,x=.int i∧Q (some i) H1
theorem a1p{ns:List Int}:∀{us:List Value},Vals (ns.map V.int) us→IntsAre us ns:=by
 induction ns with
 | nil=>intro us r;rw[List.map_nil]at r;cases r;exact .nil
 | cons n ns ih =>
  intro us r
  rw[List.map_cons]at r
  cases r with
  | cons r1 r2 =>
   obtain⟨t,e⟩:=r1
   subst e
   exact .cons n t (ih r2)
section
variable {X:Cx}{e:Expr}{te:TE}{lo hi:Option Expr}{tl th:TO}{pos p2:Pos}
theorem a0y(h:PE X e te):PO X (some e) (a8S te):=by
 intro pins s σ H Q I hw
 rw[evalPart_some]
 refine i4 (h pins s σ H _ I hw) fun u s1 ⟨x,H1,I1,r1,q1⟩=>?_
 obtain⟨i,rfl,q⟩:=q1
 obtain⟨t,rfl⟩:=r1
 exact⟨some i,H1,I1,.int i t,q⟩
def SlR(X:Cx)(r:V→Option Int→Option Int→Hp→VK→Prop):Prop :=
 ∀(pins:List (Addr×Obj)) (s:Shared) (σ:St) (H:Hp) (x:V) (v vl vu:Value) (lo hi:Option Int) (sl:Addr) (Q:VK),Inv X pins σ H s→RelV x v→s.heap.IsSliceOf sl vl vu .none→IsPart vl lo→IsPart vu hi→r x lo hi H Q →
  ∃T id,typeLookup (.type T) "__getitem__" = pure (some (.builtin id))∧s.TypeIs v T∧wpAny (model X.prog X.w) X.A (getItem v (.ref sl)) (EP X pins σ Q) X.xe s
def tSl(r:V→Option Int→Option Int→Hp→VK→Prop)(te:TE)(tl th:TO):TE:=fun σ H Q=>te σ H fun x H1=>tl σ H1 fun l H2=>th σ H2 fun u H3=>r x l u H3 Q
theorem a3k{r:V→Option Int→Option Int→Hp→VK→Prop}(hr:SlR X r)(he:PE X e te)(hl:PO X lo tl)(hu:PO X hi th):PE X (.Subscript e (.Slice lo hi none p2) pos) (tSl r te tl th):=by
 intro pins s σ H Q I h
 refine Subscript_ (i4 (he pins s σ H _ I h) fun v s1 ⟨x,H1,I1,r1,q1⟩=>?_)
 refine wpAny_Slice (i4 (hl pins s1 σ H1 _ I1 q1) fun vl s2 ⟨l,H2,I2,pl,q2⟩=>i4 (hu pins s2 σ H2 _ I2 q2) fun vu s3 ⟨u,H3,I3,pu,q3⟩=>?_)
 rw[evalPart_none]
 refine wpAny_pure ?_
 have I4:Inv X pins σ H3 { s3 with heap:=s3.heap.push { cls:=.type "slice",data:=.fields #[vl,vu,.none] } }:=I3.kept (t':=s3.toks) fun b ob q=>Heap.get?_push_of_some _ q
 obtain⟨T,id,hT,ht,hg⟩:=hr pins { s3 with heap:=s3.heap.push { cls:=.type "slice",data:=.fields #[vl,vu,.none] } } σ H3 x v vl vu l u s3.heap.objs.size Q I4 r1 (Heap.IsSliceOf.new ..) pl pu q3
 show wpAny (model X.prog X.w) X.A (subscriptTail e (.Slice lo hi none p2) v (.ref s3.heap.objs.size)) (EP X pins σ Q) X.xe { s3 with heap:=s3.heap.push { cls:=.type "slice",data:=.fields #[vl,vu,.none] } }
 exact tail_any (ops:=[.ref s3.heap.objs.size,v]) ht hT hg (by with_unfolding_all rfl)
def a11(xs:List V)(lo hi:Option Int):List V:=(xs.drop (HT.sIx xs.length 0 lo)).take (HT.sIx xs.length xs.length hi-HT.sIx xs.length 0 lo)
theorem a4a(xs:List V)(lo hi:Option Int):(a11 xs lo hi).length≤xs.length:=by
 unfold a11
 rw[List.length_take,List.length_drop]
 omega
def a7q(K:W.Frag):R2:=fun x y H Q=>∃a b ns ms,x=.ref a∧y=.ref b∧SqT K H a (ns.map V.int)∧SqT K H b (ms.map V.int)∧Q (.bl (HT.lexLt ns ms)) H
theorem b0V(hu:X.A.units<cLine):B8 X (compareOp .Lt) (a7q X.K):=by
 intro pins s σ H x y v u Q I rx ry h
 obtain⟨a,b,ns,ms,rfl,rfl,ha,hb,q⟩:=h
 cases rx
 cases ry
 obtain⟨its,r1,p1,_⟩:=I.tuple ha
 obtain⟨its2,r2,p2,_⟩:=I.tuple hb
 have i1:IntsAre its.toArray.toList ns:=a1p r1
 have i2:IntsAre its2.toArray.toList ms:=a1p r2
 exact HT.lt_tupInts p1 p2 i1 i2 hu ⟨.bl (HT.lexLt ns ms),H,I,rfl,q⟩
end
def L9(n:Nat)(i:Int):Option Nat:=if 0≤i then(if i<n then some i.toNat else none)else if -(n:Int)≤i then some (i+n).toNat else none
def atI{α:Type}(xs:List α)(i:Int):Option α:=(L9 xs.length i).bind fun j=>xs[j]?
theorem a4x{n:Nat}{i:Int}{j:Nat}(h:L9 n i=some j):seqIndex? i n=some j∧j<n∧-(n:Int)≤i∧i<n:=by
 unfold L9 at h
 by_cases h0:0≤i
 ·rw[if_pos h0]at h
  by_cases h1:i<n
  ·rw[if_pos h1]at h
   have e:i.toNat=j:=Option.some.inj h
   exact⟨by rw[seqIndex_of h0 h1,e],by omega,by omega,h1⟩
  ·rw[if_neg h1]at h;cases h
 ·rw[if_neg h0]at h
  by_cases h1 : -(n:Int)≤i
  ·rw[if_pos h1]at h
   have e:(i+n).toNat=j:=Option.some.inj h
   exact⟨by rw[seqIndex_neg (by omega) h1,e],by omega,h1,by omega⟩
  ·rw[if_neg h1]at h;cases h
theorem a4y{α:Type}{xs:List α}{i:Int}{v:α}(h:atI xs i=some v):∃j,seqIndex? i xs.length=some j∧xs[j]? = some v∧j<xs.length∧-(xs.length:Int)≤i∧i<xs.length:=by
 unfold atI at h
 cases e:L9 xs.length i with
 | none=>rw[e]at h;cases h
 | some j =>
  rw[e]at h
  obtain⟨h1,h2,h3,h4⟩:=a4x e
  exact⟨j,h1,h,h2,h3,h4⟩
theorem a4z{α:Type}{xs:List α}{j:Nat}{v:α}(h:xs[j]? = some v):atI xs (j:Int)=some v:=by
 have hj:j<xs.length:=(List.getElem?_eq_some_iff.mp h).1
 have e:L9 xs.length (j:Int)=some j:=by
  unfold L9
  rw[if_pos (by omega),if_pos (by omega)];simp
 unfold atI;rw[e];exact h
def a9g(b:Expr):Prop:=∀o i,subscripted b false o i=operate [o,i] (getItem o i)
def IxR(X:Cx)(r:R2):Prop :=
 ∀(value slice:Expr) (pins:List (Addr×Obj)) (s:Shared) (σ:St) (H:Hp) (x y:V) (v u:Value) (Q:VK),Inv X pins σ H s→RelV x v→RelV y u→r x y H Q →
  subscripted slice false v u=operate [v,u] (getItem v u)→wpAny (model X.prog X.w) X.A (subscriptTail value slice v u) (EP X pins σ Q) X.xe s
def MtR(X:Cx)(id:String)(r:V→List V→Hp→VK→Prop):Prop :=
 ∀(pins:List (Addr×Obj)) (s:Shared) (σ:St) (H:Hp) (x:V) (xs:List V) (v:Value) (us:List Value) (Q:VK),Inv X pins σ H s→RelV x v→Vals xs us→r x xs H Q →
  wpAny (model X.prog X.w) X.A (call (.builtin id) (v::us)) (EP X pins σ Q) X.xe s
section
variable {X:Cx}{a b:Expr}{ta tb:TE}{pos:Pos}
theorem e7{r:R2}(hr:IxR X r)(ha:PE X a ta)(hb:PE X b tb)(hs:a9g b):PE X (.Subscript a b pos) (tOp r ta tb):=by
 intro pins s σ H Q I h
 exact Subscript_ (a7p ha hb I h fun v u s2 x y H2 I2 rx ry q=>hr a b pins s2 σ H2 x y v u Q I2 rx ry q (hs _ _))
def a7r(K:W.Frag):R2:=fun x y H Q=>∃p xs i v,x=.ref p∧y=.int i∧SqL K H p xs∧atI xs i=some v∧Q v H
def a7s(K:W.Frag):R2:=fun x y H Q=>∃p xs i v,x=.ref p∧y=.int i∧SqT K H p xs∧atI xs i=some v∧Q v H
theorem a9h:IxR X (a7r X.K):=by
 intro value slice pins s σ H x y v u Q I rx ry h hs
 obtain⟨p,xs,i,z,rfl,rfl,hq,he,q⟩:=h
 cases rx
 obtain⟨t,rfl⟩:=ry
 obtain⟨its,r,pl,hz⟩:=I.list hq
 obtain⟨j,h1,h2,h3,h4,h5⟩:=a4y he
 obtain⟨w,ew,rw'⟩:=r.get h2
 have hl:=r.length
 have hn:=a1n
 have fin:EP X pins σ Q w s:=⟨z,H,I,rw',q⟩
 by_cases h0:0≤i
 ·have hj:i.toNat=j:=by
   rw[seqIndex_of h0 h5]at h1
   exact Option.some.inj h1
  exact item_listR pl.isList h0 (by omega) (by rw[hj];simpa using ew) fin hs
 ·have hj:(i+(its.toArray.size:Int)).toNat=j:=by
   rw[seqIndex_neg (by omega) h4]at h1
   rw[List.size_toArray,← hl]
   exact Option.some.inj h1
  exact subscriptTail_builtinR (x:=w) pl.isList.typeIs slot_list_getitem.lookup
   (wpAny_getItem_list_neg (Q:=fun r s'=>r=w∧EP X pins σ Q r s') pl.isList (by omega) (by rw[List.size_toArray]<;>omega) (by omega) (by rw[hj];simpa using ew) ⟨rfl,fin⟩) hs
theorem b0W:IxR X (a7s X.K):=by
 intro value slice pins s σ H x y v u Q I rx ry h hs
 obtain⟨p,xs,i,z,rfl,rfl,hq,he,q⟩:=h
 cases rx
 obtain⟨t,rfl⟩:=ry
 obtain⟨its,r,pl,hz⟩:=I.tuple hq
 obtain⟨j,h1,h2,h3,h4,h5⟩:=a4y he
 obtain⟨w,ew,rw'⟩:=r.get h2
 have hl:=r.length
 have hn:=a1n
 have fin:EP X pins σ Q w s:=⟨z,H,I,rw',q⟩
 exact subscriptTail_builtinR (x:=w) pl.typeIs slot_tuple_getitem.lookup
  (getItem_tuple (j:=j) (Q:=fun r s'=>r=w∧EP X pins σ Q r s') pl (by omega) (by omega) (by rw[List.size_toArray,← hl];exact h1) (by simpa using ew) ⟨rfl,fin⟩) hs
theorem a5a(its:List Value)(n j:Nat)(u:Value):Obj.mapSeq (·.setIfInBounds j u) { cls:=.type "list",data:=.seq its.toArray n }={ cls:=.type "list",data:=.seq (its.set j u).toArray n }:=by
 simp[Obj.mapSeq]
theorem Inv.lst{pins:List (Addr×Obj)}{σ:St}{H:Hp}{s:Shared}{p:Addr}{xs:List V}(I:Inv X pins σ H s)(h:H p=some (.lst xs)) :
  ∃(its:List Value) (n:Nat),Vals xs its∧s.heap.get? p=some { cls:=.type "list",data:=.seq its.toArray n }∧xs.length≤sizeLine:=by
 obtain⟨z,its,n,r,e⟩:=I.hok p _ h
 exact⟨its,n,r,e,z⟩
theorem Inv.lstUpd{pins:List (Addr×Obj)}{σ:St}{H:Hp}{s:Shared}{p:Addr}{xs ys:List V}{its its':List Value}{n n':Nat}{f:Obj→Obj}(I:Inv X pins σ H s)(h:H p=some (.lst xs))
  (ho:s.heap.get? p=some { cls:=.type "list",data:=.seq its.toArray n }) (hf:f { cls:=.type "list",data:=.seq its.toArray n }={ cls:=.type "list",data:=.seq its'.toArray n' }) (r:Vals ys its') (hz:ys.length≤sizeLine) (t:Nat) :
  Inv X pins σ (upd H p (.lst ys)) { s with heap:=s.heap.update p f,toks:=t }:=by
 have e:(s.heap.update p f).get? p=some { cls:=.type "list",data:=.seq its'.toArray n' }:=by
  rw[Heap.get?_update_self f ho (by rw[hf]<;>rfl),hf]
 refine I.write (x:=p) (e:=p) (by rw[h];trivial) (.inl rfl) (fun b u hb q=>(Heap.get?_update_other _ _ (Ne.symm hb)).trans q) ⟨_,e⟩ ?_
 exact⟨hz,its',n',r,e⟩
def a8U:V→V→V→Hp→(Hp→Prop)→Prop:=fun o i v H Q=>∃p xs k j,o=.ref p∧i=.int k∧H p=some (.lst xs)∧L9 xs.length k=some j∧Q (upd H p (.lst (xs.set j v)))
theorem a7t:b0J X a8U:=by
 intro pins s σ H o i v ov iv u Q I ro ri rv h
 obtain⟨p,xs,k,j,rfl,rfl,hp,hj,q⟩:=h
 cases ro
 obtain⟨t,rfl⟩:=ri
 obtain⟨its,n,r,ho,hz⟩:=I.lst hp
 obtain⟨h1,h2,h3,h4⟩:=a4x hj
 have hl:=r.length
 have hn:=a1n
 have I':Inv X pins σ (upd H p (.lst (xs.set j v))) { s with heap:=s.heap.update p (Obj.mapSeq (·.setIfInBounds j u)) } :=
  I.lstUpd hp ho (a5a its n j u) (r.set rv j) (by rw[List.length_set];exact hz) s.toks
 by_cases h0:0≤k
 ·have hk:k.toNat=j:=by
   rw[seqIndex_of h0 h4]at h1
   exact Option.some.inj h1
  exact W.ki_setAt ho h0 (by omega) (by rw[List.size_toArray,← hl];exact h4) (by rw[hk];exact⟨_,I',q⟩)
 ·have hk:(k+(its.toArray.size:Int)).toNat=j:=by
   rw[seqIndex_neg (by omega) h3]at h1
   rw[List.size_toArray,← hl]
   exact Option.some.inj h1
  exact W.ki_setBack ho (by omega) (by rw[List.size_toArray,← hl];exact h3) (by omega) (by rw[hk];exact⟨_,I',q⟩)
theorem a3l(lo hi:Option Int)(n:Nat):(sliceBounds lo hi none n).1=((HT.sIx n 0 lo:Nat):Int)∧(sliceBounds lo hi none n).2.1=((HT.sIx n n hi:Nat):Int)∧(sliceBounds lo hi none n).2.2=1:=by
 refine⟨?_,?_,rfl⟩
 ·cases lo with
  | none=>simp[sliceBounds,HT.sIx]
  | some i =>
   simp only[sliceBounds,HT.sIx,Option.getD_none,show(1:Int) > 0 by decide,if_true]
   by_cases h:i<0
   ·simp only[h,if_true]<;>omega
   ·simp only[h,if_false]<;>omega
 ·cases hi with
  | none=>simp[sliceBounds,HT.sIx]
  | some i =>
   simp only[sliceBounds,HT.sIx,Option.getD_none,show(1:Int) > 0 by decide,if_true]
   by_cases h:i<0
   ·simp only[h,if_true]<;>omega
   ·simp only[h,if_false]<;>omega
theorem a2W(its:List Value)(lo hi:Option Int):slicePick its.toArray lo hi none=((its.drop (HT.sIx its.length 0 lo)).take (HT.sIx its.length its.length hi-HT.sIx its.length 0 lo)).toArray:=by
 obtain⟨h1,h2,h3⟩:=a3l lo hi its.toArray.size
 unfold slicePick
 rw[h1,h2,h3]
 simp only[sliceRange_one,pick_run,List.size_toArray]<;>rfl
def a7u(K:W.Frag):V→Option Int→Option Int→Hp→VK→Prop:=fun x lo hi H Q=>∃a xs,x=.ref a∧SqL K H a xs∧∀p,H p=none→Q (.ref p) (upd H p (.lst (a11 xs lo hi)))
theorem a9i:SlR X (a7u X.K):=by
 intro pins s σ H x v vl vu lo hi sl Q I rx hs pl pu h
 obtain⟨a,xs,rfl,hx,q⟩:=h
 cases rx
 obtain⟨its,r,ht,hz⟩:=I.list hx
 have hlen:=r.length
 refine⟨"list",_,slot_list_getitem.lookup,ht.isList.typeIs,?_⟩
 refine wpAny_getItem_list_slice ht.isList hs pl pu .none (by simp) ?_ (by rw[List.size_toArray]<;>omega)
 rw[a2W,← hlen]
 refine⟨.ref s.heap.objs.size,_,I.laid (t':=s.toks) (o:=.lst (a11 xs lo hi)) (fun b ob q=>Heap.get?_push_of_some _ q) (Nat.le_refl _) ?_,rfl,q _ (I.hok.fresh (Nat.le_refl _))⟩
 exact⟨Nat.le_trans (a4a xs lo hi) hz,_,0,(r.drop (HT.sIx xs.length 0 lo)).take (HT.sIx xs.length xs.length hi-HT.sIx xs.length 0 lo),Heap.get?_push_size _ rfl⟩
def N9:V→Bool
 | .non=>true
 | .bl _=>true
 | .int _=>true
 | .str _=>true
 | _=>false
def eqV:V→V→Bool
 | .non,.non=>true
 | .bl a,.bl b=>a == b
 | .bl a,.int b=>(if a then 1 else 0) == b
 | .int a,.bl b=>a == (if b then 1 else 0)
 | .int a,.int b=>a == b
 | .str a,.str b=>a == b
 | _,_=>false
theorem a53{A:Around}{s:Shared}{y x:V}{u v:Value}(ry:RelV y u)(rx:RelV x v)(fy:N9 y=true)(fx:N9 x=true):SeqAt.EqAt A s u v (eqV y x):=by
 cases y with
 | non =>
  cases ry
  cases x with
  | non=>cases rx;exact SeqAt.EqAt.same _
  | bl b=>cases rx;exact SeqAt.EqAt.none_bool b
  | int b=>obtain⟨t,rfl⟩:=rx;exact SeqAt.EqAt.none_int b t
  | str b=>obtain⟨t,rfl⟩:=rx;exact SeqAt.EqAt.none_str b t
  | _=>exact absurd (show false=true from fx) Bool.false_ne_true
 | bl a =>
  cases ry
  cases x with
  | non=>cases rx;exact SeqAt.EqAt.bool_none a
  | bl b=>cases rx;exact SeqAt.EqAt.bool_bool a b
  | int b=>obtain⟨t,rfl⟩:=rx;exact SeqAt.EqAt.bool_int a b t
  | str b=>obtain⟨t,rfl⟩:=rx;exact SeqAt.EqAt.bool_str a b t
  | _=>exact absurd (show false=true from fx) Bool.false_ne_true
 | int a =>
  obtain⟨t',rfl⟩:=ry
  cases x with
  | non=>cases rx;exact SeqAt.EqAt.int_none a t'
  | bl b=>cases rx;exact SeqAt.EqAt.int_bool a t' b
  | int b=>obtain⟨t,rfl⟩:=rx;exact SeqAt.EqAt.int_int a t' b t
  | str b=>obtain⟨t,rfl⟩:=rx;exact SeqAt.EqAt.int_str a t' b t
  | _=>exact absurd (show false=true from fx) Bool.false_ne_true
 | str a =>
  obtain⟨t',rfl⟩:=ry
  cases x with
  | non=>cases rx;exact SeqAt.EqAt.str_none a t'
  | bl b=>cases rx;exact SeqAt.EqAt.str_bool a t' b
  | int b=>obtain⟨t,rfl⟩:=rx;exact SeqAt.EqAt.str_int a t' b t
  | str b=>obtain⟨t,rfl⟩:=rx;exact SeqAt.EqAt.str_str a t' b t
  | _=>exact absurd (show false=true from fx) Bool.false_ne_true
 | _=>exact absurd (show false=true from fy) Bool.false_ne_true
def eqU(x:V)(u:Value):Bool:=match u with
 | .none=>eqV .non x
 | .bool b=>eqV (.bl b) x
 | .int i _=>eqV (.int i) x
 | .str z _=>eqV (.str z) x
 | _=>false
theorem a54{x y:V}{u:Value}(r:RelV y u)(f:N9 y=true):eqU x u=eqV y x:=by
 cases y with
 | non=>cases r;rfl
 | bl b=>cases r;rfl
 | int i=>obtain⟨t,rfl⟩:=r;rfl
 | str z=>obtain⟨t,rfl⟩:=r;rfl
 | _=>exact absurd (show false=true from f) Bool.false_ne_true
theorem a12{x:V}:∀{xs:List V} {us:List Value},Vals xs us→xs.all N9=true→us.any (eqU x)=xs.any fun y=>eqV y x
 | _,_,.nil,_=>rfl
 | y::xs,u::us,.cons r t,f=>by
  rw[List.all_cons,Bool.and_eq_true]at f
  rw[List.any_cons,List.any_cons,a54 r f.1,a12 t f.2]
theorem a00{A:Around}{s:Shared}{x:V}{v:Value}(rx:RelV x v)(fx:N9 x=true):∀{xs:List V} {us:List Value},Vals xs us→xs.all N9=true→∀u∈us,SeqAt.EqAt A s u v (eqU x u)
 | _,_,.nil,_=>fun u hu=>by cases hu
 | y::xs,u::us,.cons r t,f=>fun u' hu=>by
  rw[List.all_cons,Bool.and_eq_true]at f
  rcases List.mem_cons.mp hu with rfl | hu
  ·rw[a54 r f.1];exact a53 r rx f.1 fx
  ·exact a00 rx fx t f.2 u' hu
def inV(x:V)(xs:List V):Bool:=xs.any fun y=>eqV y x
def rIn(K:W.Frag)(neg:Bool):R2:=fun x y H Q=>∃p xs,y=.ref p∧(SqL K H p xs∨SqT K H p xs)∧N9 x=true∧xs.all N9=true∧Q (.bl (if neg then !inV x xs else inV x xs)) H
theorem a3m:B8 X (compareOp .NotIn) (rIn X.K true):=by
 intro pins s σ H x y v u Q I rx ry h
 obtain⟨p,xs,rfl,hq,fx,fs,q⟩:=h
 cases ry
 rcases hq with hq | hq
 ·obtain⟨its,r,pl,hz⟩:=I.list hq
  refine SeqAt.notIn_listAt (eqU x) pl.isList (fun w hw=>a00 rx fx r fs w (by simpa using hw)) ⟨.bl _,H,I,rfl,?_⟩
  rw[show its.toArray.any (eqU x)=its.any (eqU x) by simp,a12 r fs]
  exact q
 ·obtain⟨its,r,pl,hz⟩:=I.tuple hq
  refine SeqAt.notIn_tupleAt (eqU x) pl (fun w hw=>a00 rx fx r fs w (by simpa using hw)) ⟨.bl _,H,I,rfl,?_⟩
  rw[show its.toArray.any (eqU x)=its.any (eqU x) by simp,a12 r fs]
  exact q
theorem a3n:F8 X (.builtin "len") (fun xs H Q=>∃p ys,xs=[.ref p]∧(SqL X.K H p ys∨SqT X.K H p ys)∧Q (.int ys.length) H):=by
 intro pins s σ H xs us Q I r h
 obtain⟨p,ys,rfl,hq,q⟩:=h
 obtain⟨u,rfl,rx⟩:=a4_ r
 cases rx
 have hn:=a1n
 rcases hq with hq | hq
 ·obtain⟨its,r',pl,hz⟩:=I.list hq
  have hlen:=r'.length
  exact Calls.call_len_list pl.isList (by simp only[List.size_toArray]<;>omega) ⟨.int ys.length,H,I.tok _,⟨s.toks+1,by rw[List.size_toArray,hlen]⟩,q⟩
 ·obtain⟨its,r',pl,hz⟩:=I.tuple hq
  have hlen:=r'.length
  exact len_tuple pl (by simp only[List.size_toArray]<;>omega) ⟨.int ys.length,H,I.tok _,⟨s.toks+1,by rw[List.size_toArray,hlen]⟩,q⟩
theorem a3o:F8 X (.type "list") (fun xs H Q=>∃p ys,xs=[.ref p]∧(SqL X.K H p ys∨SqT X.K H p ys)∧∀l,H l=none→Q (.ref l) (upd H l (.lst ys))):=by
 intro pins s σ H xs us Q I r h
 obtain⟨p,ys,rfl,hq,q⟩:=h
 obtain⟨u,rfl,rx⟩:=a4_ r
 cases rx
 have fin:∀(its:List Value),Vals ys its→ys.length≤sizeLine→∀(h':Heap) (c':Nat),(∀b o',s.heap.get? b=some o'→h'.get? b=some o') →
   h'.get? s.heap.objs.size=some { cls:=.type "list",dict:=none,data:=.seq its.toArray c',slots := #[] }→EP X pins σ Q (.ref s.heap.objs.size) { s with heap:=h' }:=fun its r' hz h' c' kp e =>
  ⟨.ref s.heap.objs.size,_,I.laid (t':=s.toks) kp (Nat.le_refl _) (show ObjOk X.prog X.w _ h' _ (.lst ys)from⟨hz,its,c',r',e⟩),rfl,q _ (I.hok.fresh (Nat.le_refl _))⟩
 rcases hq with hq | hq
 ·obtain⟨its,r',pl,hz⟩:=I.list hq
  have hlen:=r'.length
  obtain⟨o,ho,hc,n,hd⟩:=pl.isList
  exact call_list_seq p (.inl rfl) ho hc hd (fun h' c' kp e=>fin its r' hz h' c' kp e) (by simp only[List.size_toArray]<;>omega)
 ·obtain⟨its,r',pl,hz⟩:=I.tuple hq
  have hlen:=r'.length
  obtain⟨o,ho,hc,n,hd⟩:=pl
  exact call_list_seq p (.inr rfl) ho hc hd (fun h' c' kp e=>fin its r' hz h' c' kp e) (by simp only[List.size_toArray]<;>omega)
theorem a2X:F8 X (.type "tuple") (fun xs H Q=>∃p ys,xs=[.ref p]∧((SqL X.K H p ys∧∀l,H l=none→Q (.ref l) (upd H l (.tup ys)))∨(SqT X.K H p ys∧Q (.ref p) H))):=by
 intro pins s σ H xs us Q I r h
 obtain⟨p,ys,rfl,h⟩:=h
 obtain⟨u,rfl,rx⟩:=a4_ r
 cases rx
 rcases h with⟨hq,q⟩ | ⟨hq,q⟩
 ·obtain⟨its,r',pl,hz⟩:=I.list hq
  have hlen:=r'.length
  refine call_tuple_list pl.isList (fun h' kp=>?_) (by simp only[List.size_toArray]<;>omega)
  have I1:Inv X pins σ H { s with heap:=h' }:=I.kept (t':=s.toks) kp
  have I2:Inv X pins σ (upd H h'.objs.size (.tup ys)) { s with heap:=h'.push { cls:=.type "tuple",data:=.seq its.toArray } } :=
   I1.laid (t':=s.toks) (fun b o e=>Heap.get?_push_of_some _ e) (Nat.le_refl _) (show ObjOk X.prog X.w _ _ _ (.tup ys)from⟨hz,its,r',IsTup.new _ _⟩)
  exact⟨.ref h'.objs.size,_,I2,rfl,q _ (I1.hok.fresh (Nat.le_refl _))⟩
 ·obtain⟨its,r',pl,hz⟩:=I.tuple hq
  exact call_tuple_same pl ⟨.ref p,H,I,rfl,q⟩
def tyV(K:W.Frag)(T:String)(x:V)(H:Hp):Prop:=match x with
 | .str _=>T = "str"
 | .int _=>T = "int"
 | .ref p=>(T = "list"∧∃xs,SqL K H p xs)∨(T = "tuple"∧∃o,K.lookup p=some o∧o.cls=.type "tuple"∧o.dict=none) ∨
   (T = "dict"∧((∃kvs,H p=some (.dK kvs))∨∃kvs,H p=some (.dT kvs)))∨(T = "set"∧∃S n,H p=some (.set S n))
 | _=>False
theorem a55{pins:List (Addr×Obj)}{σ:St}{H:Hp}{s:Shared}{T:String}{x:V}{v:Value}(I:Inv X pins σ H s)(r:RelV x v)(ty:tyV X.K T x H) :
  s.TypeIs v T∧∀a,v=.ref a→∃ob,s.heap.get? a=some ob∧ob.dict=none:=by
 cases x with
 | str z =>
  obtain⟨t,rfl⟩:=r
  cases (show T = "str" from ty)
  exact⟨typeIs_str s z t,fun _ e=>nomatch e⟩
 | int i =>
  obtain⟨t,rfl⟩:=r
  cases (show T = "int" from ty)
  exact⟨typeIs_int s i t,fun _ e=>nomatch e⟩
 | ref p =>
  cases r
  rcases ty with⟨rfl,xs,hq⟩ | ⟨rfl,o,hk,hc,hd⟩ | ⟨rfl,hk⟩ | ⟨rfl,S,n,hk⟩
  ·obtain⟨its,_,pl,_⟩:=I.list hq
   refine⟨pl.isList.typeIs,fun a e=>?_⟩
   cases e
   obtain⟨o,n,e,c,hd,_⟩:=pl
   exact⟨o,e,hd⟩
  ·refine⟨⟨o,I.kIn p o hk,hc⟩,fun a e=>?_⟩
   cases e
   exact⟨o,I.kIn _ o hk,hd⟩
  ·have z:∃o,s.heap.get? p=some o∧o.ExactDict:=by
    rcases hk with⟨kvs,hk⟩ | ⟨kvs,hk⟩
    ·obtain⟨_,_,_,_,o,_,_,e,ex,_⟩:=I.hok p _ hk
     exact⟨o,e,ex⟩
    ·obtain⟨_,_,_,_,o,_,_,e,ex,_⟩:=I.hok p _ hk
     exact⟨o,e,ex⟩
   obtain⟨o,e,ex⟩:=z
   refine⟨⟨o,e,ex.1⟩,fun a e2=>?_⟩
   cases e2
   exact⟨o,e,ex.2.1⟩
  ·obtain⟨o,_,_,_,e,ex,_⟩:=I.hok p _ hk
   refine⟨⟨o,e,ex.1⟩,fun a e2=>?_⟩
   cases e2
   exact⟨o,e,ex.2.1⟩
 | _=>exact False.elim ty
def a7v(K:W.Frag)(T:String)(r:V→List V→Hp→VK→Prop)(to:TE):TE:=fun σ H Q=>to σ H fun x H1=>tyV K T x H1∧r x [] H1 Q
def tBM(K:W.Frag)(T:String)(r:V→List V→Hp→VK→Prop)(to:TE)(t:TA):TE:=fun σ H Q=>to σ H fun x H1=>tyV K T x H1∧t σ H1 fun xs H2=>r x xs H2 Q
variable {o e:Expr}{es:List Expr}{to:TE}{t:TA}{name:Str}{apos cpos:Pos}{T id:String}{r:V→List V→Hp→VK→Prop}
theorem b00(pa:PlainAttrs T)(slot:Slot T name id)(hty:typeOf (.builtin id)=pure (.type "method_descriptor"))(hm:MtR X id r)(ho:PE X o to)
  (hbase:attributeBase o name X.env (eval o X.env)=eval o X.env:=by rfl) (hline:(apos.endLine == cpos.line)=true:=by rfl):PE X (.Call (.Attribute o name apos) [] [] cpos) (a7v X.K T r to):=by
 intro pins s σ H Q I h
 refine wpAny_Call_method0_late hbase hline (i4 (ho pins s σ H _ I h) fun v s1 ⟨x,H1,I1,r1,ty,q1⟩=>?_)
 obtain⟨h1,h2⟩:=a55 I1 r1 ty
 exact⟨T,id,pa,slot,hty,h1,h2,Calls.callWith_builtin rfl (PySem.evalArgs_none (hm pins s1 σ H1 x [] v [] Q I1 r1 .nil q1))⟩
theorem b12(pa:PlainAttrs T)(slot:Slot T name id)(hty:typeOf (.builtin id)=pure (.type "method_descriptor"))(hm:MtR X id r)(ho:PE X o to)(ha:PA X (e::es) t)
  (hbase:attributeBase o name X.env (eval o X.env)=eval o X.env:=by rfl)
  (hfew:((backTo cpos (starEach (e::es) X.env)).all (fun x=>!x.1) && (backToKw cpos (keywordEach [] X.env)).all (fun x=>x.1.isSome)
   && decide ((e::es).length+([]:List Keyword).length+(if([]:List Keyword).isEmpty then 0 else 1)<30))=true:=by rfl)
  (hline:(apos.endLine == cpos.line)=true:=by rfl) (hs:starEach (e::es) X.env=(false,eval e X.env)::starEach es X.env:=by rfl) (hplain:(backTo cpos (starEach es X.env)).any (·.1)=false:=by rfl) :
  PE X (.Call (.Attribute o name apos) (e::es) [] cpos) (tBM X.K T r to t):=by
 intro pins s σ H Q I h
 refine wpAny_Call_method_late hbase hfew hline rfl (i4 (ho pins s σ H _ I h) fun v s1 ⟨x,H1,I1,r1,ty,q1⟩=>?_)
 obtain⟨h1,h2⟩:=a55 I1 r1 ty
 refine⟨T,id,pa,slot,hty,h1,h2,?_⟩
 have hA:=ha cpos pins s1 σ H1 _ I1 q1
 rw[hs]at hA ⊢
 refine Calls.callWith_builtin (by show(false || (backTo cpos (starEach es X.env)).any (·.1))=false;rw[hplain]<;>rfl) (Calls.evalArgs_plain ?_)
 exact i4 hA fun us s2 ⟨vs,H2,I2,r2,q2⟩=>hm pins s2 σ H2 x vs v us Q I2 r1 r2 q2
end
def MtM(X:Cx)(id:String)(r:V→List V→Hp→VK→Prop):Prop :=
 ∀(pins:List (Addr×Obj)) (s:Shared) (σ:St) (H:Hp) (x:V) (xs:List V) (v:Value) (us:List Value) (Q:VK),Inv X pins σ H s→RelV x v→Vals xs us→r x xs H Q →
  wpAny (model X.prog X.w) X.A (call (.builtin id) (v::us)) (EP X pins σ Q) X.xe s
theorem Vals.one:∀{x:V} {us:List Value},Vals [x] us→∃u,us=[u]∧RelV x u
 | _,_,.cons r .nil=>⟨_,rfl,r⟩
theorem Vals.zero:∀{us:List Value},Vals [] us→us=[]
 | _,.nil=>rfl
theorem Vals.eraseIdx:∀{xs:List V} {us:List Value} (i:Nat),Vals xs us→Vals (xs.eraseIdx i) (us.eraseIdx i)
 | _,_,_,.nil=>.nil
 | _,_,0,.cons _ t=>t
 | _,_,i+1,.cons r t=>.cons r (Vals.eraseIdx i t)
theorem Vals.reverse{xs:List V}{us:List Value}(h:Vals xs us):Vals xs.reverse us.reverse:=by
 induction h with
 | nil=>exact .nil
 | cons r t ih=>rw[List.reverse_cons,List.reverse_cons];exact Vals.append ih (.cons r .nil)
theorem Vals.rep{xs:List V}{us:List Value}(h:Vals xs us):∀k:Nat,Vals (List.replicate k xs).flatten (List.replicate k us).flatten
 | 0=>.nil
 | k+1=>by
  rw[List.replicate_succ,List.replicate_succ,List.flatten_cons,List.flatten_cons]
  exact Vals.append h (Vals.rep h k)
theorem a2z(its:List Value):∀(k:Nat) (acc:List Value),
  List.foldl (fun x1 x2=>x1++x2) acc.toArray (List.replicate k its.toArray)=(acc++(List.replicate k its).flatten).toArray
 | 0,acc=>by simp
 | k+1,acc=>by
  have e:acc.toArray++its.toArray=(acc++its).toArray:=by simp
  have e2:(acc++its)++(List.replicate k its).flatten=acc++(List.replicate (k+1) its).flatten:=by
   rw[List.replicate_succ,List.flatten_cons,List.append_assoc]
  rw[← e2,← a2z its k (acc++its),← e,List.replicate_succ,List.foldl_cons]
section
variable {X:Cx}{pins:List (Addr×Obj)}{σ:St}{H:Hp}{s:Shared}{l b:Addr}{xs ys zs:List V}
theorem Inv.lset{its its':List Value}{n:Nat}{f:Array Value→Array Value}{t':Nat}(I:Inv X pins σ H s)(hH:H l=some (.lst xs))
  (e:s.heap.get? l=some { cls:=.type "list",data:=.seq its.toArray n }) (hf:f its.toArray=its'.toArray) (hv:Vals ys its') (hz:ys.length≤sizeLine) :
  Inv X pins σ (upd H l (.lst ys)) { s with heap:=s.heap.update l (Obj.mapSeq f),toks:=t' }:=by
 have q:=PySem.IsL.update e f
 rw[hf]at q
 refine I.write (x:=l) (e:=l) (by rw[hH];exact trivial) (.inl rfl) (fun b' u hb hu=>(Heap.get?_update_other s.heap (Obj.mapSeq f) (Ne.symm hb)).trans hu) ⟨_,q⟩ ?_
 exact⟨hz,its',_,hv,q⟩
theorem Inv.lnew{its:List Value}{t':Nat}(I:Inv X pins σ H s)(hv:Vals ys its)(hz:ys.length≤sizeLine) :
  Inv X pins σ (upd H s.heap.objs.size (.lst ys)) { s with heap:=s.heap.push { cls:=.type "list",data:=.seq its.toArray },toks:=t' } :=
 I.laid (fun _ _ q=>Heap.get?_push_of_some _ q) (Nat.le_refl _) ⟨hz,its,0,hv,Heap.get?_push_size _ rfl⟩
theorem Inv.fresh(I:Inv X pins σ H s):H s.heap.objs.size=none:=I.hok.fresh (Nat.le_refl _)
theorem Inv.lstM(I:Inv X pins σ H s)(hH:H l=some (.lst xs)):xs.length≤sizeLine∧∃(its:List Value) (n:Nat),Vals xs its∧xs.length=its.length∧s.heap.get? l=some { cls:=.type "list",data:=.seq its.toArray n }:=by
 obtain⟨z,its,n,r,e⟩:=I.hok l _ hH
 exact⟨z,its,n,r,r.length,e⟩
theorem a7w{n:Nat}(h:n≤sizeLine):Builtin.List.listTooLong n=false:=by
 unfold Builtin.List.listTooLong
 exact decide_eq_false (by omega)
end
section
variable {X:Cx}
def a4A:V→List V→Hp→VK→Prop:=fun x vs H Q=>∃l xs y,x=.ref l∧vs=[y]∧H l=some (.lst xs)∧xs.length<sizeLine∧Q .non (upd H l (.lst (xs++[y])))
theorem a0k:MtM X "list.append" a4A:=by
 intro pins s σ H x vs v us Q I rx rv h
 obtain⟨l,xs,y,rfl,rfl,hH,hz,q⟩:=h
 cases rx
 obtain⟨u,rfl,ru⟩:=rv.one
 obtain⟨z,its,n,r,hl,e⟩:=I.lstM hH
 refine call_meets F.slot_list_append ⟨_,e,rfl⟩ F.entry_list_append (F.args_list_append_2 _ _) (PySem.list_append l its.toArray n u (by rw[List.size_toArray];omega)) ⟨e,?_⟩
 refine⟨.non,_,I.lset (its':=its++[u]) hH e (by simp) (r.append (.cons ru .nil)) ?_,rfl,q⟩
 rw[List.length_append,List.length_singleton]
 omega
def a56:V→List V→Hp→VK→Prop:=fun x vs H Q=>∃l xs,x=.ref l∧vs=[]∧H l=some (.lst xs)∧Q .non (upd H l (.lst []))
theorem a7x:MtM X "list.clear" a56:=by
 intro pins s σ H x vs v us Q I rx rv h
 obtain⟨l,xs,rfl,rfl,hH,q⟩:=h
 cases rx
 have hus:=rv.zero
 subst hus
 obtain⟨z,its,n,r,hl,e⟩:=I.lstM hH
 refine call_meets F.slot_list_clear ⟨_,e,rfl⟩ F.entry_list_clear (F.args_list_clear_1 _) (AutoSeq1.list_clear_list_0 l its.toArray n (by rw[List.size_toArray];omega)) ⟨e,?_⟩
 exact⟨.non,_,I.lset (its':=[]) (ys:=[]) hH e rfl .nil (Nat.zero_le _),rfl,q⟩
def b01:R2:=fun x y H Q=>∃l b xs zs,x=.ref l∧y=.ref b∧H l=some (.lst xs)∧H b=some (.lst zs)∧xs.length+zs.length≤sizeLine∧∀p,H p=none→Q (.ref p) (upd H p (.lst (xs++zs)))
theorem a1r:B8 X (binaryOp .Add) b01:=by
 intro pins s σ H x y v u Q I rx ry h
 obtain⟨l,b,xs,zs,rfl,rfl,hH,hB,hz,q⟩:=h
 cases rx
 cases ry
 obtain⟨z,its,n,r,hl,e⟩:=I.lstM hH
 obtain⟨z2,its2,n2,r2,hl2,e2⟩:=I.lstM hB
 refine PySem.P.add_list e e2 ?_ (by rw[List.size_toArray,List.size_toArray];omega)
 have ea:its.toArray++its2.toArray=(its++its2).toArray:=by simp
 rw[ea]
 exact⟨.ref _,_,I.lnew (t':=s.toks) (r.append r2) (by rw[List.length_append];omega),rfl,q _ I.fresh⟩
def b02:R2:=fun x y H Q=>∃l k xs,x=.ref l∧y=.int k∧H l=some (.lst xs)∧-(2 ^ 63)≤k∧k<2 ^ 63∧xs.length*k.toNat≤sizeLine ∧
 ∀p,H p=none→Q (.ref p) (upd H p (.lst (List.replicate k.toNat xs).flatten))
theorem a9j{α:Type}(xs:List α)(k:Nat):(List.replicate k xs).flatten.length=k*xs.length:=by
 induction k with
 | zero=>simp
 | succ k ih=>rw[List.replicate_succ,List.flatten_cons,List.length_append,ih,Nat.succ_mul,Nat.add_comm]
theorem b03:B8 X (binaryOp .Mult) b02:=by
 intro pins s σ H x y v u Q I rx ry h
 obtain⟨l,k,xs,rfl,rfl,hH,h1,h2,hz,q⟩:=h
 cases rx
 obtain⟨t,rfl⟩:=ry
 obtain⟨z,its,n,r,hl,e⟩:=I.lstM hH
 have hlen:its.toArray.size*k.toNat≤sizeLine:=by rw[List.size_toArray,← hl];exact hz
 have hcap:¬its.toArray.size*k.toNat > (2 ^ 63-1)/8:=by
  have:(sizeLine:Nat)≤(2 ^ 63-1)/8:=by decide
  omega
 have hfit:¬(!Builtin.List.listFitsIndex k)=true:=by
  rw[fitsIndex_both h1 h2]
  exact Bool.false_ne_true
 have hlong:¬Builtin.List.listTooLong (its.toArray.size*k.toNat)=true:=by
  rw[a7w hlen]
  exact Bool.false_ne_true
 have hnew:List.foldl (fun x1 x2=>x1++x2) #[] (List.replicate (if its.toArray.isEmpty=true then 0 else k.toNat) its.toArray)=(List.replicate k.toNat its).flatten.toArray:=by
  have f0:∀m:Nat,List.foldl (fun x1 x2=>x1++x2) #[] (List.replicate m its.toArray)=(List.replicate m its).flatten.toArray:=fun m=>by
   have:=a2z its m []
   rw[List.nil_append]at this
   exact this
  rw[f0]
  cases its with
  | nil=>simp
  | cons a r'=>rw[if_neg (by simp)]
 refine wpAny_binaryOp_repeat_ref (T := "list") (U := "int") (by decide) ⟨_,e,rfl⟩ (fun s'=>typeIs_int s' k t) noFill_list_mul F.fills_int_mul F.slot_int_rmul repeat_list F.slot_int_index.lookup
  (call_meets F.slot_int_rmul (typeIs_int s k t) F.entry_int_rmul (F.args_int_rmul_2 _ _) (int___rmul___int_list k t l its.toArray n)
   ⟨e,rfl,⟨_,e,rfl⟩,call_meets F.slot_list_mul ⟨_,e,rfl⟩ F.entry_list_mul (F.args_list_mul_2 _ _) (AutoListH.list___mul___list_int_3 l its.toArray n k t hfit hcap hlong) ⟨e,?_⟩⟩)
 rw[hnew]
 exact⟨.ref _,_,I.lnew (t':=s.toks) (r.rep k.toNat) (by rw[a9j,Nat.mul_comm];exact hz),rfl,q _ I.fresh⟩
end
end L2
namespace Att
open PySem PySem.W PySem.Calls PyProof.Rows
theorem a1s{P:Params}{h:Heap}:∀(ns:List Int) (vs:List Value),WellAll P h vs (ns.map WData.int)→IntsAre vs ns:=by
 intro ns
 induction ns with
 | nil =>
  intro vs w
  rw[List.map_nil]at w
  cases w
  exact .nil
 | cons n ns ih =>
  intro vs w
  rw[List.map_cons]at w
  cases w with
  | cons a b =>
   cases a
   exact .cons _ _ (ih _ b)
theorem script_of{l:OpenLaw}{n:Nat}(hn:l.most=some n){P:Params}{h:Heap}{args:List WData}{vals:List Value}
  (hpre:l.row.toRowW.claim.pre args=true) (hwl:WellAll P h vals args) :
  ∃a vs ns,vals=[Value.ref a]∧args=[WData.list (ns.map WData.int)]∧h.get? a=some { cls:=.type "list",data:=.seq vs.toArray }∧IntsAre vs ns∧ns.length≤n:=by
 have hsh:WShape.hasAll [] args [.list .int]=true:=(pre_splitW hpre).1
 have hc:l.pre.holds [] { args:=args }=true:=(pre_splitW hpre).2
 obtain⟨d,r,rfl,h1,h2⟩:=hasAllW_cons hsh
 obtain rfl:=hasAllW_nil h2
 obtain⟨xs,rfl,h3⟩:=hasW_list h1
 obtain⟨ns,rfl⟩:=items_int h3
 have hlen:ns.length≤n:=by
  unfold OpenLaw.pre at hc
  have h4:(WTm.not (.lt (.lit (.int (n:Int))) (.len (.arg 0)))).holds [] { args:=[.list (ns.map .int)] }=true:=by
   have h4:=(holds_andW hc).1
   rw[hn]at h4
   exact h4
  have h5:=condW_of h4 (w_not (w_lt w_lit (w_len_list (w_arg rfl))))
  rw[List.length_map]at h5
  refine Nat.le_of_not_lt fun q=>?_
  have q':(n:Int)<((ns.length:Nat):Int):=by omega
  first
   | (rw[decide_eq_true q']at h5;exact absurd h5 (by decide))
   | (simp at h5;omega)
 cases hwl with
 | cons w1 w2 =>
  cases w2
  cases w1 with
  | list ho hall=>exact⟨_,_,ns,rfl,rfl,ho,a1s ns _ hall,hlen⟩
theorem post_true(l:OpenLaw)(args:List WData):l.row.toRowW.claim.post args (.bool true) args=true :=
 postW_of (r:=l.row.toRowW) (X:=(true == true))
  (show WShape.has [] (.bool true) .bool=true by first | rfl | decide | simp[WShape.has,WShape.arms,WShape.armsAll])
  (show(WTm.eq .res (.lit (.bool true))).value [] { args:=args,res:=some (.bool true),after:=args }=some (.bool (true == true))from w_eq_bool (w_res rfl) w_lit) rfl
end Att
namespace L2
open PySem PySem.Spec PyProof.Rows
theorem a2A:∀{vs:List Value} {ns:List Int},IntsAre vs ns→Vals (ns.map V.int) vs
 | _,_,.nil=>.nil
 | _,_,.cons n t h=>.cons ⟨t,rfl⟩ (a2A h)
def b2D(H:Hp):Prop:=∀b,H b=none∨∃o xs,H b=some (.frz o (.lst xs))
def i6(s:Stmt):Arguments:=match s with
 | .FunctionDef _ a _ _ _ _ _ _ _ _=>a
 | _=>{ posonlyargs:=[],args:=[],vararg:=none,kwonlyargs:=[],kw_defaults:=[],kwarg:=none,defaults:=[] }
def g7(s:Stmt):List Stmt:=match s with
 | .FunctionDef _ _ b _ _ _ _ _ _ _=>b
 | _=>[]
def a7(s:Stmt):Scope:=match s with
 | .FunctionDef _ _ _ _ _ _ sc _ _ _=>sc
 | _=>{ kind:=.function,names:=[],isGenerator:=false,isCoroutine:=false }
abbrev CX0:T6:=fun _ _ _ _ _ _=>False
abbrev E0:XK:=fun _ _ _=>False
structure Fun(K:W.Frag)(x qual:Str)(st:Stmt)(f:Addr)(fd:FuncData):Prop where
 ex:∃(oc:Value) (od:Option Addr) (kV doc pm:Value) (an:Option Addr) (cdv ct:Value) (osl:Array (Option Value)),
  fd=W.fnOf x qual (i6 st) (g7 st) (a7 st) .none kV doc pm an cdv ct∧K.lookup f=some ⟨oc,od,.func fd,osl⟩∧W.codeIn K cdv qual=true
 kp:W.keepIn K (.ref f)=true
section
variable {P:Program}{w:World}{K:W.Frag}{mg:Str→Option Value}{base:Heap}
theorem Fun.ok{x qual:Str}{st:Stmt}{f:Addr}{fd:FuncData}{N ps:List Str}{k:Nat}{sp:Sp}(F:Fun K x qual st f fd)(S:FnScope N ps (a7 st))(len:∀vs H Q E,sp vs H Q E→vs.length=ps.length)
  (hbody:∀(cdv:Value) (A:Around) (outer:List Env) (s:Shared) (H:Hp) (vs:List V) (Q:VK) (E:XK),Room k (A.deeper (envOfC qual (a7 st) s.heap.objs.size f cdv))→sp vs H Q E →
   ∃t,PSs (K6 CX0 P w K mg base N qual (a7 st) f cdv A outer s H E).nox (g7 st) t∧t { nx:=fun _ H'=>Q .non H',rt:=Q } (start N vs) H):FnOk P w K mg base CX0 (k+1) f fd ps sp:=by
 obtain⟨oc,od,kV,doc,pm,an,cdv,ct,osl,rfl,lk,hcd⟩:=F.ex
 refine a1o lk hcd S len fun A outer s H vs Q E hr hsp=>?_
 obtain⟨t,h,q⟩:=hbody cdv A outer s H vs Q E hr hsp
 exact⟨t,h.nox,q⟩
theorem Fun.binds{x qual:Str}{st:Stmt}{f:Addr}{fd:FuncData}{ps:List Str}(F:Fun K x qual st f fd)
  (h:∀(kV doc pm:Value) (an:Option Addr) (cdv ct:Value) (us:List Value),us.length=ps.length→bindArgs (W.fnOf x qual (i6 st) (g7 st) (a7 st) .none kV doc pm an cdv ct) ⟨us,[]⟩=pure (ps.zip us)):Binds K fd ps []:=by
 obtain⟨oc,od,kV,doc,pm,an,cdv,ct,osl,rfl,lk,hcd⟩:=F.ex
 exact .all (h kV doc pm an cdv ct)
theorem n6{x qual:Str}{st:Stmt}{f:Addr}{oc:Value}{od an:Option Addr}{osl:Array (Option Value)}{kV doc pm cdv ct:Value}(l:K.lookup f=some ⟨oc,od,.func (W.fnOf x qual (i6 st) (g7 st) (a7 st) .none kV doc pm an cdv ct),osl⟩)
  (c:W.codeIn K cdv qual=true) (k:W.keepIn K (.ref f)=true):Fun K x qual st f (W.fnOf x qual (i6 st) (g7 st) (a7 st) .none kV doc pm an cdv ct):=⟨⟨oc,od,kV,doc,pm,an,cdv,ct,osl,rfl,l,c⟩,k⟩
end
theorem a57{n:Nat}(h:n≤1000):n<sizeLine:=Nat.lt_of_le_of_lt h (by decide)
section
variable {X:Cx}
theorem pv(i:Nat){x:Str}{pos:Pos}(hN:X.N[i]? = some x:=by rfl)(hv:Vis X.env.scope x:=by first | exact Or.inl rfl | exact Or.inr (Or.inl rfl) | exact Or.inr (Or.inr rfl))(hd:(x == ("__debug__" : Str))=false:=by decide)
  (hcd:(x == ("__classdict__" : Str))=false:=by decide):PE X (.Name x pos) (E6 i):=b0B hN hv hd hcd
end
def Same(H H':Hp):Prop:=∀b o,H b=some o→H' b=some o
theorem Same.refl(H:Hp):Same H H:=fun _ _ h=>h
theorem Same.trans{H H1 H2:Hp}(a:Same H H1)(b:Same H1 H2):Same H H2:=fun c o h=>b c o (a c o h)
theorem Same.free{H H':Hp}(e:Same H H'){l:Addr}(h:H' l=Option.none):H l=Option.none:=by
 cases q:H l with
 | none=>rfl
 | some o =>
  rw[e l o q]at h
  cases h
theorem Same.seq{K:W.Frag}{H H':Hp}{a:Addr}{xs:List V}(e:Same H H')(h:SqL K H a xs):SqL K H' a xs:=by
 rcases h with(h | ⟨o,h⟩) | h
 ·exact .inl (.inl (e _ _ h))
 ·exact .inl (.inr ⟨o,e _ _ h⟩)
 ·exact .inr h
end L2
set_option maxHeartbeats 4000000
namespace L2
open PySem PySem.Spec PyProof.Rows
theorem ObjOk.there{P:Program}{w:World}{H:Hp}{h:Heap}{a:Addr}{o:HO}(x:ObjOk P w H h a o):∃ob,h.get? a=some ob:=by
 cases o with
 | lst xs=>obtain⟨_,_,_,_,e⟩:=x;exact⟨_,e⟩
 | tup xs=>obtain⟨_,_,_,p⟩:=x;obtain⟨o,e,_⟩:=p;exact⟨_,e⟩
 | dK kvs=>obtain⟨_,_,_,_,o,_,_,e,_⟩:=x;exact⟨_,e⟩
 | dT kvs=>obtain⟨_,_,_,_,o,_,_,e,_⟩:=x;exact⟨_,e⟩
 | set S n=>obtain⟨o,_,_,_,e,_⟩:=x;exact⟨_,e⟩
 | ins C dx fs=>obtain⟨_,_,_,e,_⟩:=x;exact⟨_,e⟩
 | own y=>obtain⟨_,e⟩:=x;exact⟨_,e⟩
 | xd fs=>obtain⟨_,⟨_,_,_,e,_⟩,_⟩:=x;exact⟨_,e⟩
 | rng lo hi=>obtain⟨_,_,_,e⟩:=x;exact⟨_,e⟩
 | frz ob u=>obtain⟨e,_⟩:=x;exact⟨_,e⟩
 | tbl ps=>obtain⟨_,e,_⟩:=x;exact⟨_,e⟩
 | met f y=>exact⟨_,(show h.get? a=some _ from x)⟩
 | ext φ=>obtain⟨_,⟨_,e⟩,_⟩:=x;exact⟨_,e⟩
def Imp(X:Cx)(pins:List (Addr×Obj))(H:Hp)(b:Addr):Prop:=H b≠none∨(b ∉ X.ex∧∃o,X.s₀.heap.get? b=some o)∨∃p∈X.pn++pins,p.1=b
def a01:Option Addr→Value
 | none=>.none
 | some a=>.ref a
def TrX(h B:Heap)(e:Addr)(cls:Value)(cx:Option Addr)(fl:Value):Prop :=
 ∃oe vs T oT ts,(h.get? e=some oe∧oe.cls=cls∧oe.data=.fields vs)∧(vs[1]? = some (.ref T)∧vs[2]? = some (a01 cx))∧(B.get? T=none∧T≠e)∧h.get? T=some oT∧oT.data=.fields ts∧ts[3]? = some fl
theorem R9(T:Addr):(Value.ref T != Value.none)=true:=by simp
inductive Ph where | new | fly | any
def XTr(B h:Heap)(a:Addr)(cls:Value)(cx:Option Addr):Ph→Prop
 | .new=>∃oe vs,h.get? a=some oe∧oe.cls=cls∧oe.data=.fields vs∧vs[1]? = some .none∧vs[2]? = some (a01 cx)
 | .fly=>TrX h B a cls cx .none
 | .any=>∃fl,TrX h B a cls cx fl
theorem XTr.there{B h:Heap}{a:Addr}{cls:Value}{cx:Option Addr}{ph:Ph}(x:XTr B h a cls cx ph):∃oe vs,h.get? a=some oe∧oe.cls=cls∧oe.data=.fields vs∧vs[2]? = some (a01 cx):=by
 cases ph with
 | new=>obtain⟨oe,vs,h1,h2,h3,_,h4⟩:=x;exact⟨oe,vs,h1,h2,h3,h4⟩
 | fly=>obtain⟨oe,vs,_,_,_,⟨h1,h2,h3⟩,⟨_,h4⟩,_⟩:=x;exact⟨oe,vs,h1,h2,h3,h4⟩
 | any=>obtain⟨_,oe,vs,_,_,_,⟨h1,h2,h3⟩,⟨_,h4⟩,_⟩:=x;exact⟨oe,vs,h1,h2,h3,h4⟩
section
variable {M:Model}{A:Around}{E:Value→Shared→Prop}{s:Shared}
def a1u(B:Heap)(l:List Env)(e:Addr)(cls:Value)(cx:Option Addr)(fl:Value)(h h':Heap):Prop:=B.StaysIn h'∧h'.FunFrames B l∧TrX h' B e cls cx fl∧h.UpToSlots h'
theorem a4B{B:Heap}{env:Env}{outer:List Env}{L e:Addr}{oe:Obj}{vs:Array Value}{head:Value}{cx:Option Addr}{nx:Bool}{Q:Unit→Shared→Prop}(fr:A.frames=some (env::outer))(ff:s.heap.FunFrames B (env::outer))(hf:env.frame=some L)
  (ge:s.heap.get? e=some oe) (st:B.StaysIn s.heap) (be:B.get? e=none) (de:oe.data=.fields vs) (z1:1<vs.size) (z2:vs[2]? = some (a01 cx)) (q:∀h',a1u B (env::outer) e oe.cls cx (rawInt L) s.heap h'→Q () { s with heap:=h' }) :
  wpAny M A (do let a ← frameOf env;let pl ← entryPlaceOf L nx;let b ← EntryCells.newEntry head a .none (rawInt L) .none pl;setField (.ref e) 1 b) Q E s:=by
 have nf:∀b o,s.heap.get? b=some o→(∀ws,o.data≠.fields ws)→b≠e:=fun b o gb nb zb=>by subst zb;rw[ge]at gb;cases gb;exact nb vs de
 have out:e ∉ (env::outer).filterMap (·.frame):=fun m=>by obtain⟨_,o,go,no⟩:=ff.mem m;exact nf e o go no rfl
 refine wpAny_bind (wpAny_frameOf_fun fr ff hf fun h1 only=>wpAny_bind (wpAny_entryPlaceOf fun pl place=>?_))
 unfold EntryCells.newEntry newFields
 refine wpAny_bind (wpAny_newObj_type ?_ (place.sizeOk5 _ _ _ _ _))
 have ge1:h1.get? e=some oe:=(only.2.1 e out).trans ge
 have st1:B.StaysIn h1:=fun b o gb=>(only.2.1 b fun m=>by have:=(ff.mem m).1;rw[this]at gb;cases gb).trans (st b o gb)
 have ne1:h1.objs.size≠e:=fun z=>absurd (Heap.lt_size ge1) (by rw[z];exact Nat.lt_irrefl _)
 refine wpAny_setField (Heap.get?_push_of_some _ ge1) de z1 (q _ ?_)
 have far:∀{ob:Obj} {g:Obj→Obj} {b:Addr} {o:Obj},b≠e→h1.get? b=some o→((h1.push ob).update e g).get? b=some o:=fun ne gb=>(Heap.get?_update_other _ _ (Ne.symm ne)).trans (Heap.get?_push_of_some _ gb)
 refine⟨fun b o gb=>far (fun z=>by rw[z,be]at gb;cases gb) (st1 b o gb),ff.of_keeps fun b o gb nb=>?_,?_,fun b o gb nb=>?_⟩
 ·obtain⟨sl,g⟩:=only.2.2 b o gb;exact⟨_,far (nf b o gb nb) g,rfl⟩
 ·have dd:=Obj.data_mapFields de (·.setIfInBounds 1 (Value.ref h1.objs.size))
  refine⟨_,_,h1.objs.size,_,_,⟨Heap.get?_update_self _ (Heap.get?_push_of_some _ ge1) (Obj.isFreed_of_fields dd),Obj.cls_mapFields _ _,dd⟩,⟨by simp[z1],by rw[Array.getElem?_setIfInBounds_ne (by decide)];exact z2⟩,⟨st1.fresh,ne1⟩,(Heap.get?_update_other _ _ (Ne.symm ne1)).trans (Heap.get?_push_size h1 rfl),rfl,?_⟩
  first | (simp;done) | (rcases place with rfl | ⟨_,_,_,_,_,_,_,rfl⟩<;>simp)
 ·obtain⟨sl,g⟩:=only.2.2 b o gb;exact⟨sl,far (nf b o gb nb) g⟩
theorem a5b{B:Heap}{env:Env}{outer:List Env}{L e:Addr}{oe:Obj}{vs:Array Value}{cx:Option Addr}{Q:Unit→Shared→Prop}(fr:A.frames=some (env::outer))(ff:s.heap.FunFrames B (env::outer))(hf:env.frame=some L)
  (ge:s.heap.get? e=some oe) (st:B.StaysIn s.heap) (be:B.get? e=none) (de:oe.data=.fields vs) (z1:vs[1]? = some .none) (z2:vs[2]? = some (a01 cx)) (q:∀h',a1u B (env::outer) e oe.cls cx (rawInt L) s.heap h'→Q () { s with heap:=h' }):wpAny M A (noteFrame (.ref e) env) Q E s:=by
 unfold noteFrame
 simp only[hf]
 refine wpAny_bind (wpAny_field ge de z1 ?_)
 rw[if_neg (by decide)]
 exact a4B fr ff hf ge st be de (Array.getElem?_eq_some_iff.mp z1).1 z2 q
theorem a9k{B:Heap}{env:Env}{outer:List Env}{L e:Addr}{cls:Value}{cx:Option Addr}{Q:Unit→Shared→Prop}(fr:A.frames=some (env::outer))(ff:s.heap.FunFrames B (env::outer))(hf:env.frame=some L)
  {fl:Value} (t:TrX s.heap B e cls cx fl) (nl:¬(fl == rawInt L)=true) (st:B.StaysIn s.heap) (be:B.get? e=none) (q:∀h',a1u B (env::outer) e cls cx (rawInt L) s.heap h'→Q () { s with heap:=h' }):wpAny M A (noteFrame (.ref e) env) Q E s:=by
 obtain⟨oe,vs,T,oT,ts,⟨ge,rfl,de⟩,⟨z1,z2⟩,⟨bT,nT⟩,gT,dT,z3⟩:=t
 unfold noteFrame
 simp only[hf]
 refine wpAny_bind (wpAny_field ge de z1 ?_)
 rw[if_pos (R9 T)]
 refine wpAny_bind (wpAny_field gT dT z3 ?_)
 rw[if_neg nl]
 refine wpAny_bind (wpAny_setField gT dT (Array.getElem?_eq_some_iff.mp z3).1 ?_)
 have far:∀{g:Obj→Obj} b,b≠T→(s.heap.update T g).get? b=s.heap.get? b:=fun b ne=>Heap.get?_update_other _ _ (Ne.symm ne)
 have nf:∀b o,s.heap.get? b=some o→(∀ws,o.data≠.fields ws)→b≠T:=fun b o gb nb zb=>by subst zb;rw[gT]at gb;cases gb;exact nb ts dT
 refine a4B fr (ff.of_keeps fun b o gb nb=>⟨o,(far b (nf b o gb nb)).trans gb,rfl⟩) hf ((far e (Ne.symm nT)).trans ge) (fun b o gb=>(far b fun z=>by rw[z,bT]at gb;cases gb).trans (st b o gb)) be de (Array.getElem?_eq_some_iff.mp z1).1 z2 fun h' x=>q h' ⟨x.1,x.2.1,x.2.2.1,fun b o gb nb=>?_⟩
 exact x.2.2.2 b o ((far b (nf b o gb nb)).trans gb) nb
theorem a5c{B:Heap}{env:Env}{L e:Addr}{cls:Value}{cx:Option Addr}{fl:Value}{Q:Unit→Shared→Prop}(hf:env.frame=some L)(t:TrX s.heap B e cls cx fl)(el:(fl == rawInt L)=true)(q:Q () s):wpAny M A (noteFrame (.ref e) env) Q E s:=by
 obtain⟨oe,vs,T,oT,ts,⟨ge,rfl,de⟩,⟨z1,z2⟩,⟨bT,nT⟩,gT,dT,z3⟩:=t
 unfold noteFrame
 simp only[hf]
 refine wpAny_bind (wpAny_field ge de z1 ?_)
 rw[if_pos (R9 T)]
 refine wpAny_bind (wpAny_field gT dT z3 ?_)
 rw[if_pos el]
 exact wpAny_pure q
theorem a7y{B:Heap}{l:List Env}{e:Addr}{cls fl:Value}{cx fr:Option Addr}{Q:Unit→Shared→Prop}(st:B.StaysIn s.heap)(ff:s.heap.FunFrames B l)(t:TrX s.heap B e cls cx fl)
  (q:∀h',a1u B l e cls cx (fr.elim Value.none fun f=>rawInt f) s.heap h'→Q () { s with heap:=h' }):wpAny M A (setFlight (.ref e) fr) Q E s:=by
 obtain⟨oe,vs,T,oT,ts,⟨ge,rfl,de⟩,⟨z1,z2⟩,⟨bT,nT⟩,gT,dT,z3⟩:=t
 have z4:3<ts.size:=(Array.getElem?_eq_some_iff.mp z3).1
 have far:∀{g:Obj→Obj} b,b≠T→(s.heap.update T g).get? b=s.heap.get? b:=fun b ne=>Heap.get?_update_other _ _ (Ne.symm ne)
 have nf:∀b o,s.heap.get? b=some o→(∀ws,o.data≠.fields ws)→b≠T:=fun b o gb nb zb=>by subst zb;rw[gT]at gb;cases gb;exact nb ts dT
 unfold setFlight
 refine wpAny_bind (wpAny_field ge de z1 ?_)
 rw[if_pos (R9 T)]
 refine wpAny_setField gT dT z4 (q _ ⟨fun b o gb=>(far b fun z=>by rw[z,bT]at gb;cases gb).trans (st b o gb),ff.of_keeps fun b o gb nb=>⟨o,(far b (nf b o gb nb)).trans gb,rfl⟩,?_,fun b o gb nb=>⟨o.slots,(far b (nf b o gb nb)).trans gb⟩⟩)
 have dd:=Obj.data_mapFields dT (·.setIfInBounds 3 (fr.elim Value.none fun f=>rawInt f))
 exact⟨oe,vs,T,_,_,⟨(far e (Ne.symm nT)).trans ge,rfl,de⟩,⟨z1,z2⟩,⟨bT,nT⟩,Heap.get?_update_self _ gT (Obj.isFreed_of_fields dd),dd,by simp[z4]⟩
end
structure XAt(X:Cx)(pins:List (Addr×Obj))(H:Hp)(s:Shared)(a:Addr)(cls:Value)(cx:Option Addr)(B:Heap)(ph:Ph):Prop where
 free:H a=none
 stays:B.StaysIn s.heap
 fresh:B.get? a=none
 frames:s.heap.FunFrames B X.stack
 cov:∀b o,s.heap.get? b=some o→Imp X pins H b→b ∉ B5 X.stack→B.get? b=some o
 tr:XTr B s.heap a cls cx ph
section
variable {X:Cx}{pins:List (Addr×Obj)}{σ:St}{H:Hp}{s:Shared}{a:Addr}{cls:Value}{cx:Option Addr}{B h':Heap}{ph:Ph}
theorem Imp.there(I:Inv X pins σ H s){b:Addr}(i:Imp X pins H b):∃o,s.heap.get? b=some o:=by
 rcases i with i | ⟨hx,o,i⟩ | ⟨p,hp,e⟩
 ·cases q:H b with
  | none=>exact absurd q i
  | some u=>exact(I.hok b u q).there
 ·exact I.base.there b o i hx
 ·exact⟨p.2,by rw[← e];exact(I.pin p hp).1⟩
theorem Inv.exc(I:Inv X pins σ H s)(cov:∀b o,s.heap.get? b=some o→Imp X pins H b→b ∉ B5 X.stack→B.get? b=some o)(st:B.StaysIn h')(ups:s.heap.UpToSlots h') :
  Inv X pins σ H { s with heap:=h' }:=by
 have fr:∀b,b∈B5 X.stack→∀o,s.heap.get? b=some o→∃sl,h'.get? b=some { o with slots:=sl }:=fun b hb o e=>by
  obtain⟨_,o',e',d⟩:=I.stack.mem hb
  rw[e]at e';cases e'
  exact ups b o e d
 have nfr:∀b,b ∉ X.fs→b≠X.env.locals→b ∉ B5 X.stack:=fun b h1 h2 z=>(List.mem_cons.mp (I.stkSub b z)).elim h2 h1
 have neL:∀b o,X.s₀.heap.get? b=some o→b≠X.env.locals:=fun b o e=>Nat.ne_of_lt (Nat.lt_of_lt_of_le (Heap.lt_size e) I.ok.above)
 have cellK:∀c v,s.heap.IsCell c v→h'.IsCell c v:=fun c v ⟨o,ho,hd⟩=>by
  obtain⟨sl,q⟩:=ups c o ho (fun vs z=>by rw[hd]at z;cases z)
  exact⟨_,q,hd⟩
 refine⟨I.ok,I.os,I.bare,⟨fun b o e n hb hx=>?_,fun b o e n hb hx=>?_,I.base.free,fun b o e hx=>?_,I.base.tups,I.base.frzs,I.base.tbls⟩,?_,fun x c e=>?_,I.free,I.freeC,fun p hp=>?_,?_,I.len⟩
 ·exact st _ _ (cov b o (I.base.keep b o e n hb hx) (.inr (.inl ⟨hx,o,e⟩)) (nfr b hb (neL b o e)))
 ·obtain⟨sl,e1⟩:=I.base.slot b o e n hb hx
  have hb':b∈B5 X.stack:=by
   rcases I.ok.stk with q | ⟨q,hf⟩
   ·rw[q];exact hb
   ·rw[q];unfold B5;rw[List.filterMap_cons,hf];exact List.mem_cons_of_mem _ hb
  obtain⟨sl',e2⟩:=fr b hb' _ e1
  exact⟨sl',e2⟩
 ·obtain⟨o',e1⟩:=I.base.there b o e hx
  by_cases hb:b∈B5 X.stack
  ·obtain⟨sl,q⟩:=fr b hb _ e1
   exact⟨_,q⟩
  ·exact⟨o',st _ _ (cov b o' e1 (.inr (.inl ⟨hx,o,e⟩)) hb)⟩
 ·obtain⟨m,hn,hl⟩:=I.loc
  refine⟨m,ups.ns hn,fun i x v e1 e2 e3=>?_⟩
  obtain⟨u,r,l⟩:=hl i x v e1 e2 e3
  refine⟨u,r,?_⟩
  rcases l with l | ⟨k,c,e,z⟩
  ·exact .inl l
  ·exact .inr ⟨k,c,e,cellK c _ z⟩
 ·obtain⟨v,z⟩:=I.cell x c e
  exact⟨v,cellK c v z⟩
 ·obtain⟨e,n,ne,nf,d⟩:=I.pin p hp
  exact⟨st _ _ (cov p.1 p.2 e (.inr (.inr ⟨p,hp,rfl⟩)) (nfr p.1 nf ne)),n,ne,nf,d⟩
 ·intro b u e
  refine(I.hok b u e).stay (fun c v hc q=>?_) (fun _ q=>q) (fun _ _ q=>q) fun _ _ _ q=>q
  have hc':H c≠none:=by
   rcases hc with z | z
   ·rw[z,e];exact fun q=>nomatch q
   ·rw[z];exact fun q=>nomatch q
  exact st _ _ (cov c v q (.inl hc') fun z=>hc' (I.stkFree c z))
theorem XAt.cov'(x:XAt X pins H s a cls cx B ph)(I:Inv X pins σ H s)(st:B.StaysIn h'):∀b o,h'.get? b=some o→Imp X pins H b→b ∉ B5 X.stack→B.get? b=some o:=fun b o e i n=>by
 obtain⟨o1,e1⟩:=i.there I
 have q:=x.cov b o1 e1 i n
 have q2:=st _ _ q
 rw[e]at q2;cases q2
 exact q
variable {M:Model}{A:Around}{E:Value→Shared→Prop}{Q:Unit→Shared→Prop}
theorem a7z{e:Value}{env env0:Env}(h:env0.frame=env.frame):noteFrame e env=noteFrame e env0:=by
 unfold noteFrame PySem.frameOf
 rw[h]
theorem a9l{env0:Env}{out0:List Env}{F:Addr}(hA:A.frames=some X.stack)(hs:X.stack=env0::out0)(h0:env0.frame=X.env.frame)(hf:X.env.frame=some F)(I:Inv X pins σ H s)(x:XAt X pins H s a cls cx B ph)
  (hQ:∀h',Inv X pins σ H { s with heap:=h' }→XAt X pins H { s with heap:=h' } a cls cx B .any→Q () { s with heap:=h' }):wpAny M A (noteFrame (.ref a) X.env) Q E s:=by
 have hfr:A.frames=some (env0::out0):=by rw[hA,hs]
 have hl:s.heap.FunFrames B (env0::out0):=by rw[← hs];exact x.frames
 rw[a7z h0]
 have hf:env0.frame=some F:=h0.trans hf
 have fin:∀{fl:Value} h',a1u B (env0::out0) a cls cx fl s.heap h'→Q () { s with heap:=h' }:=fun h' ⟨k1,k2,k3,k4⟩ =>
  hQ h' (I.exc x.cov k1 k4) ⟨x.free,k1,x.fresh,by rw[hs];exact k2,x.cov' I k1,_,k3⟩
 have on:∀fl,TrX s.heap B a cls cx fl→wpAny M A (noteFrame (.ref a) env0) Q E s:=fun fl t=>by
  by_cases z:(fl == rawInt F)=true
  ·exact a5c hf t z (hQ s.heap I ⟨x.free,x.stays,x.fresh,x.frames,x.cov,fl,t⟩)
  ·exact a9k hfr hl hf t z x.stays x.fresh fin
 cases ph with
 | new =>
  obtain⟨oe,vs,he,hc,hd,h1,h2⟩:=x.tr
  refine a5b hfr hl hf he x.stays x.fresh hd h1 h2 fun h' hN=>?_
  rw[hc]at hN
  exact fin h' hN
 | fly=>exact on _ x.tr
 | any=>obtain⟨fl,t⟩:=x.tr;exact on fl t
theorem a9m(I:Inv X pins σ H s)(x:XAt X pins H s a cls cx B ph)(hn:ph≠.new)
  (hQ:∀h',Inv X pins σ H { s with heap:=h' }→XAt X pins H { s with heap:=h' } a cls cx B .fly→Q () { s with heap:=h' }):wpAny M A (setFlight (.ref a) none) Q E s:=by
 have go:∀fl,TrX s.heap B a cls cx fl→wpAny M A (setFlight (.ref a) none) Q E s:=fun fl ht =>
  a7y x.stays x.frames ht fun h' ⟨k1,k2,k3,k4⟩=>hQ h' (I.exc x.cov k1 k4) ⟨x.free,k1,x.fresh,k2,x.cov' I k1,k3⟩
 cases ph with
 | new=>exact absurd rfl hn
 | fly=>exact go _ x.tr
 | any=>obtain⟨fl,t⟩:=x.tr;exact go fl t
end
def m4(P:Program)(w:World):T6:=fun outer H s E e s' =>
 ∃(a:Addr) (cls:Value) (cx:Option Addr) (H':Hp) (B:Heap),e=.ref a∧s'.os=s.os∧AllBare s'.gens∧Un (B5 outer) [] H H' s.heap s'.heap∧HOk P w H' s'.heap∧B.StaysIn s'.heap∧B.get? a=none∧s'.heap.FunFrames B outer ∧
  TrX s'.heap B a cls cx .none∧H' a=none∧(∀b o,s'.heap.get? b=some o→(H' b≠none∨∃o',s.heap.get? b=some o')→b ∉ B5 outer→B.get? b=some o)∧E cls cx H'
def XAcc(X:Cx)(E:XK):Prop:=∀(pins:List (Addr×Obj)) (σ:St) (H:Hp) (s:Shared) (a:Addr) (cls:Value) (cx:Option Addr) (B:Heap) (ph:Ph),Inv X pins σ H s→XAt X pins H s a cls cx B ph→E cls cx H→X.xe (.ref a) s
theorem M1{P:Program}{w:World}{K:W.Frag}{mg:Str→Option Value}{base:Heap}{N:List Str}{qual:Str}{scope:Scope}{f:Addr}{cd:Value}{A:Around}{outer:List Env}{s:Shared}{H:Hp}{E:XK} :
  XAcc (K6 (m4 P w) P w K mg base N qual scope f cd A outer s H E) E:=by
 intro pins σ H1 s1 a cls cx B ph I x e
 show wpAny (model P w) (A.deeper (envOfC qual scope s.heap.objs.size f cd)) (leaving (envOfC qual scope s.heap.objs.size f cd) (.ref a)) _ _ s1
 unfold leaving
 refine wpAny_bind (a9l (X:=K6 (m4 P w) P w K mg base N qual scope f cd A outer s H E) I.ok.frames rfl rfl rfl I x fun h1 I1 x1=>?_)
 refine a9m I1 x1 (fun z=>nomatch z) fun h2 I2 x2=>?_
 refine⟨a,cls,cx,H1,B,rfl,I2.os,I2.bare,I2.base,I2.hok,x2.stays,x2.fresh,x2.frames.2.2,x2.tr,x2.free,fun b o e1 i n=>?_,e⟩
 have nl:b≠(envOfC qual scope s.heap.objs.size f cd).locals:=fun z=>by
  rcases i with i | ⟨o',i⟩
  ·exact i (by rw[z];exact I2.free)
  ·have:=Heap.lt_size i
   rw[z]at this
   exact absurd this (Nat.lt_irrefl _)
 refine x2.cov b o e1 (i.elim .inl fun z=>.inr (.inl ⟨List.not_mem_nil,z⟩)) fun z=>?_
 rcases List.mem_cons.mp (I2.stkSub b z)with q | q
 ·exact nl q
 ·exact n q
theorem XAcc.passes{X:Cx}{E:XK}(acc:XAcc X E):W3 (m4 X.prog X.w) X E:=by
 intro pins σ H s e s' I h
 obtain⟨a,cls,cx,H',B,rfl,os,bare,un,hok,st,fr,ff,tr,free,cov,hE⟩:=h
 have I':Inv X pins σ H' s':=I.call' (ch:=[]) os un hok bare (fun b z=>absurd z (by simp))
 refine acc pins σ H' s' a cls cx B .fly I' ⟨free,st,fr,ff,fun b o e i n=>cov b o e ?_ n,tr⟩ hE
 rcases i with i | ⟨hx,o',i⟩ | ⟨p,hp,q⟩
 ·exact .inl i
 ·exact .inr (I.base.there b o' i hx)
 ·exact .inr ⟨p.2,by rw[← q];exact(I.pin p hp).1⟩
end L2
namespace PySem.W
open PySem PySem.Spec PySem.Calls PyProof.Rows
structure ExcT(K:Frag)(C:Addr):Prop where
 ga:findIn K (.ref C) "__getattribute__" = some (some (.builtin "BaseException.__getattribute__"))
 gt:findIn K (.ref C) "__getattr__" = some none
 cl:findIn K (.ref C) "__class__" = some (some (.builtin "object.__class__"))
 mo:mroIn K C (.type "object")=some true
 sb:subIn K (.ref C) (.type "BaseException")=some true
section
variable {prog:Program}{w:World}{A:Around}{E:Value→Shared→Prop}{h:Heap}{g:Array GenState}{d:Drawn}{t:Nat}{os:OsState}{K:Frag}{x C:Addr}{o:Obj}{R:Result→Shared→Prop}
theorem a2Y{tp:Value}(X:K.In h)(hx:h.get? x=some o)(hc:o.cls=.ref C)(hm:mroIn K C (.type "object")=some true)
  (q:R (.ok (.ret (.ref C))) ⟨h,g,d,t,os⟩):codeAny (model prog w) A (.call (.builtin "getset_descriptor.__get__") ⟨[.builtin "object.__class__",.ref x,tp],[]⟩) R ⟨h,g,d,t,os⟩:=by
 have L0:Looks (model prog w) h (typeOf (.ref x)) (.ref C):=hc▸(Looks.ld hx).andThen .now
 have L1:=looks_mroIn (M:=model prog w) X hm
 refine codeAny_call_builtin KF.slot_gs.plain KF.entry_gs (KF.slot_gs.check _ _ _ _ _ _ _ _ KF.type_class (KF.args_gs _ _ _) ?_)
 unfold Builtin.«getset_descriptor.__get__» Builtin.Getset_descriptor.descrGet
 rw[dga_obj]
 refine wpAny_bind (wpAny_pure ?_)
 unfold Builtin.Getset_descriptor.descrGetter Builtin.Getset_descriptor.descrCheckInstance Builtin.Getset_descriptor.descrNameAndClass isInstance
 simp only[KF.owner_class]
 repeat lk
 refine⟨Code.quiet_builtin _ (by decide +kernel),codeAny_builtin KF.entry_class ?_⟩
 unfold Builtin.«object.__class__» shownTypeOf
 repeat lk
 exact q
theorem a1v{tk:Tok}{Q:Fin→Shared→Prop}(X:K.In h)(T:ExcT K C)(hx:h.get? x=some o)(hc:o.cls=.ref C)(q:Q (.done (.ret (.ref C))) ⟨h,g,d,t,os⟩) :
  wpAny (model prog w) A (Builtin.«object.__getattribute__» ⟨[.ref x,.str "__class__" tk],[]⟩) Q E ⟨h,g,d,t,os⟩:=by
 have L0:Looks (model prog w) h (typeOf (.ref x)) (.ref C):=hc▸(Looks.ld hx).andThen .now
 have L1:=looks_findIn (M:=model prog w) X T.cl
 have hT5:(⟨h,g,d,t,os⟩:Shared).TypeIs (.builtin "object.__class__") "getset_descriptor" := F.typeOf_object_class
 have f5:=F.typeOf_object_class
 have f6:=F.slot_gs_get.lookup
 have f7:=F.slot_gs_set.lookup
 repeat (any_goals (first | assumption | (with_reducible refine L0.at ?_) | (with_reducible refine wpAny_bind (L0.at ?_)) | (with_reducible refine L1.at ?_) | (with_reducible refine wpAny_bind (L1.at ?_)) | wp_step))
 refine a2Y X hx hc T.mo ?_
 repeat (any_goals (first | assumption | wp_step))
theorem a3p{M:Model}{nameV:Value}{Q:Unit→Shared→Prop}(X:K.In h)(T:ExcT K C)(hx:h.get? x=some o)(hc:o.cls=.ref C)(hq:Q () ⟨h,g,d,t,os⟩):wpAny M A (checkBuiltinCall "BaseException.__getattribute__" ⟨[.ref x,nameV],[]⟩) Q E ⟨h,g,d,t,os⟩:=by
 have hk:builtinKind "BaseException.__getattribute__" = some .slot:=by decide +kernel
 have hsplit:splitId "BaseException.__getattribute__" = some ("BaseException","__getattribute__"):=by decide +kernel
 have L0:Looks M h (typeOf (.ref x)) (.ref C):=hc▸(Looks.ld hx).andThen .now
 have L1:=looks_subIn (M:=M) X T.sb
 have L2:Looks M h (isInstance (.ref x) (.type "BaseException")) true:=L0.andThen L1
 have ha:=F.args_bexc_ga (.ref x) nameV
 simp only[checkBuiltinCall,hk,hsplit]
 refine wpAny_bind (L2.at ?_)
 repeat (first | assumption | wp_step)
theorem a3q{tk:Tok}{Q:Value→Shared→Prop}(X:K.In h)(T:ExcT K C)(hx:h.get? x=some o)(hc:o.cls=.ref C)(hq:Q (.ref C) ⟨h,g,d,t,os⟩):wpAny (model prog w) A (getAttrBy (.ref x) (.str "__class__" tk) false) Q E ⟨h,g,d,t,os⟩:=by
 have L0:Looks (model prog w) h (typeOf (.ref x)) (.ref C):=hc▸(Looks.ld hx).andThen .now
 have L1:=looks_findIn (M:=model prog w) X T.ga
 have L2:=looks_findIn (M:=model prog w) X T.gt
 have f3:=F.attr_ValueError.ga.bind (.ref x)
 have hx2:(Value.builtin "BaseException.__getattribute__" == Value.builtin "object.__getattribute__")=false:=by decide +kernel
 have hx1:(onTheHeap (Value.ref C) && Value.builtin "BaseException.__getattribute__" == Value.builtin "object.__getattribute__")=false:=by rw[hx2];rfl
 repeat (any_goals (first | assumption | (with_reducible refine L0.at ?_) | (with_reducible refine wpAny_bind (L0.at ?_)) | (with_reducible refine L1.at ?_) | (with_reducible refine wpAny_bind (L1.at ?_)) | (with_reducible refine L2.at ?_) | (with_reducible refine wpAny_bind (L2.at ?_)) | wp_step))
 refine codeAny_call_builtin F.attr_ValueError.ga.plain F.entry_bexc_ga (a3p X T hx hc (a1v X T hx hc ?_))
 repeat (any_goals (first | assumption | wp_step))
theorem a13{Q:Option Value→Shared→Prop}(X:K.In h)(T:ExcT K C)(hx:h.get? x=some o)(hc:o.cls=.ref C)(hq:Q (some (.ref C)) ⟨h,g,d,t+1,os⟩):wpAny (model prog w) A (getAttr? (.ref x) "__class__") Q E ⟨h,g,d,t,os⟩:=by
 unfold getAttr? getAttrBy?
 repeat (any_goals (first | assumption | with_reducible apply a3q X T hx hc | wp_step))
end
def b04(x C:Addr)(h:Heap):Prop:=∃o vs,h.get? x=some o∧o.cls=.ref C∧o.data=.fields vs
theorem kitx_exc{K:Frag}{x C:Addr}(T:ExcT K C):KitX K (.ref x) (.ref C) (b04 x C) where
 ty:=fun _ _ _ ⟨_,_,hx,hc,_⟩=>hc▸(Looks.ld hx).andThen .now
 it:=fun M h X _=>by
  have hm:=T.mo
  unfold mroIn at hm
  obtain⟨cd,hcd⟩:∃cd,clsIn K C=some cd:=by
   cases q:clsIn K C with
   | none=>rw[q]at hm;cases hm
   | some cd=>exact⟨cd,rfl⟩
  unfold clsIn at hcd
  split at hcd
  ·rename_i c' d' cd' sl' ho
   intro A' Q' E' s' k q
   unfold isType loadHead
   exact wpAny_bind (wpAny_loadPart (k _ _ (X _ _ ho)) (wpAny_pure q))
  ·cases hcd
 ne:=fun h tp dd its n sl X htp=>by
  have hm:=T.mo
  unfold mroIn at hm
  obtain⟨cd,hcd⟩:∃cd,clsIn K C=some cd:=by
   cases q:clsIn K C with
   | none=>rw[q]at hm;cases hm
   | some cd=>exact⟨cd,rfl⟩
  refine Bool.eq_false_iff.mpr fun q=>?_
  have e:C=tp:=Value.ref.inj (beq_iff_eq.mp q)
  subst e
  unfold clsIn at hcd
  split at hcd
  ·rename_i c' d' cd' sl' ho
   have z:=(X _ _ ho).symm.trans htp
   cases z
  ·cases hcd
 ca:=fun{_ _ _ _ _ s} X ⟨_,_,hx,hc,_⟩ k=>by
  obtain⟨h,g,d,t,os⟩:=s
  exact a13 X T hx hc k
end PySem.W
namespace L2
open PySem PySem.Spec PyProof.Rows
abbrev TJ:=St→Hp→Str→(Str→Hp→Prop)→Prop
def a3r:List Value:=[.type "ValueError",.type "Exception",.type "BaseException",.type "object"]
theorem a9n{K:W.Frag}{h₀:Heap}{C:Addr}(KX:K.In h₀)(q:W.excIn K C a3r "ValueError.__new__" = true) :
  ∃bm N nm q bs hdct sn sub ab col dd k0 k1 k2 k3 k5 mN,h₀.get? C=some (excClassObj nm q C N bs bm hdct sn sub ab col dd k0 k1 k2 k3 k5 "ValueError.__new__")∧h₀.Ns N mN∧mN "__init__" = none∧OwnTail h₀ a3r bm:=by
 unfold W.excIn at q
 split at q
 ·rename_i dd cd sl ho
  split at q
  ·rename_i C' bm k0 k1 k2 k3 n k5 hm hs
   simp only[Bool.and_eq_true,beq_iff_eq,Bool.not_eq_true']at q
   obtain⟨⟨⟨⟨⟨rfl,rfl⟩,hdel⟩,ht⟩,hok⟩,hni⟩:=q
   obtain⟨nm,bs,mro,ns,qn,hd,sn,sub,ab,col,del⟩:=cd
   dsimp only at hm hdel hok hni
   subst hm hdel
   have hsl:sl = #[k0,k1,k2,k3,some (.builtin "ValueError.__new__"),k5]:=by
    obtain⟨l⟩:=sl
    simp only at hs
    rw[hs]
   subst hsl
   exact⟨bm,ns,nm,qn,bs,hd,sn,sub,ab,col,dd,k0,k1,k2,k3,k5,_,KX _ _ ho,.of_isNs (W.isNs_of_in KX hok),W.nsMap_none_of_in KX hok hni,W.tail_of_in KX ht⟩
  ·cases q
 ·cases q
section
variable {X:Cx}{E:XK}
theorem XAt.first{pins:List (Addr×Obj)}{σ:St}{H:Hp}{s:Shared}{h':Heap}{a:Addr}{cls:Value}{cx:Option Addr}{oe:Obj}{vs:Array Value}(I:Inv X pins σ H s)(k:∀b o,s.heap.get? b=some o→h'.get? b=some o)
  (n:s.heap.get? a=none) (g:h'.get? a=some oe) (hc:oe.cls=cls) (hd:oe.data=.fields vs) (z1:vs[1]? = some .none) (z2:vs[2]? = some (a01 cx)) :
  Inv X pins σ H { s with heap:=h' }∧XAt X pins H { s with heap:=h' } a cls cx (W.hideAll s.heap (B5 X.stack)) .new:=by
 have I':Inv X pins σ H { s with heap:=h' }:=I.kept (t':=s.toks) k
 have fr:H a=none:=by
  cases q:H a with
  | none=>rfl
  | some u=>obtain⟨o,e⟩:=(I.hok a u q).there;rw[n]at e;cases e
 refine⟨I',fr,fun b o e=>k b o (W.of_hideAll _ e),?_,(W.funFrames_hide I.stack fun env he b hb=>List.mem_filterMap.mpr ⟨env,he,hb⟩).of_keeps fun b o e _=>⟨o,k b o e,rfl⟩,fun b o e i n=>?_,⟨oe,vs,g,hc,hd,z1,z2⟩⟩
 ·cases q:(W.hideAll s.heap (B5 X.stack)).get? a with
  | none=>rfl
  | some o=>have:=W.of_hideAll _ q;rw[n]at this;cases this
 ·obtain⟨o1,e1⟩:=i.there I
  have e2:=k _ _ e1
  rw[e]at e2;cases e2
  exact W.hideAll_get _ e1 n
theorem XAt.made{pins:List (Addr×Obj)}{σ:St}{H:Hp}{s:Shared}{h':Heap}{a:Addr}{cls:Value}{vs:List Value}(I:Inv X pins σ H s)(m:Heap.MadeExcOf s.heap h' a cls vs) :
  Inv X pins σ H { s with heap:=h' }∧XAt X pins H { s with heap:=h' } a cls none (W.hideAll s.heap (B5 X.stack)) .new:=by
 obtain⟨t,he,_,_⟩:=m.there
 exact XAt.first I m.keeps m.new he rfl rfl rfl rfl
def a58(C:Addr)(E:XK)(ta:TA):TS:=fun _ σ H=>ta σ H fun vs H1=>vs.length≤sizeLine∧E (.ref C) none H1
theorem a7A{x:Str}{C:Addr}{e₀:Expr}{t7:List Expr}{np cpos pos:Pos}{ta:TA}(acc:XAcc X E)(q:W.excIn X.K C a3r "ValueError.__new__" = true)(hg:Gl X x)(hm:X.mg x=some (.ref C))(ha:PA X (e₀::t7) ta)
  (hc:X.calm=true:=by rfl) (hex:X.ex=[]:=by rfl)
  (he:starEach (e₀::t7) X.env=(false,eval e₀ X.env)::starEach t7 X.env:=by rfl) (hplain:(backTo cpos (starEach t7 X.env)).any (·.1)=false:=by rfl) (hd:(x == ("__debug__" : Str))=false:=by decide) :
  PS X (.Raise (some (.Call (.Name x np) (e₀::t7) [] cpos)) none pos) (a58 C E ta):=by
 intro pins s σ H D I h
 obtain⟨tl,N,nm,qn,bs,hdct,sn,sub,ab,col,dd,k0,k1,k2,k3,k5,mN,hC,hN,hni,T⟩:=a9n I.mod.kin q
 have hp:=ha cpos pins s σ H _ I h
 rw[he]at hp
 refine wpAny_Raise_call_subT (C:=C) (nm:=nm) (q:=qn) (N:=N) (bs:=bs) (bm:=tl) (hdct:=hdct) (sn:=sn) (sub:=sub) (ab:=ab) (col:=col) (dd:=dd) (k0:=k0) (k1:=k1) (k2:=k2) (k3:=k3) (k5:=k5)
  PySem.F.excBase_ValueError (mN:=mN) (T.hasType PySem.F.excBase_ValueError.hasBase) (I.ok.hd hc) (by rw[he];show(false || (backTo cpos (starEach t7 X.env)).any (·.1))=false;rw[hplain];rfl) hni (a4t I hg hm ⟨rfl,?_⟩ hd)
 rw[he]
 refine Calls.evalArgs_plain (i4 hp fun us s2 ⟨vs,H2,I2,rv,z,hE⟩=>⟨rfl,by rw[← rv.length];exact z,I2.bk _ _ hC,hN.keeps I2.bk,T.keeps I2.bk,fun h' e m=>?_⟩)
 obtain⟨I3,x3⟩:=XAt.made I2 m
 exact acc pins σ H2 _ e _ none _ .new I3 x3 hE
end
def a5d(a:Addr)(cls:Value)(cx:Option Addr):HO:=.ext fun h=>∃o vs,h.get? a=some o∧o.cls=cls∧o.data=.fields vs∧vs[2]? = some (a01 cx)
section
variable {X:Cx}{pins:List (Addr×Obj)}{σ:St}{H:Hp}{s:Shared}{a:Addr}{cls:Value}{cx:Option Addr}{B:Heap}{ph:Ph}
theorem XAt.nofr(x:XAt X pins H s a cls cx B ph):a ∉ B5 X.stack:=fun z=>by
 obtain⟨oe,vs,e,_,d,_⟩:=x.tr.there
 obtain⟨_,o,e',d'⟩:=x.frames.mem z
 rw[e]at e';cases e'
 exact d' vs d
end
theorem j5{X:Cx}{P:Program}{w:World}:W3 (m4 P w) X E0:=fun _ _ _ _ _ _ _ h=>by
 obtain⟨_,_,_,_,_,_,_,_,_,_,_,_,_,_,_,_,hE⟩:=h
 exact hE.elim
section
variable {P:Program}{w:World}{K:W.Frag}{mg:Str→Option Value}{base:Heap}
theorem Fun.okE{x qual:Str}{st:Stmt}{f:Addr}{fd:FuncData}{N ps:List Str}{k:Nat}{sp:Sp}(F:Fun K x qual st f fd)(S:FnScope N ps (a7 st))(len:∀vs H Q E,sp vs H Q E→vs.length=ps.length)
  (hbody:∀(cdv:Value) (A:Around) (outer:List Env) (s:Shared) (H:Hp) (vs:List V) (Q:VK) (E:XK),Room k (A.deeper (envOfC qual (a7 st) s.heap.objs.size f cdv))→sp vs H Q E →
   ∃t,PSs (K6 (m4 P w) P w K mg base N qual (a7 st) f cdv A outer s H E) (g7 st) t∧t { nx:=fun _ H'=>Q .non H',rt:=Q } (start N vs) H):FnOk P w K mg base (m4 P w) (k+1) f fd ps sp:=by
 obtain⟨oc,od,kV,doc,pm,an,cdv,ct,osl,rfl,lk,hcd⟩:=F.ex
 exact a1o lk hcd S len fun A outer s H vs Q E hr hsp=>hbody cdv A outer s H vs Q E hr hsp
structure FunD(K:W.Frag)(x qual:Str)(st:Stmt)(dT:Addr)(f:Addr)(fd:FuncData):Prop where
 ex:∃(oc:Value) (od:Option Addr) (kV doc pm:Value) (an:Option Addr) (cdv ct:Value) (osl:Array (Option Value)),
  fd=W.fnOf x qual (i6 st) (g7 st) (a7 st) (.ref dT) kV doc pm an cdv ct∧K.lookup f=some ⟨oc,od,.func fd,osl⟩∧W.codeIn K cdv qual=true
 kp:W.keepIn K (.ref f)=true
theorem FunD.okE{x qual:Str}{st:Stmt}{dT f:Addr}{fd:FuncData}{N ps:List Str}{k:Nat}{sp:Sp}(F:FunD K x qual st dT f fd)(S:FnScope N ps (a7 st))(len:∀vs H Q E,sp vs H Q E→vs.length=ps.length)
  (hbody:∀(cdv:Value) (A:Around) (outer:List Env) (s:Shared) (H:Hp) (vs:List V) (Q:VK) (E:XK),Room k (A.deeper (envOfC qual (a7 st) s.heap.objs.size f cdv))→sp vs H Q E →
   ∃t,PSs (K6 (m4 P w) P w K mg base N qual (a7 st) f cdv A outer s H E) (g7 st) t∧t { nx:=fun _ H'=>Q .non H',rt:=Q } (start N vs) H):FnOk P w K mg base (m4 P w) (k+1) f fd ps sp:=by
 obtain⟨oc,od,kV,doc,pm,an,cdv,ct,osl,rfl,lk,hcd⟩:=F.ex
 exact a1o lk hcd S len fun A outer s H vs Q E hr hsp=>hbody cdv A outer s H vs Q E hr hsp
theorem FunD.binds{x qual:Str}{st:Stmt}{dT f:Addr}{fd:FuncData}{ps:List Str}{ds:List Value}{items:List Value}{o:Obj}{nn:Nat}(F:FunD K x qual st dT f fd)(ho:K.lookup dT=some o)(hs:o.data=.seq items.toArray nn)
  (h:∀(kV doc pm:Value) (an:Option Addr) (cdv ct:Value) (us:List Value),(us++ds).length=ps.length→∃k:Option (Array Value)→Sem (List (Str×Value)),
   bindArgs (W.fnOf x qual (i6 st) (g7 st) (a7 st) (.ref dT) kV doc pm an cdv ct) ⟨us,[]⟩=seqItems? (.ref dT) >>= k∧k (some items.toArray)=pure (ps.zip (us++ds))):Binds K fd ps ds:=by
 obtain⟨oc,od,kV,doc,pm,an,cdv,ct,osl,rfl,lk,hcd⟩:=F.ex
 intro s us KX hl
 obtain⟨k,h1,h2⟩:=h kV doc pm an cdv ct us hl
 exact W.binds_K KX rfl ho hs h1 h2
end
structure RoomW(k:Nat)(A:Around):Prop where
 dp:A.depth+3*k+5<recursionLimit
 un:A.units+16*k+200<cLine
theorem Room.w{k:Nat}{A:Around}(r:Room k A)(h:Option Value):RoomW k (A.mark h):=⟨r.dp,r.un⟩
theorem RoomW.deeper{k:Nat}{A:Around}(r:RoomW (k+1) A)(env:Env):RoomW k (A.deeper env) :=
 ⟨by have:=r.dp;show A.depth+1+3*k+5<_;omega,by have:=r.un;show A.units+3+16*k+200<_;omega⟩
def b05:V→Option Value
 | .ty n=>some (.type n)
 | .ref a=>some (.ref a)
 | _=>none
theorem a9o{y:V}{c u:Value}(e:b05 y=some c)(r:RelV y u):u=c:=by
 cases y with
 | ty n=>cases e;exact r
 | ref a=>cases e;exact r
 | _=>cases e
inductive TyX(K:W.Frag)(H:Hp):V→Value→Prop where
 | of {x:V} {t:Value} (h:TyOf K H x t):TyX K H x t
 | exc {a C:Addr} {cx:Option Addr} (h:H a=some (a5d a (.ref C) cx)) (T:W.ExcT K C):TyX K H (.ref a) (.ref C)
section
variable {X:Cx}{pins:List (Addr×Obj)}{σ:St}{H:Hp}{s:Shared}{A:Around}{E:Value→Shared→Prop}{Q:Value→Shared→Prop}
theorem TyX.kit{x:V}{u t:Value}(I:Inv X pins σ H s)(rx:RelV x u)(ty:TyX X.K H x t):∃Φ:Heap→Prop,W.KitX X.K u t Φ∧Φ s.heap∧u≠.builtin "__main__.__loader__#opaque" := by
 cases ty with
 | @exc a C cx h T =>
  cases (show u=Value.ref a from rx)
  obtain⟨⟨o,vs,h1,h2,h3,_⟩,_⟩:=(show ObjOk X.prog X.w H s.heap a (a5d a (.ref C) cx)from I.hok a _ h)
  exact⟨_,W.kitx_exc T,⟨o,vs,h1,h2,h3⟩,fun z=>nomatch z⟩
 | of h =>
 cases h with
 | non=>cases (show u=Value.none from rx);exact⟨_,W.kitx_none,True.intro,fun z=>nomatch z⟩
 | bl y=>cases (show u=Value.bool y from rx);exact⟨_,W.kitx_bool,True.intro,fun z=>nomatch z⟩
 | int i=>obtain⟨t,q⟩:=(show ∃t,u=Value.int i t from rx);cases q;exact⟨_,W.kitx_int,True.intro,fun z=>nomatch z⟩
 | str y=>obtain⟨t,q⟩:=(show ∃t,u=Value.str y t from rx);cases q;exact⟨_,W.kitx_str,True.intro,fun z=>nomatch z⟩
 | flt y=>obtain⟨t,q⟩:=(show ∃t,u=Value.float y t from rx);cases q;exact⟨_,W.kitx_float,True.intro,fun z=>nomatch z⟩
 | @lst a xs ea =>
  cases (show u=Value.ref a from rx)
  obtain⟨_,_,n,_,h1⟩:=(show ObjOk X.prog X.w H s.heap a (.lst xs)from I.hok a _ ea)
  exact⟨_,W.kitx_list,⟨_,h1,rfl⟩,fun z=>nomatch z⟩
 | @frz a ob xs ea =>
  cases (show u=Value.ref a from rx)
  obtain⟨_,_,_,n,_,h1⟩:=(show ObjOk X.prog X.w H s.heap a (.frz ob (.lst xs))from I.hok a _ ea)
  exact⟨_,W.kitx_list,⟨_,h1,rfl⟩,fun z=>nomatch z⟩
 | @tup a xs ea =>
  cases (show u=Value.ref a from rx)
  obtain⟨_,_,_,p⟩:=(show ObjOk X.prog X.w H s.heap a (.tup xs)from I.hok a _ ea)
  obtain⟨o,h1,h2,_⟩:=p
  exact⟨_,W.kitx_tuple,⟨o,h1,h2⟩,fun z=>nomatch z⟩
 | @dK a kvs ea =>
  cases (show u=Value.ref a from rx)
  obtain⟨_,_,vs,_,p⟩:=(show ObjOk X.prog X.w H s.heap a (.dK kvs)from I.hok a _ ea)
  obtain⟨o,es,ep,h1,h2,_⟩:=p
  exact⟨_,W.kitx_dict,⟨o,h1,h2.1⟩,fun z=>nomatch z⟩
 | @dT a kvs ea =>
  cases (show u=Value.ref a from rx)
  obtain⟨_,_,xs,_,o,es,ep,h1,h2,_⟩:=(show ObjOk X.prog X.w H s.heap a (.dT kvs)from I.hok a _ ea)
  exact⟨_,W.kitx_dict,⟨o,h1,h2.1⟩,fun z=>nomatch z⟩
 | @ins a C dx fs ea cl ha hn htk hm =>
  cases (show u=Value.ref a from rx)
  obtain⟨mA,O,_⟩:=a9d I.hok ea
  obtain⟨od,J,_⟩:=O.look
  exact⟨_,W.kitx_own (cl.get _) cl.hd ha hn htk hm,J,fun z=>nomatch z⟩
def a5e(K:W.Frag):List V→Hp→VK→Prop:=fun xs H Q=>∃x y t c b,xs=[x,y]∧b05 y=some c∧TyX K H x t∧W.kitOne K t c=some b∧Q (.bl b) H
theorem a7B:F8 X (.builtin "isinstance") (a5e X.K):=by
 intro pins s σ H xs us Q I r h
 obtain⟨x,y,t,c,b,rfl,e1,e2,e3,q⟩:=h
 obtain⟨u,v,rfl,r1,r2⟩:=b11 r
 obtain rfl:=a9o e1 r2
 obtain⟨Φ,Z,p,n⟩:=e2.kit I r1
 exact W.kia_one Z I.kIn p e3 n fun tk=>⟨.bl b,H,I.tok _,rfl,q⟩
end
def a7C:List V→List V→Bool
 | [],[]=>true
 | x::xs,y::ys=>eqV x y && a7C xs ys
 | _,_=>false
section
variable {X:Cx}{pins:List (Addr×Obj)}{σ:St}{H:Hp}{s:Shared}
theorem R0:B8 X (binaryOp .Mult) (rI IntMulOk fun i j=>.int (i*j)):=opI fun _ _ _ _ _ _ _ hc q=>mul_int q hc
theorem w9:B8 X (binaryOp .FloorDiv) (rI (fun _ j=>0<j∧j.natAbs.log2<9000) fun i j=>.int (i/j)):=opI fun i j _ _ _ _ _ hc q=>by
 have h0:j≠0:=by have:=hc.1;omega
 refine floordiv_int h0 ?_ (.inl (PyProof.noPylong_of_log2 hc.2))
 rw[Int.fdiv_eq_ediv_of_nonneg _ (Int.le_of_lt hc.1)]
 exact q
end
open PySem.W PySem.Calls
theorem a4b{ns:List Int}(h:WData.layableAll [WData.list (ns.map WData.int)]=true):∀n∈ns,Builtin.Int.intBits n≤2 ^ 20:=fun n hn=>by
 have h1:(WData.list (ns.map WData.int)).layable=true:=layableW_arg h _ (List.mem_singleton.mpr rfl)
 have h2:=layableW_item h1 (WData.int n) (List.mem_map.mpr ⟨n,hn,rfl⟩)
 have h3:=(layableW_iff.mp h2).2.2
 simpa only[WData.weight,Builtin.Int.intBits]using h3
theorem b13{P:Program}{w:World}{outer:List Env}(H:Hp)(s:Shared)(e:Value)(s':Shared)(h:m4 P w outer H s (fun _ _ _=>False) e s'):False:=by
 obtain⟨_,_,_,_,_,_,_,_,_,_,_,_,_,_,_,_,hE⟩:=h
 exact hE
structure Own(P:Program)(w:World)(K:W.Frag)(mg:Str→Option Value)(base:Heap)(k:Nat)(x:Str)(ps:List Str)(sp:Sp):Prop where
 ex:∃f fd,FnOk P w K mg base (m4 P w) k f fd ps sp∧Binds K fd ps []∧W.keepIn K (.ref f)=true∧mg x=some (.ref f)
structure OwnD(P:Program)(w:World)(K:W.Frag)(mg:Str→Option Value)(base:Heap)(k:Nat)(x:Str)(ps:List Str)(sp:Sp)(d:V):Prop where
 ex:∃f fd du,FnOk P w K mg base (m4 P w) k f fd ps sp∧Binds K fd ps []∧Binds K fd ps [du]∧RelV d du∧W.keepIn K (.ref f)=true∧mg x=some (.ref f)
section
variable {X:Cx}{k k':Nat}{ps:List Str}{sp:Sp}{x:Str}{p pos:Pos}{e:Expr}{es:List Expr}{t:TA}{E:XK}{d:V}
theorem j0(G:Own X.prog X.w X.K X.mg X.base k x ps sp)(hr:Room k' X.A)(hk:k≤k')(hx:W3 (m4 X.prog X.w) X E)(ha:PA X (e::es) t)(hg:Gl X x:=by rfl)
  (hdb:(x == ("__debug__" : Str))=false:=by decide) (he:starEach (e::es) X.env=(false,eval e X.env)::starEach es X.env:=by rfl) (hpl:(backTo pos (starEach es X.env)).any (·.1)=false:=by rfl) :
  PE X (.Call (.Name x p) (e::es) [] pos) (T7 sp [] E t):=by
 obtain⟨f,fd,F,b,kp,m⟩:=G.ex
 exact a9e F (hr.mono hk) hg m kp b .nil hx ha hdb he hpl
end
theorem b06:bootBuiltins "int" = some (.type "int"):=by decide +kernel
theorem a4C:bootBuiltins "bool" = some (.type "bool"):=by decide +kernel
theorem a14:bootBuiltins "list" = some (.type "list"):=by decide +kernel
theorem a02:bootBuiltins "tuple" = some (.type "tuple"):=by decide +kernel
theorem D8:bootBuiltins "isinstance" = some (.builtin "isinstance"):=by decide +kernel
theorem S0:bootBuiltins "len" = some (.builtin "len"):=by decide +kernel
theorem S1{H:Hp}{p:Addr}(h:H p=none)(o:HO):Same H (upd H p o):=fun b u q=>by rw[c8 (g8 q h)];exact q
def Scr(K:W.Frag)(H:Hp)(a:Addr)(xs:List V):Prop:=(∃o,H a=some (.frz o (.lst xs))) ∨
  ∃(o:Obj) (its:Array Value) (n:Nat),K.lookup a=some o∧o.cls=.type "list"∧o.dict=none∧o.data=.seq its n∧its.size≤sizeLine∧Vals xs its.toList
theorem Scr.seq{K:W.Frag}{H:Hp}{a:Addr}{xs:List V}(h:Scr K H a xs):SqL K H a xs:=h.elim (fun z=>.inl (.inr z)) .inr
theorem Scr.of{K:W.Frag}{H:Hp}{a:Addr}{xs:List V}(h:SqL K H a xs)(o:b2D H):Scr K H a xs:=by
 rcases h with(h | h) | h
 ·rcases o a with z | ⟨o,ys,z⟩
  ·rw[h]at z;cases z
  ·rw[h]at z;cases z
 ·exact .inl h
 ·exact .inr h
theorem Scr.same{K:W.Frag}{H H':Hp}{a:Addr}{xs:List V}(g:Same H H')(h:Scr K H a xs):Scr K H' a xs:=h.elim (fun⟨o,z⟩=>.inl ⟨o,g _ _ z⟩) .inr
theorem Scr.upd{K:W.Frag}{H:Hp}{a l:Addr}{xs ys:List V}{o:HO}(hl:H l=some (.lst ys))(h:Scr K H a xs):Scr K (L2.upd H l o) a xs:=h.elim (fun⟨ob,z⟩=>.inl ⟨ob,by rw[c8 (b10 z hl (by intro q;cases q))];exact z⟩) .inr
theorem small{n:Nat}(h:n≤1000):n≤sizeLine:=Nat.le_of_lt (a57 h)
section
variable {prog:Program}{w:World}{A:Around}{R:Result→Shared→Prop}{s:Shared}
theorem a4c{elt target iter:Expr}{ifs:List Expr}{scope:Scope}{pos:Pos}{it acc:Value}{env:Env}{N:Value→Shared→Prop}(hN:N=notedBy (model prog w) A env fun e s'=>R (.error e) s')(I:Nat→Shared→Prop)
  (turn:∀n s,I n s→wpAny (model prog w) A (pyNext it) (fun r s₁=>match r with
   | none=>R (.ok .next) s₁
   | some v=>wpAny (model prog w) A (letOwnedTupleGo target it v) (fun _ s₁'=>wpAny (model prog w) A (assign target env v) (fun _ s₂ =>
     wpAny (model prog w) A (forIn ifs true fun c r=>if r=true then do let ok ← isTrue c env (eval c env);pure (ForInStep.yield ok)else pure (ForInStep.yield r)) (fun ok s₃ =>
      if ok=true then wpAny (model prog w) A (eval elt env) (fun x s₄ =>
       wpAny (model prog w) A (call (.builtin "list.append") [acc,x]) (fun _ s₅=>∃m,m<n∧I m s₅) N s₄) N s₃
      else ∃m,m<n∧I m s₃) N s₂) N s₁') N s₁) N s)
  (n:Nat) (h:I n s) :
  codeAny (model prog w) A (.compLoop (.ListComp elt [⟨target,iter,ifs,0⟩] scope pos) 0 it acc env) R s:=by
 subst hN
 refine codeAny_loop rfl I (fun k z q=>?_) n h
 show wpAny _ A ((compTurn (.ListComp elt [⟨target,iter,ifs,0⟩] scope pos) 0 it acc env).onRaise (fun ex=>do noteFrame ex env;theTreesLotGoes ex)) _ _ z
 refine wpAny_noted ?_
 rw[compTurn_list]
 refine wpAny_bind (wpAny_standAt (wpAny_bind (i4 (turn k z q) fun r z1 q1=>?_)))
 cases r with
 | none=>exact wpAny_pure q1
 | some v =>
  refine wpAny_bind (i4 q1 fun _ z2 q2=>?_)
  refine wpAny_bind (i4 q2 fun _ z3 q3=>?_)
  refine wpAny_bind (i4 q3 fun ok z4 q4=>?_)
  cases ok with
  | false=>exact wpAny_pure ⟨rfl,q4⟩
  | true=>exact wpAny_bind (wpAny_bind (i4 q4 fun x z5 q5=>wpAny_bind (i4 q5 fun _ z6 q6=>wpAny_pure (wpAny_pure ⟨rfl,q6⟩))))
end
def w4(cells:List (Str×Addr)):List (Str×NameKind)→List (Str×Addr)→List (Str×Addr)
 | [],acc=>acc
 | (n,k)::r,acc=>if k == .free then(match cells.lookup n with
   | some c=>w4 cells r ((n,c)::acc)
   | none=>w4 cells r acc)else w4 cells r acc
theorem T8{cells:List (Str×Addr)}{x:Str}{c:Addr}:∀{names:List (Str×NameKind)} {acc:List (Str×Addr)},(∀d,acc.lookup x=some d→cells.lookup x=some d)→(w4 cells names acc).lookup x=some c→cells.lookup x=some c
 | [],acc,h,e=>h c e
 | (n,k)::r,acc,h,e=>by
  unfold w4 at e
  split at e
  ·split at e
   ·rename_i c' hc'
    refine T8 (fun d q=>?_) e
    rw[List.lookup_cons]at q
    split at q
    ·rename_i hx
     have hx':x=n:=by simpa using hx
     cases q
     rw[hx'];exact hc'
    ·exact h d q
   ·exact T8 h e
  ·exact T8 h e
theorem O0{cells:List (Str×Addr)}{x:Str}:∀{names:List (Str×NameKind)} {acc:List (Str×Addr)},(∃d,acc.lookup x=some d)→∃d,(w4 cells names acc).lookup x=some d
 | [],acc,h=>h
 | (n,k)::r,acc,h=>by
  unfold w4
  split
  ·split
   ·refine O0 ?_
    rw[List.lookup_cons]
    split
    ·exact⟨_,rfl⟩
    ·exact h
   ·exact O0 h
  ·exact O0 h
theorem E7{cells:List (Str×Addr)}{x:Str}:∀{names:List (Str×NameKind)} {acc:List (Str×Addr)},(x,NameKind.free)∈names→(∃c,cells.lookup x=some c)→∃d,(w4 cells names acc).lookup x=some d
 | [],acc,h,_=>by simp at h
 | (n,k)::r,acc,h,hc=>by
  unfold w4
  rcases List.mem_cons.mp h with e | h
  ·cases e
   obtain⟨c,hc⟩:=hc
   rw[if_pos (by rfl),hc]
   exact O0 ⟨c,by simp[List.lookup_cons]⟩
  ·split
   ·split
    ·exact E7 h hc
    ·exact E7 h hc
   ·exact E7 h hc
theorem X9{env:Env}:∀(names:List (Str×NameKind)) (acc:List (Str×Addr)),(∀y∈names,y.2=.free→∃c,env.cells.lookup y.1=some c) →
  (forIn names acc fun(x:Str×NameKind) (cs:List (Str×Addr))=>if(x.2 == NameKind.free)=true then do let a ← cellOf env x.1;pure (ForInStep.yield ((x.1,a)::cs))else pure (ForInStep.yield cs):Sem (List (Str×Addr)))=pure (w4 env.cells names acc)
 | [],acc,_=>rfl
 | (n,k)::r,acc,h=>by
  rw[List.forIn_cons]
  unfold w4
  by_cases hk:(k == NameKind.free)=true
  ·obtain⟨c,hc⟩:=h (n,k) List.mem_cons_self (by simpa using hk)
   have e:cellOf env n=pure c:=by unfold cellOf;rw[hc]
   rw[if_pos hk,if_pos hk,hc,e]
   exact X9 r _ fun y hy=>h y (List.mem_cons_of_mem _ hy)
  ·rw[if_neg hk,if_neg hk]
   exact X9 r acc fun y hy=>h y (List.mem_cons_of_mem _ hy)
theorem a0P{scope:Scope}{env:Env}(h:∀y∈scope.names,y.2=.free→∃c,env.cells.lookup y.1=some c):closureFor scope env=pure (w4 env.cells scope.names []):=by
 have:=X9 (env:=env) scope.names [] h
 unfold closureFor
 exact(congrArg (· >>= pure) this).trans (by first | rfl | simp)
theorem F9{env:Env}:∀{names:List (Str×NameKind)} {x:Str} {k':NameKind},
  (names.map fun(n,k)=>if(k == NameKind.free && env.scope.kind == .function && env.kindOf n == some .cell)then(n,NameKind.cell)else(n,k)).lookup x=some k' →
  ∃k,names.lookup x=some k∧(k'=k∨(k=.free∧k'=.cell))
 | [],_,_,h=>by simp at h
 | (n,k)::r,x,k',h=>by
  rw[List.map_cons]at h
  dsimp only at h
  by_cases hc:(k == NameKind.free && env.scope.kind == .function && env.kindOf n == some .cell)=true
  ·rw[if_pos hc,List.lookup_cons]at h
   rw[List.lookup_cons]
   split at h
   ·rename_i hx
    cases h
    have hk:k=.free:=by
     have:=(Bool.and_eq_true _ _▸(Bool.and_eq_true _ _▸hc).1).1
     simpa using this
    exact⟨k,rfl,.inr ⟨hk,rfl⟩⟩
   ·rename_i hx
    obtain⟨k2,q1,q2⟩:=F9 h
    exact⟨k2,q1,q2⟩
  ·rw[if_neg hc,List.lookup_cons]at h
   rw[List.lookup_cons]
   split at h
   ·rename_i hx
    cases h
    exact⟨k,rfl,.inl rfl⟩
   ·rename_i hx
    obtain⟨k2,q1,q2⟩:=F9 h
    exact⟨k2,q1,q2⟩
theorem E3{env:Env}:∀{names:List (Str×NameKind)} {x:Str},names.lookup x=some .free →
  (names.map fun(n,k)=>if(k == NameKind.free && env.scope.kind == .function && env.kindOf n == some .cell)then(n,NameKind.cell)else(n,k)).lookup x=some .cell ∨
  (names.map fun(n,k)=>if(k == NameKind.free && env.scope.kind == .function && env.kindOf n == some .cell)then(n,NameKind.cell)else(n,k)).lookup x=some .free
 | [],_,h=>by simp at h
 | (n,k)::r,x,h=>by
  rw[List.map_cons]
  dsimp only
  rw[List.lookup_cons]at h
  by_cases hc:(k == NameKind.free && env.scope.kind == .function && env.kindOf n == some .cell)=true
  ·rw[if_pos hc,List.lookup_cons]
   split at h
   ·rename_i hx
    left;rfl
   ·rename_i hx
    exact E3 (env:=env) h
  ·rw[if_neg hc,List.lookup_cons]
   split at h
   ·rename_i hx
    right;exact h
   ·rename_i hx
    exact E3 (env:=env) h
structure CompSc(Sc scope:Scope)(N Nc:List Str)(k:Nat)(js:List Nat):Prop where
 cell:∀y∈scope.names,y.2≠.cell
 kind:scope.kind=.function
 names:∀y∈scope.names,y.2=.local→scope.names.lookup y.1=some .local
 free:∀y∈scope.names,y.2=.free→Sc.names.lookup y.1=some .cell∨Sc.names.lookup y.1=some .free
 nd:Nc.Nodup
 len:Nc.length=k+js.length
 cap:(Nc.drop k).map some=js.map fun j=>N[j]?
 caps:∀x∈Nc.drop k,scope.names.lookup x=some .free
def k6(k:Nat)(js:List Nat)(σ:St):St:=List.replicate k none++js.map fun j=>(σ[j]?).getD none
theorem B0{names:List (Str×NameKind)}{x:Str}{k:NameKind}(h:names.lookup x=some k):(x,k)∈names:=PySem.mem_of_lookup h
abbrev y9(X:Cx)(scope:Scope)(Nc:List Str)(C:Addr)(s3:Shared)(H3:Hp)(fp:List Addr)(xe:Value→Shared→Prop):Cx :=
 { X with N:=Nc,s₀:=s3,H₀:=H3,env:=compEnvC scope (w4 X.env.cells scope.names []) C X.env,outer:=X.stack,ex:=fp,fn:=fun _=>false,pn:=[],xe:=xe }
section
variable {X:Cx}{pins:List (Addr×Obj)}{σ:St}{H3:Hp}{s3:Shared}{scope:Scope}{Nc:List Str}{k:Nat}{js:List Nat}{fp:List Addr}{xe:Value→Shared→Prop}{h₁:Heap}{m₀:Str→Option Value}{tk:Nat}
theorem a5f(I:Inv X pins σ H3 s3)(S:CompSc X.env.scope scope X.N Nc k js):∀y∈scope.names,y.2=.free→∃c,X.env.cells.lookup y.1=some c:=fun y hy hk=>I.ok.has y.1 (S.free y hy hk)
theorem x4{x:Str}{c:Addr}(e:(w4 X.env.cells scope.names []).lookup x=some c):X.env.cells.lookup x=some c:=T8 (fun d q=>by simp at q) e
theorem a7D(I:Inv X pins σ H3 s3)(S:CompSc X.env.scope scope X.N Nc k js)(hf:∀b∈fp,FpOk X pins H3 b)(hfo:∀b∈fp,b<s3.heap.objs.size)(hns:h₁.Ns s3.heap.objs.size m₀)(old:∀b o,s3.heap.get? b=some o→h₁.get? b=some o) :
  Inv (y9 X scope Nc s3.heap.objs.size s3 H3 fp xe) [] (k6 k js σ) H3 { s3 with heap:=h₁,toks:=tk }:=by
 have ok:=I.ok
 have hb0:∀b o,X.base.get? b=some o→b<X.s₀.heap.objs.size:=fun b o e=>Nat.lt_of_lt_of_le (Heap.lt_size e) ok.bsz
 refine⟨⟨ok.mod,S.kind,ok.glob,ok.blt,Nat.le_refl _,fun x y c h1 h2=>ok.inj x y c (x4 h1) (x4 h2),fun x hx=>?_,(fun x c z=>nomatch z),ok.hd,ok.frames,.inl rfl,fun b hb=>⟨Nat.ne_of_lt (hfo b hb),fun x c e=>(hf b hb).2.2.2.2.1 x c (x4 e)⟩,I.bs,Nat.le_trans ok.bsz I.sz,fun b o e hb=>?_,fun b hb z=>?_,I.stack,I.stkFree⟩,
  rfl,I.bare,Un.kept old,⟨m₀,hns,fun i x v e1 e2 e3=>?_⟩,fun x c e=>?_,I.hok.fresh (Nat.le_refl _),fun x c e=>I.freeC x c (x4 e),fun p hp=>absurd (show p∈([]:List (Addr×Obj))from hp) (by simp),I.hok.kept old,?_⟩
 ·have hx:(relabel scope X.env).names.lookup x=some .cell∨(relabel scope X.env).names.lookup x=some .free:=hx
  have hfree:scope.names.lookup x=some .free:=by
   rcases hx with hx | hx
   ·obtain⟨k2,q1,q2⟩:=F9 (env:=X.env) hx
    rcases q2 with q2 | ⟨q2,_⟩
    ·subst q2;exact absurd rfl (S.cell _ (B0 q1))
    ·rw[q2]at q1;exact q1
   ·obtain⟨k2,q1,q2⟩:=F9 (env:=X.env) hx
    rcases q2 with q2 | ⟨q2,q3⟩
    ·subst q2;exact q1
    ·cases q3
  exact E7 (B0 hfree) (ok.has x (S.free _ (B0 hfree) rfl))
 ·rcases(hf b hb).2.2.2.1 with z | z
  ·exact ok.noex b o e z
  ·exact absurd (Nat.lt_of_lt_of_le (hb0 b o e) z) (Nat.lt_irrefl _)
 ·rcases List.mem_cons.mp (I.stkSub b z)with q | q
  ·exact(hf b hb).2.1 q
  ·exact(hf b hb).2.2.1 q
 ·have hlen:(List.replicate k (none:Option V)).length=k:=List.length_replicate
  by_cases hi:i<k
  ·unfold k6 at e2
   rw[List.getElem?_append_left (by omega),List.getElem?_replicate]at e2
   split at e2<;>cases e2
  ·unfold k6 at e2
   rw[List.getElem?_append_right (by omega),hlen,List.getElem?_map]at e2
   cases hj:js[i-k]? with
   | none=>rw[hj]at e2;cases e2
   | some j =>
    rw[hj]at e2
    have e2':(σ[j]?).getD none=some v:=Option.some.inj e2
    have hσ:σ[j]? = some (some v):=by
     cases q:σ[j]? with
     | none=>rw[q]at e2';cases e2'
     | some y=>rw[q]at e2';simp at e2';rw[e2']
    have hx:(Nc.drop k)[i-k]? = some x:=by rw[List.getElem?_drop];rw[show k+(i-k)=i by omega];exact e1
    have hNj:X.N[j]? = some x:=by
     have:=congrArg (fun l=>l[i-k]?) S.cap
     simp only[List.getElem?_map,hx,hj,Option.map_some]at this
     exact(Option.some.inj this).symm
    have hfr:scope.names.lookup x=some .free:=S.caps x (List.mem_of_getElem? hx)
    have hk:=S.free _ (B0 hfr) rfl
    obtain⟨m,hn,hl⟩:=I.loc
    obtain⟨u,r,l⟩:=hl j x v hNj hσ (.inr hk)
    refine⟨u,r,.inr ⟨E3 hfr,?_⟩⟩
    rcases l with⟨l1,_⟩ | ⟨_,c,hc,hcell⟩
    ·have l1:X.env.scope.names.lookup x=some .local:=l1
     rcases hk with hk | hk
     ·rw[l1]at hk;cases hk
     ·rw[l1]at hk;cases hk
    ·obtain⟨d,hd⟩:=E7 (cells:=X.env.cells) (acc:=[]) (B0 hfr) ⟨c,hc⟩
     have:=x4 hd
     rw[hc]at this;cases this
     obtain⟨o,ho,hdd⟩:=hcell
     exact⟨c,hd,⟨o,old _ _ ho,hdd⟩⟩
 ·obtain⟨v,o,ho,hd⟩:=I.cell x c (x4 e)
  exact⟨v,o,old _ _ ho,hd⟩
 ·unfold k6
  rw[List.length_append,List.length_replicate,List.length_map]
  exact S.len.symm
end
def PF(X:Cx)(ifs:List Expr)(t:TT):Prop :=
 ∀(pins:List (Addr×Obj)) (s:Shared) (σ:St) (H:Hp) (Q:Bool→Hp→Prop),Inv X pins σ H s→t σ H Q →
  wpAny (model X.prog X.w) X.A (forIn ifs true fun c r=>if r=true then do let ok ← isTrue c X.env (eval c X.env);pure (ForInStep.yield ok)else pure (ForInStep.yield r)) (TP X pins σ Q) X.xe s
def a8V:TT:=fun _ H Q=>Q true H
theorem J2{X:Cx}:PF X [] a8V:=fun pins s σ H Q I h=>wpAny_tests_nil ⟨H,I,h⟩
def W4(J:It)(g:TG)(tf:TT)(te:TE)(k:Nat)(σ0:St)(D:Addr)(Fin:Hp→Prop)(H1:Hp):Prop :=
 ∃W:Nat→Nat→List V→Hp→Prop,(∃m,W 0 m [] (upd H1 D (.lst [])))∧∀i m ys H,W i m ys H →
  (J.stop i H∧Fin H)∨(J.go i H∧∃N:List V→Hp→Prop,(∀ys' H',N ys' H'→∃m',m'<m∧W (i+1) m' ys' H')∧∀x H',J.yld i H x H'→g x σ0 H' fun σ2 H2=>(σ2.drop k=σ0.drop k∧σ2.length=σ0.length)∧tf σ2 H2 fun b H3 =>
   if b=true then te σ2 H3 fun y H4=>H4 D=some (.lst ys)∧ys.length<sizeLine∧N (ys++[y]) (upd H4 D (.lst (ys++[y])))else N ys H3)
section
variable {X:Cx}{pins:List (Addr×Obj)}{σ:St}{H:Hp}{s:Shared}{elt tg iter:Expr}{ifs:List Expr}{scope:Scope}{pos:Pos}{Nc:List Str}{k:Nat}{js:List Nat}{g:TG}{tf:TT}{te:TE}
theorem a5g{J:It}{fp:List Addr}{it:Addr}{tn:Nat→Heap→Prop}{E:Value→Shared→Prop}{RR:Value→Addr→Result→Shared→Prop}{Fin:Addr→Hp→Prop}(hc:X.calm=true)(S:CompSc X.env.scope scope X.N Nc k js)
  (hg:∀C s3 H3 fp xe,PG (y9 X scope Nc C s3 H3 fp xe) tg g) (hf:∀C s3 H3 fp xe,PF (y9 X scope Nc C s3 H3 fp xe) ifs tf)
  (he:∀C D H3,∃xe:Value→Shared→Prop,(∀e s',xe e s'→notedBy (model X.prog X.w) X.A (compEnvC scope (w4 X.env.cells scope.names []) C X.env) (fun e s'=>RR (.ref D) C (.error e) s') e s') ∧
   ∀s3,Inv X pins σ H3 s3→C=s3.heap.objs.size→(∀b∈fp,FpOk X pins H3 b)→PE (y9 X scope Nc C s3 H3 fp xe) elt te)
  (I2:Inv X pins σ H s) (T:Turn X.prog X.w X.K tg J fp it tn) (st2:tn 0 s.heap) (f2:∀b∈fp,FpOk X pins H b) (hR:∀D,H D=none→W4 J g tf te k (k6 k js σ) D (Fin D) H)
  (hRR:∀D C H' s' m',Inv X pins σ H' s'→s'.heap.Ns C m'→H' C=none→C≠X.env.locals→X.s₀.heap.objs.size≤C→(∀x c,X.env.cells.lookup x=some c→c≠C)→(∀p∈X.pn++pins,p.1≠C)→Fin D H'→RR (.ref D) C (.ok .next) s') :
  wpAny (model X.prog X.w) X.A (newList []) (fun acc s₃=>wpAny (model X.prog X.w) X.A (newFunctionEnv scope X.env.globals (w4 X.env.cells scope.names []) [] X.env.qual none .none (some X.env)) (fun cenv s₄ =>
   codeAny (model X.prog X.w) X.A (.compStart (.ListComp elt [⟨tg,iter,ifs,0⟩] scope pos) 0 (.ref it) acc { cenv with scope:=relabel scope X.env }) (RR acc cenv.locals) s₄) E s₃) E s:=by
 refine wpAny_newObj_type (wpAny_newFunctionEnv S.cell (by intro y hy;simp at hy) (fun h₁ hns₁ hsb₁=>?_) S.kind)
 dsimp only at hns₁ hsb₁ ⊢
 have I3:Inv X pins σ (upd H s.heap.objs.size (.lst [])) { s with heap:=s.heap.push { cls:=.type "list",data:=.seq ([]:List Value).toArray },toks:=s.toks }:=I2.lnew (its:=[]) .nil (Nat.zero_le _)
 have hDn:H s.heap.objs.size=none:=I2.fresh
 obtain⟨W,⟨m0,w0⟩,turn⟩:=hR _ hDn
 generalize hs3:({ s with heap:=s.heap.push { cls:=.type "list",data:=.seq ([]:List Value).toArray },toks:=s.toks }:Shared)=s3 at I3
 have e3:s3.heap=s.heap.push { cls:=.type "list",dict:=none,data:=.seq ([]:List Value).toArray }:=by rw[← hs3]
 rw[← e3]at hns₁ hsb₁ ⊢
 have fpo:∀b∈fp,b<s.heap.objs.size:=fun b hb=>by obtain⟨o,e,_⟩:=T.obj _ _ st2 b hb;exact Heap.lt_size e
 have sz3:s3.heap.objs.size=s.heap.objs.size+1:=by rw[e3,Heap.size_push]
 have fpo3:∀b∈fp,b<s3.heap.objs.size:=fun b hb=>by rw[sz3];exact Nat.lt_succ_of_lt (fpo b hb)
 have f3:∀b∈fp,FpOk X pins (upd H s.heap.objs.size (.lst [])) b:=fun b hb=>⟨by rw[c8 (Nat.ne_of_lt (fpo b hb))];exact(f2 b hb).1,(f2 b hb).2⟩
 have old:∀b o,s3.heap.get? b=some o→h₁.get? b=some o:=fun b o e=>hsb₁.extBut b o (Nat.ne_of_lt (Heap.lt_size e)) (Heap.get?_push_of_some _ e)
 have oldS:∀b o,s.heap.get? b=some o→h₁.get? b=some o:=fun b o e=>old b o (by rw[e3];exact Heap.get?_push_of_some _ e)
 obtain⟨xe,hxe,hel⟩:=he s3.heap.objs.size s.heap.objs.size (upd H s.heap.objs.size (.lst []))
 have hel:=hel s3 I3 rfl f3
 have I4:Inv (y9 X scope Nc s3.heap.objs.size s3 (upd H s.heap.objs.size (.lst [])) fp xe) [] (k6 k js σ) (upd H s.heap.objs.size (.lst [])) { s3 with heap:=h₁,toks:=s.toks+([]:List (Str×Value)).length } :=
  a7D I3 S f3 fpo3 hns₁ old
 have st4:tn 0 h₁:=T.keep _ _ _ st2 fun b hb o e=>oldS b o e
 have es3:({ s3 with heap:=h₁,toks:=s.toks+([]:List (Str×Value)).length }:Shared)={ s with heap:=h₁,toks:=s.toks+([]:List (Str×Value)).length }:=by rw[← hs3]
 rw[es3]at I4
 have ok:=I2.ok
 have lk:=I3.lt
 have hCL:s3.heap.objs.size≠X.env.locals:=Nat.ne_of_gt lk
 have stat:∀{H':Hp},(∀b∈fp,H' b=none)→∀b∈fp,FpOk (y9 X scope Nc s3.heap.objs.size s3 (upd H s.heap.objs.size (.lst [])) fp xe) [] H' b:=fun hn b hb =>
  ⟨hn b hb,Nat.ne_of_lt (fpo3 b hb),fun z=>(List.mem_cons.mp (I3.stkSub b z)).elim (fun q=>(f3 b hb).2.1 q) fun q=>(f3 b hb).2.2.1 q,.inl hb,fun x c e=>(f3 b hb).2.2.2.2.1 x c (x4 e),fun p hp=>absurd (show p∈([]:List (Addr×Obj))from hp) (by simp)⟩
 have loop:codeAny (model X.prog X.w) X.A (.compLoop (.ListComp elt [⟨tg,iter,ifs,0⟩] scope pos) 0 (.ref it) (.ref s.heap.objs.size) (compEnvC scope (w4 X.env.cells scope.names []) s3.heap.objs.size X.env))
    (RR (.ref s.heap.objs.size) s3.heap.objs.size) { s with heap:=h₁,toks:=s.toks+([]:List (Str×Value)).length }:=by
  refine a4c rfl (fun n s'=>∃i ys H',Inv (y9 X scope Nc s3.heap.objs.size s3 (upd H s.heap.objs.size (.lst [])) fp xe) [] (k6 k js σ) H' s'∧tn i s'.heap∧(∀b∈fp,H' b=none)∧W i n ys H') ?_ m0 ⟨0,[],_,I4,st4,fun b hb=>(f3 b hb).1,w0⟩
  rintro n s5 ⟨i,ys,H5,I5,st5,fr5,w5⟩
  rcases turn i n ys H5 w5 with⟨stop,fin⟩ | ⟨go,Nx,hNx,step⟩
  ·refine i4 (T.done (y9 X scope Nc s3.heap.objs.size s3 (upd H s.heap.objs.size (.lst [])) fp xe) rfl rfl rfl hc i [] s5 (k6 k js σ) H5 _ I5 (stat fr5) st5 stop) fun r s6 ⟨hr,I6⟩=>?_
   subst hr
   obtain⟨m6,hn6,_⟩:=I6.loc
   have J:Inv X pins σ H5 s6:=I3.call' (ch:=fp) (I6.os.trans rfl) I6.base I6.hok I6.bare fun b hb=>⟨(f3 b hb).2.2.2.1,(f3 b hb).2.1,(f3 b hb).2.2.2.2.1,(f3 b hb).2.2.2.2.2⟩
   refine hRR _ _ H5 s6 m6 J hn6 I6.free hCL (I3.sz) (fun x c e z=>?_) (fun p hp z=>?_) fin
   ·obtain⟨v,q⟩:=I3.cell x c e
    exact absurd q.lt (by rw[z];exact Nat.lt_irrefl _)
   ·exact absurd (Heap.lt_size (I3.pin p hp).1) (by rw[z];exact Nat.lt_irrefl _)
  ·refine i4 (T.item (y9 X scope Nc s3.heap.objs.size s3 (upd H s.heap.objs.size (.lst [])) fp xe) rfl rfl rfl hc i [] s5 (k6 k js σ) H5 _ I5 (stat fr5) st5 go) fun r s6 ⟨u,hr,h6⟩=>?_
   subst hr
   refine i4 h6 fun _ s7 ⟨x,H7,I7,r7,y7,st7,fr7⟩=>?_
   have I7':=I7.pinned (stat fr7) (T.obj _ _ st7)
   refine wpAny_mono (hg _ _ _ _ _ _ s7 _ H7 x u _ I7' r7 (step x H7 y7)) (fun _ s8 ⟨σ8,H8,I8,⟨d8,l8⟩,q8⟩=>?_) fun e s' z=>hxe e s' z
   refine wpAny_mono (hf _ _ _ _ _ _ s8 σ8 H8 _ I8 q8) (fun b s9 ⟨H9,I9,q9⟩=>?_) fun e s' z=>hxe e s' z
   have again:∀{H':Hp} {s':Shared} {ys':List V},Inv (y9 X scope Nc s3.heap.objs.size s3 (upd H s.heap.objs.size (.lst [])) fp xe) ([]++a0i fp s7.heap) σ8 H' s'→Nx ys' H' →
     ∃m,m<n∧∃i ys H',Inv (y9 X scope Nc s3.heap.objs.size s3 (upd H s.heap.objs.size (.lst [])) fp xe) [] (k6 k js σ) H' s'∧tn i s'.heap∧(∀b∈fp,H' b=none)∧W i m ys H':=fun{H' s' ys'} I' hw=>by
    obtain⟨m',hm,w'⟩:=hNx _ _ hw
    refine⟨m',hm,i+1,ys',H',(I'.unpinned).weak l8.symm fun j v e=>?_,T.keep _ _ _ st7 fun b hb o e=>(I'.pin (b,o) (List.mem_append_right _ (List.mem_append_right _ (Q3 hb e)))).1,fun b hb=>?_,w'⟩
    ·by_cases hj:j<k
     ·unfold k6 at e
      rw[List.getElem?_append_left (by rw[List.length_replicate];exact hj),List.getElem?_replicate]at e
      split at e<;>cases e
     ·have e':((k6 k js σ).drop k)[j-k]? = some (some v):=by rw[List.getElem?_drop,show k+(j-k)=j by omega];exact e
      rw[← d8,List.getElem?_drop,show k+(j-k)=j by omega]at e'
      exact e'
    ·obtain⟨o,e,d⟩:=T.obj _ _ st7 b hb
     exact(I'.pin (b,o) (List.mem_append_right _ (List.mem_append_right _ (Q3 hb e)))).2.1
   cases b with
   | false =>
    rw[if_neg Bool.false_ne_true]at q9 ⊢
    exact again I9 q9
   | true =>
    rw[if_pos rfl]at q9 ⊢
    refine wpAny_mono (hel _ s9 σ8 H9 _ I9 q9) (fun v s10 ⟨y,H10,I10,r10,hD,hz,w'⟩=>?_) fun e s' z=>hxe e s' z
    refine wpAny_mono (a0k (X:=y9 X scope Nc s3.heap.objs.size s3 (upd H s.heap.objs.size (.lst [])) fp xe) _ s10 σ8 H10 (.ref s.heap.objs.size) [y] (.ref s.heap.objs.size) [v] (fun _ H'=>H'=upd H10 s.heap.objs.size (.lst (ys++[y]))) I10 rfl (.cons r10 .nil)
     ⟨_,ys,y,rfl,rfl,hD,hz,rfl⟩) (fun _ s11 ⟨_,H11,I11,_,q11⟩=>?_) fun e s' z=>hxe e s' z
    subst q11
    exact again I11 w'
 exact codeAny_compStart_list loop (T.self _ 0 _ _ _ st4 loop)
end
def a26(wi:TI)(g:TG)(tf:TT)(te:TE)(k:Nat)(js:List Nat):TE:=fun σ H Q=>wi σ H fun J H1=>∀D,H1 D=none→W4 J g tf te k (k6 k js σ) D (fun H'=>Q (.ref D) H') H1
section
variable {X:Cx}{elt tg iter:Expr}{ifs:List Expr}{scope:Scope}{pos:Pos}{Nc:List Str}{k:Nat}{js:List Nat}{wi:TI}{g:TG}{tf:TT}{te:TE}
theorem E2(hc:X.calm=true)(S:CompSc X.env.scope scope X.N Nc k js)(hi:PI X tg iter wi)(hg:∀C s3 H3 fp xe,PG (y9 X scope Nc C s3 H3 fp xe) tg g)(hf:∀C s3 H3 fp xe,PF (y9 X scope Nc C s3 H3 fp xe) ifs tf)
  (he:∀C s3 H3 fp xe,PE (y9 X scope Nc C s3 H3 fp xe) elt te) (hs:∀x,foldedSetIterable iter X.env x=pure x:=by intro _;rfl):PE X (.ListComp elt [⟨tg,iter,ifs,0⟩] scope pos) (a26 wi g tf te k js):=by
 intro pins s σ H Q I h
 rw[eval_ListComp]
 refine wpAny_comprehension_free (use:=none) rfl hs (a0P (a5f I S)) S.kind S.names (i4 (hi pins s σ H _ I h) fun v s1 h1=>i4 h1 fun itv s2 h2=>?_)
 obtain⟨it,fp,tn,J,H2,rfl,I2,T,st2,f2,hR⟩:=h2
 refine a5g (RR:=fun acc C=>compPost (model X.prog X.w) X.A X.xe none (EP X pins σ Q) acc C) (Fin:=fun D H'=>Q (.ref D) H') hc S hg hf (fun C D H3=>⟨fun _ _=>False,fun _ _ z=>z.elim,fun s3 _ _ _=>he _ _ _ _ _⟩) I2 T st2 f2 hR ?_
 intro D C H' s' m' I' hn hC hCL hsz hcl hpn q
 exact⟨m',hn,fun h' hs'=>⟨.ref D,H',I'.turned (t':=s'.toks) (fun b o hb e=>(hs'.2 b hb).trans e) hC hCL (.inr hsz) hcl hpn,rfl,q⟩⟩
end
theorem a59{K:W.Frag}{a:Addr}{xs:List V}{g:TG}{tf:TT}{te:TE}{k:Nat}{σ0:St}{D:Addr}{Fin:Hp→Prop}{H1:Hp}(Pv:Nat→List V→Hp→Prop)(h0:Pv 0 [] (upd H1 D (.lst [])))(hl:∀i ys H,i≤xs.length→Pv i ys H→SqL K H a xs)
  (hs:∀i x ys H,xs[i]? = some x→Pv i ys H→g x σ0 H fun σ2 H2=>(σ2.drop k=σ0.drop k∧σ2.length=σ0.length)∧tf σ2 H2 fun b H3 =>
   if b=true then te σ2 H3 fun y H4=>H4 D=some (.lst ys)∧ys.length<sizeLine∧Pv (i+1) (ys++[y]) (upd H4 D (.lst (ys++[y])))else Pv (i+1) ys H3)
  (hd:∀ys H,Pv xs.length ys H→Fin H):W4 (Itl K a) g tf te k σ0 D Fin H1:=by
 refine⟨fun i m ys H=>m=xs.length-i∧i≤xs.length∧Pv i ys H,⟨xs.length,by simp,Nat.zero_le _,h0⟩,?_⟩
 rintro i m ys H ⟨rfl,hi,p⟩
 have q:=hl i ys H hi p
 by_cases hlt:i<xs.length
 ·refine .inr ⟨⟨xs,xs[i],q,by simp[hlt]⟩,Pv (i+1),fun ys' H' z=>⟨xs.length-(i+1),by omega,rfl,hlt,z⟩,fun x H' y=>?_⟩
  obtain⟨e,y⟩:=y
  subst e
  exact hs i x ys _ (y xs q) p
 ·have e:i=xs.length:=by omega
  subst e
  exact .inl ⟨⟨xs,q,Nat.le_refl _⟩,hd ys H p⟩
section
variable {X:Cx}{pins:List (Addr×Obj)}{σ:St}{H:Hp}{s:Shared}
theorem Inv.turnedN{h':Heap}{t':Nat}{ch:List Addr}(I:Inv X pins σ H s)(k:∀b u,b ∉ ch→s.heap.get? b=some u→h'.get? b=some u)(hf:∀b∈ch,FpOk X pins H b):Inv X pins σ H { s with heap:=h',toks:=t' }:=by
 have nch:∀b u,H b=some u→b ∉ ch:=fun b u q z=>by rw[(hf b z).1]at q;cases q
 refine I.call (g':=s.gens) (d':=s.drawn) (ch:=ch) ⟨fun b u q _ _ hx=>k b u hx q,fun b u q _ _ hx=>⟨u.slots,k b u hx q⟩,fun b u q n _=>n,fun b u q hx=>⟨u,k b u hx q⟩,fun b xs q=>q,fun b u xs q=>q,fun b ps q=>⟨#[],by rw[q];simp⟩⟩ (fun b u q=>?_) I.bare
  fun b hb=>⟨(hf b hb).2.2.2.1,(hf b hb).2.1,(hf b hb).2.2.2.2.1,(hf b hb).2.2.2.2.2⟩
 refine(I.hok b u q).stay (fun c v hc r=>k c v ?_ r) (fun c z=>z) (fun c xs z=>z) fun c ob u z=>z
 rcases hc with hc | hc
 ·rw[hc];exact nch b u q
 ·exact nch c _ hc
end
section
variable {X:Cx}{K:W.Frag}
theorem t9(hK:X.K=K:=by rfl):IxR X (a7r K):=hK▸a9h
theorem d5(hK:X.K=K:=by rfl):IxR X (a7s K):=hK▸b0W
theorem a3s(hK:X.K=K:=by rfl):SlR X (a7u K):=hK▸a9i
theorem a5_(hK:X.K=K:=by rfl):B8 X (compareOp .NotIn) (rIn K true):=hK▸a3m
theorem a9p(hu:X.A.units<cLine)(hK:X.K=K:=by rfl):B8 X (compareOp .Lt) (a7q K):=hK▸b0V hu
def a4D(K:W.Frag):List V→Hp→VK→Prop:=fun xs H Q=>∃p ys,xs=[.ref p]∧(SqL K H p ys∨SqT K H p ys)∧Q (.int ys.length) H
theorem x5(hK:X.K=K:=by rfl):F8 X (.builtin "len") (a4D K):=hK▸a3n
def a4E(K:W.Frag):List V→Hp→VK→Prop:=fun xs H Q=>∃p ys,xs=[.ref p]∧(SqL K H p ys∨SqT K H p ys)∧∀l,H l=none→Q (.ref l) (upd H l (.lst ys))
theorem a0c(hK:X.K=K:=by rfl):F8 X (.type "list") (a4E K):=hK▸a3o
theorem O6(hK:X.K=K:=by rfl):F8 X (.builtin "isinstance") (a5e K):=hK▸a7B
theorem M3{es:List Expr}{k:Nat}{t:TGs}{n:Nat}{pos:Pos}(hc:X.calm=true)(h:PGs X es t)(hK:X.K=K:=by rfl)(hn:(assignEach es X.env).length=n:=by rfl)(hst:(assignEach es X.env).findIdx? (·.1)=none:=by rfl) :
  PG X (.Tuple es k pos) (a7m K n t):=hK▸b0L hc h hn hst
variable {o e:Expr}{es:List Expr}{to:TE}{t:TA}{name:Str}{apos cpos:Pos}{T id:String}{r:V→List V→Hp→VK→Prop}
theorem a9q(pa:PlainAttrs T)(slot:Slot T name id)(hty:typeOf (.builtin id)=pure (.type "method_descriptor"))(hm:MtR X id r)(ho:PE X o to)(hK:X.K=K:=by rfl)
  (hbase:attributeBase o name X.env (eval o X.env)=eval o X.env:=by rfl) (hline:(apos.endLine == cpos.line)=true:=by rfl):PE X (.Call (.Attribute o name apos) [] [] cpos) (a7v K T r to):=hK▸b00 pa slot hty hm ho hbase hline
theorem a6a(pa:PlainAttrs T)(slot:Slot T name id)(hty:typeOf (.builtin id)=pure (.type "method_descriptor"))(hm:MtR X id r)(ho:PE X o to)(ha:PA X (e::es) t)(hK:X.K=K:=by rfl)
  (hbase:attributeBase o name X.env (eval o X.env)=eval o X.env:=by rfl)
  (hfew:((backTo cpos (starEach (e::es) X.env)).all (fun x=>!x.1) && (backToKw cpos (keywordEach [] X.env)).all (fun x=>x.1.isSome)
   && decide ((e::es).length+([]:List Keyword).length+(if([]:List Keyword).isEmpty then 0 else 1)<30))=true:=by rfl)
  (hline:(apos.endLine == cpos.line)=true:=by rfl) (hs:starEach (e::es) X.env=(false,eval e X.env)::starEach es X.env:=by rfl) (hplain:(backTo cpos (starEach es X.env)).any (·.1)=false:=by rfl) :
  PE X (.Call (.Attribute o name apos) (e::es) [] cpos) (tBM K T r to t):=hK▸b12 pa slot hty hm ho ha hbase hfew hline hs hplain
end
section
variable {X:Cx}
theorem a2B:∀(bs:List Bool),(List.range bs.length).all (fun i=>bs.getD i false)=bs.all id
 | []=>rfl
 | b::r=>by
  rw[List.length_cons,List.range_succ_eq_map,List.all_cons,List.all_map,List.all_cons,← a2B r];rfl
def b07(K:W.Frag):List V→Hp→VK→Prop:=fun xs H Q=>∃(a:Addr) (bs:List Bool),xs=[.ref a]∧SqL K H a (bs.map V.bl)∧Q (.bl (bs.all id)) H
theorem a7E{bs:List Bool}{us:List Value}(r:Vals (bs.map V.bl) us){i:Nat}{v:Value}(h:us.toArray[i]? = some v):v=.bool (bs.getD i false):=by
 have h:us[i]? = some v:=by simpa using h
 have hi:i<bs.length:=by
  have:=(List.getElem?_eq_some_iff.mp h).1
  rw[← r.length,List.length_map]at this;exact this
 obtain⟨u,hu,ru⟩:=r.get (i:=i) (x:=.bl (bs.getD i false)) (by rw[List.getElem?_map,List.getElem?_eq_getElem hi];simp[hi])
 rw[h]at hu;cases hu
 exact ru
theorem a4d{prog:Program}{w:World}{A:Around}{bs:List Bool}{us:List Value}(r:Vals (bs.map V.bl) us):TruthOf prog w A (fun i v=>us.toArray[i]? = some v) (fun i=>bs.getD i false):=fun i v s Q E hP hQ=>by
 rw[a7E r hP]
 exact wpAny_truthy_bool hQ
theorem a6b{K:W.Frag}(hc:X.calm=true:=by rfl)(hK:X.K=K:=by rfl):F8 X (.builtin "all") (b07 K):=by
 subst hK
 intro pins s σ H xs us Q I r h
 obtain⟨a,bs,rfl,hq,q⟩:=h
 obtain⟨u,rfl,ru⟩:=r.one
 cases (show u=Value.ref a from ru)
 obtain⟨its,rv,pl,hz⟩:=I.list hq
 have hlt:a<s.heap.objs.size:=by obtain⟨_,e,_⟩:=pl.isList;exact Heap.lt_size e
 refine call_all_walk (wpAny_pyIter_list pl.isList ⟨_,_,_,_,_,_,_,rfl,Walks.list (A:=X.A.in1) (I.ok.hd hc) s.heap.objs.size a (Nat.ne_of_lt hlt) its.toArray,⟨⟨_,Heap.get?_push_size _ rfl,rfl,rfl⟩,pl.isList.push _⟩,a4d rv,fun h' tk hk=>?_⟩)
 have I':Inv X pins σ H { s with heap:=h',toks:=tk }:=I.kept fun b o e=>hk b o (by simpa using Nat.ne_of_lt (Heap.lt_size e)) (Heap.get?_push_of_some _ e)
 refine⟨.bl _,H,I',rfl,?_⟩
 rw[show its.toArray.size=bs.length by rw[List.size_toArray,← rv.length,List.length_map],a2B]
 exact q
theorem b08:bootBuiltins "all" = some (.builtin "all"):=by decide +kernel
end
def b09(K:W.Frag):List V→Hp→VK→Prop:=fun xs H Q=>∃(a:Addr) (ns:List Int),xs=[.ref a]∧SqL K H a (ns.map V.int)∧Q (.int ns.sum) H
theorem Y0:∀{ns:List Int} {us:List Value},Vals (ns.map V.int) us→∃ps:List (Int×Tok),us=ps.map (fun p=>Value.int p.1 p.2)∧ps.map (·.1)=ns
 | [],_,.nil=>⟨[],rfl,rfl⟩
 | n::ns,_,.cons r t=>by
  obtain⟨tk,rfl⟩:=r
  obtain⟨ps,rfl,e⟩:=Y0 t
  exact⟨(n,tk)::ps,rfl,by rw[List.map_cons,e]⟩
section
variable {X:Cx}
theorem a6c{K:W.Frag}(hc:X.calm=true:=by rfl)(hK:X.K=K:=by rfl):F8 X (.builtin "sum") (b09 K):=by
 subst hK
 intro pins s σ H xs us Q I r h
 obtain⟨a,ns,rfl,hq,q⟩:=h
 obtain⟨u,rfl,ru⟩:=r.one
 cases (show u=Value.ref a from ru)
 obtain⟨its,rv,pl,hz⟩:=I.list hq
 obtain⟨ps,rfl,e⟩:=Y0 rv
 have el:(ps.map fun p=>Value.int p.1 p.2).toArray=intItems ps.toArray:=by unfold intItems;simp
 have hl:=pl.isList
 rw[el]at hl
 refine sum_intListG (I.ok.hd hc) hl fun h' tk t' hk=>⟨.int ns.sum,H,I.kept (t':=tk) hk,?_,q⟩
 refine⟨t',?_⟩
 rw[preSum_eq,List.take_of_length_le (by simp),e]
end
theorem b0_:bootBuiltins "sum" = some (.builtin "sum"):=by decide +kernel
theorem a7F{K:W.Frag}{a:Addr}{xs:List V}{g:TG}{tf:TT}{te:TE}{k:Nat}{σ0:St}{D:Addr}{Fin:Hp→Prop}{H1:Hp}(Pv:Nat→List V→Hp→Prop)(h0:Pv 0 [] (upd H1 D (.lst [])))(hl:∀i ys H,i≤xs.length→Pv i ys H→SqT K H a xs)
  (hs:∀i x ys H,xs[i]? = some x→Pv i ys H→g x σ0 H fun σ2 H2=>(σ2.drop k=σ0.drop k∧σ2.length=σ0.length)∧tf σ2 H2 fun b H3 =>
   if b=true then te σ2 H3 fun y H4=>H4 D=some (.lst ys)∧ys.length<sizeLine∧Pv (i+1) (ys++[y]) (upd H4 D (.lst (ys++[y])))else Pv (i+1) ys H3)
  (hd:∀ys H,Pv xs.length ys H→Fin H):W4 (Itt K a) g tf te k σ0 D Fin H1:=by
 refine⟨fun i m ys H=>m=xs.length-i∧i≤xs.length∧Pv i ys H,⟨xs.length,by simp,Nat.zero_le _,h0⟩,?_⟩
 rintro i m ys H ⟨rfl,hi,p⟩
 have q:=hl i ys H hi p
 by_cases hlt:i<xs.length
 ·refine .inr ⟨⟨xs,xs[i],q,by simp[hlt]⟩,Pv (i+1),fun ys' H' z=>⟨xs.length-(i+1),by omega,rfl,hlt,z⟩,fun v H' y=>?_⟩
  obtain⟨rfl,y⟩:=y
  exact hs i v ys _ (y xs q) p
 ·have e:i=xs.length:=by omega
  subst e
  exact .inl ⟨⟨xs,q,Nat.le_refl _⟩,hd ys H p⟩
def Gd(n:Nat)(lt:Nat→Nat→Bool){α:Type}:KasT α→(α→Prop)→Prop
 | .ret a,P=>P a
 | .ask i j k,P=>i<n∧j<n∧Gd n lt (k (lt i j)) P
theorem Gd.mono{n:Nat}{lt:Nat→Nat→Bool}{α:Type}{P P':α→Prop}(h:∀a,P a→P' a):∀{t:KasT α},Gd n lt t P→Gd n lt t P'
 | .ret a,g=>h a g
 | .ask i j k,g=>⟨g.1,g.2.1,Gd.mono h g.2.2⟩
theorem Gd.bind{n:Nat}{lt:Nat→Nat→Bool}{α β:Type}{P:β→Prop}{f:α→KasT β}:∀{t:KasT α},Gd n lt t (fun a=>Gd n lt (f a) P)→Gd n lt (t.bind f) P
 | .ret a,g=>g
 | .ask i j k,g=>⟨g.1,g.2.1,Gd.bind (t:=k (lt i j)) g.2.2⟩
theorem Gd.wp{n:Nat}{lt:Nat→Nat→Bool}{α:Type}{cmp:Nat→Nat→(Bool→Shared→Prop)→Shared→Prop}{s:Shared}(hc:∀i j C,i<n→j<n→C (lt i j) s→cmp i j C s){P:α→Prop}{Q:α→Shared→Prop}(q:∀a,P a→Q a s):∀{t:KasT α},Gd n lt t P→t.kasWp cmp Q s
 | .ret a,g=>q a g
 | .ask i j k,g=>hc i j _ g.1 g.2.1 (Gd.wp hc q (t:=k (lt i j)) g.2.2)
def ga(p:Array Nat)(k:Nat):Nat:=p.getD k 0
theorem a1w(p:Array Nat)(k:Nat):ga p k=(p[k]?).getD 0:=by
 unfold ga;simp[Array.getD_eq_getD_getElem?]
structure TPre(lt:Nat→Nat→Bool):Prop where
 irr:∀i,lt i i=false
 tr:∀i j k,lt j i=false→lt k j=false→lt k i=false
 asy:∀i j,lt i j=true→lt j i=false
section
variable {n:Nat}{lt:Nat→Nat→Bool}
def Up(lt:Nat→Nat→Bool)(p:Array Nat)(m:Nat):Prop:=∀i j,i≤j→j<m→lt (ga p j) (ga p i)=false
def Dn(lt:Nat→Nat→Bool)(p:Array Nat)(m:Nat):Prop:=∀i j,i≤j→j<m→lt (ga p i) (ga p j)=false
def Pmn(n:Nat)(p:Array Nat):Prop:=p.toList.Perm (List.range n)
theorem Pmn.size{p:Array Nat}(h:Pmn n p):p.size=n:=by have:=h.length_eq;simpa using this
theorem Pmn.bd{p:Array Nat}(h:Pmn n p){k:Nat}(hk:k<n):ga p k<n:=by
 have hs:=h.size
 have:ga p k∈p.toList:=by
  have e:ga p k=p[k]'(by omega):=by unfold ga;simp[Array.getD,hs,hk]
  rw[e];exact Array.getElem_mem_toList _
 exact List.mem_range.mp (h.mem_iff.mp this)
theorem Pmn.rev{p:Array Nat}(h:Pmn n p)(i j:Nat):Pmn n (kas_rev p i j):=((Array.perm_iff_toList_perm.mp (mirror_perm p i j _)).trans h)
theorem Pmn.bub{p:Array Nat}(h:Pmn n p)(i j:Nat):Pmn n (bubble p i j):=((Array.perm_iff_toList_perm.mp (bubble_perm p i j)).trans h)
theorem a1x{p:Array Nat}{i j:Nat}(hj:j≤p.size)(k:Nat):ga (kas_rev p i j) k=if i≤k∧k<j then ga p (i+j-1-k)else ga p k:=by
 rw[a1w,kas_rev,getElem?_mirror_all hj]
 split<;>rw[a1w]
theorem b1a{p:Array Nat}{src d:Nat}(hs:src<p.size)(hd:d≤src)(k:Nat):ga (bubble p src d) k=if k=src-d then ga p src else if src-d<k∧k≤src then ga p (k-1)else ga p k:=by
 rw[a1w,getElem?_bubble hs d hd]
 split
 ·rw[a1w]
 ·split<;>rw[a1w]
theorem a3t(T:TPre lt){p:Array Nat}(hp:Pmn n p):∀(f k:Nat),1≤k→k+f≤n→Up lt p k→Gd n lt (kas_asc p f k) (fun m=>k≤m∧m≤k+f∧Up lt p m∧(m<k+f→lt (ga p m) (ga p (m-1))=true))
 | 0,k,_,_,u=>⟨Nat.le_refl _,Nat.le_refl _,u,fun z=>absurd z (by omega)⟩
 | f+1,k,h1,h2,u=>by
  refine⟨hp.bd (by omega),hp.bd (by omega),?_⟩
  cases c:lt (p.getD k 0) (p.getD (k-1) 0)with
  | true=>simp only[if_true];exact⟨Nat.le_refl _,by omega,u,fun _=>c⟩
  | false =>
   simp only[Bool.false_eq_true,if_false]
   refine(a3t T hp f (k+1) (by omega) (by omega) fun i j hij hj=>?_).mono fun m h=>⟨by omega,by omega,h.2.2.1,fun z=>h.2.2.2 (by omega)⟩
   by_cases hjk:j<k
   ·exact u i j hij hjk
   ·have e:j=k:=by omega
    subst e
    by_cases hik:i=j
    ·subst hik;exact T.irr _
    ·exact T.tr _ _ _ (u i (j-1) (by omega) (by omega)) c
theorem a0z(T:TPre lt):∀(f:Nat) (p:Array Nat) (k q:Nat),Pmn n p→q+1≤k→k+f≤n→Dn lt p k→(∀i,k-(q+1)≤i→i<k→lt (ga p (k-1)) (ga p i)=false∧lt (ga p i) (ga p (k-1))=false) →
  Gd n lt (kas_desc f p k q) (fun r=>Pmn n r.1∧k≤r.2.1∧r.2.1≤k+f∧r.2.2+1≤r.2.1∧Dn lt r.1 r.2.1∧∀i,r.2.1-(r.2.2+1)≤i→i<r.2.1→lt (ga r.1 (r.2.1-1)) (ga r.1 i)=false∧lt (ga r.1 i) (ga r.1 (r.2.1-1))=false)
 | 0,p,k,q,hp,hq,hk,d,eq=>⟨hp,Nat.le_refl _,Nat.le_refl _,hq,d,eq⟩
 | f+1,p,k,q,hp,hq,hk,d,eq=>by
  refine⟨hp.bd (by omega),hp.bd (by omega),?_⟩
  have ext:∀p':Array Nat,Dn lt p' k→(lt (ga p' (k-1)) (ga p' k)=false)→Dn lt p' (k+1):=fun p' d' c i j hij hj=>by
   by_cases hjk:j<k
   ·exact d' i j hij hjk
   ·have e:j=k:=by omega
    subst e
    by_cases hik:i=j
    ·subst hik;exact T.irr _
    ·exact T.tr _ _ _ c (d' i (j-1) (by omega) (by omega))
  cases c:lt (p.getD k 0) (p.getD (k-1) 0)with
  | true =>
   simp only[if_true]
   have c':lt (ga p (k-1)) (ga p k)=false:=T.asy _ _ c
   have one:∀p':Array Nat,∀i,k+1-(0+1)≤i→i<k+1→lt (ga p' (k+1-1)) (ga p' i)=false∧lt (ga p' i) (ga p' (k+1-1))=false:=fun p' i h1 h2=>by
    have e:i=k+1-1:=by omega
    rw[e];exact⟨T.irr _,T.irr _⟩
   by_cases hq0:q > 0
   ·rw[if_pos hq0]
    have hps:=hp.size
    have gr:=a1x (p:=p) (i:=k-(q+1)) (j:=k) (by omega)
    have eqv:∀i,i<k→lt (ga (kas_rev p (k-(q+1)) k) i) (ga p i)=false∧lt (ga p i) (ga (kas_rev p (k-(q+1)) k) i)=false:=fun i hi=>by
     rw[gr]
     split
     ·rename_i z
      have a:=eq (k-(q+1)+k-1-i) (by omega) (by omega)
      have b:=eq i z.1 z.2
      exact⟨T.tr _ _ _ b.1 a.2,T.tr _ _ _ a.1 b.2⟩
     ·exact⟨T.irr _,T.irr _⟩
    have gk:ga (kas_rev p (k-(q+1)) k) k=ga p k:=by rw[gr,if_neg (by omega)]
    have dr:Dn lt (kas_rev p (k-(q+1)) k) k:=fun i j hij hj=>T.tr _ _ _ (T.tr _ _ _ (eqv j hj).2 (d i j hij hj)) (eqv i (by omega)).1
    exact(a0z T f _ (k+1) 0 (hp.rev _ _) (by omega) (by omega) (ext _ dr (by rw[gk];exact T.tr _ _ _ c' (eqv (k-1) (by omega)).1)) (one _)).mono fun r h=>⟨h.1,by omega,by omega,h.2.2.2⟩
   ·rw[if_neg hq0]
    exact(a0z T f _ (k+1) 0 hp (by omega) (by omega) (ext _ d c') (one _)).mono fun r h=>⟨h.1,by omega,by omega,h.2.2.2⟩
  | false =>
   simp only[Bool.false_eq_true,if_false]
   refine⟨hp.bd (by omega),hp.bd (by omega),?_⟩
   cases e:lt (p.getD (k-1) 0) (p.getD k 0)with
   | true=>simp only[if_true];exact⟨hp,Nat.le_refl _,Nat.le_add_right _ _,hq,d,eq⟩
   | false =>
    simp only[Bool.false_eq_true,if_false]
    refine(a0z T f p (k+1) (q+1) hp (by omega) (by omega) (ext _ d e) fun i h1 h2=>?_).mono fun r h=>⟨h.1,by omega,by omega,h.2.2.2⟩
    rw[Nat.add_sub_cancel]
    by_cases hik:i=k
    ·subst hik;exact⟨T.irr _,T.irr _⟩
    ·have a:=eq i (by omega) (by omega)
     exact⟨T.tr _ _ _ a.1 c,T.tr _ _ _ e a.2⟩
theorem a3u(T:TPre lt){p:Array Nat}{k:Nat}(hp:Pmn n p)(h1:1≤k)(hk:k≤n)(d:Dn lt p k):Gd n lt (kas_tail3 k n p) (fun r=>Pmn n r.2∧1≤r.1∧r.1≤n∧Up lt r.2 r.1):=by
 have hps:=hp.size
 have gr:=a1x (p:=p) (i:=0) (j:=k) (by omega)
 refine Gd.bind ((a3t T (hp.rev 0 k) (n-k) k h1 (by omega) fun i j hij hj=>?_).mono fun m h=>⟨hp.rev 0 k,by show 1≤m;omega,by show m≤n;omega,h.2.2.1⟩)
 rw[gr,gr,if_pos (by omega),if_pos (by omega)]
 exact d _ _ (by omega) (by omega)
theorem a0Q(T:TPre lt){p:Array Nat}{k:Nat}(hp:Pmn n p)(hk:k+1≤n)(d:Dn lt p (k+1)):Gd n lt (kas_descPart k n p) (fun r=>Pmn n r.2∧1≤r.1∧r.1≤n∧Up lt r.2 r.1):=by
 refine Gd.bind ((a0z T (n-(k+1)) p (k+1) 0 hp (by omega) (by omega) d fun i h1 h2=>?_).mono fun r h=>?_)
 ·have e:i=k+1-1:=by omega
  rw[e];exact⟨T.irr _,T.irr _⟩
 ·obtain⟨p',m,q⟩:=r
  obtain⟨hp',hm1,hm2,hq,d',eq⟩:=h
  dsimp only at *
  have hps:=hp'.size
  split
  ·have gr:=a1x (p:=p') (i:=m-(q+1)) (j:=m) (by omega)
   have eqv:∀i,i<m→lt (ga (kas_rev p' (m-(q+1)) m) i) (ga p' i)=false∧lt (ga p' i) (ga (kas_rev p' (m-(q+1)) m) i)=false:=fun i hi=>by
    rw[gr]
    split
    ·rename_i z
     have a:=eq (m-(q+1)+m-1-i) (by omega) (by omega)
     have b:=eq i z.1 z.2
     exact⟨T.tr _ _ _ b.1 a.2,T.tr _ _ _ a.1 b.2⟩
    ·exact⟨T.irr _,T.irr _⟩
   exact a3u T (hp'.rev _ _) (by omega) (by omega) fun i j hij hj=>T.tr _ _ _ (T.tr _ _ _ (eqv j hj).2 (d' i j hij hj)) (eqv i (by omega)).1
  ·exact a3u T hp' (by omega) (by omega) d'
theorem a7G(T:TPre lt){p:Array Nat}(hp:Pmn n p)(h1:1≤n):Gd n lt (kas_count n p) (fun r=>Pmn n r.2∧1≤r.1∧r.1≤n∧Up lt r.2 r.1):=by
 have hps:=hp.size
 refine Gd.bind ((a3t T hp (n-1) 1 (Nat.le_refl _) (by omega) fun i j hij hj=>?_).mono fun m h=>?_)
 ·have e:i=j:=by omega
  rw[e];exact T.irr _
 ·obtain⟨hm1,hm2,u,z⟩:=h
  split
  ·exact⟨hp,hm1,by omega,u⟩
  ·rename_i ne
   have hlt:m<n:=by
    have:m≠n:=fun q=>ne (by rw[q];exact beq_self_eq_true _)
    omega
   have zl:=z (by omega)
   split
   ·rename_i m1
    refine⟨hp.bd (by omega),hp.bd (by omega),?_⟩
    cases c:lt (p.getD 0 0) (p.getD (m-1) 0)with
    | true=>simp only[if_true];exact⟨hp,hm1,by omega,u⟩
    | false =>
     simp only[Bool.false_eq_true,if_false]
     have gr:=a1x (p:=p) (i:=0) (j:=m) (by omega)
     refine a0Q T (hp.rev 0 m) (by omega) fun i j hij hj=>?_
     have all:∀a b,a<m→b<m→lt (ga p a) (ga p b)=false:=fun a b ha hb =>
      T.tr _ _ _ (u b (m-1) (by omega) (by omega)) (T.tr _ _ _ c (u 0 a (by omega) ha))
     rw[gr,gr]
     by_cases hjm:j<m
     ·rw[if_pos (by omega),if_pos (by omega)];exact all _ _ (by omega) (by omega)
     ·have e:j=m:=by omega
      subst e
      rw[if_neg (show ¬(0≤j∧j<j) by omega)]
      by_cases hij':i=j
      ·subst hij';rw[if_neg (by omega)];exact T.irr _
      ·rw[if_pos (by omega)]
       exact T.tr _ _ _ (T.asy _ _ zl) (all _ _ (by omega) (by omega))
   ·rename_i m1
    have e:m=1:=by omega
    subst e
    refine a0Q T hp (by omega) fun i j hij hj=>?_
    by_cases hij':i=j
    ·subst hij';exact T.irr _
    ·have e1:i=0:=by omega
     have e2:j=1:=by omega
     subst e1 e2
     exact T.asy _ _ zl
theorem a03(T:TPre lt){p:Array Nat}(hp:Pmn n p){k:Nat}(hk:k<n)(u:Up lt p k):∀(f l r:Nat),l≤r→r≤k→r-l≤f→(∀i,i<l→lt (ga p k) (ga p i)=false)→(∀i,r≤i→i<k→lt (ga p i) (ga p k)=false) →
  Gd n lt (kas_place p k f l r) (fun m=>m≤k∧(∀i,i<m→lt (ga p k) (ga p i)=false)∧∀i,m≤i→i<k→lt (ga p i) (ga p k)=false)
 | 0,l,r,h1,h2,h3,a,b=>⟨by omega,a,fun i hi=>b i (by omega)⟩
 | f+1,l,r,h1,h2,h3,a,b=>by
  show Gd n lt (if l≥r then _ else _) _
  split
  ·exact⟨by omega,a,fun i hi=>b i (by omega)⟩
  ·refine⟨hp.bd hk,hp.bd (by omega),?_⟩
   cases c:lt (p.getD k 0) (p.getD ((l+r)/2) 0)with
   | true =>
    simp only[if_true]
    refine a03 T hp hk u f l ((l+r)/2) (by omega) (by omega) (by omega) a fun i hi hik=>?_
    exact T.tr _ _ _ (T.asy _ _ c) (u ((l+r)/2) i hi hik)
   | false =>
    simp only[Bool.false_eq_true,if_false]
    refine a03 T hp hk u f ((l+r)/2+1) r (by omega) (by omega) (by omega) (fun i hi=>?_) b
    exact T.tr _ _ _ (u i ((l+r)/2) (by omega) (by omega)) c
theorem a6d(T:TPre lt):∀(f:Nat) (p:Array Nat) (k:Nat),Pmn n p→k+f=n→Up lt p k→Gd n lt (kas_bin f p k) (fun p'=>Pmn n p'∧Up lt p' n)
 | 0,p,k,hp,hk,u=>by
  have e:k=n:=by omega
  subst e;exact⟨hp,u⟩
 | f+1,p,k,hp,hk,u=>by
  have hps:=hp.size
  refine Gd.bind ((a03 T hp (by omega) u k 0 k (by omega) (by omega) (by omega) (fun i hi=>by omega) (fun i h1 h2=>by omega)).mono fun l h=>?_)
  obtain⟨hl,a,b⟩:=h
  have gb:=b1a (p:=p) (src:=k) (d:=k-l) (by omega) (by omega)
  refine a6d T f _ (k+1) (hp.bub _ _) (by omega) fun i j hij hj=>?_
  rw[gb,gb]
  have el:k-(k-l)=l:=by omega
  rw[el]
  by_cases e:i=j
  ·subst e;exact T.irr _
  by_cases hjl:j=l
  ·rw[if_pos hjl,if_neg (by omega),if_neg (by omega)];exact a i (by omega)
  ·rw[if_neg hjl]
   by_cases hil:i=l
   ·rw[if_pos hil,if_pos (by omega)];exact b (j-1) (by omega) (by omega)
   ·rw[if_neg hil]
    by_cases h1:l<j∧j≤k
    ·rw[if_pos h1]
     by_cases h2:l<i∧i≤k
     ·rw[if_pos h2];exact u _ _ (by omega) (by omega)
     ·rw[if_neg h2];exact u _ _ (by omega) (by omega)
    ·rw[if_neg h1,if_neg (by omega)];exact u _ _ hij (by omega)
theorem a4F(T:TPre lt)(h1:1≤n):Gd n lt (kas_sort n) (fun p=>Pmn n p∧Up lt p n):=by
 refine Gd.bind ((a7G T (p:=List.toArray (List.range n)) (by unfold Pmn;simp) h1).mono fun r h=>?_)
 obtain⟨hp,m1,m2,u⟩:=h
 split
 ·exact a6d T _ _ _ hp (by omega) (by rw[Nat.max_eq_left m1];exact u)
 ·have e:r.1=n:=by omega
  exact⟨hp,e▸u⟩
end
theorem a15:∀a:List Int,HT.lexLt a a=false
 | []=>rfl
 | x::xs=>by rw[HT.lexLt_cons,if_pos rfl];exact a15 xs
theorem a16:∀a b:List Int,HT.lexLt a b=true→HT.lexLt b a=false
 | [],[],h=>by cases h
 | [],_::_,_=>rfl
 | _::_,[],h=>by cases h
 | x::xs,y::ys,h=>by
  rw[HT.lexLt_cons]at h ⊢
  by_cases e:x=y
  ·rw[if_pos e]at h;rw[if_pos e.symm];exact a16 xs ys h
  ·rw[if_neg e]at h;rw[if_neg (Ne.symm e)]
   have:=of_decide_eq_true h
   exact decide_eq_false (by omega)
theorem a3v:∀a b c:List Int,HT.lexLt b a=false→HT.lexLt c b=false→HT.lexLt c a=false
 | [],[],_,_,h=>h
 | [],y::ys,[],_,h=>rfl
 | [],y::ys,z::zs,_,_=>rfl
 | x::xs,[],_,h,_=>by cases h
 | x::xs,y::ys,[],_,h=>by cases h
 | x::xs,y::ys,z::zs,h1,h2=>by
  rw[HT.lexLt_cons]at h1 h2 ⊢
  by_cases e1:y=x
  ·rw[if_pos e1]at h1
   by_cases e2:z=y
   ·rw[if_pos e2]at h2;rw[if_pos (e2.trans e1)];exact a3v xs ys zs h1 h2
   ·rw[if_neg e2]at h2;rw[if_neg (fun q=>e2 (q.trans e1.symm))];rw[← e1];exact h2
  ·rw[if_neg e1]at h1
   have:=of_decide_eq_false h1
   by_cases e2:z=y
   ·rw[if_neg (fun q=>e1 (e2.symm.trans q)),e2];exact h1
   ·rw[if_neg e2]at h2
    have:=of_decide_eq_false h2
    rw[if_neg (by omega)]
    exact decide_eq_false (by omega)
theorem a7H(key:Nat→List Int):TPre (fun i j=>HT.lexLt (key i) (key j)):=⟨fun i=>a15 _,fun i j k h1 h2=>a3v _ _ _ h1 h2,fun i j h=>a16 _ _ h⟩
section
variable {prog:Program}{w:World}{A:Around}{E:Value→Shared→Prop}{s:Shared}{b fin:Bool}{Q:Bool→Shared→Prop}
theorem a0R:∀{vs ws:List Value} {ns ms:List Int} (i:Nat),IntsAre vs ns→IntsAre ws ms→fin=decide (ns.length<ms.length)→Q (HT.lexLt ns ms) s→KatLex prog w A true fin Q (vs.zip ws) i s
 | _,_,_,_,i,.nil,.nil,hf,h=>by rw[List.zip_nil_left];refine kat_nil ?_;rw[hf];exact h
 | _,_,_,_,i,.nil,.cons c u t,hf,h=>by
  rw[List.zip_nil_left];refine kat_nil ?_;rw[hf,decide_eq_true (by simp)];exact h
 | _,_,_,_,i,.cons a t r,.nil,hf,h=>by
  rw[List.zip_nil_right];refine kat_nil ?_;rw[hf,decide_eq_false (by simp)];exact h
 | _,_,_,_,i,.cons (ns:=ns) a t r,.cons (ns:=ms) c u r',hf,h=>by
  rw[List.zip_cons_cons]
  rw[HT.lexLt_cons]at h
  refine kat_cons (wpAny_eqBool_int (kat_go (fun e=>?_) fun e=>?_))
  ·rw[if_pos (by simpa using e)]at h
   exact kat_yes (a0R (i+1) r r' (by rw[hf];simp) h)
  ·rw[if_neg (by simpa using e)]at h
   refine kat_no ?_
   by_cases hi:i=0
   ·subst hi
    show wpAny _ _ (oneLt' true _ _) _ _ _
    exact oneLt_int h
   ·have e0:(true && i == 0)=false:=by simpa using hi
    rw[e0]
    exact kat_one _ _ (PyProof.Rows.lt_int h)
def TupKey(h:Heap)(v:Value)(k:List Int):Prop:=∃a o xs m,v=.ref a∧h.get? a=some o∧o.cls=.type "tuple"∧o.data=.seq xs m∧IntsAre xs.toList k∧k≠[]
theorem TupKey.keeps{h h':Heap}{v:Value}{k:List Int}(t:TupKey h v k)(kp:∀a o,h.get? a=some o→h'.get? a=some o):TupKey h' v k:=by
 obtain⟨a,o,xs,m,e,ho,r⟩:=t
 exact⟨a,o,xs,m,e,kp _ _ ho,r⟩
theorem TupKey.lt{v u:Value}{k l:List Int}{C:Bool→Shared→Prop}{E:Value→Shared→Prop}(t:TupKey s.heap v k)(t':TupKey s.heap u l)(h:C (HT.lexLt k l) s):wpAny (model prog w) A (keyLt' (tuples' true) v u) C E s:=by
 obtain⟨a,o,xs,m,rfl,ho,_,hd,hi,_⟩:=t
 obtain⟨a',o',xs',m',rfl,ho',_,hd',hi',_⟩:=t'
 have z1:xs.size=k.length:=by rw[← hi.length];simp
 have z2:xs'.size=l.length:=by rw[← hi'.length];simp
 exact kat_lt ho hd ho' hd' (a0R 0 hi hi' (by rw[z1,z2]) h)
def TKs(h:Heap):List Value→List (List Int)→Prop
 | [],[]=>True
 | v::vs,k::ks=>TupKey h v k∧TKs h vs ks
 | _,_=>False
theorem TKs.keeps{h h':Heap}(kp:∀a o,h.get? a=some o→h'.get? a=some o):∀{vs:List Value} {ks:List (List Int)},TKs h vs ks→TKs h' vs ks
 | [],[],_=>trivial
 | [],_::_,t=>t.elim
 | _::_,[],t=>t.elim
 | v::vs,k::ks,t=>⟨t.1.keeps kp,TKs.keeps kp t.2⟩
theorem TKs.len{h:Heap}:∀{vs:List Value} {ks:List (List Int)},TKs h vs ks→vs.length=ks.length
 | [],[],_=>rfl
 | [],_::_,t=>t.elim
 | _::_,[],t=>t.elim
 | v::vs,k::ks,t=>by simp[t.2.len]
theorem TKs.at{h:Heap}:∀{vs:List Value} {ks:List (List Int)} (i:Nat),TKs h vs ks→i<vs.length→TupKey h (vs.getD i Value.none) (ks.getD i [])
 | [],_,i,_,hi=>absurd hi (Nat.not_lt_zero _)
 | _::_,[],_,t,_=>t.elim
 | v::vs,k::ks,0,t,_=>t.1
 | v::vs,k::ks,i+1,t,hi=>TKs.at (vs:=vs) (ks:=ks) i t.2 (by simpa using hi)
end
theorem a6e:bootBuiltins "sorted" = some (.builtin "sorted"):=by decide +kernel
theorem a0l:∀ps:List (Int×Tok),IntsAre (ps.map fun p=>Value.int p.1 p.2) (ps.map (·.1))
 | []=>.nil
 | p::ps=>.cons p.1 p.2 (a0l ps)
theorem a2C:∀{ys:List V} {us:List Value} (p:List Nat),Vals ys us→(∀i∈p,i<ys.length)→Vals (p.map fun i=>ys.getD i .non) (p.map fun i=>us.getD i Value.none)
 | _,_,[],_,_=>.nil
 | ys,us,i::p,r,h=>by
  have hi:=h i (by simp)
  obtain⟨u,e,ru⟩:=r.get (List.getElem?_eq_getElem hi)
  refine .cons ?_ (a2C p r fun j hj=>h j (by simp[hj]))
  have e1:ys.getD i .non=ys[i]:=by simp[hi]
  have e2:us.getD i Value.none=u:=by simp[e]
  show RelV (ys.getD i .non) (us.getD i Value.none)
  rw[e1,e2];exact ru
namespace F'
end F'
open PySem PySem.Spec PyProof.Rows PySem.W
section
variable {X:Cx}{pins:List (Addr×Obj)}{σ:St}{H:Hp}{s:Shared}{a:Addr}
theorem Inv.trackO{oe:Obj}{vs:Array Value}{k:Nat}{u:HO}(I:Inv X pins σ H s)(ni:¬Imp X pins H a)(e:s.heap.get? a=some oe)(d:oe.data=.seq vs k)(new:ObjOk X.prog X.w (upd H a u) s.heap a u):Inv X pins σ (upd H a u) s:=by
 have fr:H a=none:=by
  cases q:H a with
  | none=>rfl
  | some v=>exact absurd (.inl (by rw[q];exact nofun)) ni
 refine⟨I.ok,I.os,I.bare,⟨I.base.keep,I.base.slot,fun b o e1 n hx=>?_,I.base.there,fun b xs q=>?_,fun b o u q=>?_,fun b ps q=>?_⟩,I.loc,I.cell,?_,fun y c q=>?_,fun p hp=>?_,fun b u q=>?_,I.len⟩
 ·rw[c8 (fun z=>ni (.inr (.inl ⟨by rw[← z];exact hx,o,by rw[← z];exact e1⟩)))]
  exact I.base.free b o e1 n hx
 ·have q1:=I.base.tups b xs q
  rw[c8 (g8 q1 fr)];exact q1
 ·have q1:=I.base.frzs b o u q
  rw[c8 (g8 q1 fr)];exact q1
 ·obtain⟨more,q1⟩:=I.base.tbls b ps q
  exact⟨more,by rw[c8 (g8 q1 fr)];exact q1⟩
 ·rw[c8 fun z=>?_]
  ·exact I.free
  ·obtain⟨m,⟨o,es,ep,ho,hd,_⟩,_⟩:=I.loc
   rw[z,e]at ho;cases ho
   rw[d]at hd;cases hd
 ·rw[c8 fun z=>?_]
  ·exact I.freeC y c q
  ·obtain⟨v,o,ho,hd⟩:=I.cell y c q
   rw[z,e]at ho;cases ho
   rw[d]at hd;cases hd
 ·obtain⟨h1,h2,h3,h4,h5⟩:=I.pin p hp
  exact⟨h1,by rw[c8 (fun z=>ni (.inr (.inr ⟨p,hp,z⟩)))];exact h2,h3,h4,h5⟩
 ·by_cases hb:b=a
  ·subst hb
   rw[h7]at q;cases q
   exact new
  ·rw[c8 hb]at q
   refine(I.hok b u q).stay (fun _ _ _ z=>z) (fun c z=>?_) (fun c xs z=>?_) fun c ob u z=>?_
   ·rw[c8 (g8 z fr)];exact z
   ·rw[c8 (g8 z fr)];exact z
   ·rw[c8 (g8 z fr)];exact z
end
section
variable {X:Cx}
def XAccAt(X:Cx)(σ:St)(E:XK):Prop:=∀(pins:List (Addr×Obj)) (H:Hp) (s:Shared) (a:Addr) (cls:Value) (cx:Option Addr) (B:Heap) (ph:Ph),Inv X pins σ H s→XAt X pins H s a cls cx B ph→E cls cx H→X.xe (.ref a) s
theorem XAccAt.passes{σ:St}{E:XK}(acc:XAccAt X σ E):∀(pins:List (Addr×Obj)) (H:Hp) (s:Shared) (e:Value) (s':Shared),Inv X pins σ H s→m4 X.prog X.w X.stack H s E e s'→X.xe e s':=by
 intro pins H s e s' I h
 obtain⟨a,cls,cx,H',B,rfl,os,bare,un,hok,st,fr,ff,tr,free,cov,hE⟩:=h
 have I':Inv X pins σ H' s':=I.call' (ch:=[]) os un hok bare (fun b z=>absurd z (by simp))
 refine acc pins H' s' a cls cx B .fly I' ⟨free,st,fr,ff,fun b o e i n=>cov b o e ?_ n,tr⟩ hE
 rcases i with i | ⟨hx,o',i⟩ | ⟨p,hp,q⟩
 ·exact .inl i
 ·exact .inr (I.base.there b o' i hx)
 ·exact .inr ⟨p.2,by rw[← q];exact(I.pin p hp).1⟩
end
section
variable {prog:Program}{w:World}{A:Around}{E:Value→Shared→Prop}{s:Shared}{fin:Bool}{Q:Bool→Shared→Prop}
theorem a9r{v:Value}(hv:(v == v)=true){E:Value→Shared→Prop}(h:Q true s):wpAny (model prog w) A (eqBool v v) Q E s:=by
 unfold eqBool
 refine wpAny_holding ?_
 rw[if_pos hv]
 exact wpAny_bind (wpAny_rule (wpAny_pure h))
theorem a0S:∀{vs:List Value} (i:Nat),(∀v∈vs,(v == v)=true)→Q fin s→KatLex prog w A true fin Q (vs.zip vs) i s
 | [],i,_,h=>by rw[List.zip_nil_left];exact kat_nil h
 | v::vs,i,hv,h=>by
  rw[List.zip_cons_cons]
  exact kat_cons (a9r (hv v (by simp)) (kat_yes (a0S (i+1) (fun u hu=>hv u (by simp[hu])) h)))
theorem a1y{rs rs':List Value}:∀{vs ws:List Value} {ns ms:List Int} (i:Nat),IntsAre vs ns→IntsAre ws ms→ns.length=ms.length→ns≠ms→Q (HT.lexLt ns ms) s→KatLex prog w A true fin Q ((vs++rs).zip (ws++rs')) i s
 | _,_,_,_,i,.nil,.nil,_,hn,_=>absurd rfl hn
 | _,_,_,_,i,.nil,.cons c u t,hf,_,_=>by simp at hf
 | _,_,_,_,i,.cons a t r,.nil,hf,_,_=>by simp at hf
 | _,_,_,_,i,.cons (ns:=ns) a t r,.cons (ns:=ms) c u r',hf,hn,h=>by
  rw[List.cons_append,List.cons_append,List.zip_cons_cons]
  rw[HT.lexLt_cons]at h
  refine kat_cons (wpAny_eqBool_int (kat_go (fun e=>?_) fun e=>?_))
  ·have e':a=c:=by simpa using e
   rw[if_pos e']at h
   exact kat_yes (a1y (i+1) r r' (by simpa using hf) (fun z=>hn (by rw[e',z])) h)
  ·rw[if_neg (by simpa using e)]at h
   refine kat_no ?_
   by_cases hi:i=0
   ·subst hi
    show wpAny _ _ (oneLt' true _ _) _ _ _
    exact oneLt_int h
   ·have e0:(true && i == 0)=false:=by simpa using hi
    rw[e0]
    exact kat_one _ _ (PyProof.Rows.lt_int h)
def TupPre(h:Heap)(v:Value)(k:List Int):Prop:=∃a o xs m vs rs,v=.ref a∧h.get? a=some o∧o.cls=.type "tuple"∧o.data=.seq xs m∧xs.toList=vs++rs∧IntsAre vs k∧k≠[]∧∀u∈xs.toList,(u == u)=true
theorem TupPre.keeps{h h':Heap}{v:Value}{k:List Int}(t:TupPre h v k)(kp:∀a o,h.get? a=some o→h'.get? a=some o):TupPre h' v k:=by
 obtain⟨a,o,xs,m,vs,rs,e,ho,r⟩:=t
 exact⟨a,o,xs,m,vs,rs,e,kp _ _ ho,r⟩
theorem TupPre.lt{v u:Value}{k l:List Int}{C:Bool→Shared→Prop}(t:TupPre s.heap v k)(t':TupPre s.heap u l)(hl:k.length=l.length)(hn:k≠l)(h:C (HT.lexLt k l) s):wpAny (model prog w) A (keyLt' (tuples' true) v u) C E s:=by
 obtain⟨a,o,xs,m,vs,rs,rfl,ho,_,hd,hx,hi,_⟩:=t
 obtain⟨a',o',xs',m',vs',rs',rfl,ho',_,hd',hx',hi',_⟩:=t'
 refine kat_lt ho hd ho' hd' ?_
 rw[hx,hx']
 exact a1y 0 hi hi' hl hn h
theorem TupPre.lt_self{v:Value}{k:List Int}{C:Bool→Shared→Prop}(t:TupPre s.heap v k)(h:C false s):wpAny (model prog w) A (keyLt' (tuples' true) v v) C E s:=by
 obtain⟨a,o,xs,m,vs,rs,rfl,ho,_,hd,hx,hi,_,hv⟩:=t
 refine kat_lt ho hd ho hd (a0S 0 hv ?_)
 rw[decide_eq_false (Nat.lt_irrefl _)]
 exact h
def TPs(h:Heap):List Value→List (List Int)→Prop
 | [],[]=>True
 | v::vs,k::ks=>TupPre h v k∧TPs h vs ks
 | _,_=>False
theorem TPs.keeps{h h':Heap}(kp:∀a o,h.get? a=some o→h'.get? a=some o):∀{vs:List Value} {ks:List (List Int)},TPs h vs ks→TPs h' vs ks
 | [],[],_=>trivial
 | [],_::_,t=>t.elim
 | _::_,[],t=>t.elim
 | v::vs,k::ks,t=>⟨t.1.keeps kp,TPs.keeps kp t.2⟩
theorem TPs.at{h:Heap}:∀{vs:List Value} {ks:List (List Int)} (i:Nat),TPs h vs ks→i<vs.length→TupPre h (vs.getD i Value.none) (ks.getD i [])
 | [],_,i,_,hi=>absurd hi (Nat.not_lt_zero _)
 | _::_,[],_,t,_=>t.elim
 | v::vs,k::ks,0,t,_=>t.1
 | v::vs,k::ks,i+1,t,hi=>TPs.at (vs:=vs) (ks:=ks) i t.2 (by simpa using hi)
theorem a4G:∀{h:Heap} {vs:List Value} {ks:List (List Int)},TPs h vs ks→∃fs,KatTups h vs fs∧fs.length=vs.length∧∀v∈fs,∃i t,v=Value.int i t
 | _,[],[],_=>⟨[],.nil,rfl,fun v h=>by cases h⟩
 | _,[],_::_,t=>t.elim
 | _,_::_,[],t=>t.elim
 | h,v::vs,k::ks,⟨t,r⟩=>by
  obtain⟨fs,h1,h2,h3⟩:=a4G r
  obtain⟨a,o,xs,m,us,rs,rfl,ho,hc,hd,hx,hi,hn,_⟩:=t
  obtain⟨xl⟩:=xs
  cases hi with
  | nil=>exact absurd rfl hn
  | cons n tk hr =>
   simp only at hx
   subst hx
   exact⟨.int n tk::fs,.cons ho hc hd (by simp) h1,by simp[h2],fun v hv=>by
    rcases List.mem_cons.mp hv with rfl | hv
    ·exact⟨n,tk,rfl⟩
    ·exact h3 v hv⟩
end
def VPs(K:W.Frag)(H:Hp):List V→List (List Int)→Prop
 | [],[]=>True
 | v::vs,k::ks=>(∃a rs,v=.ref a∧SqT K H a (k.map V.int++rs)∧k≠[]∧∀r∈rs,∃b,r=.ref b)∧VPs K H vs ks
 | _,_=>False
theorem a1z:∀{k:List Int} {rs:List V} {us:List Value},Vals (k.map V.int++rs) us→∃vs ws,us=vs++ws∧IntsAre vs k∧Vals rs ws
 | [],rs,us,r=>⟨[],us,rfl,.nil,r⟩
 | n::k,rs,_,.cons r t=>by
  obtain⟨vs,ws,e,h1,h2⟩:=a1z (k:=k) t
  obtain⟨tk,e2⟩:=r
  exact⟨.int n tk::vs,ws,by rw[e,e2];rfl,.cons n tk h1,h2⟩
theorem a0T:∀{vs:List Value} {ns:List Int},IntsAre vs ns→∀u∈vs,∃m t,u=Value.int m t
 | _,_,.nil,u,hu=>by cases hu
 | _,_,.cons m t r,u,hu=>by
  rcases List.mem_cons.mp hu with rfl | hu
  ·exact⟨m,t,rfl⟩
  ·exact a0T r u hu
theorem a7I(n:Int)(t:Tok):(Value.int n t == Value.int n t)=true:=by simp
theorem a7J(a:Addr):(Value.ref a == Value.ref a)=true:=by simp
section
variable {X:Cx}
theorem a4I{pins:List (Addr×Obj)}{σ:St}{H:Hp}{s:Shared}(I:Inv X pins σ H s):∀{ys:List V} {us:List Value} {ks:List (List Int)},Vals ys us→VPs X.K H ys ks→TPs s.heap us ks
 | [],_,[],.nil,_=>trivial
 | [],_,_::_,_,h=>h.elim
 | _::_,_,[],_,h=>h.elim
 | v::ys,_,k::ks,.cons r rs,⟨⟨a,zs,e,hq,hn,hz⟩,h⟩=>by
  refine⟨?_,a4I I rs h⟩
  subst e
  obtain⟨its,rv,⟨o,ho,hc,n,hd⟩,_⟩:=I.tuple hq
  obtain⟨vs,ws,e,hi,hw⟩:=a1z rv
  refine⟨a,o,_,n,vs,ws,r,ho,hc,hd,by simpa using e,hi,hn,?_⟩
  intro u hu
  have hu:u∈its:=by simpa using hu
  rw[e]at hu
  rcases List.mem_append.mp hu with hu | hu
  ·obtain⟨m,t,rfl⟩:=a0T hi u hu
   exact a7I m t
  ·obtain⟨j,hj,e2⟩:=List.mem_iff_getElem.mp hu
   have hl:=hw.length
   have hj2:j<zs.length:=by omega
   obtain⟨w',q1,q2⟩:=hw.get (List.getElem?_eq_getElem hj2)
   obtain⟨b,eb⟩:=hz zs[j] (List.getElem_mem hj2)
   rw[eb]at q2
   rw[List.getElem?_eq_getElem hj,e2]at q1
   cases q1
   cases q2
   exact a7J b
end
theorem a2Z{pos:Pos}{a b:Int}{c cv:Value}(l:List Value)(h:TriplesOk l)(e:codeAmong pos (l++[rawInt a,rawInt b,c])=some cv):codeAmong pos l=some cv∨cv=c:=by
 fun_induction TriplesOk l with
 | case1 =>
  simp only[List.nil_append,codeAmong,rawInt]at e
  split at e
  ·exact .inr (Option.some.inj e).symm
  ·cases e
 | case2 a t b u x t7 ih =>
  simp only[List.cons_append,codeAmong]at e ⊢
  split at e
  ·exact .inl (by rename_i z;rw[if_pos z];exact e)
  ·rename_i z;rw[if_neg z];exact ih h e
 | case3=>exact h.elim
def a0A(oc:Obj)(q:Str):Prop:=∃vs t,oc.data=.fields vs∧vs[1]? = some (.str q t)
section
variable {X:Cx}{pins:List (Addr×Obj)}{σ:St}{H:Hp}{s:Shared}{params:Arguments}{body:Expr}{scope:Scope}{lpos:Pos}{c P:Addr}{q:Str}{tq:Tok}{qs:Array Value}{Q:Value→Shared→Prop}{E:Value→Shared→Prop}
abbrev U9(X:Cx)(params:Arguments)(body:Expr)(scope:Scope)(q:Str)(c':Addr)(pm ctv:Value):Obj:=kla_obj "<lambda>" q params body scope (w4 X.env.cells scope.names []) pm c' ctv
theorem Inv.grown{h':Heap}{tk:Nat}{c':Addr}{oc:Obj}{ps:Array Value}{a b:Int}(I:Inv X pins σ H s)(hT:H P=some (.tbl qs))(hqs:qs[0]? = some (Value.str q tq))(eP:s.heap.get? P=some (tabObj ps))(tr:TriplesOk ps.toList)
  (al:∀pos cv,codeAmong pos ps.toList=some cv→∃c oc u,cv=Value.ref c∧H c=some (.frz oc u)∧∃vs q' t t2,oc.data=.fields vs∧vs[1]? = some (Value.str q' t2)∧qs[0]? = some (Value.str q' t))
  (hx:Heap.ExtBut P s.heap h') (hge:s.heap.objs.size≤c') (hoc:h'.get? c'=some oc) (hq:a0A oc q) (htb:h'.get? P=some (tabObj (ps ++ #[rawInt a,rawInt b,.ref c']))) :
  Inv X pins σ (upd H c' (.frz oc (.own c'))) { s with heap:=h',toks:=tk }:=by
 have hn:H c'=none:=I.hok.fresh hge
 have neP:∀b',H b'=none→b'≠P:=fun b' n z=>by rw[z,hT]at n;cases n
 refine I.un (t':=tk) ⟨fun b o e n _ _=>hx b o (neP b n) e,fun b o e n _ _=>⟨o.slots,hx b o (neP b n) e⟩,fun b o e n _=>by rw[c8 (Nat.ne_of_lt (Nat.lt_of_lt_of_le (Heap.lt_size e) hge))];exact n,fun b o e _=>?_,fun b xs e=>by rw[c8 (g8 e hn)];exact e,fun b o u e=>by rw[c8 (g8 e hn)];exact e,fun b qs e=>⟨#[],by rw[c8 (g8 e hn),e];simp⟩⟩ fun b u e=>?_
 ·by_cases z:b=P
  ·rw[z];exact⟨_,htb⟩
  ·exact⟨o,hx b o z e⟩
 ·by_cases z:b=c'
  ·subst z
   rw[h7]at e;cases e
   exact⟨hoc,oc,hoc⟩
  ·rw[c8 z]at e
   by_cases y:b=P
   ·subst y
    rw[hT]at e;cases e
    refine⟨_,htb,by rw[Array.toList_append];exact TriplesOk_snoc _ _ _ _ tr,fun pos cv e=>?_⟩
    rw[Array.toList_append]at e
    rcases a2Z _ tr e with e | rfl
    ·obtain⟨c,o,u,e1,e2,r⟩:=al pos cv e
     exact⟨c,o,u,e1,by rw[c8 (g8 e2 hn)];exact e2,r⟩
    ·obtain⟨vs,t,d1,d2⟩:=hq
     exact⟨c',oc,.own c',rfl,h7,vs,q,tq,t,d1,d2,hqs⟩
   ·refine(I.hok b u e).stay (fun d v hd r=>hx d v ?_ r) (fun d r=>by rw[c8 (g8 r hn)];exact r) (fun d xs r=>by rw[c8 (g8 r hn)];exact r) fun d o u r=>by rw[c8 (g8 r hn)];exact r
    rcases hd with rfl | hd
    ·exact y
    ·intro z;rw[z,hT]at hd;cases hd
theorem a7K(I:Inv X pins σ H s)(hd:defaultsOf params X.env=([],[]))(hcode:X.env.code=.ref c)(C:CodeHd X.base c P)(hbl:X.base.BuiltinsAt X.mg P)(hT:H P=some (.tbl qs))(hqs:qs[0]? = some (Value.str q tq))(hq:q=X.env.qual ++ "<lambda>")
  (hfree:∀y∈scope.names,y.2=.free→X.env.scope.names.lookup y.1=some .cell∨X.env.scope.names.lookup y.1=some .free)
  (h:∀f c' oc u pm ctv H' s',Inv X pins σ H' s'→(∀a o,H a=some o→H' a=some o)→H' f=some (.frz (U9 X params body scope q c' pm ctv) (.own f))→H' c'=some (.frz oc u)→a0A oc q→Q (.ref f) s') :
  wpAny (model X.prog X.w) X.A (eval (.Lambda params body scope lpos) X.env) Q E s:=by
 refine kla_eval hd ?_
 subst hq
 obtain⟨ps,eP,tr,al⟩:=I.hok P _ hT
 have hcl:=a0P (scope:=scope) (env:=X.env) fun y hy hk=>I.ok.has y.1 (hfree y hy hk)
 have hg:s.heap.Ns mainGlobals X.mg:=I.mod.glob.keeps I.bk
 obtain⟨bm,ob,b1,b2,b3,b4,b5,b6,b7,b8⟩:=hbl
 have hb:s.heap.BuiltinsAt X.mg P:=⟨bm,ob,b1,b2,b3,b4,I.bk _ _ b5,b6,b7,b8⟩
 have lay:∀(H1:Hp) (h1:Heap) (tk:Nat) (c':Addr) (oc:Obj) (u:HO) (pm ctv:Value),Inv X pins σ H1 { s with heap:=h1,toks:=tk }→(∀a o,H a=some o→H1 a=some o)→H1 c'=some (.frz oc u)→a0A oc (X.env.qual ++ "<lambda>")→Q (.ref h1.objs.size) { s with heap:=h1.push (U9 X params body scope (X.env.qual ++ "<lambda>") c' pm ctv),toks:=tk }:=by
  intro H1 h1 tk c' oc u pm ctv I1 ex e3 e4
  have hf:H1 h1.objs.size=none:=I1.hok.fresh (Nat.le_refl _)
  have hgt:(h1.push (U9 X params body scope (X.env.qual ++ "<lambda>") c' pm ctv)).get? h1.objs.size=some (U9 X params body scope (X.env.qual ++ "<lambda>") c' pm ctv):=Heap.get?_push_size _ rfl
  have I2:=I1.laid (a:=h1.objs.size) (o:=.frz (U9 X params body scope (X.env.qual ++ "<lambda>") c' pm ctv) (.own h1.objs.size)) (t':=tk) (fun b o e=>Heap.get?_push_of_some (U9 X params body scope (X.env.qual ++ "<lambda>") c' pm ctv) e) (Nat.le_refl _) ⟨hgt,_,hgt⟩
  refine h _ c' oc u pm ctv _ _ I2 (fun a o e=>?_) h7 ?_ e4
  ·rw[c8 (g8 (ex a o e) hf)];exact ex a o e
  ·rw[c8 (g8 e3 hf)];exact e3
 cases e:codeAmong lpos ps.toList with
 | some cv =>
  obtain⟨c',oc,u,rfl,hc',vs,q',t,t2,d1,d2,d3⟩:=al lpos cv e
  have hq:q'=X.env.qual ++ "<lambda>" := by
   rw[hqs]at d3
   injection d3 with d3
   injection d3 with d3
   exact d3.symm
  subst hq
  refine kla_makeFunctionHit (mg:=X.mg) hcl I.ok.glob hg hcode (C.keeps I.bk) eP tr e hb fun ctv h' tk hk hsz=>?_
  exact lay H h' tk c' oc u _ ctv (I.kept hk) (fun _ _ e=>e) hc' ⟨vs,t2,d1,d2⟩
 | none =>
  have hgP:mainGlobals≠P:=fun z=>by
   obtain⟨o,es,ep,e1,hd,_⟩:=hg
   rw[z,eP]at e1;cases e1;cases hd
  refine kla_makeFunction (mg:=X.mg) hcl I.ok.glob hg hcode (C.keeps I.bk) eP tr e hgP hb fun c' ctv h' tk hx hge hlt hrec htb=>?_
  obtain⟨c2,oc,vs,t,e2,hoc,hd,hv⟩:=hrec
  cases e2
  exact lay _ h' tk c' oc (.own c') _ ctv (I.grown (tk:=tk) hT hqs eP tr al hx hge hoc ⟨vs,t,hd,hv⟩ htb) (fun a o e=>by rw[c8 (g8 e (I.hok.fresh hge))];exact e) h7 ⟨vs,t,hd,hv⟩
end
abbrev a3w(X:Cx)(scope:Scope)(q:Str)(L f c':Addr):Env:=envX q scope L f (.ref c') (w4 X.env.cells scope.names [])
abbrev a5h(X:Cx)(A':Around)(scope:Scope)(q:Str)(Nc:List Str)(f c':Addr)(s:Shared)(H:Hp):Cx :=
 { X with A:=A'.deeper (a3w X scope q s.heap.objs.size f c'),N:=Nc,s₀:=s,H₀:=H,env:=a3w X scope q s.heap.objs.size f c',outer:=X.stack,stack:=a3w X scope q s.heap.objs.size f c'::X.stack,ex:=[],fn:=fun _=>false,calm:=true,pn:=[],xe:=fun _ _=>False }
def a27(js:List Nat)(σ:St)(x:V):St:=some x::js.map fun j=>(σ[j]?).getD none
section
variable {X:Cx}{pins:List (Addr×Obj)}{σ:St}{H:Hp}{s:Shared}{A':Around}{params:Arguments}{body:Expr}{scope:Scope}{q kn:Str}{f c':Addr}{Nc:List Str}{js:List Nat}{h₁:Heap}{tk:Nat}{v:Value}{x:V}
theorem a9s(I:Inv X pins σ H s)(hA:A'.frames=some X.stack)(hh:A'.handled=none)(S:CompSc X.env.scope scope X.N Nc 1 js)(hk0:Nc[0]? = some kn)(hloc:scope.names.lookup kn=some .local)
  (hns:h₁.Ns s.heap.objs.size (fun y=>([(kn,v)]:List (Str×Value)).reverse.lookup y)) (old:∀b o,s.heap.get? b=some o→h₁.get? b=some o) (rv:RelV x v) :
  Inv (a5h X A' scope q Nc f c' s H) [] (a27 js σ x) H { s with heap:=h₁,toks:=tk }:=by
 have ok:=I.ok
 refine⟨⟨ok.mod,S.kind,rfl,rfl,Nat.le_refl _,fun x y c h1 h2=>ok.inj x y c (x4 h1) (x4 h2),fun y hy=>?_,(fun x c z=>nomatch z),fun _=>hh,Around.frames_deeper hA,.inr ⟨rfl,rfl⟩,fun b hb=>absurd (show b∈([]:List Addr)from hb) (by simp),I.bs,Nat.le_trans ok.bsz I.sz,fun b o e hb=>absurd (show b∈([]:List Addr)from hb) (by simp),fun b hb=>absurd (show b∈([]:List Addr)from hb) (by simp),I.stack,I.stkFree⟩,
  rfl,I.bare,Un.kept old,⟨_,hns,fun i y w e1 e2 e3=>?_⟩,fun y c e=>?_,I.hok.fresh (Nat.le_refl _),fun y c e=>I.freeC y c (x4 e),fun p hp=>absurd (show p∈([]:List (Addr×Obj))from hp) (by simp),I.hok.kept old,?_⟩
 ·have hy:scope.names.lookup y=some .cell∨scope.names.lookup y=some .free:=hy
  rcases hy with hy | hy
  ·exact absurd rfl (S.cell _ (B0 hy))
  ·exact E7 (B0 hy) (ok.has y (S.free _ (B0 hy) rfl))
 ·cases i with
  | zero =>
   have e1:Nc[0]? = some y:=e1
   rw[hk0]at e1;cases e1
   have e2:some (some x)=some (some w):=e2
   cases e2
   refine⟨v,rv,.inl ⟨hloc,?_⟩⟩
   show([(kn,v)]:List (Str×Value)).reverse.lookup kn=some v
   simp
  | succ i =>
   have e2:(js.map fun j=>(σ[j]?).getD none)[i]? = some (some w):=e2
   rw[List.getElem?_map]at e2
   cases hj:js[i]? with
   | none=>rw[hj]at e2;cases e2
   | some j =>
    rw[hj]at e2
    have e2':(σ[j]?).getD none=some w:=Option.some.inj e2
    have hσ:σ[j]? = some (some w):=by
     cases z:σ[j]? with
     | none=>rw[z]at e2';cases e2'
     | some y=>rw[z]at e2';simp at e2';rw[e2']
    have e1:Nc[i+1]? = some y:=e1
    have hx:(Nc.drop 1)[i]? = some y:=by rw[List.getElem?_drop,show 1+i=i+1 by omega];exact e1
    have hNj:X.N[j]? = some y:=by
     have:=congrArg (fun l=>l[i]?) S.cap
     simp only[List.getElem?_map,hx,hj,Option.map_some]at this
     exact(Option.some.inj this).symm
    have hfr:scope.names.lookup y=some .free:=S.caps y (List.mem_of_getElem? hx)
    have hk:=S.free _ (B0 hfr) rfl
    obtain⟨m,hn,hl⟩:=I.loc
    obtain⟨u,r,l⟩:=hl j y w hNj hσ (.inr hk)
    refine⟨u,r,.inr ⟨.inr hfr,?_⟩⟩
    rcases l with⟨l1,_⟩ | ⟨_,c,hc,hcell⟩
    ·have l1:X.env.scope.names.lookup y=some .local:=l1
     rcases hk with hk | hk
     ·rw[l1]at hk;cases hk
     ·rw[l1]at hk;cases hk
    ·obtain⟨d,hd⟩:=E7 (cells:=X.env.cells) (acc:=[]) (B0 hfr) ⟨c,hc⟩
     have:=x4 hd
     rw[hc]at this;cases this
     obtain⟨o,ho,hdd⟩:=hcell
     exact⟨c,hd,⟨o,old _ _ ho,hdd⟩⟩
 ·obtain⟨w,o,ho,hd⟩:=I.cell y c (x4 e)
  exact⟨w,o,old _ _ ho,hd⟩
 ·unfold a27
  rw[List.length_cons,List.length_map]
  have:=S.len
  show _=Nc.length
  omega
theorem a7L{oc:Obj}{u u':HO}{pm ctv:Value}{te:TE}{Qk:VK}(I:Inv X pins σ H s)(hA:A'.frames=some X.stack)(hh:A'.handled=none)(hdp:A'.depth<recursionLimit)(S:CompSc X.env.scope scope X.N Nc 1 js)(hk0:Nc[0]? = some kn)(hloc:scope.names.lookup kn=some .local)
  (hf:H f=some (.frz (U9 X params body scope q c' pm ctv) u')) (hc:H c'=some (.frz oc u)) (hq:a0A oc q) (hbind:bindArgs (kla_fn "<lambda>" q params body scope (w4 X.env.cells scope.names []) pm (.ref c') ctv) ⟨[v],[]⟩=pure [(kn,v)])
  (hco:scope.isCoroutine=false) (hgen:scope.isGenerator=false) (hbody:PE (a5h X A' scope q Nc f c' s H) body te) (rv:RelV x v) (ht:te (a27 js σ x) H Qk) :
  wpAny (model X.prog X.w) A' (call (.ref f) [v]) (fun w s'=>∃y H2,Inv X pins σ H2 s'∧RelV y w∧Qk y H2∧Un (B5 X.stack) [] H H2 s.heap s'.heap) (fun _ _=>False) s:=by
 have ef:s.heap.get? f=some (U9 X params body scope q c' pm ctv):=(I.hok f _ hf).1
 have ec:s.heap.get? c'=some oc:=(I.hok c' _ hc).1
 obtain⟨vs,t,d1,d2⟩:=hq
 refine wpAny_call (kla_callFunE hdp ef rfl hco hgen rfl ⟨c',oc,vs,t,rfl,ec,d1,d2⟩ ?_)
 rw[hbind]
 refine wpAny_pure (wpAny_newFunctionEnv S.cell (by
  intro y hy
  rw[List.mem_singleton.mp hy]
  exact hloc) (fun h₁ hns hsb=>⟨I.nolimit.fresh _ hsb,?_⟩) S.kind)
 have old:∀b o,s.heap.get? b=some o→h₁.get? b=some o:=fun b o e=>hsb.extBut b o (Nat.ne_of_lt (Heap.lt_size e)) (Heap.get?_push_of_some _ e)
 have J:=a9s (q:=q) (f:=f) (c':=c') (tk:=s.toks+([(kn,v)]:List (Str×Value)).length) I hA hh S hk0 hloc hns old rv
 refine kla_codeExpr (wpAny_mono (hbody [] _ _ H _ J ht) (fun w s' hw=>?_) fun _ _ z=>z.elim)
 obtain⟨y,H2,I2,ry,q2⟩:=hw
 exact⟨y,H2,I.call' (ch:=[]) (I2.os.trans rfl) I2.base I2.hok I2.bare (fun b hb=>absurd hb (by simp)),ry,q2,I2.base⟩
end
section
variable {prog:Program}{w:World}{A:Around}{E:Value→Shared→Prop}{s:Shared}
theorem a4e{r:Addr}{a b c:Int}{t u v:Tok}{n:Nat}{Q:List Value→Shared→Prop}(hh:A.handled=none)(hr:IsRange s.heap r a b c t u v)(hsmall:Builtin.Range.small a b c=true)(hn:Builtin.Range.rangeSize a b c=n)(hlen:n≤2 ^ 24)
  (h:∀h' tk acc,(∀b o,s.heap.get? b=some o→h'.get? b=some o)→ItemsOf (fun i v=>∃t,v=.int (a+i*c) t) acc n→Q acc.toList { s with heap:=h',toks:=tk }) :
  wpAny (model prog w) A (collect (.ref r)) Q E s:=by
 unfold collect
 refine wpAny_bind (wpAny_runValue (codeAny_builtin F.entry_proto_collect ?_))
 rw[Around.under_plainId F.plain_proto_collect _]
 show wpAny _ A.in1 (newList [] >>= fun l=>again (.builtin "list.__iadd__" ⟨[l,.ref r],[]⟩)) _ _ s
 refine wpAny_bind (wpAny_newObj_type ?_)
 refine wpAny_pure ⟨plainId_quiet F.plain_list_iadd _,codeAny_builtin F.entry_list_iadd ?_⟩
 rw[Around.under_plainId F.plain_list_iadd _]
 have hS:(s.heap.push { cls:=.type "list",data:=.seq ([]:List Value).toArray }).get? s.heap.objs.size=some { cls:=.type "list",data:=.seq ([]:List Value).toArray }:=Heap.get?_push_size _ rfl
 show wpAny _ A.in1 (Builtin.List.listExtendWith (.ref s.heap.objs.size) (.ref r) (.ref s.heap.objs.size)) _ _ _
 refine wpAny_extend_range (A:=A) (R:=fun r' s'=>match r' with
  | .ok (.ret v)=>wpAny (model prog w) A (match v with
   | .ref a=>do
    let o ← load a
    match o.data with
     | .seq xs _=>pure xs.toList
     | _=>unsupported "internal:collect"
   | _=>unsupported "internal:collect") Q E s'
  | .ok _=>False
  | .error e=>E e s') (s:={ s with heap:=s.heap.push { cls:=.type "list",data:=.seq ([]:List Value).toArray } }) hh (Heap.get?_push_of_some _ hr) hsmall hn hlen s.heap.objs.size (.ref s.heap.objs.size) 0 hS fun h' tk acc c' hk hS' hi=>?_
 show wpAny _ A (load s.heap.objs.size >>= _) _ _ _
 refine wpAny_bind (wpAny_load hS' ?_)
 exact wpAny_pure (h h' tk acc (fun b o e=>hk b o (Nat.ne_of_lt (Heap.lt_size e)) (Heap.get?_push_of_some _ e)) hi)
end
section
variable {X:Cx}{pins:List (Addr×Obj)}{σ:St}{H:Hp}{s:Shared}{A':Around}{E:Value→Shared→Prop}
theorem FpOk.nstk{H':Hp}{b:Addr}(I:Inv X pins σ H s)(f:FpOk X pins H' b):b ∉ B5 X.stack:=fun z=>by
 rcases List.mem_cons.mp (I.stkSub b z)with q | q
 ·exact f.2.1 q
 ·exact f.2.2.1 q
theorem FpOk.to{H':Hp}{b:Addr}(f:FpOk X pins H b)(n:H' b=none):FpOk X pins H' b:=⟨n,f.2⟩
theorem a9t{xs:List V}{vs:List Value}(r:Vals xs vs){j:Nat}{u:Value}(h:vs[j]? = some u):∃x,xs[j]? = some x∧RelV x u:=by
 have hj:=(List.getElem?_eq_some_iff.mp h).1
 have hl:=r.length
 obtain⟨u',e,q⟩:=r.get (List.getElem?_eq_getElem (l:=xs) (i:=j) (by omega))
 rw[h]at e;cases e
 exact⟨_,List.getElem?_eq_getElem (by omega),q⟩
theorem a1A{D kS:Addr}{vs:List Value}{xs:List V}{e1 e2:Nat}{kA:Array Value}{st:SortSt}{p:List Nat}{P:PySem.Fin→Shared→Prop}(I:Inv X pins σ H s)(fD:FpOk X pins H D)(fk:FpOk X pins H kS)(ne:kS≠D)(hD:s.heap.get? D=some (seqObj "list" #[] e1))(hk:s.heap.get? kS=some (seqObj "list" kA e2))(rv:Vals xs vs)(h64:vs.length<64)(hkA:kA.size≤vs.length)
  (hout:(arrOf st).map (·.2)=(p.map fun i=>vs.getD i Value.none).toArray) (hf:failedOf st=none) (hp:p.Perm (List.range xs.length))
  (h:∀s',Inv X pins σ (upd H D (.lst (p.map fun i=>xs.getD i .non))) s'→P (.done (.ret .none)) s'):wpAny (model X.prog X.w) A' (ksk_tail D false e1 (.ref kS) st) P E s:=by
 have hlen:=rv.length
 have hsz3:((p.map fun i=>vs.getD i Value.none).toArray).size=vs.length:=by rw[List.size_toArray,List.length_map,hp.length_eq,List.length_range,hlen]
 have s1:=Heap.SameBut.update s.heap kS (Obj.mapSeq fun _=>(#[]:Array Value))
 have na1:(s.heap.update kS (Obj.mapSeq fun _=>(#[]:Array Value))).get? D=some (seqObj "list" #[] e1):=(s1.2 D (Ne.symm ne)).trans hD
 have s2:=Heap.SameBut.update (s.heap.update kS (Obj.mapSeq fun _=>(#[]:Array Value))) D (Obj.mapSeq fun _=>(p.map fun i=>vs.getD i Value.none).toArray)
 obtain⟨c2,hc2⟩:∃c2,((s.heap.update kS (Obj.mapSeq fun _=>(#[]:Array Value))).update D (Obj.mapSeq fun _=>(p.map fun i=>vs.getD i Value.none).toArray)).get? D=some (seqObj "list" (p.map fun i=>vs.getD i Value.none).toArray c2):=⟨_,get?_update_seq na1 fun _=>_⟩
 unfold ksk_tail
 rw[hout,hf]
 dsimp only
 refine wpAny_bind (listUpdate_at hk rfl ?_ (by rw[sizeLine_eq];omega) (Nat.zero_le _))
 refine wpAny_bind (wpAny_letGo ?_)
 refine wpAny_bind (seqEpoch_at na1 rfl ?_)
 refine wpAny_bind (listUpdate_at na1 rfl ?_ (Nat.zero_le _) (Nat.le_trans (Nat.le_of_eq hsz3) (by rw[sizeLine_eq];omega)))
 simp only[bne_self_eq_false,Bool.false_eq_true,if_false]
 refine wpAny_pure (h _ ?_)
 have I2:=I.turnedN (t':=s.toks) (ch:=[kS,D]) (h':=((s.heap.update kS (Obj.mapSeq fun _=>(#[]:Array Value))).update D (Obj.mapSeq fun _=>(p.map fun i=>vs.getD i Value.none).toArray))) (fun b u hb e=>by
  simp only[List.mem_cons,List.not_mem_nil,or_false,not_or]at hb
  exact(s2.2 b hb.2).trans ((s1.2 b hb.1).trans e)) (fun b hb=>by
  simp only[List.mem_cons,List.not_mem_nil,or_false]at hb
  rcases hb with rfl | rfl
  ·exact fk
  ·exact fD)
 refine I2.trackO ?_ hc2 rfl ?_
 ·rintro(z | ⟨z,o,e⟩ | ⟨q,hq,e⟩)
  ·exact z fD.1
  ·rcases fD.2.2.2.1 with y | y
   ·exact z y
   ·exact absurd (Heap.lt_size e) (Nat.not_lt.mpr y)
  ·exact fD.2.2.2.2.2 q hq e
 ·refine⟨?_,p.map fun i=>vs.getD i Value.none,c2,a2C p rv fun i hi=>List.mem_range.mp (hp.mem_iff.mp hi),hc2⟩
  rw[List.length_map,hp.length_eq,List.length_range,hlen,sizeLine_eq]
  omega
end
section
variable {X:Cx}{pins:List (Addr×Obj)}{σ:St}{H:Hp}{s:Shared}{A':Around}{E:Value→Shared→Prop}
theorem a6f{D kS:Addr}{vs keys:List Value}{xs ys:List V}{ks:List (List Int)}{e1 e2:Nat}{P:PySem.Fin→Shared→Prop}(I:Inv X pins σ H s)(fD:FpOk X pins H D)(fk:FpOk X pins H kS)(ne:kS≠D)(hD:s.heap.get? D=some (seqObj "list" #[] e1))(hk:s.heap.get? kS=some (seqObj "list" keys.toArray e2))(rv:Vals xs vs)(rk:Vals ys keys)(hl:keys.length=vs.length)(h64:vs.length<64)
  (vp:VPs X.K H ys ks) (hd:∀i j,i<ys.length→j<ys.length→i≠j→(ks.getD i []).length=(ks.getD j []).length∧ks.getD i []≠ks.getD j [])
  (h:∀(p:List Nat) s',p.Perm (List.range xs.length)→p.Pairwise (fun i j=>HT.lexLt (ks.getD j []) (ks.getD i [])=false)→Inv X pins σ (upd H D (.lst (p.map fun i=>xs.getD i .non))) s'→P (.done (.ret .none)) s') :
  wpAny (model X.prog X.w) A' (ksk_end D false vs.toArray e1 (.ref kS) keys.toArray) P E s:=by
 have hxl:=rv.length
 have hyl:=rk.length
 have tp:TPs s.heap keys ks:=a4I I rk vp
 unfold ksk_end
 simp only[Bool.false_eq_true,if_false]
 by_cases h2':vs.toArray.size<2
 ·rw[if_pos h2',if_pos h2']
  refine wpAny_bind (wpAny_pure ?_)
  rw[StateT.run_pure]
  refine wpAny_bind (wpAny_pure ?_)
  have hlen:vs.length<2:=by simpa using h2'
  refine a1A (st:=SortSt.mk' general' (keys.toArray.zip vs.toArray) #[] 7 none) (p:=List.range xs.length) I fD fk ne hD hk rv h64 (by simp;omega) ?_ rfl (List.Perm.refl _) fun s' J=>h _ s' (List.Perm.refl _) ?_ J
  ·show(keys.toArray.zip vs.toArray).map (·.2)=_
   rw[hxl]
   match vs,keys,hl,hlen with
   | [],[],_,_=>simp
   | [_],[_],_,_=>simp
  ·match hn:xs.length,(show xs.length<2 by omega)with
   | 0,_=>exact .nil
   | 1,_=>exact List.pairwise_singleton _ _
 ·rw[if_neg h2',if_neg h2']
  have hlen:2≤vs.length:=by simp at h2';omega
  obtain⟨fs,t1,t2,t3⟩:=a4G tp
  refine wpAny_bind (kat_kind (T:=.type "int") t1 (by omega) (fun v hv=>by obtain⟨i,t,rfl⟩:=t3 v hv;exact .of_pure rfl) (by decide) ?_)
  have eb:(Value.type "int" != Value.type "tuple")=true:=by decide +kernel
  rw[eb]
  have T:=a7H fun i=>ks.getD i []
  have gd:=a4F (n:=vs.length) T (by omega)
  refine wpAny_bind (wpAny_mono (kat_run (κ:=tuples' true) (vs:=vs) (ks:=keys) (Q:=fun st' s'=>∃p:Array Nat,p.size=vs.length∧arrOf st'=p.map (kas_item (keys.toArray.zip vs.toArray))∧failedOf st'=none∧s'=s∧Pmn vs.length p∧Up (fun i j=>HT.lexLt (ks.getD i []) (ks.getD j [])) p vs.length)
   (G:=fun p s'=>s'=s∧Pmn vs.length p∧Up (fun i j=>HT.lexLt (ks.getD i []) (ks.getD j [])) p vs.length)
   hl hlen h64 (fun p' st' s' a1 a2 a3 a4=>⟨p',a1,a2,a3,a4⟩) (gd.wp (fun i j C hi hj hC=>?_) fun p hp=>⟨rfl,hp⟩)) ?_ fun _ _ x=>x)
  ·by_cases z:i=j
   ·subst z
    refine TupPre.lt_self (tp.at i (by omega)) ?_
    rw[a15]at hC
    exact hC
   ·obtain⟨e,n⟩:=hd i j (by omega) (by omega) z
    exact TupPre.lt (tp.at i (by omega)) (tp.at j (by omega)) e n hC
  ·rintro⟨⟨⟩,st'⟩ s' ⟨p,hp,har,hf,rfl,hP,hU⟩
   have hPx:p.toList.Perm (List.range xs.length):=by rw[hxl];exact hP
   refine a1A (p:=p.toList) I fD fk ne hD hk rv h64 (by simp;omega) (kat_snds hl har) hf hPx fun s' J=>h _ s' hPx ?_ J
   rw[List.pairwise_iff_getElem]
   intro i j hi hj hij
   have hU':=hU i j (by omega) (by rw[← hp];simpa using hj)
   simp only[Array.length_toList]at hi hj
   have e1:ga p i=p[i]:=by unfold ga;simp[Array.getD,hi]
   have e2:ga p j=p[j]:=by unfold ga;simp[Array.getD,hj]
   rw[e1,e2]at hU'
   simpa using hU'
theorem a6g{D f:Addr}{vs:List Value}{xs:List V}{n0:Nat}{W:Nat→List V→Hp→Prop}{P:PySem.Fin→Shared→Prop}(I:Inv X pins σ H s)(hD:s.heap.get? D=some (seqObj "list" vs.toArray n0))(fD:FpOk X pins H D)(rv:Vals xs vs)(h64:vs.length<64)(w0:W 0 [] H)
  (turn:∀i x v ys H' s',xs[i]? = some x→RelV x v→W i ys H'→Inv X pins σ H' s'→(∀b o u,H b=some (.frz o u)→H' b=some (.frz o u))→wpAny (model X.prog X.w) A' (call (.ref f) [v]) (fun w s''=>∃y H2,Inv X pins σ H2 s''∧RelV y w∧W (i+1) (ys++[y]) H2∧Un (B5 X.stack) [] H' H2 s'.heap s''.heap) (fun _ _=>False) s')
  (fin:∀ys H',ys.length=xs.length→W xs.length ys H'→H' D=none→∃ks,VPs X.K H' ys ks∧(∀i j,i<ys.length→j<ys.length→i≠j→(ks.getD i []).length=(ks.getD j []).length∧ks.getD i []≠ks.getD j []) ∧
   ∀(p:List Nat) s',p.Perm (List.range xs.length)→p.Pairwise (fun i j=>HT.lexLt (ks.getD j []) (ks.getD i [])=false)→Inv X pins σ (upd H' D (.lst (p.map fun i=>xs.getD i .non))) s'→P (.done (.ret .none)) s') :
  wpAny (model X.prog X.w) A' (ksk_tree D (.ref f) false) P E s:=by
 have ha:D<s.heap.objs.size:=Heap.lt_size hD
 have s1:=Heap.SameBut.update s.heap D (Obj.mapSeq fun _=>(#[]:Array Value))
 obtain⟨e1,ho1⟩:∃e1,(s.heap.update D (Obj.mapSeq fun _=>(#[]:Array Value))).get? D=some (seqObj "list" #[] e1):=⟨_,get?_update_seq hD fun _ => #[]⟩
 have hkS:((s.heap.update D (Obj.mapSeq fun _=>(#[]:Array Value))).push (seqObj "tuple" vs.toArray 0)).objs.size=s.heap.objs.size+1:=by rw[size_push',Heap.size_update]
 have hxl:=rv.length
 unfold ksk_tree
 refine wpAny_bind (listItems_at hD rfl ?_)
 refine wpAny_bind (listUpdate_at hD rfl ?_ (by rw[List.size_toArray,sizeLine_eq];omega) (Nat.zero_le _))
 refine wpAny_bind (seqEpoch_at ho1 rfl ?_)
 refine wpAny_bind (wpAny_newTuple ?_ (by show vs.length≤_;rw[sizeLine_eq];omega))
 refine wpAny_bind (wpAny_newList ?_ (Nat.zero_le _))
 refine wpAny_holding ?_
 show wpAny (model X.prog X.w) A' (ksk_rest D (.ref f) false vs.toArray e1 (.ref ((s.heap.update D (Obj.mapSeq fun _=>(#[]:Array Value))).push (seqObj "tuple" vs.toArray 0)).objs.size)) P E { s with heap:=((s.heap.update D (Obj.mapSeq fun _=>(#[]:Array Value))).push (seqObj "tuple" vs.toArray 0)).push (seqObj "list" #[] 0) }
 have hkO:(((s.heap.update D (Obj.mapSeq fun _=>(#[]:Array Value))).push (seqObj "tuple" vs.toArray 0)).push (seqObj "list" #[] 0)).get? ((s.heap.update D (Obj.mapSeq fun _=>(#[]:Array Value))).push (seqObj "tuple" vs.toArray 0)).objs.size=some (seqObj "list" #[] 0):=Heap.get?_push_size _ rfl
 have hDO:(((s.heap.update D (Obj.mapSeq fun _=>(#[]:Array Value))).push (seqObj "tuple" vs.toArray 0)).push (seqObj "list" #[] 0)).get? D=some (seqObj "list" #[] e1):=Heap.get?_push_of_some _ (Heap.get?_push_of_some _ ho1)
 have I2:=I.turnedN (t':=s.toks) (ch:=[D]) (h':=((s.heap.update D (Obj.mapSeq fun _=>(#[]:Array Value))).push (seqObj "tuple" vs.toArray 0)).push (seqObj "list" #[] 0)) (fun b u hb e=>Heap.get?_push_of_some _ (Heap.get?_push_of_some _ ((s1.2 b (fun z=>hb (by simp[z]))).trans e))) (fun b hb=>by
  simp only[List.mem_singleton]at hb;rw[hb];exact fD)
 rw[hkS]at hkO ⊢
 have fk:FpOk X pins H (s.heap.objs.size+1):=I.fpOk (Nat.le_succ _) (I.hok.fresh (Nat.le_succ _))
 have ne:s.heap.objs.size+1≠D:=Nat.ne_of_gt (Nat.lt_succ_of_lt ha)
 generalize ((s.heap.update D (Obj.mapSeq fun _=>(#[]:Array Value))).push (seqObj "tuple" vs.toArray 0)).push (seqObj "list" #[] 0)=h2 at *
 generalize s.heap.objs.size+1=kS at *
 have nD:=fD.nstk I
 have nk:=fk.nstk I
 unfold ksk_rest
 refine wpAny_bind (wpAny_rule ?_)
 first
  | rw[List.forIn_toArray]
  | (rw[← Array.forIn_toList];simp only[List.toList_toArray])
  | rw[← Array.forIn_toList]
 refine wpAny_bind (ksk_fold (fun i s'=>∃H' ys kA e,Inv X pins σ H' s'∧W i ys H'∧Vals ys kA∧ys.length=i∧s'.heap.get? kS=some (seqObj "list" kA.toArray e)∧s'.heap.get? D=some (seqObj "list" #[] e1)∧H' kS=none∧H' D=none∧∀b o u,H b=some (.frz o u)→H' b=some (.frz o u)) vs 0 { s with heap:=h2 }
  ⟨H,[],[],0,I2,w0,.nil,rfl,hkO,hDO,fk.1,fD.1,fun _ _ _ e=>e⟩ ?step ?done)
 case step =>
  rintro j v s' hv ⟨H',ys,kA,e,I',wj,rk,ly,ok,od,nk',nd',fz⟩
  simp only[Nat.zero_add]at wj ly ⊢
  obtain⟨x,hx,rx⟩:=a9t rv hv
  have hj:j<vs.length:=(List.getElem?_eq_some_iff.mp hv).1
  have hz:=rk.length
  refine wpAny_bind (wpAny_attempt (wpAny_mono (turn j x v ys H' s' hx rx wj I' fz) (fun u s'' hu=>?_) fun _ _ z=>z.elim))
  obtain⟨y,H3,I3,ry,w3,un⟩:=hu
  have ok3:=un.keep kS _ ok nk' nk (by simp)
  have od3:=un.keep D _ od nd' nD (by simp)
  have s3:=Heap.SameBut.update s''.heap kS (Obj.mapSeq (·.push u))
  obtain⟨c2,hc2⟩:∃c2,(s''.heap.update kS (Obj.mapSeq (·.push u))).get? kS=some (seqObj "list" (kA.toArray.push u) c2):=⟨_,get?_update_seq ok3 (·.push u)⟩
  have nk3:=un.free kS _ ok nk' (by simp)
  have nd3:=un.free D _ od nd' (by simp)
  refine wpAny_bind (listUpdate_at ok3 rfl ?_ (by rw[List.size_toArray,sizeLine_eq];omega) (Nat.le_trans (Nat.le_of_eq (Array.size_push ..)) (by rw[List.size_toArray,sizeLine_eq];omega)))
  refine wpAny_pure ⟨rfl,H3,ys++[y],kA++[u],c2,I3.turnedN (ch:=[kS]) (fun b o hb e=>(s3.2 b (fun z=>hb (by simp[z]))).trans e) (fun b hb=>by
   simp only[List.mem_singleton]at hb;rw[hb];exact fk.to nk3),w3,?_,by rw[List.length_append,ly];rfl,?_,(s3.2 D (Ne.symm ne)).trans od3,nk3,nd3,fun b o u e=>un.frzs _ _ _ (fz b o u e)⟩
  ·exact rk.append (.cons ry .nil)
  ·rw[show(kA++[u]).toArray=kA.toArray.push u by simp];exact hc2
 case done =>
  rintro s' ⟨H',ys,kA,e,I',wj,rk,ly,ok,od,nk',nd',fz⟩
  rw[Nat.zero_add]at wj ly
  rw[← hxl]at wj ly
  obtain⟨ks,vp,hd,q⟩:=fin ys H' ly wj nd'
  refine wpAny_bind (listItems_at ok rfl ?_)
  have:=rk.length
  exact a6f I' (fD.to nd') (fk.to nk') ne od ok rv rk (by omega) h64 vp hd q
end
def TbAt(P:Addr)(q:Str)(H:Hp):Prop:=∃(qs:Array Value) (t:Tok),H P=some (.tbl qs)∧qs[0]? = some (Value.str q t)
theorem TbAt.now{P:Addr}{q:Str}{fs ex:List Addr}{H H':Hp}{h h':Heap}(t:TbAt P q H)(u:Un fs ex H H' h h'):TbAt P q H':=by
 obtain⟨qs,t,e,e2⟩:=t
 obtain⟨more,e3⟩:=u.tbls _ _ e
 refine⟨_,t,e3,?_⟩
 have h0:0<qs.size:=by
  by_cases z:0<qs.size
  ·exact z
  ·rw[Array.getElem?_eq_none (by omega)]at e2;cases e2
 rw[Array.getElem?_append_left h0];exact e2
def a28:List V→Hp→VK→Prop:=fun xs H Q=>∃j:Int,xs=[.int j]∧∀r,H r=none→Q (.ref r) (upd H r (.rng 0 j))
def a6h(K:PySem.W.Frag)(te:TE)(js:List Nat)(σ:St)(Q:VK)(vs:List V)(H1:Hp):Prop:=∃(n:Nat) (r:Addr),vs=[.ref r]∧H1 r=some (.rng 0 (n:Int))∧n<64 ∧
 ∀H2:Hp,(∀a o,H1 a=some o→H2 a=some o)→∃W:Nat→List V→Hp→Prop,W 0 [] H2∧(∀i ys H',i<n→W i ys H'→te (a27 js σ (.int (i:Int))) H' fun y H''=>W (i+1) (ys++[y]) H'') ∧
  ∀ys H',ys.length=n→W n ys H'→∃ks,VPs K H' ys ks∧(∀i j,i<ys.length→j<ys.length→i≠j→(ks.getD i []).length=(ks.getD j []).length∧ks.getD i []≠ks.getD j []) ∧
   ∀l (p:List Nat),H' l=none→p.Perm (List.range n)→p.Pairwise (fun i j=>HT.lexLt (ks.getD j []) (ks.getD i [])=false)→Q (.ref l) (upd H' l (.lst (p.map fun(i:Nat)=>V.int (i:Int))))
def a6i(K:W.Frag)(ta:TA)(te:TE)(js:List Nat):TE:=fun σ H Q=>ta σ H fun xs H1=>a28 xs H1 fun x H2=>a6h K te js σ Q [x] H2
section
variable {X:Cx}
theorem a4f:F8 X (.type "range") a28:=by
 intro pins s σ H xs us Q I r h
 obtain⟨j,rfl,q⟩:=h
 obtain⟨u,rfl,ru⟩:=r.one
 obtain⟨t,rfl⟩:=ru
 refine call_range_1 ?_
 have hg:(s.heap.push { cls:=.type "range",data:=.fields #[.int 0 s.toks,.int j t,.int 1 (s.toks+1)] }).get? s.heap.objs.size=some { cls:=.type "range",data:=.fields #[.int 0 s.toks,.int j t,.int 1 (s.toks+1)] }:=Heap.get?_push_size _ rfl
 exact⟨.ref _,_,I.laid (t':=s.toks+1+1) (o:=.rng 0 j) (fun b o e=>Heap.get?_push_of_some _ e) (Nat.le_refl _) ⟨_,_,_,hg⟩,rfl,q _ I.fresh⟩
theorem a4g:∀{n:Nat} {acc:Array Value},ItemsOf (fun i v=>∃t,v=.int (0+(i:Int)*1) t) acc n→Vals ((List.range n).map fun(i:Nat)=>V.int (i:Int)) acc.toList:=by
 intro n acc ⟨hs,hv⟩
 have key:∀(l:List Value) (k:Nat),(∀j v,l[j]? = some v→∃t,v=Value.int ((k+j:Nat):Int) t)→Vals ((List.range' k l.length).map fun(i:Nat)=>V.int (i:Int)) l:=by
  intro l
  induction l with
  | nil=>intro k _;exact .nil
  | cons u l ih =>
   intro k h
   rw[List.length_cons,List.range'_succ,List.map_cons]
   refine .cons ?_ (ih (k+1) fun j v e=>?_)
   ·obtain⟨t,rfl⟩:=h 0 u rfl
    exact⟨t,rfl⟩
   ·obtain⟨t,rfl⟩:=h (j+1) v (by simpa using e)
    exact⟨t,by rw[show k+(j+1)=k+1+j by omega]⟩
 have hl:acc.toList.length=n:=by simpa using hs
 have:=key acc.toList 0 fun j v e=>by
  obtain⟨t,rfl⟩:=hv j v (by simpa using e)
  exact⟨t,by congr 1;omega⟩
 rw[hl,← List.range_eq_range']at this
 exact this
theorem a4h:bootBuiltins "sorted" = some (.builtin "sorted"):=by decide +kernel
theorem a4i:bootBuiltins "range" = some (.type "range"):=by decide +kernel
theorem a3x{k:Nat}{e body:Expr}{params:Arguments}{scope:Scope}{p p2 pos pos2 lpos kpos:Pos}{ta:TA}{te:TE}{c P:Addr}{q kn:Str}{Nc:List Str}{js:List Nat}(hr:Room k X.A)(hcalm:X.calm=true)(hg:Gl X "sorted")(hm:X.mg "sorted" = none)(hg2:Gl X "range")(hm2:X.mg "range" = none)(ha:PA X [e] ta)
  (hd:defaultsOf params X.env=([],[])) (hcode:X.env.code=.ref c) (C:CodeHd X.base c P) (hbl:X.base.BuiltinsAt X.mg P) (hq:q=X.env.qual ++ "<lambda>") (hT0:TbAt P q X.H₀) (S:CompSc X.env.scope scope X.N Nc 1 js) (hk0:Nc[0]? = some kn) (hloc:scope.names.lookup kn=some .local)
  (hbd:∀cl pm cv ctv v,bindArgs (kla_fn "<lambda>" q params body scope cl pm cv ctv) ⟨[v],[]⟩=pure [(kn,v)]) (hco:scope.isCoroutine=false) (hgen:scope.isGenerator=false)
  (hbody:∀f c' s' H',PE (a5h X X.A.in1.in1 scope q Nc f c' s' H') body te)
  (he:backTo pos (starEach [Expr.Call (.Name "range" p2) [e] [] pos2] X.env)=(false,eval (.Call (.Name "range" p2) [e] [] pos2) X.env)::backTo pos (starEach [] X.env):=by rfl) (hplain:(backTo pos (starEach [Expr.Call (.Name "range" p2) [e] [] pos2] X.env)).any (·.1)=false:=by rfl)
  (he2:starEach [e] X.env=(false,eval e X.env)::starEach [] X.env:=by rfl) (hpl2:(backTo pos2 (starEach [] X.env)).any (·.1)=false:=by rfl) :
  PE X (.Call (.Name "sorted" p) [.Call (.Name "range" p2) [e] [] pos2] [⟨some "key",.Lambda params body scope lpos,kpos⟩] pos) (a6i X.K ta te js):=by
 intro pins s σ H Q I h
 have hrng:PE X (.Call (.Name "range" p2) [e] [] pos2) (tCB a28 ta):=O5 a4f hg2 hm2 a4i ha (by decide) (by decide) he2 hpl2
 have hlam:PE X (.Lambda params body scope lpos) (fun σ H Q=>∀f c' oc u pm ctv H',(∀a o,H a=some o→H' a=some o)→H' f=some (.frz (U9 X params body scope q c' pm ctv) (.own f))→H' c'=some (.frz oc u)→a0A oc q→Q (.ref f) H'):=by
  intro pins s σ H Q I h
  obtain⟨qs,tq,hT,hqs⟩:=hT0.now I.base
  exact a7K I hd hcode C hbl hT hqs hq S.free fun f c' oc u pm ctv H' s' I' ex h1 h2 h3=>⟨.ref f,H',I',rfl,h f c' oc u pm ctv H' ex h1 h2 h3⟩
 have hk:=a9f (nm:=some "key") (kpos:=kpos) hlam (b0T (X:=X))
 have har:PA X [.Call (.Name "range" p2) [e] [] pos2] (Q4 (tCB a28 ta) a0j):=a5 hrng c7
 refine wpAny_Call_Name_kw (V5 I hg hm a4h ?_)
 refine callWith_kw (i4 (har pos pins s σ H (a6h X.K te js σ Q) I h) fun us s1 ⟨vs,H1,I1,r1,q1⟩=>?_) he hplain
 obtain⟨n,r,rfl,hrr,h64,q2⟩:=q1
 refine i4 (hk pos pins s1 σ H1 (fun zs H2=>∃f c' oc u pm ctv,zs=[.ref f]∧(∀a o,H1 a=some o→H2 a=some o)∧H2 f=some (.frz (U9 X params body scope q c' pm ctv) (.own f))∧H2 c'=some (.frz oc u)∧a0A oc q) I1 fun f c' oc u pm ctv H' ex h1 h2 h3=>⟨f,c',oc,u,pm,ctv,rfl,ex,h1,h2,h3⟩) fun ws s2 ⟨zs,H2,I2,r2,q3⟩=>?_
 obtain⟨f,c',oc,u,pm,ctv,rfl,ex,hf,hc',hcq⟩:=q3
 obtain⟨W,w0,step,fin⟩:=q2 H2 ex
 obtain⟨u1,rfl,ru⟩:=r1.one
 obtain⟨u2,rfl,ru2⟩:=r2.one
 cases (show u1=Value.ref r from ru)
 cases (show u2=Value.ref f from ru2)
 obtain⟨t0,t1,t2,hro⟩:=I2.hok r _ (ex r _ hrr)
 have hh:X.A.handled=none:=I.ok.hd hcalm
 refine call_function_entry_kw kind_sorted plain_sorted entry_sorted (ksk_s1 _ _) ?_
 unfold Builtin.«sorted»
 refine wpAny_bind (m:=checkCount "sorted" 1 1 _) (wpAny_pure ?_)
 have hn:Builtin.Range.rangeSize 0 (n:Int) 1=(n:Int):=by
  unfold Builtin.Range.rangeSize
  rw[if_pos (by omega)]
  by_cases z:(0:Int)<n
  ·rw[if_pos z];omega
  ·rw[if_neg z];omega
 refine wpAny_bind (a4e (A:=X.A.in1) hh hro (small_one (by omega) (by omega) (by omega) (by omega)) hn (by omega) fun h' tk acc kp hi=>?_)
 have rv:Vals ((List.range n).map fun(i:Nat)=>V.int (i:Int)) acc.toList:=a4g hi
 have hal:acc.toList.length=n:=by rw[← rv.length,List.length_map,List.length_range]
 refine wpAny_bind (wpAny_newList ?_ (by rw[sizeLine_eq];omega))
 have I3:Inv X pins σ H2 { s2 with heap:=h',toks:=tk }:=I2.kept kp
 have hD:(h'.push (seqObj "list" acc.toList.toArray 0)).get? h'.objs.size=some (seqObj "list" acc.toList.toArray 0):=Heap.get?_push_size _ rfl
 have fD:FpOk X pins H2 h'.objs.size:=I3.fpOk (Nat.le_refl _) (I3.hok.fresh (Nat.le_refl _))
 have I4:Inv X pins σ H2 { s2 with heap:=h'.push (seqObj "list" acc.toList.toArray 0),toks:=tk }:=I3.kept (t':=tk) fun b o e=>Heap.get?_push_of_some (seqObj "list" acc.toList.toArray 0) e
 show wpAny _ _ _ _ _ { s2 with heap:=h'.push (seqObj "list" acc.toList.toArray 0),toks:=tk }
 refine wpAny_bind (wpAny_holding (wpAny_call_entry_kw slot_list_sort ⟨_,hD,rfl⟩ entry_list_sort ?body (ksk_l1 _ _)))
 case body =>
  show wpAny (model X.prog X.w) X.A.in1.in1 (Builtin.«list.sort» ⟨[.ref h'.objs.size],[(Str.ofString "key",.ref f)]⟩) _ _ _
  rw[ksk_t1]
  have hfr:X.A.in1.in1.frames=some X.stack:=I.ok.frames
  have hdp:X.A.in1.in1.depth<recursionLimit:=by have:=hr.dp;show X.A.depth<_;omega
  refine a6g (W:=W) (xs:=(List.range n).map fun(i:Nat)=>V.int (i:Int)) I4 hD fD rv (by omega) w0 (fun i x v ys H' s' hx rx wi I' fz=>?_) (fun ys H' hl wn hnD=>?_)
  ·rw[List.getElem?_map]at hx
   cases e:(List.range n)[i]? with
   | none=>rw[e]at hx;cases hx
   | some j =>
    rw[e]at hx
    cases hx
    obtain⟨e1,e2⟩:=List.getElem?_eq_some_iff.mp e
    rw[List.getElem_range]at e2
    subst e2
    rw[List.length_range]at e1
    exact a7L I' hfr hh hdp S hk0 hloc (fz _ _ _ hf) (fz _ _ _ hc') hcq (hbd _ _ _ _ _) hco hgen (hbody f c' s' H') rx (step i ys H' e1 wi)
  ·rw[List.length_map,List.length_range]at hl wn
   obtain⟨ks,vp,hd,q⟩:=fin ys H' hl wn
   refine⟨ks,vp,hd,fun p s' hp hs J=>⟨_,rfl,wpAny_pure ⟨_,rfl,.ref h'.objs.size,_,J,rfl,?_⟩⟩⟩
   rw[List.length_map,List.length_range]at hp
   have e:(p.map fun i=>((List.range n).map fun(i:Nat)=>V.int (i:Int)).getD i .non)=p.map fun(i:Nat)=>V.int (i:Int):=by
    refine List.map_congr_left fun i hi=>?_
    have hi:=List.mem_range.mp (hp.mem_iff.mp hi)
    simp[List.getD,hi]
   rw[e]
   exact q _ p hnD hp hs
end
def C4(TB:List (Addr×Str))(H:Hp):Hp:=fun b=>match TB.lookup b with
 | some q=>some (.tbl #[.str q 0])
 | none=>H b
def TbAll(TB:List (Addr×Str))(H:Hp):Prop:=∀P q,TB.lookup P=some q→TbAt P q H
theorem TbAll.now{TB:List (Addr×Str)}{fs ex:List Addr}{H H':Hp}{h h':Heap}(t:TbAll TB H)(u:Un fs ex H H' h h'):TbAll TB H':=fun P q e=>(t P q e).now u
theorem a9u(TB:List (Addr×Str))(H:Hp):TbAll TB (C4 TB H):=fun P q e=>⟨#[.str q 0],0,by unfold C4;rw[e],rfl⟩
theorem a6j{P:Program}{w:World}{K:W.Frag}{mg mb:Str→Option Value}{CX:T6}{k:Nat}{fa a:Addr}{fd:FuncData}{x:Str}{sp:Sp}{s₁:Shared}{vs:List Value}{ns:List Int}{TB:List (Addr×Str)}
  (KX:K.In s₁.heap) (hns:s₁.heap.Ns mainGlobals mg) (hb:s₁.heap.Ns builtinsNs mb) (hbb:∀x:Str,x≠"__name__"→mb x=bootBuiltins x) (hlim:s₁.heap.NoLimit) (hg:s₁.gens = #[])
  (ha:s₁.heap.get? a=some { cls:=.type "list",data:=.seq vs.toArray }) (hi:IntsAre vs ns) (hl:ns.length≤sizeLine) (hr:Room k callerA)
  (hT:∀Pa q,TB.lookup Pa=some q→(∃c,s₁.heap.TableAt c Pa #[])∧K.lookup Pa=none)
  (F:∀base:Heap,K.In base→base.Ns mainGlobals mg→(∀b o,s₁.heap.get? b=some o→TB.lookup b=none→b≠a→base.get? b=some o)→FnOk P w K mg base CX k fa fd [x] sp) (hbind:∀(s:Shared) (u:Value),BindsTo s fd ⟨[u],[]⟩ [(x,u)])
  (hsp:∀H:Hp,TbAll TB H→Scr K H a (ns.map V.int)→sp [.ref a] H (fun v _=>v=.bl true) fun _ _ _=>False)
  (hCX:∀H e s',CX [] H s₁ (fun _ _ _=>False) e s'→False) :
  codeAny (model P w) callerA (.call (.ref fa) ⟨[.ref a],[]⟩) (fun r s'=>r=.ok (.ret (.bool true))∧OldK s₁.heap s'.heap∧s'.os=s₁.os∧AllBare s'.gens) s₁:=by
 have rv:=a2A hi
 have lenV:=hi.length
 have tabA:∀{Pa q},TB.lookup Pa=some q→s₁.heap.get? Pa=some (tabObj #[]):=fun{Pa q} e=>by
  obtain⟨⟨c,_,e2⟩,_⟩:=hT Pa q e
  exact e2
 have neA:TB.lookup a=none:=by
  cases e:TB.lookup a with
  | none=>rfl
  | some q=>have:=tabA e;rw[ha]at this;cases this
 have core:∀H0:Hp,Scr K (C4 TB H0) a (ns.map V.int)→HOk P w (C4 TB H0) s₁.heap→(∀b,H0 b=none∨∃o xs,H0 b=some (.frz o (.lst xs)))→(∀b,H0 b≠none→b=a)→(H0 a≠none→K.lookup a=none) →
   codeAny (model P w) callerA (.call (.ref fa) ⟨[.ref a],[]⟩) (fun r s'=>r=.ok (.ret (.bool true))∧OldK s₁.heap s'.heap∧s'.os=s₁.os∧AllBare s'.gens) s₁:=by
  intro H0 hS hok hO hA hK
  have cs:∀b,(∃q,TB.lookup b=some q∧C4 TB H0 b=some (.tbl #[.str q 0]))∨(TB.lookup b=none∧C4 TB H0 b=H0 b):=fun b=>by
   unfold C4
   cases e:TB.lookup b with
   | none=>exact .inr ⟨rfl,rfl⟩
   | some q=>exact .inl ⟨q,rfl,rfl⟩
  have base_of:∀{b:Addr} {o:Obj},s₁.heap.get? b=some o→C4 TB H0 b=none→(U8 s₁.heap (C4 TB H0)).get? b=some o:=fun e n=>a7j e n
  have noA:∀{b:Addr} {o:Obj} {es:Array DictEntry} {ep:Nat},s₁.heap.get? b=some o→o.data=.dict es ep→C4 TB H0 b=none:=fun{b o es ep} e d=>by
   rcases cs b with⟨q,e1,_⟩ | ⟨e1,e2⟩
   ·have:=tabA e1;rw[e]at this;cases this;cases d
   ·rw[e2]
    cases q:H0 b with
    | none=>rfl
    | some u =>
     have e':b=a:=hA b (by rw[q];simp)
     subst e'
     rw[ha]at e;cases e
     cases d
  have nsK:∀{b:Addr} {m:Str→Option Value},s₁.heap.Ns b m→(U8 s₁.heap (C4 TB H0)).Ns b m:=fun{b m} ⟨o,es,ep,e,d,r⟩=>⟨o,es,ep,base_of e (noA e d),d,r⟩
  have hKb:K.In (U8 s₁.heap (C4 TB H0)):=fun b o e=>base_of (KX b o e) (by
   rcases cs b with⟨q,e1,_⟩ | ⟨e1,e2⟩
   ·rw[(hT b q e1).2]at e;cases e
   ·rw[e2]
    cases q:H0 b with
    | none=>rfl
    | some u =>
     have e':b=a:=hA b (by rw[q];simp)
     subst e'
     rw[hK (by rw[q];simp)]at e;cases e)
  have hM:Mod K mg (U8 s₁.heap (C4 TB H0)):=⟨hKb,nsK hns,⟨mb,nsK hb,hbb⟩,let ⟨mc,h1,h2⟩:=hlim; ⟨mc,nsK h1,h2⟩⟩
  have e0:Env0 P w K mg (U8 s₁.heap (C4 TB H0)) callerA [] s₁ (C4 TB H0):=⟨rfl,hM,fun b o e=>a9b e,Nat.le_of_eq (a5S _ _),trivial,fun b hb=>absurd (show b∈([]:List Addr)from hb) (by simp),hok,.of_eq hg⟩
  have bk:∀b o,s₁.heap.get? b=some o→TB.lookup b=none→b≠a→(U8 s₁.heap (C4 TB H0)).get? b=some o:=fun b o e n na=>base_of e (by
   rcases cs b with⟨q,e1,_⟩ | ⟨e1,e2⟩
   ·rw[n]at e1;cases e1
   ·rw[e2]
    cases q:H0 b with
    | none=>rfl
    | some u=>exact absurd (hA b (by rw[q];simp)) na)
  refine codeAny_mono ((F _ hKb (nsK hns) bk).run callerA [] s₁ (C4 TB H0) ⟨[.ref a],[]⟩ [.ref a] [.ref a] _ _ hr e0 (hbind s₁ (.ref a)) (.cons rfl .nil) (hsp _ (a9u TB H0) hS)) fun r s' h=>?_
  cases r with
  | error e=>exact(hCX _ e s' h).elim
  | ok fl =>
   cases fl with
   | next=>exact False.elim h
   | brk=>exact False.elim h
   | cont=>exact False.elim h
   | ret u =>
    obtain⟨v,H',os,bare,un,hok',r',q⟩:=h
    have q':v=.bl true:=q
    subst q'
    obtain rfl:u=Value.bool true:=r'
    refine⟨rfl,?_,os,bare⟩
    have kpt:∀b o,s₁.heap.get? b=some o→TB.lookup b=none→s'.heap.get? b=some o:=fun b o e n=>by
     rcases cs b with⟨q,e1,_⟩ | ⟨_,e2⟩
     ·rw[n]at e1;cases e1
     ·cases q:H0 b with
      | none=>exact un.keep b o e (by rw[e2,q]) (by intro z;exact absurd (show b∈([]:List Addr)from z) (by simp)) (by simp)
      | some u =>
       rcases hO b with z | ⟨ob,xs,z⟩
       ·rw[q]at z;cases z
       ·rw[← e2]at z
        have z2:=un.frzs b ob _ z
        obtain⟨e1,_⟩:=hok b _ z
        obtain⟨e2,_⟩:=hok' b _ z2
        rw[e]at e1;cases e1
        exact e2
    have tbt:∀b q,TB.lookup b=some q→∃ps,s'.heap.get? b=some (tabObj ps):=fun b q e=>by
     rcases cs b with⟨q',e1,e2⟩ | ⟨e1,_⟩
     ·obtain⟨more,e3⟩:=un.tbls b _ e2
      obtain⟨ps,e4,_⟩:=hok' b _ e3
      exact⟨ps,e4⟩
     ·rw[e]at e1;cases e1
    refine⟨fun b o e=>?_,fun b o e=>?_⟩
    ·cases n:TB.lookup b with
     | none=>exact .inl (kpt b o e n)
     | some q =>
      obtain⟨ps,e4⟩:=tbt b q n
      have e5:=tabA n
      rw[e]at e5;cases e5
      obtain⟨⟨c,ht⟩,_⟩:=hT b q n
      exact .inr (.inl ⟨ht.isCodeTable,rfl,#[],ps,rfl,by rw[e4];simp⟩)
    ·cases n:TB.lookup b with
     | none=>exact⟨o,kpt b o e n⟩
     | some q=>obtain⟨ps,e4⟩:=tbt b q n;exact⟨_,e4⟩
 have tabOk:∀H0 b u,TB.lookup b≠none→C4 TB H0 b=some u→ObjOk P w (C4 TB H0) s₁.heap b u:=fun H0 b u n e=>by
  cases q:TB.lookup b with
  | none=>exact absurd q n
  | some q' =>
   have e':C4 TB H0 b=some (.tbl #[.str q' 0]):=by unfold C4;rw[q]
   rw[e']at e;cases e
   exact⟨#[],tabA q,trivial,fun pos cv z=>by cases z⟩
 cases hk:K.lookup a with
 | some o =>
  have e:=KX a o hk
  rw[ha]at e
  cases e
  refine core (fun _=>none) (.inr ⟨_,vs.toArray,_,hk,rfl,rfl,rfl,by rw[List.size_toArray,lenV];exact hl,by simpa using rv⟩) (fun b u z=>?_) (fun _=>.inl rfl) (fun b z=>absurd rfl z) fun z=>absurd rfl z
  cases n:TB.lookup b with
  | none =>
   have z':C4 TB (fun _=>none) b=none:=by unfold C4;rw[n]
   rw[z']at z;cases z
  | some q=>exact tabOk _ b u (by rw[n];simp) z
 | none =>
  refine core (fun b=>if b=a then some (.frz { cls:=.type "list",data:=.seq vs.toArray } (.lst (ns.map V.int)))else none) (.inl ⟨{ cls:=.type "list",data:=.seq vs.toArray },by unfold C4;rw[neA];exact if_pos rfl⟩) (fun b u z=>?_) (fun b=>?_) (fun b z=>?_) fun _=>hk
  ·cases n:TB.lookup b with
   | some q=>exact tabOk _ b u (by rw[n];simp) z
   | none =>
    have z':C4 TB (fun b=>if b=a then some (.frz { cls:=.type "list",data:=.seq vs.toArray } (.lst (ns.map V.int)))else none) b=(if b=a then some (.frz { cls:=.type "list",data:=.seq vs.toArray } (.lst (ns.map V.int)))else none):=by unfold C4;rw[n]
    rw[z']at z
    by_cases hb:b=a
    ·rw[if_pos hb]at z
     cases z
     subst hb
     exact⟨ha,by rw[List.length_map];exact hl,vs,_,rv,ha⟩
    ·rw[if_neg hb]at z;cases z
  ·by_cases hb:b=a
   ·exact .inr ⟨_,_,if_pos hb⟩
   ·exact .inl (if_neg hb)
  ·by_cases hb:b=a
   ·exact hb
   ·exact absurd (if_neg hb) z
def S2(TB:List (Addr×Str))(sp:Sp):Sp:=fun vs H Q E=>TbAll TB H∧sp vs H Q E
theorem walk_ofT{l:OpenLaw}{n k:Nat}{q:Program}{loose:List Str}{XP:(Str→Option Value)→Heap→Prop}{YP:World→Heap→Prop}{d:DefRec}{K:Params→Frag}{CX:World→T6}{sp:World→Sp}{x:Str}
  (hn:l.most=some n) (hn2:n≤sizeLine) (hdf:d.params.defaults=[]) (hr:Room k callerA)
  (hY:∀(w:World) (h:Heap),YP w h→(K w.params).In h)
  (F:∀(w:World) (mg mb:Str→Option Value) (fa:Addr) (h:Heap) (mean:ExcName→Option Value),(K w.params).In h→h.Ns mainGlobals mg→mg d.name=some (.ref fa)→Top q (looseW q loose) mean mg mb h →
   ∃(fd:FuncData) (TB:List (Addr×Str)),(∀(s:Shared) (u:Value),BindsTo s fd ⟨[u],[]⟩ [(x,u)])∧(∀Pa qq,TB.lookup Pa=some qq→(∃c,h.TableAt c Pa #[])∧(K w.params).lookup Pa=none) ∧
    ∀base:Heap,(K w.params).In base→base.Ns mainGlobals mg→(∀b o,h.get? b=some o→o.cls≠.none→o.cls≠.type "list"→base.get? b=some o)→FnOk l.prog w (K w.params) mg base (CX w) k fa fd [x] (S2 TB (sp w)))
  (hsp:∀(w:World) (H:Hp) (a:Addr) (ns:List Int),ns.length≤n→(∀m∈ns,Builtin.Int.intBits m≤2 ^ 20)→Scr (K w.params) H a (ns.map V.int)→sp w [.ref a] H (fun v _=>v=.bl true) fun _ _ _=>False)
  (hCX:∀(w:World) (H:Hp) (s:Shared) (e:Value) (s':Shared),CX w [] H s (fun _ _ _=>False) e s'→False) :
  WalkO q loose XP YP l.row.toRowW d [] (fun f vs=>PySem.call f vs):=by
 intro w s₀ s₁ mg mb G Y fa o pm cd doc dV kV ho hd hcd hD hmg hg args vals as hpre hlay hrd hwl hlo
 obtain rfl:dV=.none:=Dflts.none hD hdf
 obtain rfl:kV=.none:=Dflts.noKw hD
 obtain⟨a,vs,ns,rfl,rfl,hobj,hints,hlen⟩:=Att.script_of hn hpre hwl
 have KX:=hY w _ Y
 obtain⟨fd,TB,hb,hT,hF⟩:=F w mg mb fa _ _ KX G.T.g hmg G.T
 refine enter_call (codeAny_mono (a6j (TB:=TB) KX G.T.g G.T.b G.T.builtins G.T.nolimit hg hobj hints (Nat.le_trans hlen hn2) hr hT (fun base k1 k2 k3=>hF base k1 k2 fun b o e c1 c2=>k3 b o e (by
  cases z:TB.lookup b with
  | none=>rfl
  | some q' =>
   obtain⟨⟨c,_,e2⟩,_⟩:=hT b q' z
   rw[e]at e2;cases e2;exact absurd rfl c1) (fun z=>by rw[z,hobj]at e;cases e;exact absurd rfl c2)) hb (fun H hO hS=>⟨hO,hsp w H a ns hlen (a4b hlay) hS⟩) fun H e s'=>hCX w H s₁ e s') fun r s' hq=>?_)
 obtain⟨rfl,h2,h3,h4⟩:=hq
 exact⟨.inl ⟨.bool true,.bool true,[],rfl,fun _=>rfl,.bool true,Att.post_true l _,fun _=>⟨List.Pairwise.nil,fun _ hm=>(nomatch hm)⟩⟩,h2,h3,h4⟩
theorem a6k{q:Program}{loose:List Str}{mean:ExcName→Option Value}{mg mb:Str→Option Value}{h:Heap}{K:Frag}{x:Str}{f c:Addr}{oc oc':Value}{od od':Option Addr}{fd:FuncData}{osl osl':Array (Option Value)}{vs:Array Value}{P:Addr}(T:Top q loose mean mg mb h)(KX:K.In h)(hrec:(recsOf q).any (fun d=>d.name == x)=true)(hm:mg x=some (.ref f))(lk:K.lookup f=some ⟨oc,od,.func fd,osl⟩)(hc:fd.code=.ref c)(lc:K.lookup c=some ⟨oc',od',.fields vs,osl'⟩)(hP:vs.getD 11 .none=.ref P) :
  h.TableAt c P #[]∧∀base:Heap,(∀b o,h.get? b=some o→o.cls≠.none→o.cls≠.type "list"→base.get? b=some o)→CodeHd base c P∧base.BuiltinsAt mg P:=by
 obtain⟨d,hd,e⟩:=List.any_eq_true.mp hrec
 have e:d.name=x:=by simpa using e
 subst e
 obtain⟨a,o,fd',c',P',h1,h2,h3,h4,h5,h6⟩:=T.tab d hd
 rw[hm]at h1;cases h1
 rw[KX _ _ lk]at h2;cases h2
 have h3:Data.func fd=Data.func fd':=h3
 cases h3
 rw[hc]at h4;cases h4
 have C:=CodeHd.of h5 h6
 obtain⟨o,vs',file,tf,flags,tg,inF,text,tt,c1,c2,c3,c4,c5,cr⟩:=C
 have hPP:P'=P:=by
  rw[KX _ _ lc]at c1;cases c1
  have c3:Data.fields vs=Data.fields vs':=c3
  cases c3
  rw[hP]at c5;cases c5;rfl
 subst hPP
 refine⟨h6,fun base kp=>⟨⟨o,vs',file,tf,flags,tg,inF,text,tt,kp _ _ c1 (by rw[c2];decide) (by rw[c2];decide),c2,c3,c4,c5,cr⟩,?_⟩⟩
 obtain⟨bm,ob,b1,b2,b3,b4,b5,b6⟩:=T.bmain
 refine⟨bm,ob,b1,b2,fun z=>?_,fun z=>?_,kp _ _ b3 (by rw[b4];decide) (by rw[b4];decide),b4,b5,b6⟩
 ·obtain⟨o',es,ep,e,hd,_⟩:=T.g
  rw[z,e]at b3;cases b3;rw[hd]at b6;cases b6
 ·rw[z,h6.2]at b3;cases b3;cases b4
end L2
namespace HT
open PySem PyProof.Rows
end HT
namespace L2
open PySem PySem.Spec PyProof.Rows
open PySem.W
def Rise(a:Array Nat):Prop:=a.toList.Pairwise (· < ·)
theorem Rise.lt{a:Array Nat}(h:Rise a){i j:Nat}(hij:i<j)(hj:j<a.size):a.getD i 0<a.getD j 0:=by
 have hi:i<a.size:=Nat.lt_trans hij hj
 have:=List.pairwise_iff_getElem.mp h i j (by simpa using hi) (by simpa using hj) hij
 simpa [Array.getD,hi,hj]using this
theorem a04(xs:Array Nat)(j:Nat)(hr:Rise xs):∀(fuel lo hi:Nat),hi-lo≤fuel→lo≤hi→hi≤xs.size→(∀i,i<lo→xs.getD i 0<j)→(∀i,hi≤i→i<xs.size→j≤xs.getD i 0) →
  SetTable.below.go xs j fuel lo hi≤xs.size∧(∀i,i<SetTable.below.go xs j fuel lo hi→xs.getD i 0<j)∧(∀i,SetTable.below.go xs j fuel lo hi≤i→i<xs.size→j≤xs.getD i 0)
 | 0,lo,hi,hf,hl,hs,h1,h2=>by
  rw[SetTable.below.go.eq_def]
  exact⟨by show lo≤_;omega,h1,fun i hi' hi2=>h2 i (by have:lo≤i:=hi';omega) hi2⟩
 | fuel+1,lo,hi,hf,hl,hs,h1,h2=>by
  rw[SetTable.below.go.eq_def]
  show(if lo<hi then(if xs.getD ((lo+hi)/2) j<j then SetTable.below.go xs j fuel ((lo+hi)/2+1) hi else SetTable.below.go xs j fuel lo ((lo+hi)/2))else lo)≤xs.size∧(∀i,i<(if lo<hi then(if xs.getD ((lo+hi)/2) j<j then SetTable.below.go xs j fuel ((lo+hi)/2+1) hi else SetTable.below.go xs j fuel lo ((lo+hi)/2))else lo)→xs.getD i 0<j)∧(∀i,(if lo<hi then(if xs.getD ((lo+hi)/2) j<j then SetTable.below.go xs j fuel ((lo+hi)/2+1) hi else SetTable.below.go xs j fuel lo ((lo+hi)/2))else lo)≤i→i<xs.size→j≤xs.getD i 0)
  by_cases c:lo<hi
  ·rw[if_pos c]
   have hm:(lo+hi)/2<xs.size:=by omega
   have e:xs.getD ((lo+hi)/2) j=xs.getD ((lo+hi)/2) 0:=by simp[Array.getD,hm]
   by_cases c2:xs.getD ((lo+hi)/2) j<j
   ·rw[if_pos c2]
    refine a04 xs j hr fuel _ hi (by omega) (by omega) hs (fun i hi'=>?_) h2
    by_cases z:i=(lo+hi)/2
    ·rw[z,← e];exact c2
    ·have:=hr.lt (i:=i) (j:=(lo+hi)/2) (by omega) hm
     omega
   ·rw[if_neg c2]
    refine a04 xs j hr fuel lo _ (by omega) (by omega) (by omega) h1 (fun i hi' hi2=>?_)
    by_cases z:i=(lo+hi)/2
    ·rw[z,← e];omega
    ·have:=hr.lt (i:=(lo+hi)/2) (j:=i) (by omega) hi2
     omega
  ·rw[if_neg c]
   exact⟨by omega,h1,fun i hi' hi2=>h2 i (by omega) hi2⟩
theorem a3y{xs:Array Nat}(j:Nat)(hr:Rise xs):SetTable.below xs j≤xs.size∧(∀i,i<SetTable.below xs j→xs.getD i 0<j)∧(∀i,SetTable.below xs j≤i→i<xs.size→j≤xs.getD i 0) :=
 a04 xs j hr xs.size 0 xs.size (by omega) (by omega) (Nat.le_refl _) (fun i h=>by omega) (fun i h h2=>by omega)
theorem a7M{xs:Array Nat}{j p:Nat}(hr:Rise xs)(hp:p≤xs.size)(h1:∀i,i<p→xs.getD i 0<j)(h2:∀i,p≤i→i<xs.size→j≤xs.getD i 0):SetTable.below xs j=p:=by
 obtain⟨a,b,c⟩:=a3y j hr
 by_cases z:SetTable.below xs j<p
 ·have:=h1 _ z
  have:=c _ (Nat.le_refl _) (by omega)
  omega
 ·by_cases z2:p<SetTable.below xs j
  ·have:=b _ z2
   have:=h2 _ (Nat.le_refl _) (by omega)
   omega
  ·omega
theorem a7N{t:SetTable}{j:Nat}(hr:Rise t.place)(hj:(t.place[SetTable.below t.place j]? == some j)=false):Rise (t.put j).1.place:=by
 obtain⟨a,b,c⟩:=a3y j hr
 show(SetTable.insertAt t.place (SetTable.below t.place j) j).toList.Pairwise (· < ·)
 rw[SetTable.toList_insertAt,List.pairwise_append]
 have hn:∀i,SetTable.below t.place j≤i→i<t.place.size→j<t.place.getD i 0:=by
  intro i h1 h2
  have h3:=c i h1 h2
  by_cases z:t.place.getD i 0=j
  ·exfalso
   have:i=SetTable.below t.place j:=by
    by_cases q:SetTable.below t.place j<i
    ·have:=hr.lt q h2
     have:=c (SetTable.below t.place j) (Nat.le_refl _) (by omega)
     omega
    ·omega
   rw[← this]at hj
   have e:t.place[i]? = some j:=by rw[Array.getElem?_eq_getElem h2];congr 1;simpa [Array.getD,h2]using z
   rw[e]at hj
   simp at hj
  ·omega
 have mt:∀x∈t.place.toList.take (SetTable.below t.place j),x<j:=by
  intro x hx
  obtain⟨i,hi,e⟩:=List.getElem_of_mem hx
  rw[List.length_take]at hi
  rw[List.getElem_take]at e
  have hi3:t.place.toList.length=t.place.size:=by simp
  have hi2:i<t.place.size:=by omega
  have:=b i (by omega)
  simp[Array.getD,hi2]at this
  simp at e
  omega
 have md:∀x∈t.place.toList.drop (SetTable.below t.place j),j<x:=by
  intro x hx
  obtain⟨i,hi,e⟩:=List.getElem_of_mem hx
  rw[List.length_drop]at hi
  rw[List.getElem_drop]at e
  have hi3:t.place.toList.length=t.place.size:=by simp
  have hi2:SetTable.below t.place j+i<t.place.size:=by omega
  have:=hn (SetTable.below t.place j+i) (by omega) hi2
  simp[Array.getD,hi2]at this
  simp at e
  omega
 refine⟨List.Pairwise.sublist (List.take_sublist _ _) hr,List.pairwise_cons.mpr ⟨md,List.Pairwise.sublist (List.drop_sublist _ _) hr⟩,fun x hx y hy=>?_⟩
 rcases List.mem_cons.mp hy with rfl | hy
 ·exact mt x hx
 ·have:=mt x hx
  have:=md y hy
  omega
structure TbR(led:Bool)(t:SetTable):Prop where
 rise:Rise t.place
 dum:t.dummies = #[]
 led:t.led=led
theorem TbR.standIn{led:Bool}{t:SetTable}(T:TbR led t)(n:Nat):TbR led (t.standIn n):=by
 refine⟨?_,rfl,T.led⟩
 show(Array.range n).toList.Pairwise (· < ·)
 rw[Array.toList_range]
 exact List.pairwise_lt_range
theorem TbR.orStandIn{led:Bool}{t:SetTable}(T:TbR led t)(n:Nat):TbR led (t.orStandIn n):=by
 unfold SetTable.orStandIn
 split
 ·exact T
 ·exact T.standIn n
theorem a4J(j:Nat):SetTable.has #[] j=false:=by
 unfold SetTable.has
 simp
theorem a3z{t:SetTable}(hd:t.dummies = #[])(ha:Nat→Int)(h:Int):∀(fuel:Nat) (p:SetTable.Probe),p.dummy=none→∀j d,SetTable.probe.go t ha h fuel p=some (.empty j d)→d=none∧(t.place[SetTable.below t.place j]? == some j)=false
 | 0,p,_,j,d,e=>by rw[SetTable.probe.go.eq_def]at e;cases e
 | fuel+1,p,hp,j,d,e=>by
  rw[SetTable.probe.go.eq_def]at e
  have adv:(t.advance p).dummy=none:=by
   unfold SetTable.advance
   split
   ·exact hp
   ·exact hp
  have e:(match t.slot p.j with
   | SetTable.Slot.empty=>some (SetTable.Met.empty p.j p.dummy)
   | SetTable.Slot.dummy=>SetTable.probe.go t ha h fuel (t.advance { j:=p.j,more:=p.more,i:=p.i,perturb:=p.perturb,dummy:=some p.j })
   | SetTable.Slot.live i=>if(ha i == h)=true then some (SetTable.Met.candidate p.j i (t.advance p))else SetTable.probe.go t ha h fuel (t.advance p))=some (.empty j d):=e
  split at e
  ·rename_i hs
   injection e with e
   injection e with e1 e2
   subst e1
   refine⟨by rw[← e2];exact hp,?_⟩
   unfold SetTable.slot at hs
   by_cases z:(t.place[SetTable.below t.place p.j]? == some p.j)=true
   ·rw[if_pos z]at hs;cases hs
   ·simpa using z
  ·rename_i hs
   exfalso
   unfold SetTable.slot at hs
   rw[hd,a4J]at hs
   by_cases z:(t.place[SetTable.below t.place p.j]? == some p.j)=true
   ·rw[if_pos z]at hs;cases hs
   ·rw[if_neg z,if_neg (by decide)]at hs;cases hs
  ·split at e
   ·cases e
   ·exact a3z hd ha h fuel _ adv j d e
theorem a6l{led:Bool}{t:SetTable}(T:TbR led t)(es:Array (Int×Value))(h:Int)(x:Value):TbR led (layNew t es h x).2.1:=by
 unfold layNew
 cases e:t.freeSlot h with
 | none=>exact T.standIn _
 | some q =>
  obtain⟨slot,wd⟩:=q
  show TbR led ((t.put slot).1.orStandIn _)
  refine TbR.orStandIn (t:=(t.put slot).1) ⟨?_,?_,T.led⟩ _
  ·unfold SetTable.freeSlot at e
   split at e
   ·rename_i j d hp
    obtain⟨h1,h2⟩:=a3z T.dum _ h _ (t.probeStart h) rfl j d hp
    subst h1
    injection e with e
    injection e with e1 e2
    have e1:j=slot:=e1
    subst e1
    exact a7N T.rise h2
   ·cases e
  ·show(if SetTable.has t.dummies slot=true then _ else t.dummies) = #[]
   rw[T.dum,a4J]
   rfl
theorem a4j{led:Bool}{t:SetTable}(T:TbR led t)(es:Array (Int×Value))(wanted:Nat):TbR led (relayAll t es wanted).2.1:=by
 unfold relayAll
 cases e:t.relaid (Array.map (fun x=>x.fst) es) wanted with
 | none=>exact T.standIn _
 | some q =>
  obtain⟨t',order⟩:=q
  show TbR led (if _ then _ else _:_×_×_).2.1
  split
  ·show TbR led t'
   unfold SetTable.relaid SetTable.laid at e
   cases e2:SetTable.layClean (SetTable.sizeAbove wanted-1) (Array.map (fun x=>x.fst) es)with
   | none=>rw[e2]at e;cases e
   | some owner =>
    rw[e2]at e
    have e:=Option.some.inj e
    injection e with e1 e3
    rw[← e1]
    refine⟨?_,rfl,T.led⟩
    show(List.map (fun x=>x.fst) (List.filterMap (fun j=>Option.map (fun x=>(j,x)) (owner.getD j none)) (List.range (SetTable.sizeAbove wanted-1+1)))).toArray.toList.Pairwise (· < ·)
    rw[List.toList_toArray,List.pairwise_map]
    refine List.Pairwise.filterMap _ (R:=(· < ·)) ?_ List.pairwise_lt_range
    intro a b hab x hx y hy
    cases ea:owner.getD a none with
    | none=>simp[ea]at hx
    | some u=>cases eb:owner.getD b none with
     | none=>simp[eb]at hy
     | some v =>
      simp[ea]at hx
      simp[eb]at hy
      subst hx;subst hy
      exact hab
  ·exact T.standIn _
def E8(e:Int×Value):Int:=match e.2 with
 | .int k _=>k
 | _=>0
def IsI(e:Int×Value):Prop:=∃k t,e=(hashInt k,Value.int k t)
structure SetR(w:World)(h:Heap)(a:Addr)(L:List Int):Prop where
 ex:∃o es ep t,h.get? a=some o∧o.ExactSet∧o.data=.set es ep t∧(∀e∈es.toList,IsI e)∧(es.toList.map E8).Nodup∧(∀k,k∈es.toList.map E8↔k∈L)∧es.size<scanBound∧t.fits es.size=true∧TbR (!w.params.followText "set-order") t
section
variable {prog:Program}{w:World}{A:Around}{E:Value→Shared→Prop}{s:Shared}
theorem T9(k:Int)(t:Tok):Value.isInt k (.int k t)=true:=by simp[Value.isInt]
theorem a6m{k j:Int}{t:Tok}:Value.isInt k (.int j t)=true↔j=k:=by
 constructor
 ·intro h;simp[Value.isInt]at h;exact h
 ·rintro rfl;exact T9 _ _
theorem a05{es:List (Int×Value)}(h:∀e∈es,IsI e):ElemsOf (intKind prog w) es:=by
 intro e he
 obtain⟨k,t,rfl⟩:=h e he
 exact⟨⟨k,T9 k t,rfl⟩,rfl⟩
theorem a9v{es:List (Int×Value)}(h:∀e∈es,IsI e)(k:Int):(∃j,List.findIdx? (fun e=>Value.isInt k e.snd) es=some j∧k∈es.map E8)∨(List.findIdx? (fun e=>Value.isInt k e.snd) es=none∧k ∉ es.map E8):=by
 have hi:∀e∈es,(Value.isInt k e.snd=true↔E8 e=k):=by
  intro e he
  obtain⟨j,t,rfl⟩:=h e he
  exact a6m
 cases e:List.findIdx? (fun e=>Value.isInt k e.snd) es with
 | none =>
  refine .inr ⟨rfl,fun m=>?_⟩
  obtain⟨x,hx,hk⟩:=List.mem_map.mp m
  rw[List.findIdx?_eq_none_iff]at e
  have:=e x hx
  rw[(hi x hx).mpr hk]at this
  cases this
 | some j =>
  refine .inl ⟨j,rfl,?_⟩
  rw[List.findIdx?_eq_some_iff_getElem]at e
  obtain⟨h1,h2,_⟩:=e
  exact List.mem_map.mpr ⟨es[j],List.getElem_mem h1,(hi _ (List.getElem_mem h1)).mp h2⟩
theorem a2D(prog:Program)(w:World){h:Heap}{a:Addr}{o:Obj}{es es':Array (Int×Value)}{ep:Nat}{t t':SetTable}(ho:h.get? a=some o)(hx:o.ExactSet)(hd:o.data=.set es ep t)(hI:∀e∈es'.toList,IsI e)(hs:es'.size<scanBound)(hf:t'.fits es'.size=true) :
  (h.update a (Obj.putSet es' t')).get? a=some { cls:=o.cls,dict:=o.dict,data:=.set es' (ep+1) t',slots:=o.slots }:=by
 classical
 exact(SetOf_store (knd:=intKind prog w) ho hx hd (S':=fun k=>decide (∃e,e∈es'.toList∧(intKind prog w).is k e.snd=true)) (a05 hI) (fun k=>decide_eq_true_iff) hs hf).1
theorem a7O{g:Bool→Sem Unit}(hg:∀b s₁ (Q':Unit→Shared→Prop),Q' () s₁→wpAny (model prog w) A (g b) Q' E s₁){a:Addr}{L:List Int}{k:Int}{u:Tok}{o:Obj}{es es1:Array (Int×Value)}{ep:Nat}{t t1:SetTable}{wd gave:Bool}{R:Option Bool→Shared→Prop}
  (ho:s.heap.get? a=some o) (hx:o.ExactSet) (hd:o.data=.set es ep t) (hI1:∀e∈es1.toList,IsI e) (hN1:(es1.toList.map E8).Nodup) (hL1:∀k',k'∈es1.toList.map E8↔k'∈L) (hs1:es1.size<scanBound) (hfit:t1.fits es1.size=true) (T1:TbR (!w.params.followText "set-order") t1)
  (fin1:∀h1,Heap.SameBut a s.heap h1→SetR w h1 a L→R (some true) { s with heap:=h1 }) :
  wpAny (model prog w) A (do
   g gave
   if t1.plain=true then do
    let byValue ← hashByValue 8 (.int k u)
    storeSet a es1 (if byValue=true then t1 else{ t1 with plain:=false })
    if(!wd && (if byValue=true then t1 else{ t1 with plain:=false }).tooFull)=true then do
     g (relayAll (if byValue=true then t1 else{ t1 with plain:=false }) es1 (SetTable.grown es1.size)).2.2
     storeSet a (relayAll (if byValue=true then t1 else{ t1 with plain:=false }) es1 (SetTable.grown es1.size)).1 (relayAll (if byValue=true then t1 else{ t1 with plain:=false }) es1 (SetTable.grown es1.size)).2.1
     pure (some true)
    else pure (some true)
   else do
    let byValue ← pure true
    storeSet a es1 (if byValue=true then t1 else{ t1 with plain:=false })
    if(!wd && (if byValue=true then t1 else{ t1 with plain:=false }).tooFull)=true then do
     g (relayAll (if byValue=true then t1 else{ t1 with plain:=false }) es1 (SetTable.grown es1.size)).2.2
     storeSet a (relayAll (if byValue=true then t1 else{ t1 with plain:=false }) es1 (SetTable.grown es1.size)).1 (relayAll (if byValue=true then t1 else{ t1 with plain:=false }) es1 (SetTable.grown es1.size)).2.1
     pure (some true)
    else pure (some true)) R E s:=by
 have hsl:es1.size≤sizeLine:=fits_of_scanBound hs1
 have t7:wpAny (model prog w) A (do
    storeSet a es1 t1
    if(!wd && t1.tooFull)=true then do
     g (relayAll t1 es1 (SetTable.grown es1.size)).2.2
     storeSet a (relayAll t1 es1 (SetTable.grown es1.size)).1 (relayAll t1 es1 (SetTable.grown es1.size)).2.1
     pure (some true)
    else pure (some true)) R E s:=by
  refine wpAny_bind (wpAny_storeSet_of ho hd ?_ hsl)
  have g1:=a2D prog w ho hx hd hI1 hs1 hfit
  have x1:(Obj.mk o.cls o.dict (.set es1 (ep+1) t1) o.slots).ExactSet:=hx
  have sm1:=Heap.SameBut.update s.heap a (Obj.putSet es1 t1)
  by_cases c:(!wd && t1.tooFull)=true
  ·rw[if_pos c]
   have hp2:=relayAll_perm t1 es1 (SetTable.grown es1.size)
   have hf2:=relayAll_fits t1 es1 (SetTable.grown es1.size)
   have T2:=a4j T1 es1 (SetTable.grown es1.size)
   generalize relayAll t1 es1 (SetTable.grown es1.size)=q2 at *
   obtain⟨es2,t2,gave2⟩:=q2
   have hp2:es2.toList.Perm es1.toList:=hp2
   have hI2:∀e∈es2.toList,IsI e:=fun e he=>hI1 e (hp2.mem_iff.mp he)
   have hz2:es2.size=es1.size:=by have:=hp2.length_eq;simpa using this
   have hpk2:=hp2.map E8
   refine wpAny_bind (hg _ _ _ ?_)
   refine wpAny_bind (wpAny_storeSet_of g1 rfl ?_ (by show es2.size≤_;rw[hz2];exact hsl))
   refine wpAny_pure ?_
   have g2:=a2D prog w g1 x1 rfl hI2 (by rw[hz2];exact hs1) hf2
   have sm2:=Heap.SameBut.update (s.heap.update a (Obj.putSet es1 t1)) a (Obj.putSet es2 t2)
   exact fin1 _ ⟨sm2.1.trans sm1.1,fun b hb=>(sm2.2 b hb).trans (sm1.2 b hb)⟩ ⟨_,es2,_,t2,g2,x1,rfl,hI2,hpk2.nodup_iff.mpr hN1,fun k'=>(hpk2.mem_iff).trans (hL1 k'),by rw[hz2];exact hs1,hf2,T2⟩
  ·rw[if_neg c]
   exact wpAny_pure (fin1 _ sm1 ⟨_,es1,_,t1,g1,x1,rfl,hI1,hN1,hL1,hs1,hfit,T1⟩)
 refine wpAny_bind (hg _ _ _ ?_)
 split
 ·refine wpAny_bind ?_
  rw[hashByValue.eq_3 8 k u]
  exact wpAny_pure t7
 ·exact wpAny_bind (wpAny_pure t7)
theorem b14{a:Addr}{L:List Int}{k:Int}{u:Tok}{Q:Bool→Shared→Prop}(S:SetR w s.heap a L)(hn:∀es:List Int,es.Nodup→(∀k,k∈es↔k∈L)→es.length+1<scanBound)
  (h:∀h' b,Heap.SameBut a s.heap h'→SetR w h' a (L++[k])→Q b { s with heap:=h' }):wpAny (model prog w) A (setAddHashed a (.int k u) (hashInt k)) Q E s:=by
 obtain⟨o,es,ep,t,ho,hx,hd,hI,hN,hL,hs,hf,T⟩:=S.ex
 have hlen:es.size+1<scanBound:=by
  have:=hn _ hN hL
  simpa using this
 unfold setAddHashed
 refine wpAny_holding ?_
 rw[setAddHashedIn.eq_def]
 show wpAny _ _ (setState a >>= _) _ _ _
 refine wpAny_bind (wpAny_setState_of ho hd hf ?_)
 show wpAny _ _ (if byScan (.int k u) es=true then _ else _) _ _ _
 rw[if_pos (byScan_of (knd:=intKind prog w) rfl hs (a05 hI))]
 refine wpAny_bind ?_
 unfold setAddByScan
 refine wpAny_bind (wpAny_rule ?_)
 refine wpAny_bind (wpAny_setScan_of (knd:=intKind prog w) (k:=k) (T9 k u) ho hd hf (a05 hI) ?_)
 have hsame:Heap.SameBut a s.heap s.heap:=⟨rfl,fun b _=>rfl⟩
 rcases a9v hI k with⟨j,e,m⟩ | ⟨e,m⟩
 ·have e:List.findIdx? (fun e=>(intKind prog w).is k e.snd) es.toList=some j:=e
  rw[e]
  show wpAny _ _ (pure (some false)) _ _ _
  refine wpAny_pure ?_
  show wpAny _ _ (pure false) _ _ _
  refine wpAny_pure ?_
  refine h s.heap false hsame ⟨o,es,ep,t,ho,hx,hd,hI,hN,fun k'=>?_,hs,hf,T⟩
  rw[hL k',List.mem_append,List.mem_singleton]
  constructor
  ·exact .inl
  ·rintro(z | rfl)
   ·exact z
   ·exact(hL _).mp m
 ·have e:List.findIdx? (fun e=>(intKind prog w).is k e.snd) es.toList=none:=e
  rw[e]
  have hp:=layNew_perm t es (hashInt k) (.int k u)
  have hfit:=layNew_fits t es (hashInt k) (.int k u)
  have T1:=a6l T es (hashInt k) (.int k u)
  dsimp only
  generalize layNew t es (hashInt k) (.int k u)=q at *
  obtain⟨es1,t1,wd,gave⟩:=q
  have hI1:∀e∈es1.toList,IsI e:=fun e he=>by
   have:=(hp.mem_iff (a:=e)).mp he
   rw[Array.toList_push,List.mem_append,List.mem_singleton]at this
   rcases this with z | rfl
   ·exact hI e z
   ·exact⟨k,u,rfl⟩
  have hpk:(es1.toList.map E8).Perm (es.toList.map E8++[k]):=by
   have:=hp.map E8
   rw[Array.toList_push,List.map_append]at this
   exact this
  have hN1:(es1.toList.map E8).Nodup:=by
   rw[hpk.nodup_iff,List.nodup_append]
   exact⟨hN,by simp,fun x hx y hy=>by rw[List.mem_singleton.mp hy];rintro rfl;exact m hx⟩
  have hL1:∀k',k'∈es1.toList.map E8↔k'∈L++[k]:=fun k'=>by
   rw[hpk.mem_iff,List.mem_append,List.mem_append,hL k']
  have hz:es1.size=es.size+1:=by
   have:=hp.length_eq
   simpa using this
  have hs1:es1.size<scanBound:=by omega
  refine a7O (fun b s₁ Q' q=>?_) ho hx hd hI1 hN1 hL1 hs1 hfit T1 fun h1 sm z=>wpAny_pure (h h1 true sm z)
  cases b with
  | true=>exact wpAny_rule q
  | false=>exact wpAny_pure q
end
theorem a06:∀(es L:List Int),es.Nodup→(∀x∈es,x∈L)→es.length≤L.length
 | [],L,_,_=>Nat.zero_le _
 | x::es,L,h,m=>by
  rw[List.nodup_cons]at h
  have hx:=m x List.mem_cons_self
  have:=a06 es (L.erase x) h.2 fun y hy=>(List.mem_erase_of_ne (show y≠x from fun z=>h.1 (by rw[← z];exact hy))).mpr (m y (List.mem_cons_of_mem _ hy))
  rw[List.length_erase_of_mem hx]at this
  have:0<L.length:=List.length_pos_of_mem hx
  rw[List.length_cons]
  omega
section
variable {prog:Program}{w:World}{A:Around}{E:Value→Shared→Prop}{s:Shared}
theorem SetR.frame{h h':Heap}{a:Addr}{L:List Int}(S:SetR w h a L)(e:∀o,h.get? a=some o→h'.get? a=some o):SetR w h' a L:=by
 obtain⟨o,es,ep,t,ho,r⟩:=S.ex
 exact⟨o,es,ep,t,e o ho,r⟩
theorem a7P{a:Addr}{L:List Int}{k:Int}{u:Tok}{Q:Bool→Shared→Prop}(S:SetR w s.heap a L)(hn:L.length+1<scanBound)
  (h:∀h' b,Heap.SameBut a s.heap h'→SetR w h' a (L++[k])→Q b { s with heap:=h',toks:=s.toks+1 }):wpAny (model prog w) A (setAdd a (.int k u)) Q E s:=by
 unfold setAdd
 refine wpAny_holding ?_
 refine wpAny_bind ((intKind prog w).pyHash (k:=k) (T9 k u) ?_)
 refine b14 (s:={ s with toks:=s.toks+1 }) S (fun es hN hL=>?_) h
 have:=a06 es L hN fun x hx=>(hL x).mp hx
 omega
theorem a7Q{R:Result→Shared→Prop}{I:Addr}{fp wr:List Addr}{G:Array GenState→Array GenState→Prop}{n:Nat}{P:Nat→Value→Prop}{St:Nat→Shared→Prop}(W:WalksS prog w A.in1 I fp wr G n P St)(S:Addr)(hS:S ∉ fp)(val:Nat→Int)(hv:∀i v,P i v→∃t,v=Value.int (val i) t)(hn:n+1<scanBound) :
  ∀(k i:Nat) (s:Shared),n-i=k→i≤n→St i s→SetR w s.heap S ((List.range i).map val)→(∀s',Moved (S::wr) G s s'→SetR w s'.heap S ((List.range n).map val)→R (.ok (.ret .none)) s') →
   codeAny (model prog w) A (.builtin "set.update.loop" ⟨[.ref S,.ref I],[]⟩) R s:=by
 intro k
 induction k with
 | zero =>
  intro i s hk hi st SR fin
  have e:i=n:=by omega
  subst e
  refine codeAny_builtin F.entry_set_update_loop ?_
  rw[Around.under_plainId F.plain_set_update_loop _]
  show wpAny _ A.in1 (pyNext (.ref I) >>= _) _ _ _
  refine wpAny_bind (W.done s _ _ st fun s' mv=>?_)
  refine wpAny_pure (fin s' ⟨fun b o hb e=>mv.heap b o (fun z=>hb (List.mem_cons_of_mem _ z)) e,mv.gens,mv.drawn,mv.os,mv.toks⟩ (SR.frame fun o e=>mv.heap S o (fun z=>hS (W.sub S z)) e))
 | succ k ih =>
  intro i s hk hi st SR fin
  refine codeAny_builtin F.entry_set_update_loop ?_
  rw[Around.under_plainId F.plain_set_update_loop _]
  show wpAny _ A.in1 (pyNext (.ref I) >>= _) _ _ _
  refine wpAny_bind (W.item i s _ _ (by omega) st fun v s' pv st' mv=>?_)
  obtain⟨t,rfl⟩:=hv i v pv
  refine wpAny_bind (wpAny_holding (a7P (L:=(List.range i).map val) (SR.frame fun o e=>mv.heap S o (fun z=>hS (W.sub S z)) e) (by rw[List.length_map,List.length_range];omega) fun h' b sm SR'=>?_))
  refine wpAny_pure ⟨plainId_quiet F.plain_set_update_loop _,ih (i+1) _ (by omega) (by omega) (W.frame (i+1) s' h' (s'.toks+1) st' (Nat.le_succ _) fun b hb o e=>(sm.2 b (fun z=>hS (z▸hb))).trans e) ?_ fun s'' mv2 SR2=>fin s'' ⟨fun b o hb e=>?_,W.gtrans _ _ _ mv.gens mv2.gens,mv2.drawn.trans mv.drawn,mv2.os.trans mv.os,Nat.le_trans mv.toks (Nat.le_trans (Nat.le_succ _) mv2.toks)⟩ SR2⟩
  ·rw[List.range_succ,List.map_append]
   exact SR'
  ·refine mv2.heap b o hb ((sm.2 b fun z=>hb (z▸List.mem_cons_self)).trans (mv.heap b o (fun z=>hb (List.mem_cons_of_mem _ z)) e))
theorem a07(a:Value){Q₁:Value→Shared→Prop}(h:Q₁ (.ref s.heap.objs.size) { s with heap:=s.heap.push { cls:=.type "set",data:=.set #[] 0 (SetTable.fresh 0 0 (!w.params.followText "set-order")) } }) :
  codeAny (model prog w) A (.call (.builtin "set.__new__") ⟨[.type "set",a],[]⟩) (wants Q₁ E) s:=by
 refine codeAny_call_builtin F.plain_set_new F.entry_set_new ?_
 rw[F.newCall_set_1 a]
 refine wpAny_pure ?_
 show wpAny _ _ (Builtin.Frozenset.newClass "set" ⟨[.type "set",a],[]⟩ >>= _) _ _ _
 refine wpAny_bind ?_
 unfold Builtin.Frozenset.newClass
 dsimp only
 refine wpAny_bind (m:=PySem.isType (.type "set")) (wpAny_pure ?_)
 rw[if_neg (by decide)]
 refine wpAny_bind ?_
 rw[sub_set_self]
 refine wpAny_pure ?_
 rw[if_neg (by decide)]
 refine wpAny_pure ?_
 refine wpAny_bind ?_
 show wpAny _ _ (newSet (.type "set")) _ _ _
 unfold newSet setsByText
 refine wpAny_bind ?_
 refine wpAny_bind (wpAny_askSetting ?_)
 refine wpAny_pure ?_
 refine wpAny_newObj_type ?_
 exact wpAny_pure h
theorem a5i{a l:Addr}{items:Array Value}{ns:List Int}{R:PySem.Fin→Shared→Prop}{E':Value→Shared→Prop}(hh:A.handled=none)(hl:s.heap.IsList l items)(hi:IntsAre items.toList ns)(hn:items.size+1<scanBound)(hal:a≠l)
  (ho:s.heap.get? a=some { cls:=.type "set",data:=.set #[] 0 (SetTable.fresh 0 0 (!w.params.followText "set-order")) })
  (h:∀s',SetR w s'.heap a ns→(∀b o,b≠a→s.heap.get? b=some o→s'.heap.get? b=some o)→s'.gens=s.gens→s'.drawn=s.drawn→s'.os=s.os→R (.done (.ret .none)) s') :
  wpAny (model prog w) A (Builtin.«set.__init__» ⟨[.ref a,.ref l],[]⟩) R E' s:=by
 have tset:s.TypeIs (.ref a) "set" := ⟨_,ho,rfl⟩
 have tlst:s.TypeIs (.ref l) "list" := by obtain⟨o,h1,h2,_⟩:=hl;exact⟨o,h1,h2⟩
 have hfit:(SetTable.fresh 0 0 (!w.params.followText "set-order")).fits (#[]:Array (Int×Value)).size=true:=by
  show(SetTable.fits _ 0)=true
  rw[SetTable.fits.eq_1]
  rfl
 unfold Builtin.«set.__init__»
 refine wpAny_bind (m:=noKeywords "set" _) (wpAny_pure ?_)
 dsimp only
 refine wpAny_bind ?_
 unfold typeNameOfCut shownTypeOf
 refine wpAny_bind ?_
 refine wpAny_bind (wpAny_typeOf tset ?_)
 rw[if_neg (by decide)]
 refine wpAny_pure ?_
 refine wpAny_pure ?_
 refine wpAny_bind (m:=checkCount _ 0 1 _) (wpAny_pure ?_)
 refine wpAny_bind (m:=Builtin.Frozenset.addrOf _) (wpAny_pure ?_)
 refine wpAny_bind ?_
 unfold setUsed
 refine wpAny_bind (wpAny_setState_of ho rfl hfit ?_)
 refine wpAny_pure ?_
 refine wpAny_ite_false rfl ?_
 refine wpAny_bind ?_
 unfold Builtin.Frozenset.updateFrom
 refine wpAny_bind ?_
 unfold Builtin.Frozenset.isAnySet
 refine wpAny_bind (wpAny_isInstance tlst F.sub_list_set ?_)
 show wpAny _ _ (PySem.isInstance (.ref l) (.type "frozenset")) _ _ _
 refine wpAny_isInstance tlst F.sub_list_frozenset ?_
 rw[if_neg (by decide)]
 refine wpAny_bind (wpAny_typeOf tlst ?_)
 rw[if_neg (by decide)]
 refine wpAny_bind (wpAny_pyIter_list hl ?_)
 refine wpAny_bind (wpAny_runValue ?_)
 have hI:s.heap.objs.size≠l:=by
  obtain⟨o,h1,_⟩:=hl
  exact Nat.ne_of_gt (Heap.lt_size h1)
 have hIa:s.heap.objs.size≠a:=Nat.ne_of_gt (Heap.lt_size ho)
 have W:=(Walks.list (prog:=prog) (w:=w) (A:=A.in1) hh s.heap.objs.size l (Ne.symm hI) items).toS
 refine a7Q W a (by simp[Ne.symm hIa,hal]) (fun i=>ns.getD i 0) (fun i v e=>hi.int_at i v (by simpa using e)) hn items.size 0 _ rfl (Nat.zero_le _) ⟨?_,?_⟩ ?_ fun s' mv SR=>?_
 ·exact⟨_,Heap.get?_push_size _ rfl,rfl,rfl⟩
 ·exact hl.push _
 ·refine⟨_,#[],0,_,Heap.get?_push_of_some _ ho,⟨rfl,rfl,rfl⟩,rfl,fun e he=>absurd he (by simp),by simp,fun k=>by simp,by decide,hfit,⟨by simp[SetTable.fresh,Rise],rfl,rfl⟩⟩
 ·refine wpAny_pure ?_
  refine wpAny_pure (h s' ?_ (fun b o hb e=>mv.heap b o (by simp[hb];exact Nat.ne_of_lt (Heap.lt_size e)) (Heap.get?_push_of_some _ e)) mv.gens mv.drawn mv.os)
  have e:(List.range items.size).map (fun i=>ns.getD i 0)=ns:=by
   have hlen:items.size=ns.length:=by
    have:∀{vs:List Value} {ns:List Int},IntsAre vs ns→vs.length=ns.length:=by
     intro vs ns h
     induction h with
     | nil=>rfl
     | cons n t _ ih=>simp[ih]
    simpa using this hi
   rw[hlen]
   apply List.ext_getElem
   ·simp
   ·intro i h1 h2
    simp[h2]
  rw[← e]
  exact SR
theorem a5j{l:Addr}{items:Array Value}{ns:List Int}{Q:Value→Shared→Prop}(hh:A.handled=none)(hl:s.heap.IsList l items)(hi:IntsAre items.toList ns)(hn:items.size+1<scanBound)
  (h:∀s',SetR w s'.heap s.heap.objs.size ns→(∀b o,s.heap.get? b=some o→s'.heap.get? b=some o)→s'.gens=s.gens→s'.drawn=s.drawn→s'.os=s.os→Q (.ref s.heap.objs.size) s') :
  wpAny (model prog w) A (call (.type "set") [.ref l]) Q E s:=by
 have ho:(s.heap.push { cls:=.type "set",data:=.set #[] 0 (SetTable.fresh 0 0 (!w.params.followText "set-order")) }).get? s.heap.objs.size=some { cls:=.type "set",data:=.set #[] 0 (SetTable.fresh 0 0 (!w.params.followText "set-order")) }:=Heap.get?_push_size _ rfl
 have hne:s.heap.objs.size≠l:=by
  obtain⟨o,h1,_⟩:=hl
  exact Nat.ne_of_gt (Heap.lt_size h1)
 refine wpAny_call (codeAny_of_tree ?_)
 show wpAny _ _ (pure (PySem.Fin.again (.builtin "type.__call__" ⟨[.type "set",.ref l],[]⟩))) _ _ _
 refine wpAny_pure ⟨Code.quiet_builtin _ (by decide +kernel),codeAny_builtin F.entry_type_call ?_⟩
 rw[Around.under_plain (weight_type_call_type _ _ _) rfl]
 unfold Builtin.«type.__call__»
 dsimp only
 refine wpAny_ite_false (by decide) ?_
 refine wpAny_ite_false (by decide +kernel) ?_
 refine wpAny_bind (wpAny_of_eq (F.typeCall_set_1 _) ?_)
 obtain⟨c,tl,e⟩:=F.called_set.mro
 refine wpAny_bind (wpAny_of_eq e ?_)
 refine wpAny_ite_false (by rfl) ?_
 refine wpAny_bind (wpAny_of_eq F.called_set.made ?_)
 dsimp only
 refine wpAny_bind (wpAny_pure ?_)
 refine wpAny_bind (wpAny_holding (wpAny_call (a07 (Q₁:=_) _ ?_)))
 refine wpAny_bind (wpAny_isInstance (T := "set") (U := "set") ⟨_,ho,rfl⟩ sub_set_self ?_)
 refine wpAny_ite_false (by rfl) ?_
 refine wpAny_bind (wpAny_holding (wpAny_callSpecial?_slot (T := "set") ⟨_,ho,rfl⟩ F.called_set.init (wpAny_call (codeAny_call_builtin F.called_set.init.plain F.entry_set_init (check_set_init_1 ⟨_,ho,rfl⟩ ?_)))))
 refine a5i (A:=A.in1.in1) hh (hl.push _) hi hn hne ho fun s' SR kp hg hd hos=>?_
 dsimp only
 refine wpAny_ite_false (by decide) ?_
 refine wpAny_pure (h s' SR (fun b o e=>kp b o (Nat.ne_of_lt (Heap.lt_size e)) (Heap.get?_push_of_some _ e)) hg hd hos)
end
theorem a17:entryFor table "set.__iter__" = some Builtin.«frozenset.__iter__» := entryFor_alias (by kernel_rfl) rfl (show Manifest.canonical (String.map (fun c=>if(c.isAlphanum || c == '_' || c == '.')=true then c else '_') "set.__iter__") ++ "" = "frozenset.__iter__" by decide +kernel) (by kernel_rfl)
theorem a18:entryFor table "set_iterator.__next__" = some Builtin.«set_iterator.__next__» := entryFor_of_fast (by kernel_rfl)
theorem D9:Slot "set_iterator" (Str.ofString "__next__") "set_iterator.__next__" :=
 Slot.of (owner := "set_iterator") (n := "__next__") rfl (by decide +kernel) (by decide +kernel) (by decide +kernel) (.inl (by decide +kernel)) (by rfl) (by decide +kernel)
section
variable {prog:Program}{w:World}{A:Around}{E:Value→Shared→Prop}{s:Shared}
theorem a7R{r:Addr}{Q:Bool→Shared→Prop}(h:s.TypeIs (.ref r) "set")(q:Q false s):wpAny (model prog w) A (Builtin.List.listLengthHint (.ref r)) Q E s:=by
 unfold Builtin.List.listLengthHint
 refine wpAny_bind (wpAny_specialOf h F.slot_set_len.lookup ?_)
 dsimp only
 rw[show splitId "set.__len__" = some ("set","__len__")from by rfl]
 dsimp only
 refine wpAny_bind (wpAny_isInstance h sub_set_self ?_)
 refine wpAny_ite_false rfl ?_
 refine wpAny_ite_true (by decide +kernel) ?_
 refine wpAny_bind (wpAny_typeOf h ?_)
 exact wpAny_pure q
theorem Y1{α:Type}:∀{l:List α} {i:Nat} (h:i<l.length),(l[i]::l.eraseIdx i).Perm l
 | x::l,0,_=>.refl _
 | x::l,i+1,h=>by
  have h':i<l.length:=by simpa using h
  show(l[i]::x::l.eraseIdx i).Perm (x::l)
  exact(List.Perm.swap _ _ _).trans ((Y1 h').cons x)
theorem a4K{α:Type}(next:Nat→Nat):∀(fuel k:Nat) (left:List α) (out:Array α),left.length≤fuel→(pickOrder.go next fuel k left out).toList.Perm (out.toList++left)
 | 0,k,left,out,h=>by
  have e:left=[]:=List.eq_nil_of_length_eq_zero (by omega)
  rw[pickOrder.go.eq_1,e,List.append_nil]
 | fuel+1,k,left,out,h=>by
  rw[pickOrder.go.eq_def]
  dsimp only
  cases e:left[next k%left.length]? with
  | none =>
   dsimp only
   have e0:left=[]:=by
    cases left with
    | nil=>rfl
    | cons x l =>
     have:next k%(x::l).length<(x::l).length:=Nat.mod_lt _ (by simp)
     rw[List.getElem?_eq_getElem this]at e
     cases e
   rw[e0,List.append_nil]
  | some x =>
   dsimp only
   obtain⟨hlt,hx⟩:=List.getElem?_eq_some_iff.mp e
   refine(a4K next fuel (k+1) (left.eraseIdx (next k%left.length)) (out.push x) ?_).trans ?_
   ·rw[List.length_eraseIdx_of_lt hlt];omega
   ·rw[Array.toList_push,List.append_assoc]
    refine List.Perm.append_left _ ?_
    have:=Y1 hlt
    rw[hx]at this
    exact this
theorem a6n{α:Type}(next:Nat→Nat)(xs:Array α):(pickOrder next xs).toList.Perm xs.toList:=by
 have:=a4K next xs.size 0 xs.toList #[] (by simp)
 simpa [pickOrder]using this
theorem a2E{α:Type}:∀(n:Nat) (xs:List α) {Q:List α→Shared→Prop} {s:Shared},xs.length≤n→(∀ys d,ys.Perm xs→Q ys { s with drawn:=d })→wpAny (model prog w) A (drawOrder n xs) Q E s
 | 0,xs,Q,s,h,q=>by
  have e:xs=[]:=List.eq_nil_of_length_eq_zero (by omega)
  subst e
  rw[drawOrder.eq_1]
  exact wpAny_pure (q [] s.drawn (.refl _))
 | n+1,[],Q,s,h,q=>by
  rw[drawOrder.eq_2 _ (by omega)]
  exact wpAny_pure (q [] s.drawn (.refl _))
 | n+1,x::xs,Q,s,h,q=>by
  rw[drawOrder.eq_def]
  dsimp only
  refine wpAny_bind ?_
  intro Γ p hΓ
  unfold choose
  rw[Sem.wp_choose]
  refine⟨by simp,?_⟩
  have hlt:(model prog w).w.draws Source.order (s.drawn.get Source.order)%(x::xs).length<(x::xs).length:=Nat.mod_lt _ (by simp)
  generalize (model prog w).w.draws Source.order (s.drawn.get Source.order)%(x::xs).length=i at *
  show Sem.wp _ Γ (pure i) _ _ p _
  refine(wpAny_pure (M:=model prog w) (A:=A) (E:=E) (a:=i) (Q:=fun i s'=>wpAny (model prog w) A (match(x::xs)[i]? with
   | some x_2=>do
    let __do_lift ← drawOrder n ((x::xs).eraseIdx i)
    pure (x_2::__do_lift)
   | none=>unsupported "internal:drawOrder") Q E s') (s:={ s with drawn:=s.drawn.bump Source.order }) ?_) Γ p hΓ
  rw[List.getElem?_eq_getElem hlt]
  dsimp only
  refine wpAny_bind (a2E n _ (by rw[List.length_eraseIdx_of_lt hlt];omega) fun ys d hy=>?_)
  refine wpAny_pure (q _ d ?_)
  exact(hy.cons _).trans (Y1 hlt)
end
def S3(first:Value)(i:Nat)(a:Addr)(n ep:Nat):Obj:={ cls:=.type "set_iterator",data:=.fields #[first,.int (i:Int) 0,.ref a,.int (n:Int) 0,.int (ep:Int) 0] }
section
variable {prog:Program}{w:World}{A:Around}{E:Value→Shared→Prop}{s:Shared}
theorem Y2{I a:Addr}{es:Array (Int×Value)}{ep i:Nat}{first:Value}{Q:Option Value→Shared→Prop}(hI:s.heap.get? I=some (S3 first i a es.size ep))
  (h:wpAny (model prog w) A.in1 (Builtin.«set_iterator.__next__» ⟨[.ref I],[]⟩) (fun fin s'=>∃v,fin=.done (.ret v)∧Q (some v) s') (fun e s'=>(∃x o,e=.ref x∧s'.heap.get? x=some o∧o.cls=.type "StopIteration")∧Q none s') s) :
  wpAny (model prog w) A (pyNext (.ref I)) Q E s:=by
 unfold pyNext
 refine wpAny_bind (wpAny_attempt (wpAny_callSpecial?_slot (T := "set_iterator") ⟨_,hI,rfl⟩ D9 (wpAny_call_entry D9 ⟨_,hI,rfl⟩ a18 (wpAny_mono h (fun fin s' ⟨v,e,q⟩=>⟨v,e,?_⟩) fun e s' ⟨⟨x,o,e1,e2,e3⟩,q⟩=>?_) (by rfl))))
 ·exact wpAny_pure q
 ·subst e1
  refine wpAny_bind (wpAny_isInstance (T := "StopIteration") ⟨o,e2,e3⟩ isSubtype_stop ?_)
  exact wpAny_ite_true rfl (wpAny_pure q)
theorem a7S{I a:Addr}{o:Obj}{es:Array (Int×Value)}{ep i slot nx:Nat}{t:SetTable}{x:Value}{Q:Option Value→Shared→Prop}(hI:s.heap.get? I=some (S3 (.int (slot:Int) 0) i a es.size ep))(ho:s.heap.get? a=some o)(hd:o.data=.set es ep t)(hf:t.fits es.size=true)
  (hs:∀{A':Around} {E':Value→Shared→Prop} {Q':Option (Value×Nat)→Shared→Prop},Q' (some (x,nx)) s→wpAny (model prog w) A' (setNext a slot i ep) Q' E' s)
  (q:∀h',h'.get? I=some (S3 (.int (nx:Int) 0) (i+1) a es.size ep)→Heap.SameBut I s.heap h'→Q (some x) { s with heap:=h' }):wpAny (model prog w) A (pyNext (.ref I)) Q E s:=by
 refine Y2 hI ?_
 unfold Builtin.«set_iterator.__next__»
 refine wpAny_bind (m:=slotArgs "__next__" 0 _) (wpAny_pure ?_)
 dsimp only
 refine wpAny_bind (wpAny_fieldsOf hI rfl ?_)
 dsimp only
 refine wpAny_bind (wpAny_setEntries_of ho hd hf ?_)
 refine wpAny_ite_false (by simp) ?_
 simp only[Int.toNat_natCast]
 refine wpAny_bind (hs ?_)
 dsimp only
 refine wpAny_bind (wpAny_setField_rec hI (by simp) fun h1 g1 s1=>?_)
 refine wpAny_bind (wpAny_setField_rec (s:={ s with heap:=h1 }) g1 (by simp) fun h2 g2 s2=>?_)
 refine wpAny_pure ⟨x,rfl,q h2 ?_ ⟨s2.1.trans s1.1,fun b hb=>(s2.2 b hb).trans (s1.2 b hb)⟩⟩
 rw[g2]
 rfl
theorem a9w{I a:Addr}{o:Obj}{es:Array (Int×Value)}{ep i slot:Nat}{t:SetTable}{Q:Option Value→Shared→Prop}(hh:A.handled=none)(hI:s.heap.get? I=some (S3 (.int (slot:Int) 0) i a es.size ep))(ho:s.heap.get? a=some o)(hd:o.data=.set es ep t)(hf:t.fits es.size=true)
  (hs:∀{A':Around} {E':Value→Shared→Prop} {Q':Option (Value×Nat)→Shared→Prop},Q' none s→wpAny (model prog w) A' (setNext a slot i ep) Q' E' s)
  (q:∀h',(∀b o,b≠I→s.heap.get? b=some o→h'.get? b=some o)→Q none { s with heap:=h' }):wpAny (model prog w) A (pyNext (.ref I)) Q E s:=by
 refine Y2 hI ?_
 unfold Builtin.«set_iterator.__next__»
 refine wpAny_bind (m:=slotArgs "__next__" 0 _) (wpAny_pure ?_)
 dsimp only
 refine wpAny_bind (wpAny_fieldsOf hI rfl ?_)
 dsimp only
 refine wpAny_bind (wpAny_setEntries_of ho hd hf ?_)
 refine wpAny_ite_false (by simp) ?_
 simp only[Int.toNat_natCast]
 refine wpAny_bind (hs ?_)
 dsimp only
 refine wpAny_bind (wpAny_setField_rec hI (by simp) fun h1 g1 s1=>?_)
 refine wpAny_bind ?_
 unfold newExc
 refine wpAny_bind (wpAny_newTuple ?_ (Nat.zero_le _))
 refine wpAny_bind ?_
 unfold firstArgMember
 dsimp only
 refine wpAny_bind (wpAny_pure ?_)
 refine wpAny_pure ?_
 refine wpAny_newObj_type ?_
 refine wpAny_raiseNew_none hh ⟨⟨_,_,rfl,Heap.get?_push_size _ rfl,rfl⟩,?_⟩
 exact q _ fun b o hb e=>Heap.get?_push_of_some _ (Heap.get?_push_of_some _ ((s1.2 b hb).trans e))
theorem a5k{I a T:Addr}{o:Obj}{es:Array (Int×Value)}{ep i j:Nat}{t:SetTable}{ps:List Nat}{e:Int×Value}{Q:Option Value→Shared→Prop}(hI:s.heap.get? I=some (S3 (.ref T) i a es.size ep))(ho:s.heap.get? a=some o)(hd:o.data=.set es ep t)(hf:t.fits es.size=true)
  (hT:s.heap.get? T=some (seqObj "tuple" (ps.map fun(i:Nat)=>rawInt (i:Int)).toArray 0)) (hj:ps[i]? = some j) (he:es[j]? = some e)
  (q:∀h',h'.get? I=some (S3 (.ref T) (i+1) a es.size ep)→Heap.SameBut I s.heap h'→Q (some e.2) { s with heap:=h' }):wpAny (model prog w) A (pyNext (.ref I)) Q E s:=by
 refine Y2 hI ?_
 unfold Builtin.«set_iterator.__next__»
 refine wpAny_bind (m:=slotArgs "__next__" 0 _) (wpAny_pure ?_)
 dsimp only
 refine wpAny_bind (wpAny_fieldsOf hI rfl ?_)
 dsimp only
 refine wpAny_bind (wpAny_setEntries_of ho hd hf ?_)
 refine wpAny_ite_false (by simp) ?_
 simp only[Int.toNat_natCast]
 refine wpAny_bind (wpAny_seqItems hT rfl ?_)
 have e0:(ps.map fun(i:Nat)=>rawInt (i:Int)).toArray[i]? = some (.int (j:Int) 0):=by
  rw[List.getElem?_toArray,List.getElem?_map,hj]
  rfl
 dsimp only
 rw[e0]
 dsimp only
 refine wpAny_bind ?_
 unfold setNextDrawn
 refine wpAny_bind (wpAny_setState_of ho hd hf ?_)
 dsimp only
 refine wpAny_ite_false (by simp) ?_
 rw[Int.toNat_natCast,he]
 refine wpAny_pure ?_
 refine wpAny_bind (wpAny_setField_rec hI (by simp) fun h1 g1 s1=>?_)
 refine wpAny_pure ⟨e.2,rfl,q h1 ?_ s1⟩
 rw[g1]
 rfl
theorem a6o{I a T:Addr}{o:Obj}{es:Array (Int×Value)}{ep i:Nat}{t:SetTable}{ps:List Nat}{Q:Option Value→Shared→Prop}(hh:A.handled=none)(hI:s.heap.get? I=some (S3 (.ref T) i a es.size ep))(ho:s.heap.get? a=some o)(hd:o.data=.set es ep t)(hf:t.fits es.size=true)
  (hT:s.heap.get? T=some (seqObj "tuple" (ps.map fun(i:Nat)=>rawInt (i:Int)).toArray 0)) (hj:ps[i]? = none)
  (q:∀h',(∀b o,b≠I→s.heap.get? b=some o→h'.get? b=some o)→Q none { s with heap:=h' }):wpAny (model prog w) A (pyNext (.ref I)) Q E s:=by
 refine Y2 hI ?_
 unfold Builtin.«set_iterator.__next__»
 refine wpAny_bind (m:=slotArgs "__next__" 0 _) (wpAny_pure ?_)
 dsimp only
 refine wpAny_bind (wpAny_fieldsOf hI rfl ?_)
 dsimp only
 refine wpAny_bind (wpAny_setEntries_of ho hd hf ?_)
 refine wpAny_ite_false (by simp) ?_
 simp only[Int.toNat_natCast]
 refine wpAny_bind (wpAny_seqItems hT rfl ?_)
 have e0:(ps.map fun(i:Nat)=>rawInt (i:Int)).toArray[i]? = none:=by
  rw[List.getElem?_toArray,List.getElem?_map,hj]
  rfl
 dsimp only
 rw[e0]
 dsimp only
 refine wpAny_bind (wpAny_setField_rec hI (by simp) fun h1 g1 s1=>?_)
 refine wpAny_bind (wpAny_setField_rec (s:={ s with heap:=h1 }) g1 (by simp) fun h2 g2 s2=>?_)
 refine wpAny_bind ?_
 unfold newExc
 refine wpAny_bind (wpAny_newTuple ?_ (Nat.zero_le _))
 refine wpAny_bind ?_
 unfold firstArgMember
 dsimp only
 refine wpAny_bind (wpAny_pure ?_)
 refine wpAny_pure ?_
 refine wpAny_newObj_type ?_
 refine wpAny_raiseNew_none hh ⟨⟨_,_,rfl,Heap.get?_push_size _ rfl,rfl⟩,?_⟩
 exact q _ fun b o hb e=>Heap.get?_push_of_some _ (Heap.get?_push_of_some _ ((s2.2 b hb).trans ((s1.2 b hb).trans e)))
end
theorem a20:entryFor table "set_iterator.__iter__" = some Builtin.«dict_keyiterator.__iter__» := entryFor_alias (by kernel_rfl) rfl (show Manifest.canonical (String.map (fun c=>if(c.isAlphanum || c == '_' || c == '.')=true then c else '_') "set_iterator.__iter__") ++ "" = "dict_keyiterator.__iter__" by decide +kernel) (by kernel_rfl)
theorem a0m:Slot "set_iterator" (Str.ofString "__iter__") "set_iterator.__iter__" :=
 Slot.of (owner := "set_iterator") (n := "__iter__") rfl (by decide +kernel) (by decide +kernel) (by decide +kernel) (.inl (by decide +kernel)) (by rfl) (by decide +kernel)
section
variable {prog:Program}{w:World}{A:Around}{E:Value→Shared→Prop}{s:Shared}
theorem a3A{a:Addr}{o:Obj}{es:Array (Int×Value)}{ep:Nat}{t:SetTable}(ho:s.heap.get? a=some o)(hd:o.data=.set es ep t)(hf:t.fits es.size=true)(bt:w.params.followText "set-order" = true)(slot i:Nat){Q:Option (Value×Nat)→Shared→Prop}
  (q:Q (((pickOrder (w.params.setOrder a ep) es)[i]?).map fun e=>(e.2,slot)) s):wpAny (model prog w) A (setNext a slot i ep) Q E s:=by
 unfold setNext
 refine wpAny_bind (wpAny_setState_of ho hd hf ?_)
 dsimp only
 unfold setsByText
 refine wpAny_bind (wpAny_bind (wpAny_askSetting (wpAny_pure ?_)))
 refine wpAny_ite_true (by show decide (w.params.followText "set-order" = true)=true;rw[bt];rfl) ?_
 refine wpAny_ite_false (by simp) ?_
 refine wpAny_bind ?_
 unfold setWalk
 refine wpAny_bind (wpAny_setState_of ho hd hf ?_)
 dsimp only
 unfold setsByText
 refine wpAny_bind (wpAny_bind (wpAny_askSetting (wpAny_pure ?_)))
 refine wpAny_ite_true (by show decide (w.params.followText "set-order" = true)=true;rw[bt];rfl) ?_
 refine wpAny_bind (wpAny_askSetting ?_)
 refine wpAny_pure ?_
 exact wpAny_pure q
def O7(t:SetTable)(i:Nat):Nat:=if i=0 then 0 else t.place.getD (i-1) 0+1
theorem a5l{t:SetTable}{i:Nat}(hr:Rise t.place)(hi:i≤t.place.size):SetTable.below t.place (O7 t i)=i:=by
 refine a7M hr hi (fun k hk=>?_) (fun k hk hk2=>?_)
 ·unfold O7
  rw[if_neg (by omega)]
  by_cases z:k=i-1
  ·rw[z];omega
  ·have:=hr.lt (i:=k) (j:=i-1) (by omega) (by omega)
   omega
 ·unfold O7
  by_cases z:i=0
  ·rw[if_pos z];omega
  ·rw[if_neg z]
   have:=hr.lt (i:=i-1) (j:=k) (by omega) hk2
   omega
theorem a21{a:Addr}{o:Obj}{es:Array (Int×Value)}{ep:Nat}{t:SetTable}(ho:s.heap.get? a=some o)(hd:o.data=.set es ep t)(hf:t.fits es.size=true)(bt:w.params.followText "set-order" = false)(hp:(!t.plain && decide (es.size > 1))=false)(T:TbR true t)(i g:Nat)(hi:i≤es.size){Q:Option (Value×Nat)→Shared→Prop}
  (q:Q ((es[i]?).map fun e=>(e.2,O7 t (i+1))) s):wpAny (model prog w) A (setNext a (O7 t i) g ep) Q E s:=by
 have hps:t.place.size=es.size:=by
  rw[SetTable.fits.eq_1,Bool.and_eq_true]at hf
  exact beq_iff_eq.mp hf.1
 unfold setNext
 refine wpAny_bind (wpAny_setState_of ho hd hf ?_)
 dsimp only
 unfold setsByText
 refine wpAny_bind (wpAny_bind (wpAny_askSetting (wpAny_pure ?_)))
 refine wpAny_ite_false (by show decide (w.params.followText "set-order" = true)=false;rw[bt];rfl) ?_
 refine wpAny_ite_false (by show decide ((!t.plain && decide (es.size > 1))=true)=false;rw[hp];rfl) ?_
 show wpAny _ _ ((if(!t.led && !es.isEmpty)=true then unsupported "set:maker-not-led" else pure ()) >>= _) _ _ _
 rw[T.led]
 refine wpAny_bind (wpAny_ite_false rfl (wpAny_pure ?_))
 rw[a5l T.rise (by omega)]
 by_cases z:i<es.size
 ·rw[Array.getElem?_eq_getElem z]at q ⊢
  have z2:i<t.place.size:=by omega
  rw[Array.getElem?_eq_getElem z2]
  refine wpAny_pure ?_
  have e:O7 t (i+1)=t.place[i]+1:=by
   unfold O7
   rw[if_neg (by omega),Nat.add_sub_cancel]
   simp[Array.getD,z2]
  rw[e]at q
  exact q
 ·rw[Array.getElem?_eq_none (by omega)]at q ⊢
  exact wpAny_pure q
theorem a4L{I a:Addr}{first:Value}{i n ep:Nat}{Q:Value→Shared→Prop}(hI:s.heap.get? I=some (S3 first i a n ep))(q:Q (.ref I) s):wpAny (model prog w) A (pyIter (.ref I)) Q E s:=by
 have tI:s.TypeIs (.ref I) "set_iterator" := ⟨_,hI,rfl⟩
 refine wpAny_pyIter_slot tI a0m (wpAny_call_entry a0m tI a20 ?_ (by rfl))
 unfold Builtin.«dict_keyiterator.__iter__»
 refine wpAny_bind (m:=slotArgs "__iter__" 0 _) (wpAny_pure ?_)
 exact wpAny_pure ⟨_,rfl,"set_iterator",_,tI,D9.lookup,q⟩
theorem a6p{I a:Addr}{o:Obj}{es:Array (Int×Value)}{ep:Nat}{t:SetTable}{ord:List (Int×Value)}{sl:Nat→Nat}(hne:I≠a)(hd:o.data=.set es ep t)(hf:t.fits es.size=true)(hl:ord.length=es.size)
  (hn:∀(s:Shared) (i:Nat) {A':Around} {E':Value→Shared→Prop} {Q':Option (Value×Nat)→Shared→Prop},s.heap.get? a=some o→i≤es.size→Q' ((ord[i]?).map fun e=>(e.2,sl (i+1))) s→wpAny (model prog w) A' (setNext a (sl i) i ep) Q' E' s) (hh:A.handled=none) :
  WalksS prog w A I [I,a] [I] (fun x y=>y=x) es.size (fun i v=>∃e,ord[i]? = some e∧v=e.2) (fun i s=>s.heap.get? I=some (S3 (.int (sl i:Int) 0) i a es.size ep)∧s.heap.get? a=some o) where
 sub:=fun b hb=>by simp only[List.mem_singleton]at hb;simp[hb]
 grefl:=fun _=>rfl
 gtrans:=fun _ _ _ h1 h2=>h2.trans h1
 frame:=fun i s h' tk ⟨h1,h2⟩ _ k=>⟨k I (by simp) _ h1,k a (by simp) _ h2⟩
 item:=fun i s Q E hi ⟨h1,h2⟩ k=>by
  have e:=List.getElem?_eq_getElem (l:=ord) (i:=i) (by omega)
  refine a7S (x:=ord[i].2) (nx:=sl (i+1)) h1 h2 hd hf (fun q'=>hn s i h2 (by omega) (by rw[e];exact q')) fun h' g' sm=>k _ { s with heap:=h' } ⟨_,e,rfl⟩ ⟨g',(sm.2 a (Ne.symm hne)).trans h2⟩ ⟨fun b o hb eb=>(sm.2 b (fun z=>hb (by simp[z]))).trans eb,rfl,rfl,rfl,Nat.le_refl _⟩
 done:=fun s Q E ⟨h1,h2⟩ k=>by
  have e:=List.getElem?_eq_none (l:=ord) (i:=es.size) (by omega)
  exact a9w hh h1 h2 hd hf (fun q'=>hn s es.size h2 (Nat.le_refl _) (by rw[e];exact q')) fun h' kp=>k { s with heap:=h' } ⟨fun b o hb eb=>kp b o (fun z=>hb (by simp[z])) eb,rfl,rfl,rfl,Nat.le_refl _⟩
 self:=fun i s Q E ⟨h1,_⟩ q=>a4L h1 q
theorem a4k{I a T:Addr}{o:Obj}{es:Array (Int×Value)}{ep:Nat}{t:SetTable}{ps:List Nat}(hne:I≠a)(hnT:I≠T)(hd:o.data=.set es ep t)(hf:t.fits es.size=true)(hp:ps.Perm (List.range es.size))(hh:A.handled=none) :
  WalksS prog w A I [I,a,T] [I] (fun x y=>y=x) es.size (fun i v=>∃e,(ps.map fun j=>es.getD j (0,.none))[i]? = some e∧v=e.2) (fun i s=>s.heap.get? I=some (S3 (.ref T) i a es.size ep)∧s.heap.get? a=some o∧s.heap.get? T=some (seqObj "tuple" (ps.map fun(i:Nat)=>rawInt (i:Int)).toArray 0)) where
 sub:=fun b hb=>by simp only[List.mem_singleton]at hb;simp[hb]
 grefl:=fun _=>rfl
 gtrans:=fun _ _ _ h1 h2=>h2.trans h1
 frame:=fun i s h' tk ⟨h1,h2,h3⟩ _ k=>⟨k I (by simp) _ h1,k a (by simp) _ h2,k T (by simp) _ h3⟩
 item:=fun i s Q E hi ⟨h1,h2,h3⟩ k=>by
  have hlen:ps.length=es.size:=by rw[hp.length_eq,List.length_range]
  have e:=List.getElem?_eq_getElem (l:=ps) (i:=i) (by omega)
  have hj:ps[i]<es.size:=List.mem_range.mp (hp.mem_iff.mp (List.getElem_mem _))
  have e2:es[ps[i]]? = some (es.getD ps[i] (0,.none)):=by rw[Array.getElem?_eq_getElem hj];simp[Array.getD,hj]
  refine a5k h1 h2 hd hf h3 e e2 fun h' g' sm=>k _ { s with heap:=h' } ⟨_,by rw[List.getElem?_map,e];rfl,rfl⟩ ⟨g',(sm.2 a (Ne.symm hne)).trans h2,(sm.2 T (Ne.symm hnT)).trans h3⟩ ⟨fun b o hb eb=>(sm.2 b (fun z=>hb (by simp[z]))).trans eb,rfl,rfl,rfl,Nat.le_refl _⟩
 done:=fun s Q E ⟨h1,h2,h3⟩ k=>by
  have hlen:ps.length=es.size:=by rw[hp.length_eq,List.length_range]
  exact a6o hh h1 h2 hd hf h3 (List.getElem?_eq_none (by omega)) fun h' kp=>k { s with heap:=h' } ⟨fun b o hb eb=>kp b o (fun z=>hb (by simp[z])) eb,rfl,rfl,rfl,Nat.le_refl _⟩
 self:=fun i s Q E ⟨h1,_⟩ q=>a4L h1 q
theorem a7T{a:Addr}{o:Obj}{es:Array (Int×Value)}{ep:Nat}{t:SetTable}{Q:Value→Shared→Prop}(ho:s.heap.get? a=some o)(hx:o.ExactSet)(hd:o.data=.set es ep t)(hf:t.fits es.size=true)(T:TbR (!w.params.followText "set-order") t)(hs:es.size<scanBound)
  (q:∀(I:Addr) (fp:List Addr) (ord:List (Int×Value)) (St:Nat→Shared→Prop) (s':Shared),(∀A',A'.handled=none→WalksS prog w A' I fp [I] (fun x y=>y=x) es.size (fun i v=>∃e,ord[i]? = some e∧v=e.2) St)→St 0 s'→ord.Perm es.toList→(∀b o,s.heap.get? b=some o→s'.heap.get? b=some o∧b≠I)→(∀b∈fp,b=a∨s.heap.get? b=none)→s'.gens=s.gens→s'.os=s.os→s.toks≤s'.toks→(∀b∈fp,∃o,s'.heap.get? b=some o)→Q (.ref I) s') :
  wpAny (model prog w) A (pyIter (.ref a)) Q E s:=by
 have tset:s.TypeIs (.ref a) "set" := ⟨o,ho,hx.1⟩
 have hsl:es.size≤sizeLine:=fits_of_scanBound hs
 refine wpAny_pyIter_slot tset F.slot_set_iter (wpAny_call_entry F.slot_set_iter tset a17 ?_ (F.args_set_iter_1 _))
 unfold Builtin.«frozenset.__iter__»
 refine wpAny_bind (m:=Builtin.Frozenset.slot0 "__iter__" _) (wpAny_pure ?_)
 refine wpAny_bind (m:=Builtin.Frozenset.sizeOf a) (wpAny_bind (wpAny_setEntries_of ho hd hf (wpAny_pure ?_)))
 refine wpAny_bind ?_
 unfold setDrawn
 refine wpAny_bind (wpAny_setState_of ho hd hf ?_)
 dsimp only
 unfold setsByText
 refine wpAny_bind (wpAny_bind (wpAny_askSetting (wpAny_pure ?_)))
 refine wpAny_pure ?_
 show wpAny _ _ (if(!w.params.followText "set-order" && (!t.plain && decide (es.size > 1)))=true then _ else _) _ _ _
 by_cases c:(!w.params.followText "set-order" && (!t.plain && decide (es.size > 1)))=true
 ·rw[if_pos c]
  refine wpAny_bind (a2E es.size (List.range es.size) (by simp) fun ps d hps=>?_)
  have hlen:ps.length=es.size:=by rw[hps.length_eq,List.length_range]
  refine wpAny_bind (wpAny_newTuple ?_ (by rw[List.length_map,hlen];exact hsl))
  have hoT:=Heap.get?_push_of_some (seqObj "tuple" (ps.map fun(i:Nat)=>rawInt (i:Int)).toArray 0) ho
  refine wpAny_bind (wpAny_setEpoch_of hoT hd hf ?_)
  refine wpAny_bind (m:=newFields "set_iterator" _) (wpAny_newObj_type ?_ (by show 5≤_;decide))
  have hIz:(s.heap.push (seqObj "tuple" (ps.map fun(i:Nat)=>rawInt (i:Int)).toArray 0)).objs.size=s.heap.objs.size+1:=size_push' _ _
  have haz:a<s.heap.objs.size:=Heap.lt_size ho
  refine wpAny_pure ⟨_,rfl,"set_iterator",_,⟨_,Heap.get?_push_size _ rfl,rfl⟩,D9.lookup,?_⟩
  have hI:((s.heap.push (seqObj "tuple" (ps.map fun(i:Nat)=>rawInt (i:Int)).toArray 0)).push (S3 (.ref s.heap.objs.size) 0 a es.size ep)).get? (s.heap.push (seqObj "tuple" (ps.map fun(i:Nat)=>rawInt (i:Int)).toArray 0)).objs.size=some (S3 (.ref s.heap.objs.size) 0 a es.size ep):=Heap.get?_push_size _ rfl
  have hT:(s.heap.push (seqObj "tuple" (ps.map fun(i:Nat)=>rawInt (i:Int)).toArray 0)).get? s.heap.objs.size=some (seqObj "tuple" (ps.map fun(i:Nat)=>rawInt (i:Int)).toArray 0):=Heap.get?_push_size _ rfl
  refine q _ [_,a,s.heap.objs.size] (ps.map fun j=>es.getD j (0,.none)) _ _ (fun A' hA'=>a4k (Nat.ne_of_gt (by rw[hIz];exact Nat.lt_succ_of_lt haz)) (Nat.ne_of_gt (by rw[hIz];exact Nat.lt_succ_self _)) hd hf hps hA') ⟨hI,Heap.get?_push_of_some _ hoT,Heap.get?_push_of_some _ hT⟩ ?_ (fun b o e=>⟨Heap.get?_push_of_some _ (Heap.get?_push_of_some _ e),Nat.ne_of_lt (by rw[hIz];exact Nat.lt_succ_of_lt (Heap.lt_size e))⟩) ?_ rfl rfl (Nat.le_refl _) ?_
  ·have:=hps.map fun j=>es.getD j (0,Value.none)
   refine this.trans (.of_eq ?_)
   apply List.ext_getElem
   ·simp
   ·intro i h1 h2
    have:i<es.size:=by simpa using h2
    simp[Array.getD,this]
  ·intro b hb
   simp only[List.mem_cons,List.not_mem_nil,or_false]at hb
   rcases hb with rfl | rfl | rfl
   ·exact .inr (Heap.get?_none_of_le (by rw[hIz];omega))
   ·exact .inl rfl
   ·exact .inr (Heap.get?_none_of_le (Nat.le_refl _))
  ·intro b hb
   simp only[List.mem_cons,List.not_mem_nil,or_false]at hb
   rcases hb with rfl | rfl | rfl
   ·exact⟨_,hI⟩
   ·exact⟨_,Heap.get?_push_of_some _ hoT⟩
   ·exact⟨_,Heap.get?_push_of_some _ hT⟩
 ·rw[if_neg c]
  refine wpAny_bind (wpAny_pure ?_)
  refine wpAny_bind (wpAny_setEpoch_of ho hd hf ?_)
  refine wpAny_bind (m:=newFields "set_iterator" _) (wpAny_newObj_type ?_ (by show 5≤_;decide))
  have haz:a<s.heap.objs.size:=Heap.lt_size ho
  refine wpAny_pure ⟨_,rfl,"set_iterator",_,⟨_,Heap.get?_push_size _ rfl,rfl⟩,D9.lookup,?_⟩
  have hI:(s.heap.push (S3 (.int ((0:Nat):Int) 0) 0 a es.size ep)).get? s.heap.objs.size=some (S3 (.int ((0:Nat):Int) 0) 0 a es.size ep):=Heap.get?_push_size _ rfl
  have fin:∀(ord:List (Int×Value)) (sl:Nat→Nat),sl 0=0→ord.Perm es.toList→(∀(s:Shared) (i:Nat) {A':Around} {E':Value→Shared→Prop} {Q':Option (Value×Nat)→Shared→Prop},s.heap.get? a=some o→i≤es.size→Q' ((ord[i]?).map fun e=>(e.2,sl (i+1))) s→wpAny (model prog w) A' (setNext a (sl i) i ep) Q' E' s)→Q (.ref s.heap.objs.size) { s with heap:=s.heap.push (S3 (.int ((0:Nat):Int) 0) 0 a es.size ep) }:=by
   intro ord sl h0 hp hn
   refine q _ [s.heap.objs.size,a] ord _ _ (fun A' hA'=>a6p (sl:=sl) (Nat.ne_of_gt haz) hd hf (by have:=hp.length_eq;simpa using this) hn hA') ⟨by rw[h0];exact hI,Heap.get?_push_of_some _ ho⟩ hp (fun b o e=>⟨Heap.get?_push_of_some _ e,Nat.ne_of_lt (Heap.lt_size e)⟩) ?_ rfl rfl (Nat.le_refl _) ?_
   ·intro b hb
    simp only[List.mem_cons,List.not_mem_nil,or_false]at hb
    rcases hb with rfl | rfl
    ·exact .inr (Heap.get?_none_of_le (Nat.le_refl _))
    ·exact .inl rfl
   ·intro b hb
    simp only[List.mem_cons,List.not_mem_nil,or_false]at hb
    rcases hb with rfl | rfl
    ·exact⟨_,hI⟩
    ·exact⟨_,Heap.get?_push_of_some _ ho⟩
  cases bt:w.params.followText "set-order" with
  | true =>
   refine fin (pickOrder (w.params.setOrder a ep) es).toList (fun _=>0) rfl (a6n _ _) fun s i A' E' Q' h1 h2 q'=>a3A h1 hd hf bt 0 i ?_
   rw[Array.getElem?_toList]at q'
   exact q'
  | false =>
   rw[bt]at c T
   refine fin es.toList (O7 t) rfl (.refl _) fun s i A' E' Q' h1 h2 q'=>a21 h1 hd hf bt (by simpa using c) T i i h2 ?_
   rw[Array.getElem?_toList]at q'
   exact q'
end
section
variable {prog:Program}{w:World}{A:Around}{E:Value→Shared→Prop}{s:Shared}
theorem a6q{es:List (Int×Value)}(h:∀e∈es,IsI e):IntsAre (es.map (·.2)) (es.map E8):=by
 induction es with
 | nil=>exact .nil
 | cons e es ih =>
  obtain⟨k,t,rfl⟩:=h e List.mem_cons_self
  exact .cons k t (ih fun e m=>h e (List.mem_cons_of_mem _ m))
theorem a4l{a:Addr}{L:List Int}{Q:List Value→Shared→Prop}(S:SetR w s.heap a L)(hh:A.handled=none)
  (h:∀(s':Shared) (vs:List Value) (ks:List Int),(∀b o,s.heap.get? b=some o→s'.heap.get? b=some o)→s'.gens=s.gens→s'.os=s.os→s.heap.objs.size<s'.heap.objs.size→IntsAre vs ks→ks.Nodup→(∀k,k∈ks↔k∈L)→Q vs s') :
  wpAny (model prog w) A (collect (.ref a)) Q E s:=by
 obtain⟨o,es,ep,t,ho,hx,hd,hI,hN,hL,hs,hf,T⟩:=S.ex
 have hsl:es.size≤sizeLine:=fits_of_scanBound hs
 unfold collect
 refine wpAny_bind (wpAny_runValue (codeAny_builtin F.entry_proto_collect ?_))
 rw[Around.under_plainId F.plain_proto_collect _]
 show wpAny _ A.in1 (newList [] >>= fun l=>again (.builtin "list.__iadd__" ⟨[l,.ref a],[]⟩)) _ _ s
 refine wpAny_bind (wpAny_newObj_type ?_)
 refine wpAny_pure ⟨plainId_quiet F.plain_list_iadd _,codeAny_builtin F.entry_list_iadd ?_⟩
 rw[Around.under_plainId F.plain_list_iadd _]
 show wpAny _ A.in1 (Builtin.List.listExtendWith (.ref s.heap.objs.size) (.ref a) (.ref s.heap.objs.size)) _ _ _
 have hS:(s.heap.push { cls:=.type "list",data:=.seq ([]:List Value).toArray }).get? s.heap.objs.size=some (seqObj "list" #[] 0):=Heap.get?_push_size _ rfl
 have ho1:(s.heap.push { cls:=.type "list",data:=.seq ([]:List Value).toArray }).get? a=some o:=Heap.get?_push_of_some _ ho
 have hne:s.heap.objs.size≠a:=Nat.ne_of_gt (Heap.lt_size ho)
 have kp1:∀b o,s.heap.get? b=some o→(s.heap.push { cls:=.type "list",data:=.seq ([]:List Value).toArray }).get? b=some o:=fun b o e=>Heap.get?_push_of_some _ e
 generalize s.heap.push { cls:=.type "list",data:=.seq ([]:List Value).toArray }=h1 at *
 have hlt:∀b o,s.heap.get? b=some o→b≠s.heap.objs.size:=fun b o e=>Nat.ne_of_lt (Heap.lt_size e)
 generalize s.heap.objs.size=D at *
 unfold Builtin.List.listExtendWith
 have tset:({ s with heap:=h1 }:Shared).TypeIs (.ref a) "set" := ⟨o,ho1,hx.1⟩
 refine wpAny_bind (wpAny_typeOf tset ?_)
 refine wpAny_ite_false (by
  show decide ((D == a || _ || _)=true)=false
  rw[beq_false_of_ne hne]
  rfl) ?_
 refine wpAny_bind (a7T (s:={ s with heap:=h1 }) ho1 hx hd hf T hs fun I fp ord St s' W st0 hp kp2 hfp hg hos htk hfo=>?_)
 have tset2:s'.TypeIs (.ref a) "set" := ⟨o,(kp2 a o ho1).1,hx.1⟩
 refine wpAny_bind (wpAny_holding (a7R tset2 ?_))
 refine wpAny_ite_true (by decide +kernel) ?_
 refine wpAny_bind (wpAny_rule ?_)
 have hDs:s'.heap.get? D=some (seqObj "list" #[] 0):=(kp2 D _ hS).1
 have hDf:D ∉ fp:=fun z=>by
  rcases hfp D z with z | z
  ·exact hne z
  ·have z:h1.get? D=none:=z
   rw[hS]at z;cases z
 refine wpAny_bind ?_
 unfold Builtin.List.listTouch
 have sm1:=Heap.SameBut.update s'.heap D (Obj.mapSeq fun x=>x.push Value.none)
 obtain⟨c1,g1⟩:∃c1,(s'.heap.update D (Obj.mapSeq fun x=>x.push Value.none)).get? D=some (seqObj "list" (#[].push Value.none) c1):=⟨_,get?_update_seq hDs fun x=>x.push Value.none⟩
 refine wpAny_bind (listUpdate_at hDs rfl ?_ (Nat.zero_le _) (by decide))
 have sm2:=Heap.SameBut.update (s'.heap.update D (Obj.mapSeq fun x=>x.push Value.none)) D (Obj.mapSeq fun x=>x.pop)
 obtain⟨c2,g2⟩:∃c2,((s'.heap.update D (Obj.mapSeq fun x=>x.push Value.none)).update D (Obj.mapSeq fun x=>x.pop)).get? D=some (seqObj "list" (#[].push Value.none).pop c2):=⟨_,get?_update_seq g1 fun x=>x.pop⟩
 refine listUpdate_at (s:={ s' with heap:=s'.heap.update D (Obj.mapSeq fun x=>x.push Value.none) }) g1 rfl ?_ (by decide) (by decide)
 have kp3:∀b o,b≠D→s'.heap.get? b=some o→((s'.heap.update D (Obj.mapSeq fun x=>x.push Value.none)).update D (Obj.mapSeq fun x=>x.pop)).get? b=some o:=fun b o hb e=>(sm2.2 b hb).trans ((sm1.2 b hb).trans e)
 generalize (s'.heap.update D (Obj.mapSeq fun x=>x.push Value.none)).update D (Obj.mapSeq fun x=>x.pop)=h3 at *
 have hlen:ord.length=es.size:=by have:=hp.length_eq;simpa using this
 refine wpAny_pure ⟨plainId_quiet F.plain_extend_loop _,codeAny_extend_loopS (W A.in1 hh) hsl D hDf (.ref D) es.size 0 { s' with heap:=h3 } #[] c2 rfl (Nat.zero_le _) ((W A.in1 hh).frame 0 s' h3 s'.toks st0 (Nat.le_refl _) fun b hb o e=>kp3 b o (fun z=>hDf (z▸hb)) e) g2 ⟨rfl,fun j v e=>by simp at e⟩ fun s4 acc c' mv hD4 items=>?_⟩
 show wpAny _ A (load D >>= _) _ _ _
 refine wpAny_bind (wpAny_load hD4 ?_)
 have hacc:acc.toList=ord.map (·.2):=by
  apply List.ext_getElem?
  intro j
  by_cases z:j<acc.size
  ·have e:=Array.getElem?_eq_getElem z
   obtain⟨e',h1',h2'⟩:=items.2 j _ e
   rw[Array.getElem?_toList,e,List.getElem?_map,h1',h2']
   rfl
  ·rw[Array.getElem?_toList,Array.getElem?_eq_none (by omega),List.getElem?_eq_none (by rw[List.length_map,hlen,← items.1];omega)]
 have hIo:∀e∈ord,IsI e:=fun e he=>hI e (hp.mem_iff.mp he)
 refine wpAny_pure (h s4 acc.toList (ord.map E8) (fun b o e=>mv.heap b o ?_ (kp3 b o (hlt b o e) (kp2 b o (kp1 b o e)).1)) (mv.gens.trans hg) (mv.os.trans hos) (Heap.lt_size hD4) (by rw[hacc];exact a6q hIo) ((hp.map E8).nodup_iff.mpr hN) fun k=>((hp.map E8).mem_iff).trans (hL k))
 simp only[List.mem_cons,List.not_mem_nil,or_false,not_or]
 exact⟨hlt b o e,(kp2 b o (kp1 b o e)).2⟩
end
theorem a7U(key:Nat→Int):TPre (fun i j=>decide (key i<key j)):=by
 refine⟨fun i=>by simp,fun i j k h1 h2=>?_,fun i j h=>?_⟩
 ·have h1:=of_decide_eq_false h1
  have h2:=of_decide_eq_false h2
  exact decide_eq_false (by omega)
 ·have h:=of_decide_eq_true h
  exact decide_eq_false (by omega)
theorem a0n:∀{vs:List Value} {ns:List Int},IntsAre vs ns→vs.length=ns.length:=by
 intro vs ns h
 induction h with
 | nil=>rfl
 | cons n t _ ih=>simp[ih]
theorem V0{vs:List Value}{ns:List Int}(h:IntsAre vs ns){i:Nat}(hi:i<vs.length):∃t,vs.getD i Value.none=.int (ns.getD i 0) t:=by
 obtain⟨t,e⟩:=h.int_at i vs[i] (List.getElem?_eq_getElem hi)
 refine⟨t,?_⟩
 rw[List.getD_eq_getElem?_getD,List.getElem?_eq_getElem hi]
 exact e
theorem a3B{vs:List Value}{ns:List Int}(h:IntsAre vs ns):∀v∈vs,∃n t,v=Value.int n t:=by
 induction h with
 | nil=>intro v m;cases m
 | cons n t _ ih =>
  intro v m
  rcases List.mem_cons.mp m with rfl | m
  ·exact⟨n,t,rfl⟩
  ·exact ih v m
section
variable {prog:Program}{w:World}{A:Around}{E:Value→Shared→Prop}{s:Shared}
theorem a6r{D:Addr}{h1:Heap}{vs:List Value}{ks:List Int}{Q:Value→Shared→Prop}(hoL:h1.get? D=some (seqObj "list" vs.toArray 0))(hk:IntsAre vs ks)(h64:vs.length<64)(keep:∀b o,s.heap.get? b=some o→h1.get? b=some o)(nD:∀b o,s.heap.get? b=some o→b≠D)
  (h:∀(h':Heap) (p:List Nat) (c:Nat),(∀b o,s.heap.get? b=some o→h'.get? b=some o)→h'.get? D=some (seqObj "list" (p.map fun i=>vs.getD i Value.none).toArray c)→p.Perm (List.range vs.length) →
   p.Pairwise (fun i j=>decide (ks.getD j 0<ks.getD i 0)=false)→Q (.ref D) { s with heap:=h' }) :
  wpAny (model prog w) A.in1 (holding [.ref D] (call (.builtin "list.sort") [.ref D] []) >>= fun _=>(ret (.ref D):Sem PySem.Fin)) (fun fin s'=>∃v,fin=.done (.ret v)∧Q v s') E { s with heap:=h1 }:=by
 refine wpAny_bind (wpAny_holding (wpAny_call_entry slot_list_sort ⟨_,hoL,rfl⟩ entry_list_sort ?body (args_list_sort _)))
 case body =>
  have hD:D<h1.objs.size:=Heap.lt_size hoL
  have s1:=Heap.SameBut.update h1 D (Obj.mapSeq fun _=>(#[]:Array Value))
  obtain⟨e1,ho1⟩:∃e1,(h1.update D (Obj.mapSeq fun _=>(#[]:Array Value))).get? D=some (seqObj "list" #[] e1):=⟨_,get?_update_seq hoL fun _ => #[]⟩
  have keep2:∀b o,s.heap.get? b=some o→(((h1.update D (Obj.mapSeq fun _=>(#[]:Array Value))).push (seqObj "tuple" vs.toArray 0)).push (seqObj "list" #[] 0)).get? b=some o:=fun b o q=>by
   have hb:b≠D:=nD b o q
   exact Heap.get?_push_of_some _ (Heap.get?_push_of_some _ ((s1.2 b hb).trans (keep b o q)))
  have ho6:(((h1.update D (Obj.mapSeq fun _=>(#[]:Array Value))).push (seqObj "tuple" vs.toArray 0)).push (seqObj "list" #[] 0)).get? D=some (seqObj "list" #[] e1):=Heap.get?_push_of_some _ (Heap.get?_push_of_some _ ho1)
  rw[list_sort_plain]
  refine wpAny_bind (listItems_at (s:={ s with heap:=h1 }) hoL rfl ?_)
  refine wpAny_bind (listUpdate_at (s:={ s with heap:=h1 }) hoL rfl ?_ (by rw[List.size_toArray,sizeLine_eq];omega) (Nat.zero_le _))
  refine wpAny_bind (seqEpoch_at ho1 rfl ?_)
  refine wpAny_bind (wpAny_newTuple ?_ (by show vs.length≤_;rw[sizeLine_eq];omega))
  refine wpAny_bind (wpAny_newList ?_ (Nat.zero_le _))
  refine wpAny_holding ?_
  show wpAny (model prog w) _ _ _ E { s with heap:=((h1.update D (Obj.mapSeq fun _=>(#[]:Array Value))).push (seqObj "tuple" vs.toArray 0)).push (seqObj "list" #[] 0) }
  dsimp only
  generalize ((h1.update D (Obj.mapSeq fun _=>(#[]:Array Value))).push (seqObj "tuple" vs.toArray 0)).push (seqObj "list" #[] 0)=h2 at keep2 ho6 ⊢
  have last:∀(st':SortSt) (p:List Nat),(arrOf st').map (·.2)=(p.map fun i=>vs.getD i Value.none).toArray→failedOf st'=none→p.Perm (List.range vs.length)→p.Pairwise (fun i j=>decide (ks.getD j 0<ks.getD i 0)=false) →
    wpAny (model prog w) A.in1.in1 (do
     let touched:=(← seqEpoch D) != e1
     Builtin.List.listUpdate (.ref D) fun _=>(arrOf st').map (·.2)
     if let some e:=failedOf st' then rule "list.sort.comparison-raised";throw e
     if touched then rule "list.sort.modified";raiseError "ValueError" "list modified during sort"
     ret .none:Sem PySem.Fin) (fun fin s'=>∃v,fin=.done (.ret v)∧wpAny (model prog w) A.in1 (pure (.done (.ret (.ref D))):Sem PySem.Fin) (fun fin s'=>∃v,fin=.done (.ret v)∧Q v s') E s') E { s with heap:=h2 }:=by
   intro st' p hout hf hp hs
   have hsz3:((p.map fun i=>vs.getD i Value.none).toArray).size=vs.length:=by rw[List.size_toArray,List.length_map,hp.length_eq,List.length_range]
   have s2:=Heap.SameBut.update h2 D (Obj.mapSeq fun _=>(p.map fun i=>vs.getD i Value.none).toArray)
   obtain⟨c2,hc2⟩:∃c2,(h2.update D (Obj.mapSeq fun _=>(p.map fun i=>vs.getD i Value.none).toArray)).get? D=some (seqObj "list" (p.map fun i=>vs.getD i Value.none).toArray c2):=⟨_,get?_update_seq ho6 fun _=>_⟩
   rw[hout,hf]
   refine wpAny_bind (seqEpoch_at ho6 rfl ?_)
   refine wpAny_bind (listUpdate_at (s:={ s with heap:=h2 }) ho6 rfl ?_ (Nat.zero_le _) (Nat.le_trans (Nat.le_of_eq hsz3) (by rw[sizeLine_eq];omega)))
   simp only[bne_self_eq_false,Bool.false_eq_true,if_false]
   exact wpAny_pure ⟨_,rfl,wpAny_pure ⟨_,rfl,h _ p c2 (fun b o q=>by
    have hb:b≠D:=nD b o q
    exact(s2.2 b hb).trans (keep2 b o q)) hc2 hp hs⟩⟩
  by_cases h2':vs.toArray.size<2
  ·rw[if_pos h2',if_pos h2']
   refine wpAny_bind (wpAny_pure ?_)
   rw[StateT.run_pure]
   refine wpAny_bind (wpAny_pure ?_)
   have hlen:vs.length<2:=by simpa using h2'
   refine last (SortSt.mk' general' (vs.toArray.zip vs.toArray) #[] 7 none) (List.range vs.length) ?_ rfl (List.Perm.refl _) ?_
   ·show(vs.toArray.zip vs.toArray).map (·.2)=_
    match vs,hlen with
    | [],_=>simp
    | [_],_=>simp
   ·match hn:vs.length,hlen with
    | 0,_=>exact .nil
    | 1,_=>exact List.pairwise_singleton _ _
  ·rw[if_neg h2',if_neg h2']
   have hlen:2≤vs.length:=by simp at h2';omega
   refine wpAny_bind (kas_kind (T:=.type "int") hlen (fun v hv=>by obtain⟨i,t,rfl⟩:=a3B hk v hv;exact .of_pure rfl) (by decide +kernel) (by decide +kernel) ?_)
   have gd:=a4F (n:=vs.length) (a7U fun i=>ks.getD i 0) (by omega)
   refine wpAny_bind (wpAny_mono (kat_run (κ:=oneType') (vs:=vs) (ks:=vs) (Q:=fun st' s'=>∃p:Array Nat,p.size=vs.length∧arrOf st'=p.map (kas_item (vs.toArray.zip vs.toArray))∧failedOf st'=none∧s'={ s with heap:=h2 }∧Pmn vs.length p∧Up (fun i j=>decide (ks.getD i 0<ks.getD j 0)) p vs.length)
    (G:=fun p s'=>s'={ s with heap:=h2 }∧Pmn vs.length p∧Up (fun i j=>decide (ks.getD i 0<ks.getD j 0)) p vs.length)
    rfl hlen h64 (fun p' st' s' a1 a2 a3 a4=>⟨p',a1,a2,a3,a4⟩) (gd.wp (fun i j C hi hj hC=>by
     obtain⟨t1,e1⟩:=V0 hk hi
     obtain⟨t2,e2⟩:=V0 hk hj
     show wpAny _ _ (keyLt' oneType' (vs.getD i Value.none) (vs.getD j Value.none)) _ _ _
     rw[e1,e2]
     exact kat_lt_int hC) fun p hp=>⟨rfl,hp⟩)) ?_ fun _ _ x=>x)
   rintro⟨⟨⟩,st'⟩ s' ⟨p,hp,har,hf,rfl,hP,hU⟩
   refine last st' p.toList (kat_snds rfl har) hf hP ?_
   rw[List.pairwise_iff_getElem]
   intro i j hi hj hij
   have hU':=hU i j (by omega) (by rw[← hp];simpa using hj)
   simp only[Array.length_toList]at hi hj
   have e1:ga p i=p[i]:=by unfold ga;simp[Array.getD,hi]
   have e2:ga p j=p[j]:=by unfold ga;simp[Array.getD,hj]
   rw[e1,e2]at hU'
   simpa using hU'
theorem b1b{ks:List Int}{p:List Nat}(hd:ks.Nodup)(hp:p.Perm (List.range ks.length))(hs:p.Pairwise (fun i j=>decide (ks.getD j 0<ks.getD i 0)=false)):(p.map fun i=>ks.getD i 0).Pairwise (· < ·)∧∀k,k∈(p.map fun i=>ks.getD i 0)↔k∈ks:=by
 have hpm:(p.map fun i=>ks.getD i 0).Perm ks:=by
  have:=hp.map fun i=>ks.getD i 0
  refine this.trans (.of_eq ?_)
  apply List.ext_getElem
  ·simp
  ·intro i h1 h2
   simp[h2]
 have hnd:(p.map fun i=>ks.getD i 0).Nodup:=hpm.nodup_iff.mpr hd
 refine⟨?_,fun k=>hpm.mem_iff⟩
 rw[List.pairwise_map]
 rw[List.nodup_iff_pairwise_ne,List.pairwise_map]at hnd
 refine(hs.and hnd).imp ?_
 intro i j ⟨h1,h2⟩
 have:=of_decide_eq_false h1
 omega
theorem a1C:∀{vs:List Value} {ks:List Int} (p:List Nat),IntsAre vs ks→(∀i∈p,i<vs.length)→Vals ((p.map fun i=>ks.getD i 0).map V.int) (p.map fun i=>vs.getD i Value.none)
 | _,_,[],_,_=>.nil
 | vs,ks,i::p,r,h=>by
  obtain⟨t,e⟩:=V0 r (h i (by simp))
  exact .cons ⟨t,e⟩ (a1C p r fun j hj=>h j (by simp[hj]))
theorem a5m{a:Addr}{L:List Int}{Q:Value→Shared→Prop}(S:SetR w s.heap a L)(hh:A.handled=none)(h64:L.length<64)
  (h:∀(s':Shared) (D:Addr) (vs:List Value) (ks:List Int) (c:Nat),(∀b o,s.heap.get? b=some o→s'.heap.get? b=some o)→s'.gens=s.gens→s'.os=s.os→s.heap.objs.size≤D→s'.heap.get? D=some (seqObj "list" vs.toArray c)→Vals (ks.map V.int) vs→vs.length<64→ks.Pairwise (· < ·)→(∀k,k∈ks↔k∈L)→Q (.ref D) s') :
  wpAny (model prog w) A (call (.builtin "sorted") [.ref a]) Q E s:=by
 refine Calls.call_function_entry kind_sorted plain_sorted entry_sorted (args_sorted1 _) ?_
 unfold Builtin.«sorted»
 refine wpAny_bind (m:=checkCount "sorted" 1 1 _) (wpAny_pure ?_)
 refine wpAny_bind (a4l (A:=A.in1) S hh fun s1 vs ks kp hg hos hsz hi hd hL=>?_)
 have hle:vs.length<64:=by
  have:=a06 ks L hd fun x m=>(hL x).mp m
  rw[a0n hi]
  omega
 refine wpAny_bind (wpAny_newList ?_ (by rw[sizeLine_eq];omega))
 refine a6r (s:=s1) (h1:=s1.heap.push (seqObj "list" vs.toArray 0)) (Heap.get?_push_size _ rfl) hi hle (fun b o e=>Heap.get?_push_of_some _ e) (fun b o e=>Nat.ne_of_lt (Heap.lt_size e)) fun h' p c kp2 hD hp hs=>?_
 have hp2:p.Perm (List.range ks.length):=by rw[← a0n hi];exact hp
 obtain⟨q1,q2⟩:=b1b hd hp2 hs
 exact h { s1 with heap:=h' } s1.heap.objs.size _ _ c (fun b o e=>kp2 b o (kp b o e)) hg hos (Nat.le_of_lt hsz) hD (a1C p hi fun i m=>List.mem_range.mp (hp.mem_iff.mp m)) (by rw[List.length_map,hp.length_eq,List.length_range];exact hle) q1 fun k=>(q2 k).trans (hL k)
end
def a6s(K:W.Frag)(ta:TA):TE:=fun σ H Q=>ta σ H fun xs H1=>∃(a:Addr) (ns:List Int),xs=[.ref a]∧SqL K H1 a (ns.map V.int)∧ns.length<64 ∧
 ∀l (ks:List Int),H1 l=none→ks.Pairwise (· < ·)→(∀k,k∈ks↔k∈ns)→Q (.ref l) (upd H1 l (.lst (ks.map V.int)))
theorem b1c:bootBuiltins "set" = some (.type "set"):=by decide +kernel
section
variable {X:Cx}
theorem Inv.laidD{pins:List (Addr×Obj)}{σ:St}{H:Hp}{s s':Shared}{a:Addr}{o:HO}(I:Inv X pins σ H s)(k:∀b u,s.heap.get? b=some u→s'.heap.get? b=some u)(hg:s'.gens=s.gens)(hos:s'.os=s.os)(hp:s.heap.objs.size≤a)(new:ObjOk X.prog X.w (upd H a o) s'.heap a o):Inv X pins σ (upd H a o) s':=by
 have J:=I.laid (t':=s'.toks) k hp new
 have hb:AllBare s'.gens:=by rw[hg];exact I.bare
 obtain⟨ok,os,bare,base,loc,cell,free,freeC,pin,hok,len⟩:=J
 exact⟨ok,hos.trans I.os,hb,base,loc,cell,free,freeC,pin,hok,len⟩
theorem Y3{e:Expr}{p p2 pos pos2:Pos}{ta:TA}(hcalm:X.calm=true)(hg:Gl X "sorted")(hm:X.mg "sorted" = none)(hg2:Gl X "set")(hm2:X.mg "set" = none)(ha:PA X [e] ta)
  (he:starEach [Expr.Call (.Name "set" p2) [e] [] pos2] X.env=(false,eval (.Call (.Name "set" p2) [e] [] pos2) X.env)::starEach [] X.env:=by rfl) (hplain:(backTo pos (starEach [] X.env)).any (·.1)=false:=by rfl)
  (he2:starEach [e] X.env=(false,eval e X.env)::starEach [] X.env:=by rfl) (hpl2:(backTo pos2 (starEach [] X.env)).any (·.1)=false:=by rfl) :
  PE X (.Call (.Name "sorted" p) [.Call (.Name "set" p2) [e] [] pos2] [] pos) (a6s X.K ta):=by
 intro pins s σ H Q I h
 have hh:X.A.handled=none:=I.ok.hd hcalm
 refine wpAny_Call_Name_kw (V5 I hg hm a6e ?_)
 refine PyProof.Rows.callWith_builtin1 ?_ he hplain
 rw[he]
 show wpAny _ _ (spliced ((false,eval (.Call (.Name "set" p2) [e] [] pos2) X.env)::backTo pos (starEach [] X.env))) _ _ s
 refine Calls.spliced_cons ?_
 refine wpAny_Call_Name_kw (V5 I hg2 hm2 b1c ?_)
 refine PyProof.Rows.callWith_type1 (i4 (ha pos2 pins s σ H _ I h) fun us s1 ⟨vs,H1,I1,r1,a,ns,e1,hq,h64,q⟩=>?_) he2 hpl2
 subst e1
 obtain⟨u,rfl,ru⟩:=r1.one
 cases (show u=Value.ref a from ru)
 obtain⟨its,rv,pl,hz⟩:=I1.list hq
 obtain⟨ps,rfl,ep⟩:=Y0 rv
 have hi:=a0l ps
 have hln:ps.length=ns.length:=by rw[← ep];simp
 refine a5j (A:=X.A) hh pl.isList (by simpa using hi) (by simp[hln];show _<4096;omega) fun s2 SR kp hg2 hd2 ho2=>?_
 refine Calls.spliced_nil ?_
 refine a5m SR hh (by rw[ep];exact h64) fun s3 D vs ks c kp2 hg3 ho3 hD hDo rvs hlen hpw hmem=>?_
 have hsz:s1.heap.objs.size≤D:=by
  obtain⟨o,es,ep',t,ho,_⟩:=SR.ex
  exact Nat.le_trans (Nat.le_of_lt (Heap.lt_size ho)) hD
 refine⟨.ref D,upd H1 D (.lst (ks.map V.int)),I1.laidD (s':=s3) (fun b o e=>kp2 b o (kp b o e)) (hg3.trans hg2) (ho3.trans ho2) hsz ?_,rfl,q D ks (I1.hok.fresh hsz) hpw fun k=>by rw[hmem k,ep]⟩
 refine⟨?_,vs,c,rvs,hDo⟩
 rw[rvs.length,sizeLine_eq]
 omega
end
end L2
namespace HT
open PySem PyProof.Rows
inductive IB:List Value→List Value→List Int→List Int→Prop
 | nil:IB [] [] [] []
 | int (a:Int) (t:Tok) (c:Int) (u:Tok) {vs ws:List Value} {ns ms:List Int} (h:IB vs ws ns ms):IB (.int a t::vs) (.int c u::ws) (a::ns) (c::ms)
 | bl (p q:Bool) {vs ws:List Value} {ns ms:List Int} (h:IB vs ws ns ms):IB (.bool p::vs) (.bool q::ws) (b2i p::ns) (b2i q::ms)
theorem IB.len{vs ws:List Value}{ns ms:List Int}(h:IB vs ws ns ms):vs.length=ws.length:=by
 induction h with
 | nil=>rfl
 | int _ _ _ _ _ ih=>simp[ih]
 | bl _ _ _ ih=>simp[ih]
theorem a6t(A:Around)(s:Shared)(p q:Bool)(prog:Program)(w:World)(E:Value→Shared→Prop)(Q:Value→Shared→Prop)(h:Q (.bool (decide (b2i p<b2i q))) s) :
  wpAny (model prog w) A (richCompare .Lt (.bool p) (.bool q)) Q E s :=
 (PyProof.Rows.lt_bool h:wpAny (model prog w) A (compareOp .Lt (.bool p) (.bool q)) Q E s)
section
open PySem.SeqAt
open PySem.AutoSeq1 (wpAny_loadPart')
open PySem.MeetsSeq PySem.MeetsSeq2 PySem.MeetsSeq3
theorem a4m(l b:Addr)(items items2:Array Value)(n n2:Nat)(dd dd2:Option Addr)(sl sl2:Array (Option Value))(ns ms:List Int)(hi:IB items.toList items2.toList ns ms) :
  Meets (Builtin.«tuple.__lt__» ⟨[.ref l,.ref b],[]⟩)
   (fun _ R s=>s.heap.get? l=some { cls:=.type "tuple",dict:=dd,data:=.seq items n,slots:=sl }∧s.heap.get? b=some { cls:=.type "tuple",dict:=dd2,data:=.seq items2 n2,slots:=sl2 } ∧
    R (.ok (.ret (.bool (lexLt ns ms)))) s) :=
 .of_wp fun prog w A R s h=>by
  obtain⟨hp,g,d,tk,os⟩:=s;obtain⟨hl,hb,h⟩:=h
  have f2:=AutoSeq1.sub_tuple_tuple
  have z0:items.size=items2.size:=by have:=hi.len;simpa using this
  wp_walk using wpAny_loadPart' hl,wpAny_loadPart' hb,wpAny_forIn_list _ (fun t7 b s'=>b.1=none∧s'=⟨hp,g,d,tk,os⟩∧∃(vs ws:List Value) (ns' ms':List Int),t7=vs.zip ws ∧
   IB vs ws ns' ms'∧R (.ok (.ret (.bool (lexLt ns' ms')))) ⟨hp,g,d,tk,os⟩) _
  case turn =>
   rintro⟨y,x⟩ t7 b s' ⟨hb',rfl,vs,ws,ns',ms',hz,hvi,hR⟩
   cases hvi with
   | nil=>rw[List.zip_nil_left]at hz;cases hz
   | int a t c u hvi' =>
    rw[List.zip_cons_cons]at hz
    injection hz with hyx hrest
    injection hyx with hy hx
    subst hy hx
    rw[lexLt_cons]at hR
    obtain⟨e,he,hiff⟩:=a3i A.in1 ⟨hp,g,d,tk,os⟩ a t c u
    refine wpAny_bind (he prog w _ _ ?_)
    cases e with
    | true =>
     rw[if_pos (hiff.mp rfl)]at hR
     wp_walk
     exact⟨rfl,rfl,_,_,_,_,hrest,hvi',hR⟩
    | false =>
     rw[if_neg (fun q=>absurd (hiff.mpr q) Bool.false_ne_true)]at hR
     have hri:=a3j A.in1 ⟨hp,g,d,tk,os⟩ a t c u prog w
     wp_walk using hri
     exact⟨_,rfl,by simpa using hR⟩
   | bl p q hvi' =>
    rw[List.zip_cons_cons]at hz
    injection hz with hyx hrest
    injection hyx with hy hx
    subst hy hx
    rw[lexLt_cons]at hR
    have he:EqAt A.in1 ⟨hp,g,d,tk,os⟩ (.bool p) (.bool q) (p == q):=EqAt.bool_bool p q
    refine wpAny_bind (he prog w _ _ ?_)
    by_cases z:p=q
    ·subst z
     rw[if_pos rfl]at hR
     rw[beq_self_eq_true]
     wp_walk
     exact⟨rfl,rfl,_,_,_,_,hrest,hvi',hR⟩
    ·rw[if_neg (fun y=>z (by cases p<;>cases q<;>simp[b2i]at y ⊢))]at hR
     rw[show(p == q)=false by simpa using z]
     have hri:=a6t A.in1 ⟨hp,g,d,tk,os⟩ p q prog w
     wp_walk using hri
     exact⟨_,rfl,by simpa using hR⟩
  case fin =>
   rintro⟨b1,b2⟩ s' ⟨hb',rfl,vs,ws,ns',ms',hz,hvi,hR⟩
   simp only at hb'
   subst hb'
   have hv:lexLt ns' ms'=false:=by
    cases hvi with
    | nil=>rw[lexLt_nil_nil]
    | int a t c u hv=>rw[List.zip_cons_cons]at hz;cases hz
    | bl a t hv=>rw[List.zip_cons_cons]at hz;cases hz
   rw[hv]at hR
   wp_walk
   exact⟨_,rfl,by simpa [Builtin.Tuple.tupleCompareSizes,z0]using hR⟩
  case h =>
   exact⟨rfl,rfl,items.toList,items2.toList,ns,ms,rfl,hi,h⟩
end
section
variable {prog:Program}{w:World}{A:Around}{E:Value→Shared→Prop}{s:Shared}
theorem lt_tupIB{l b:Addr}{items items2:Array Value}{ns ms:List Int}{Q:Value→Shared→Prop}(hl:IsTup s.heap l items)(hb:IsTup s.heap b items2)(hi:IB items.toList items2.toList ns ms)
  (hu:A.units<cLine) (h:Q (.bool (lexLt ns ms)) s):wpAny (model prog w) A (compareOp .Lt (.ref l) (.ref b)) Q E s:=by
 obtain⟨⟨cls,dd,data,sl⟩,ho,hc,n,hd⟩:=id hl
 obtain⟨⟨cls2,dd2,data2,sl2⟩,ho2,hc2,n2,hd2⟩:=id hb
 simp only at hc hd hc2 hd2
 subst hc hd hc2 hd2
 exact richCompare_meets_room (op:=.Lt) ⟨_,ho,rfl⟩ ⟨_,ho2,rfl⟩ PySem.F.slot_tuple_lt PySem.F.entry_tuple_lt (PySem.F.args_tuple_lt_2 _ _) (a4m l b items items2 n n2 dd dd2 sl sl2 ns ms hi)
  ⟨ho,ho2,show Value.bool (lexLt ns ms)≠Value.notImplemented∧Q (.bool (lexLt ns ms)) s from⟨(fun x=>nomatch x),h⟩⟩ hu
end
end HT
namespace L2
open PySem PySem.Spec PyProof.Rows
def ibV:List V→List V→Option (List Int×List Int)
 | [],[]=>some ([],[])
 | .int a::xs,.int b::ys=>(ibV xs ys).map fun r=>(a::r.1,b::r.2)
 | .bl p::xs,.bl q::ys=>(ibV xs ys).map fun r=>(b2i p::r.1,b2i q::r.2)
 | _,_=>none
theorem a5n:∀{xs ys:List V} {us vs:List Value} {ns ms:List Int},Vals xs us→Vals ys vs→ibV xs ys=some (ns,ms)→HT.IB us vs ns ms
 | [],[],_,_,_,_,.nil,.nil,h=>by cases h;exact .nil
 | .int a::xs,.int b::ys,_,_,ns,ms,.cons r1 r2,.cons q1 q2,h=>by
  obtain⟨t,e⟩:=r1
  obtain⟨u,e'⟩:=q1
  subst e e'
  unfold ibV at h
  cases z:ibV xs ys with
  | none=>rw[z]at h;cases h
  | some r=>rw[z]at h;cases h;exact .int a t b u (a5n r2 q2 z)
 | .bl p::xs,.bl q::ys,_,_,ns,ms,.cons r1 r2,.cons q1 q2,h=>by
  cases r1
  cases q1
  unfold ibV at h
  cases z:ibV xs ys with
  | none=>rw[z]at h;cases h
  | some r=>rw[z]at h;cases h;exact .bl p q (a5n r2 q2 z)
def a8W(K:W.Frag):R2:=fun x y H Q=>∃a b xs ys ns ms,x=.ref a∧y=.ref b∧SqT K H a xs∧SqT K H b ys∧ibV xs ys=some (ns,ms)∧Q (.bl (HT.lexLt ns ms)) H
section
variable {X:Cx}
theorem a7V{K:W.Frag}(hu:X.A.units<cLine)(hK:X.K=K:=by rfl):B8 X (compareOp .Lt) (a8W K):=by
 subst hK
 intro pins s σ H x y v u Q I rx ry h
 obtain⟨a,b,xs,ys,ns,ms,rfl,rfl,ha,hb,hq,q⟩:=h
 cases rx
 cases ry
 obtain⟨its,r1,p1,_⟩:=I.tuple ha
 obtain⟨its2,r2,p2,_⟩:=I.tuple hb
 have i1:HT.IB its.toArray.toList its2.toArray.toList ns ms:=a5n r1 r2 hq
 exact HT.lt_tupIB p1 p2 i1 hu ⟨.bl (HT.lexLt ns ms),H,I,rfl,q⟩
def a6u(K:W.Frag):List V→Hp→VK→Prop:=fun xs H Q=>∃p ys,xs=[.ref p]∧((SqL K H p ys∧∀l,H l=none→Q (.ref l) (upd H l (.tup ys)))∨(SqT K H p ys∧Q (.ref p) H))
theorem W5{K:W.Frag}(hK:X.K=K:=by rfl):F8 X (.type "tuple") (a6u K):=hK▸a2X
end
inductive D where
 | non | bl (b:Bool) | int (i:Int) | str (x:Str) | ty (n:String) | cls (n:Str) | tup (ds:List D) | lst (ds:List D) | scr (ns:List Int) | exc (c:Str) | obj (c:Str) (ns:List Str) (ds:List D)
mutual
def Rp(K:W.Frag)(cl:Str→Addr)(F:Hp):D→V→Prop
 | .non,v=>v=.non
 | .bl b,v=>v=.bl b
 | .int i,v=>v=.int i
 | .str x,v=>v=.str x
 | .ty n,v=>v=.ty n
 | .cls n,v=>v=.ref (cl n)
 | .tup ds,v=>∃a xs,v=.ref a∧F a=some (.tup xs)∧Rps K cl F ds xs
 | .lst ds,v=>∃a xs,v=.ref a∧F a=some (.lst xs)∧Rps K cl F ds xs
 | .scr ns,v=>∃a,v=.ref a∧Scr K F a (ns.map V.int)
 | .exc c,v=>∃a cx,v=.ref a∧F a=some (a5d a (.ref (cl c)) cx)
 | .obj c ns ds,v=>∃a dx xs,v=.ref a∧F a=some (.ins (cl c) dx (ns.zip xs))∧ns.length=xs.length∧Rps K cl F ds xs
def Rps(K:W.Frag)(cl:Str→Addr)(F:Hp):List D→List V→Prop
 | [],vs=>vs=[]
 | d::ds,vs=>∃v r,vs=v::r∧Rp K cl F d v∧Rps K cl F ds r
end
section
variable {K:W.Frag}{cl:Str→Addr}{F F' H H':Hp}
mutual
theorem Rp.mono(g:Same F F'):∀(d:D) (v:V),Rp K cl F d v→Rp K cl F' d v
 | .non,_,h=>by simpa only[Rp]using h
 | .bl _,_,h=>by simpa only[Rp]using h
 | .int _,_,h=>by simpa only[Rp]using h
 | .str _,_,h=>by simpa only[Rp]using h
 | .ty _,_,h=>by simpa only[Rp]using h
 | .cls _,_,h=>by simpa only[Rp]using h
 | .tup ds,v,h=>by
  simp only[Rp]at h ⊢
  obtain⟨a,xs,e,h1,h2⟩:=h
  exact⟨a,xs,e,g _ _ h1,Rps.mono g ds xs h2⟩
 | .lst ds,v,h=>by
  simp only[Rp]at h ⊢
  obtain⟨a,xs,e,h1,h2⟩:=h
  exact⟨a,xs,e,g _ _ h1,Rps.mono g ds xs h2⟩
 | .scr ns,v,h=>by
  simp only[Rp]at h ⊢
  obtain⟨a,e,h1⟩:=h
  exact⟨a,e,h1.same g⟩
 | .exc c,v,h=>by
  simp only[Rp]at h ⊢
  obtain⟨a,cx,e,h1⟩:=h
  exact⟨a,cx,e,g _ _ h1⟩
 | .obj c ns ds,v,h=>by
  simp only[Rp]at h ⊢
  obtain⟨a,dx,xs,e,h1,hl,h2⟩:=h
  exact⟨a,dx,xs,e,g _ _ h1,hl,Rps.mono g ds xs h2⟩
theorem Rps.mono(g:Same F F'):∀(ds:List D) (vs:List V),Rps K cl F ds vs→Rps K cl F' ds vs
 | [],_,h=>by simpa only[Rps]using h
 | d::ds,vs,h=>by
  simp only[Rps]at h ⊢
  obtain⟨v,r,e,h1,h2⟩:=h
  exact⟨v,r,e,Rp.mono g d v h1,Rps.mono g ds r h2⟩
end
theorem Rps.nil:Rps K cl F [] []:=by simp only[Rps]
theorem Rps.cons{d:D}{v:V}{ds:List D}{vs:List V}(h:Rp K cl F d v)(t:Rps K cl F ds vs):Rps K cl F (d::ds) (v::vs):=by simp only[Rps];exact⟨v,vs,rfl,h,t⟩
theorem Rps.inv{d:D}{ds:List D}{vs:List V}(h:Rps K cl F (d::ds) vs):∃v r,vs=v::r∧Rp K cl F d v∧Rps K cl F ds r:=by simpa only[Rps]using h
theorem Rps.inv0{vs:List V}(h:Rps K cl F [] vs):vs=[]:=by simpa only[Rps]using h
theorem Rps.length:∀{ds:List D} {vs:List V},Rps K cl F ds vs→ds.length=vs.length
 | [],vs,h=>by rw[h.inv0];rfl
 | d::ds,vs,h=>by obtain⟨v,r,rfl,_,t⟩:=h.inv;simp[t.length]
theorem Rps.get:∀{ds:List D} {vs:List V} {i:Nat} {d:D},Rps K cl F ds vs→ds[i]? = some d→∃v,vs[i]? = some v∧Rp K cl F d v
 | [],_,_,_,_,e=>by simp at e
 | d::ds,vs,0,x,h,e=>by
  obtain⟨v,r,rfl,h1,_⟩:=h.inv
  simp at e;subst e
  exact⟨v,rfl,h1⟩
 | d::ds,vs,i+1,x,h,e=>by
  obtain⟨v,r,rfl,_,t⟩:=h.inv
  obtain⟨u,h1,h2⟩:=t.get (i:=i) (d:=x) (by simpa using e)
  exact⟨u,by simpa using h1,h2⟩
theorem Rps.get'{ds:List D}{vs:List V}{i:Nat}{v:V}(h:Rps K cl F ds vs)(e:vs[i]? = some v):∃d,ds[i]? = some d∧Rp K cl F d v:=by
 have hi:i<ds.length:=by
  have:=(List.getElem?_eq_some_iff.mp e).1
  rw[h.length];exact this
 obtain⟨u,h1,h2⟩:=h.get (List.getElem?_eq_getElem hi)
 rw[e]at h1;cases h1
 exact⟨_,List.getElem?_eq_getElem hi,h2⟩
theorem Rps.append:∀{ds es:List D} {vs us:List V},Rps K cl F ds vs→Rps K cl F es us→Rps K cl F (ds++es) (vs++us)
 | [],_,_,_,h,t=>by rw[h.inv0];exact t
 | d::ds,_,_,_,h,t=>by obtain⟨v,r,rfl,h1,h2⟩:=h.inv;exact .cons h1 (h2.append t)
theorem Rps.one{d:D}{v:V}(h:Rp K cl F d v):Rps K cl F [d] [v]:=.cons h .nil
theorem Rps.set{d:D}{v:V}(r:Rp K cl F d v):∀{ds:List D} {vs:List V} (i:Nat),Rps K cl F ds vs→Rps K cl F (ds.set i d) (vs.set i v)
 | [],_,_,h=>by rw[h.inv0];exact .nil
 | _::_,_,0,h=>by obtain⟨_,_,rfl,_,h2⟩:=h.inv;exact .cons r h2
 | _::_,_,i+1,h=>by obtain⟨_,_,rfl,h1,h2⟩:=h.inv;exact .cons h1 (h2.set r i)
theorem Rps.drop:∀{ds:List D} {vs:List V} (n:Nat),Rps K cl F ds vs→Rps K cl F (ds.drop n) (vs.drop n)
 | _,_,0,h=>h
 | [],_,_+1,h=>by rw[h.inv0];exact .nil
 | _::_,_,n+1,h=>by obtain⟨_,_,rfl,_,h2⟩:=h.inv;exact h2.drop n
theorem Rps.take:∀{ds:List D} {vs:List V} (n:Nat),Rps K cl F ds vs→Rps K cl F (ds.take n) (vs.take n)
 | _,_,0,h=>.nil
 | [],_,_+1,h=>by rw[h.inv0];exact .nil
 | _::_,_,n+1,h=>by obtain⟨_,_,rfl,h1,h2⟩:=h.inv;exact .cons h1 (h2.take n)
theorem Rps.ints:∀{ns:List Int} {vs:List V},Rps K cl F (ns.map D.int) vs→vs=ns.map V.int
 | [],_,h=>h.inv0
 | n::ns,_,h=>by
  obtain⟨v,r,rfl,h1,h2⟩:=h.inv
  rw[h2.ints]
  simp only[Rp]at h1
  rw[h1];rfl
theorem Rps.ofInts:∀{ns:List Int},Rps K cl F (ns.map D.int) (ns.map V.int)
 | []=>.nil
 | _::_=>.cons (by simp only[Rp]) Rps.ofInts
theorem Rps.bls:∀{bs:List Bool} {vs:List V},Rps K cl F (bs.map D.bl) vs→vs=bs.map V.bl
 | [],_,h=>h.inv0
 | n::ns,_,h=>by
  obtain⟨v,r,rfl,h1,h2⟩:=h.inv
  rw[h2.bls]
  simp only[Rp]at h1
  rw[h1];rfl
theorem Rps.strs:∀{bs:List Str} {vs:List V},Rps K cl F (bs.map D.str) vs→vs=bs.map V.str
 | [],_,h=>h.inv0
 | n::ns,_,h=>by
  obtain⟨v,r,rfl,h1,h2⟩:=h.inv
  rw[h2.strs]
  simp only[Rp]at h1
  rw[h1];rfl
end
inductive Sl where | no | fz (d:D) | ow (ds:List D) | hd (ds:List D)
abbrev DE:=List Sl
def Mu(env:DE)(i:Nat):Prop:=∃ds:List D,env[i]? = some (.ow ds)∨env[i]? = some (.hd ds)
def Ow(σ:St)(env:DE)(a:Addr):Prop:=∃(i:Nat) (ds:List D),env[i]? = some (Sl.ow ds)∧σ[i]? = some (some (V.ref a))
structure Rel(K:W.Frag)(cl:Str→Addr)(σ:St)(H F:Hp)(env:DE):Prop where
 sub:Same F H
 len:σ.length=env.length
 fz:∀(i:Nat) (d:D),env[i]? = some (.fz d)→∃v,σ[i]? = some (some v)∧Rp K cl F d v
 mu:∀(i:Nat) (ds:List D),(env[i]? = some (.ow ds)∨env[i]? = some (.hd ds))→∃a xs,σ[i]? = some (some (.ref a))∧H a=some (.lst xs)∧F a=none∧Rps K cl F ds xs
 inj:∀(i j:Nat) (a:Addr),Mu env i→Mu env j→σ[i]? = some (some (.ref a))→σ[j]? = some (some (.ref a))→i=j
structure Frm(σ:St)(H F:Hp)(env:DE)(σ':St)(H' F':Hp)(env':DE):Prop where
 fz:Same F F'
 hid:∀a o,H a=some o→F a=none→¬Ow σ env a→H' a=some o∧F' a=none∧¬Ow σ' env' a
 keep:∀(i:Nat) (ds:List D),env[i]? = some (.hd ds)→env'[i]? = some (.hd ds)∧σ'[i]? = σ[i]?
 dom:∀a,H' a=none→H a=none
structure Gr(H F H' F':Hp):Prop where
 fz:Same F F'
 sub:Same F' H'
 hid:∀a o,H a=some o→F a=none→H' a=some o∧F' a=none
section
variable {K:W.Frag}{cl:Str→Addr}{σ σ' σ'':St}{H H' H'' F F' F'':Hp}{env env' env'':DE}
theorem Frm.refl:Frm σ H F env σ H F env:=⟨Same.refl _,fun _ _ h f o=>⟨h,f,o⟩,fun _ _ h=>⟨h,rfl⟩,fun _ h=>h⟩
theorem Frm.trans(a:Frm σ H F env σ' H' F' env')(b:Frm σ' H' F' env' σ'' H'' F'' env''):Frm σ H F env σ'' H'' F'' env'' :=
 ⟨a.fz.trans b.fz,fun x o h f w=>by obtain⟨h1,f1,w1⟩:=a.hid x o h f w;exact b.hid x o h1 f1 w1,
  fun i ds h=>by obtain⟨h1,e1⟩:=a.keep i ds h;obtain⟨h2,e2⟩:=b.keep i ds h1;exact⟨h2,e2.trans e1⟩,fun x h=>a.dom x (b.dom x h)⟩
theorem Gr.dom(g:Gr H F H' F')(a:Addr)(h:H' a=none):H a=none:=by
 cases e:H a with
 | none=>rfl
 | some o =>
  cases f:F a with
  | none=>rw[(g.hid a o e f).1]at h;cases h
  | some u=>rw[g.sub _ _ (g.fz _ _ f)]at h;cases h
theorem Rel.gr(R:Rel K cl σ H F env)(g:Gr H F H' F'):Rel K cl σ H' F' env :=
 ⟨g.sub,R.len,fun i d h=>by obtain⟨v,e,r⟩:=R.fz i d h;exact⟨v,e,r.mono g.fz⟩,
  fun i ds h=>by obtain⟨a,xs,e,hH,hF,r⟩:=R.mu i ds h;obtain⟨h1,f1⟩:=g.hid a _ hH hF;exact⟨a,xs,e,h1,f1,r.mono g.fz⟩,R.inj⟩
theorem Rel.frm(R:Rel K cl σ H F env)(g:Gr H F H' F'):Frm σ H F env σ H' F' env :=
 ⟨g.fz,fun a o h f w=>by obtain⟨h1,f1⟩:=g.hid a o h f;exact⟨h1,f1,w⟩,fun _ _ h=>⟨h,rfl⟩,g.dom⟩
theorem Gr.refl(s:Same F H):Gr H F H F:=⟨Same.refl _,s,fun _ _ h f=>⟨h,f⟩⟩
theorem Gr.trans(a:Gr H F H' F')(b:Gr H' F' H'' F''):Gr H F H'' F'':=⟨a.fz.trans b.fz,b.sub,fun x o h f=>by obtain⟨h1,f1⟩:=a.hid x o h f;exact b.hid x o h1 f1⟩
theorem Gr.new{p:Addr}{o:HO}(s:Same F H)(hp:H p=none):Gr H F (upd H p o) (upd F p o):=by
 have fp:F p=none:=s.free hp
 refine⟨S1 fp o,fun b u e=>?_,fun a u e f=>?_⟩
 ·by_cases z:b=p
  ·subst z;rw[h7]at e ⊢;exact e
  ·rw[c8 z]at e ⊢;exact s _ _ e
 ·have z:a≠p:=fun z=>by rw[z,hp]at e;cases e
  rw[c8 z,c8 z];exact⟨e,f⟩
theorem Rel.freeze{i:Nat}{ds:List D}(R:Rel K cl σ H F env)(h:env[i]? = some (.ow ds)):∃a F',σ[i]? = some (some (.ref a))∧Frm σ H F env σ H F' (env.set i (.fz (.lst ds)))∧Rel K cl σ H F' (env.set i (.fz (.lst ds)))∧Rp K cl F' (.lst ds) (.ref a):=by
 obtain⟨a,xs,e,hH,hF,r⟩:=R.mu i ds (.inl h)
 have hi:i<env.length:=(List.getElem?_eq_some_iff.mp h).1
 have sF:Same F (upd F a (.lst xs)):=S1 hF _
 have oth:∀j,j≠i→(env.set i (.fz (.lst ds)))[j]? = env[j]?:=fun j hj=>List.getElem?_set_ne (Ne.symm hj)
 have self:(env.set i (.fz (.lst ds)))[i]? = some (.fz (.lst ds)):=List.getElem?_set_self hi
 have mui:∀j,Mu (env.set i (.fz (.lst ds))) j→j≠i∧Mu env j:=fun j ⟨es,q⟩=>by
  by_cases z:j=i
  ·subst z;rw[self]at q;rcases q with q | q<;>cases q
  ·rw[oth j z]at q;exact⟨z,es,q⟩
 have rl:Rp K cl (upd F a (.lst xs)) (.lst ds) (.ref a):=by simp only[Rp];exact⟨a,xs,rfl,h7,r.mono sF⟩
 refine⟨a,upd F a (.lst xs),e,⟨sF,fun b o hb fb w=>?_,fun j es q=>?_,fun _ h=>h⟩,⟨fun b o q=>?_,by rw[List.length_set];exact R.len,fun j d q=>?_,fun j es q=>?_,fun j k b hj hk e1 e2=>R.inj j k b (mui j hj).2 (mui k hk).2 e1 e2⟩,rl⟩
 ·have z:b≠a:=fun z=>w ⟨i,ds,h,by rw[z];exact e⟩
  refine⟨hb,by rw[c8 z];exact fb,fun⟨j,es,q,e1⟩=>?_⟩
  by_cases y:j=i
  ·subst y;rw[self]at q;cases q
  ·rw[oth j y]at q;exact w ⟨j,es,q,e1⟩
 ·have z:j≠i:=fun z=>by subst z;rw[h]at q;cases q
  exact⟨by rw[oth j z];exact q,rfl⟩
 ·by_cases z:b=a
  ·subst z;rw[h7]at q;cases q;exact hH
  ·rw[c8 z]at q;exact R.sub _ _ q
 ·by_cases z:j=i
  ·subst z;rw[self]at q;cases q;exact⟨_,e,rl⟩
  ·rw[oth j z]at q;obtain⟨v,e1,r1⟩:=R.fz j d q;exact⟨v,e1,r1.mono sF⟩
 ·have z:j≠i:=(mui j ⟨es,q⟩).1
  rw[oth j z]at q
  obtain⟨b,ys,e1,h1,f1,r1⟩:=R.mu j es q
  have nb:b≠a:=fun y=>z (R.inj j i b ⟨es,q⟩ ⟨ds,.inl h⟩ e1 (by rw[y];exact e))
  exact⟨b,ys,e1,h1,by rw[c8 nb];exact f1,r1.mono sF⟩
theorem Rel.put{i:Nat}{d:D}{v:V}(R:Rel K cl σ H F env)(hi:i<env.length)(nh:∀ds,env[i]?≠some (.hd ds))(r:Rp K cl F d v):Rel K cl (σ.set i (some v)) H F (env.set i (.fz d)):=by
 refine⟨R.sub,by rw[List.length_set,List.length_set];exact R.len,fun j e q=>?_,fun j es q=>?_,fun j k b hj hk e1 e2=>?_⟩
 ·by_cases z:j=i
  ·subst z
   rw[List.getElem?_set_self hi]at q;cases q
   exact⟨v,List.getElem?_set_self (by rw[R.len];exact hi),r⟩
  ·rw[List.getElem?_set_ne (Ne.symm z)]at q
   obtain⟨u,e1,r1⟩:=R.fz j e q
   exact⟨u,by rw[List.getElem?_set_ne (Ne.symm z)];exact e1,r1⟩
 ·have z:j≠i:=fun z=>by
   subst z
   rw[List.getElem?_set_self hi]at q
   rcases q with q | q<;>cases q
  rw[List.getElem?_set_ne (Ne.symm z)]at q
  obtain⟨a,xs,e1,h1,f1,r1⟩:=R.mu j es q
  exact⟨a,xs,by rw[List.getElem?_set_ne (Ne.symm z)];exact e1,h1,f1,r1⟩
 ·have nz:∀j,Mu (env.set i (.fz d)) j→j≠i∧Mu env j:=fun j ⟨es,q⟩=>by
   by_cases z:j=i
   ·subst z
    rw[List.getElem?_set_self hi]at q
    rcases q with q | q<;>cases q
   ·rw[List.getElem?_set_ne (Ne.symm z)]at q;exact⟨z,es,q⟩
  obtain⟨zj,mj⟩:=nz j hj
  obtain⟨zk,mk⟩:=nz k hk
  rw[List.getElem?_set_ne (Ne.symm zj)]at e1
  rw[List.getElem?_set_ne (Ne.symm zk)]at e2
  exact R.inj j k b mj mk e1 e2
theorem Rel.putO{i:Nat}{ds:List D}{a:Addr}{xs:List V}(R:Rel K cl σ H F env)(hi:i<env.length)(hH:H a=some (.lst xs))(hF:F a=none)(na:∀j,Mu env j→σ[j]?≠some (some (.ref a)))(r:Rps K cl F ds xs):Rel K cl (σ.set i (some (.ref a))) H F (env.set i (.ow ds)):=by
 have his:i<σ.length:=by rw[R.len];exact hi
 have nz:∀j,j≠i→Mu (env.set i (.ow ds)) j→Mu env j:=fun j z ⟨es,q⟩=>by
  rw[List.getElem?_set_ne (Ne.symm z)]at q;exact⟨es,q⟩
 refine⟨R.sub,by rw[List.length_set,List.length_set];exact R.len,fun j e q=>?_,fun j es q=>?_,fun j k b hj hk e1 e2=>?_⟩
 ·have z:j≠i:=fun z=>by subst z;rw[List.getElem?_set_self hi]at q;cases q
  rw[List.getElem?_set_ne (Ne.symm z)]at q
  obtain⟨u,e1,r1⟩:=R.fz j e q
  exact⟨u,by rw[List.getElem?_set_ne (Ne.symm z)];exact e1,r1⟩
 ·by_cases z:j=i
  ·subst z
   rw[List.getElem?_set_self hi]at q
   rcases q with q | q
   ·cases q;exact⟨a,xs,List.getElem?_set_self his,hH,hF,r⟩
   ·cases q
  ·rw[List.getElem?_set_ne (Ne.symm z)]at q
   obtain⟨b,ys,e1,h1,f1,r1⟩:=R.mu j es q
   exact⟨b,ys,by rw[List.getElem?_set_ne (Ne.symm z)];exact e1,h1,f1,r1⟩
 ·by_cases zj:j=i
  ·by_cases zk:k=i
   ·rw[zj,zk]
   ·subst zj
    rw[List.getElem?_set_self his]at e1
    rw[List.getElem?_set_ne (Ne.symm zk)]at e2
    cases e1
    exact absurd e2 (na k (nz k zk hk))
  ·rw[List.getElem?_set_ne (Ne.symm zj)]at e1
   by_cases zk:k=i
   ·subst zk
    rw[List.getElem?_set_self his]at e2
    cases e2
    exact absurd e1 (na j (nz j zj hj))
   ·rw[List.getElem?_set_ne (Ne.symm zk)]at e2
    exact R.inj j k b (nz j zj hj) (nz k zk hk) e1 e2
theorem Frm.put{i:Nat}{d:D}{x:Option V}(nh:∀ds,env[i]?≠some (.hd ds)):Frm σ H F env (σ.set i x) H F (env.set i (.fz d)):=by
 refine⟨Same.refl _,fun a o h f w=>⟨h,f,fun⟨j,ds,q,e⟩=>?_⟩,fun j ds q=>?_,fun _ h=>h⟩
 ·by_cases z:j=i
  ·subst z
   have hj:j<env.length:=by have:=(List.getElem?_eq_some_iff.mp q).1;rwa [List.length_set]at this
   rw[List.getElem?_set_self hj]at q
   cases q
  ·rw[List.getElem?_set_ne (Ne.symm z)]at q e
   exact w ⟨j,ds,q,e⟩
 ·have z:j≠i:=fun z=>by subst z;exact nh ds q
  rw[List.getElem?_set_ne (Ne.symm z),List.getElem?_set_ne (Ne.symm z)]
  exact⟨q,rfl⟩
theorem Frm.putO{i:Nat}{es:List D}{a:Addr}(f:Frm σ H F env σ' H' F' env')(ha:H a=none)(nh:∀ds,env'[i]?≠some (.hd ds)):Frm σ H F env (σ'.set i (some (.ref a))) H' F' (env'.set i (.ow es)):=by
 refine⟨f.fz,fun b o h g w=>?_,fun j ds q=>?_,f.dom⟩
 ·obtain⟨h1,f1,w1⟩:=f.hid b o h g w
  refine⟨h1,f1,fun⟨j,ds,q,e⟩=>?_⟩
  by_cases z:j=i
  ·subst z
   have hj:j<σ'.length:=by have:=(List.getElem?_eq_some_iff.mp e).1;rwa [List.length_set]at this
   rw[List.getElem?_set_self hj]at e
   cases e
   rw[ha]at h;cases h
  ·rw[List.getElem?_set_ne (Ne.symm z)]at q e
   exact w1 ⟨j,ds,q,e⟩
 ·obtain⟨q1,e1⟩:=f.keep j ds q
  have z:j≠i:=fun z=>by subst z;exact nh ds q1
  rw[List.getElem?_set_ne (Ne.symm z),List.getElem?_set_ne (Ne.symm z)]
  exact⟨q1,e1⟩
end
inductive R(α:Type) where | ok (a:α) (e:DE) | ex (c:Str)
inductive RS where | nx (e:DE) | rt (d:D) | ro (ds:List D) | rz (dss:List (List D)) | bk (e:DE) | ct (e:DE) | ex (c:Str)
def bnd{α β:Type}(x:Option (R α))(k:α→DE→Option (R β)):Option (R β):=match x with
 | none=>none
 | some (.ok a e)=>k a e
 | some (.ex c)=>some (.ex c)
def I0{α:Type}(x:Option (R α))(k:α→DE→Option RS):Option RS:=match x with
 | none=>none
 | some (.ok a e)=>k a e
 | some (.ex c)=>some (.ex c)
def P8{α:Type}(x:Option α)(e:DE):Option (R α):=match x with
 | none=>none
 | some a=>some (.ok a e)
@[simp] theorem W6{α β:Type}(a:α)(e:DE)(k:α→DE→Option (R β)):bnd (some (.ok a e)) k=k a e:=rfl
@[simp] theorem b1d{α β:Type}(c:Str)(k:α→DE→Option (R β)):bnd (some (.ex c)) k=some (.ex c):=rfl
@[simp] theorem b1e{α β:Type}(k:α→DE→Option (R β)):bnd (none:Option (R α)) k=none:=rfl
@[simp] theorem S4{α:Type}(a:α)(e:DE)(k:α→DE→Option RS):I0 (some (.ok a e)) k=k a e:=rfl
@[simp] theorem b1f{α:Type}(c:Str)(k:α→DE→Option RS):I0 (some (.ex c)) k=some (.ex c):=rfl
@[simp] theorem b1g{α:Type}(k:α→DE→Option RS):I0 (none:Option (R α)) k=none:=rfl
@[simp] theorem Y4{α:Type}(a:α)(e:DE):P8 (some a) e=some (.ok a e):=rfl
@[simp] theorem Y5{α:Type}(e:DE):P8 (none:Option α) e=none:=rfl
structure FX(σ:St)(H F:Hp)(env:DE)(H' F':Hp):Prop where
 fz:Same F F'
 sub:Same F' H'
 hid:∀a o,H a=some o→F a=none→¬Ow σ env a→H' a=some o∧F' a=none
 dom:∀a,H' a=none→H a=none
section
variable {K:W.Frag}{cl:Str→Addr}{E:XK}{σ σ':St}{H H' H1 F F' F1:Hp}{env env' env1:DE}{α β γ δ:Type}
theorem Frm.fx{H2 F2:Hp}(a:Frm σ H F env σ' H1 F1 env1)(b:FX σ' H1 F1 env1 H2 F2):FX σ H F env H2 F2 :=
 ⟨a.fz.trans b.fz,b.sub,fun x o h f w=>by obtain⟨h1,f1,w1⟩:=a.hid x o h f w;exact b.hid x o h1 f1 w1,fun x h=>a.dom x (b.dom x h)⟩
theorem Frm.toFX(a:Frm σ H F env σ' H1 F1 env1)(s:Same F1 H1):FX σ H F env H1 F1:=⟨a.fz,s,fun x o h f w=>by obtain⟨h1,f1,_⟩:=a.hid x o h f w;exact⟨h1,f1⟩,a.dom⟩
abbrev Py(α β:Type):=α→St→Hp→Hp→Hp→DE→β→Prop
def PM(P:Py α β):Prop:=∀a σ H0 H1 H' F' e b,(∀x:Addr,H1 x=none→H0 x=none)→P a σ H1 H' F' e b→P a σ H0 H' F' e b
def Ct(K:W.Frag)(cl:Str→Addr)(E:XK)(P:Py α β)(r:Option (R α))(σ:St)(H F:Hp)(env:DE)(Q:β→Hp→Prop):Prop:=match r with
 | none=>False
 | some (.ok a e)=>∀b H' F',Frm σ H F env σ H' F' e→Rel K cl σ H' F' e→P a σ H H' F' e b→Q b H'
 | some (.ex c)=>∀H' F',FX σ H F env H' F'→E (.ref (cl c)) none H'
def Rz(K:W.Frag)(cl:Str→Addr)(F' H':Hp)(nw:Addr→Prop)(dss:List (List D))(as:List Addr):Prop:=as.Nodup∧as.length=dss.length∧∀(k:Nat) (a:Addr) (ds:List D),as[k]? = some a→dss[k]? = some ds→∃xs,H' a=some (.lst xs)∧F' a=none∧nw a∧Rps K cl F' ds xs
theorem Rz.imp{nw nw':Addr→Prop}{dss:List (List D)}{as:List Addr}(h:Rz K cl F' H' nw dss as)(i:∀a xs,H' a=some (.lst xs)→F' a=none→nw a→nw' a):Rz K cl F' H' nw' dss as :=
 ⟨h.1,h.2.1,fun k a ds e1 e2=>by obtain⟨xs,h1,h2,h3,h4⟩:=h.2.2 k a ds e1 e2;exact⟨xs,h1,h2,i a xs h1 h2 h3,h4⟩⟩
def Cs(K:W.Frag)(cl:Str→Addr)(E:XK)(r:Option RS)(σ:St)(H F:Hp)(env:DE)(N:Ends):Prop:=match r with
 | none=>False
 | some (.nx e)=>∀σ' H' F',Frm σ H F env σ' H' F' e→Rel K cl σ' H' F' e→N.nx σ' H'
 | some (.bk e)=>∀σ' H' F',Frm σ H F env σ' H' F' e→Rel K cl σ' H' F' e→N.bk σ' H'
 | some (.ct e)=>∀σ' H' F',Frm σ H F env σ' H' F' e→Rel K cl σ' H' F' e→N.ct σ' H'
 | some (.rt d)=>∀v H' F',FX σ H F env H' F'→Rp K cl F' d v→N.rt v H'
 | some (.ro ds)=>∀a xs H' F',FX σ H F env H' F'→H' a=some (.lst xs)→F' a=none→(∀o,H a=some o→Ow σ env a)→Rps K cl F' ds xs→N.rt (.ref a) H'
 | some (.rz dss)=>∀p as H' F',FX σ H F env H' F'→H p=none→H' p=some (.tup (as.map V.ref))→F' p=none→Rz K cl F' H' (fun a=>∀o,H a=some o→Ow σ env a) dss as→N.rt (.ref p) H'
 | some (.ex c)=>∀H' F',FX σ H F env H' F'→E (.ref (cl c)) none H'
theorem Ct.mono{P:Py α β}{r:Option (R α)}{Q Q':β→Hp→Prop}(h:Ct K cl E P r σ H F env Q)(q:∀b H',Q b H'→Q' b H'):Ct K cl E P r σ H F env Q':=by
 unfold Ct at h ⊢
 split at h
 ·exact h
 ·exact fun b H' F' f R p=>q _ _ (h b H' F' f R p)
 ·exact h
theorem Ct.from{P2:Py γ δ}{r:Option (R γ)}{Q:δ→Hp→Prop}(f:Frm σ H F env σ H1 F1 env1)(pm:PM P2)(h:Ct K cl E P2 r σ H F env Q):Ct K cl E P2 r σ H1 F1 env1 Q:=by
 unfold Ct at h ⊢
 split at h
 ·exact h
 ·exact fun b H' F' f2 R2 p2=>h b H' F' (f.trans f2) R2 (pm _ _ _ _ _ _ _ _ f.dom p2)
 ·exact fun H' F' x=>h H' F' (f.fx x)
theorem Ct.bnd{P1:Py α β}{P2:Py γ δ}{r:Option (R α)}{k:α→DE→Option (R γ)}{Q:δ→Hp→Prop}(h:Ct K cl E P2 (bnd r k) σ H F env Q)(pm:PM P2) :
  Ct K cl E P1 r σ H F env fun b H1=>∃F1 env1 a,Same F F1∧Rel K cl σ H1 F1 env1∧P1 a σ H H1 F1 env1 b∧Ct K cl E P2 (k a env1) σ H1 F1 env1 Q:=by
 unfold Ct
 rcases r with _ | ⟨a,e⟩ | c
 ·exact h
 ·intro b H1 F1 f R p
  refine⟨F1,e,a,f.fz,R,p,?_⟩
  have h:Ct K cl E P2 (k a e) σ H F env Q:=h
  exact Ct.from f pm h
 ·exact h
theorem Cs.from{r:Option RS}{N:Ends}(f:Frm σ H F env σ' H1 F1 env1)(h:Cs K cl E r σ H F env N):Cs K cl E r σ' H1 F1 env1 N:=by
 unfold Cs at h ⊢
 split at h
 ·exact h
 ·exact fun σ' H' F' f2 R2=>h σ' H' F' (f.trans f2) R2
 ·exact fun σ' H' F' f2 R2=>h σ' H' F' (f.trans f2) R2
 ·exact fun σ' H' F' f2 R2=>h σ' H' F' (f.trans f2) R2
 ·exact fun v H' F' x p=>h v H' F' (f.fx x) p
 ·refine fun a xs H' F' x ha fa nw p=>h a xs H' F' (f.fx x) ha fa (fun o e=>?_) p
  refine Classical.byContradiction fun w=>?_
  cases q:F a with
  | none =>
   obtain⟨h1,f1,w1⟩:=f.hid a o e q w
   exact w1 (nw o h1)
  | some u=>rw[x.fz _ _ (f.fz _ _ q)]at fa;cases fa
 ·refine fun p as H' F' x hp ht fp rz=>h p as H' F' (f.fx x) (f.dom p hp) ht fp (rz.imp fun a xs ha fa nw o e=>?_)
  refine Classical.byContradiction fun w=>?_
  cases q:F a with
  | none =>
   obtain⟨h1,f1,w1⟩:=f.hid a o e q w
   exact w1 (nw o h1)
  | some u=>rw[x.fz _ _ (f.fz _ _ q)]at fa;cases fa
 ·exact fun H' F' x=>h H' F' (f.fx x)
theorem Cs.bnd{P1:Py α β}{r:Option (R α)}{k:α→DE→Option RS}{N:Ends}(h:Cs K cl E (I0 r k) σ H F env N) :
  Ct K cl E P1 r σ H F env fun b H1=>∃F1 env1 a,Frm σ H F env σ H1 F1 env1∧Rel K cl σ H1 F1 env1∧P1 a σ H H1 F1 env1 b∧Cs K cl E (k a env1) σ H F env N:=by
 unfold Ct
 rcases r with _ | ⟨a,e⟩ | c
 ·exact h
 ·intro b H1 F1 f R p
  exact⟨F1,e,a,f,R,p,h⟩
 ·exact h
end
def PZ(K:W.Frag)(cl:Str→Addr):Py D V:=fun d _ _ _ F' _ v=>Rp K cl F' d v
def PAs(K:W.Frag)(cl:Str→Addr):Py (List D) (List V):=fun ds _ _ _ F' _ vs=>Rps K cl F' ds vs
def PB:Py Bool Bool:=fun b _ _ _ _ _ c=>c=b
def PI':Py (Option Int) (Option Int):=fun b _ _ _ _ _ c=>c=b
def PN(K:W.Frag)(cl:Str→Addr):Py (List D) V:=fun ds σ H H' F' e v=>∃a xs,v=.ref a∧H a=none∧H' a=some (.lst xs)∧F' a=none∧(∀j,Mu e j→σ[j]?≠some (some (.ref a)))∧Rps K cl F' ds xs
theorem O9{K cl}:PM (PZ K cl):=fun _ _ _ _ _ _ _ _ _ h=>h
theorem b1h{K cl}:PM (PAs K cl):=fun _ _ _ _ _ _ _ _ _ h=>h
theorem a5o:PM PB:=fun _ _ _ _ _ _ _ _ _ h=>h
theorem b2E:PM PI':=fun _ _ _ _ _ _ _ _ _ h=>h
theorem V1{K cl}:PM (PN K cl):=fun _ _ _ _ _ _ _ _ g ⟨a,xs,e,h,r⟩=>⟨a,xs,e,g a h,r⟩
abbrev ZF:=DE→Option (R D)
abbrev NF:=DE→Option (R (List D))
abbrev AF:=DE→Option (R (List D))
abbrev BF:=DE→Option (R Bool)
abbrev OF:=DE→Option (R (Option Int))
abbrev SF:=DE→Option RS
section
variable (K:W.Frag)(cl:Str→Addr)(E:XK)
def k9(t:TE)(f:ZF):Prop:=∀σ H Q env F,Rel K cl σ H F env→Ct K cl E (PZ K cl) (f env) σ H F env Q→t σ H Q
def S5(t:TE)(f:NF):Prop:=∀σ H Q env F,Rel K cl σ H F env→Ct K cl E (PN K cl) (f env) σ H F env Q→t σ H Q
def U0(t:TA)(f:AF):Prop:=∀σ H Q env F,Rel K cl σ H F env→Ct K cl E (PAs K cl) (f env) σ H F env Q→t σ H Q
def J3(t:TT)(f:BF):Prop:=∀σ H Q env F,Rel K cl σ H F env→Ct K cl E PB (f env) σ H F env Q→t σ H Q
def RfO(t:TO)(f:OF):Prop:=∀σ H Q env F,Rel K cl σ H F env→Ct K cl E PI' (f env) σ H F env Q→t σ H Q
def RfS(t:TS)(f:SF):Prop:=∀(N:Ends) σ H env F,Rel K cl σ H F env→Cs K cl E (f env) σ H F env N→t N σ H
end
def eC(d:D):ZF:=fun e=>some (.ok d e)
def eV(i:Nat):ZF:=fun e=>match e[i]? with
 | some (.fz d)=>some (.ok d e)
 | some (.ow ds)=>some (.ok (.lst ds) (e.set i (.fz (.lst ds))))
 | _=>none
def look(e:DE)(i:Nat):Option D:=match e[i]? with
 | some (.fz d)=>some d
 | some (.ow ds)=>some (.lst ds)
 | some (.hd ds)=>some (.lst ds)
 | _=>none
def Rb(K:W.Frag)(cl:Str→Addr)(F H:Hp)(d:D)(v:V):Prop:=Rp K cl F d v∨∃a xs ds,v=.ref a∧d=.lst ds∧H a=some (.lst xs)∧Rps K cl F ds xs
section
variable {K:W.Frag}{cl:Str→Addr}{E:XK}{σ:St}{H F:Hp}{env:DE}
theorem Rel.look{i:Nat}{d:D}(R:Rel K cl σ H F env)(h:look env i=some d):∃v,σ[i]? = some (some v)∧Rb K cl F H d v:=by
 unfold L2.look at h
 split at h
 ·rename_i q;cases h;obtain⟨v,e,r⟩:=R.fz i d q;exact⟨v,e,.inl r⟩
 ·rename_i ds q;cases h;obtain⟨a,xs,e,hH,_,r⟩:=R.mu i ds (.inl q);exact⟨_,e,.inr ⟨a,xs,ds,rfl,rfl,hH,r⟩⟩
 ·rename_i ds q;cases h;obtain⟨a,xs,e,hH,_,r⟩:=R.mu i ds (.inr q);exact⟨_,e,.inr ⟨a,xs,ds,rfl,rfl,hH,r⟩⟩
 ·cases h
theorem b9{v:V}{d:D}(h:∀F,Rp K cl F d v:=by intro F;simp only[Rp]):k9 K cl E (tC v) (eC d):=fun σ H Q env F R h'=>h' v H F Frm.refl R (h F)
theorem a8{i:Nat}:k9 K cl E (E6 i) (eV i):=by
 intro σ H Q env F R h
 unfold eV at h
 split at h
 ·rename_i d q
  obtain⟨v,e,r⟩:=R.fz i d q
  exact⟨v,e,h v H F Frm.refl R r⟩
 ·rename_i ds q
  obtain⟨a,F',e,fr,R',r⟩:=R.freeze q
  exact⟨_,e,h _ H F' fr R' r⟩
 ·exact h.elim
end
def OpOk(K:W.Frag)(cl:Str→Addr)(r:R2)(g:D→D→Option D):Prop:=∀x y d e z H F Q,Same F H→Rb K cl F H d x→Rb K cl F H e y→g d e=some z→(∀v H' F',Gr H F H' F'→Rp K cl F' z v→Q v H')→r x y H Q
def eB(g:D→D→Option D)(f k:ZF):ZF:=fun e=>bnd (f e) fun d e1=>bnd (k e1) fun d' e2=>P8 (g d d') e2
def A1(g:D→D→Option D)(i:Nat)(k:ZF):ZF:=fun e=>match look e i with
 | none=>none
 | some _=>bnd (k e) fun d' e2=>match look e2 i with
  | some d=>P8 (g d d') e2
  | none=>none
def eBW(g:D→D→Option D)(f:ZF)(j:Nat):ZF:=fun e=>bnd (f e) fun d e2=>match look e2 j with
 | some d'=>P8 (g d d') e2
 | none=>none
def a19(g:D→D→Option D)(i j:Nat):ZF:=fun e=>match look e i,look e j with
 | some d,some d'=>P8 (g d d') e
 | _,_=>none
section
variable {K:W.Frag}{cl:Str→Addr}{E:XK}{r:R2}{g:D→D→Option D}{ta tb:TE}{f k:ZF}{i j:Nat}
theorem OpOk.fin{σ:St}{H F:Hp}{env:DE}{x y:V}{d e:D}{Q:VK}(ok:OpOk K cl r g)(R:Rel K cl σ H F env)(hx:Rb K cl F H d x)(hy:Rb K cl F H e y)(h:Ct K cl E (PZ K cl) (P8 (g d e) env) σ H F env Q):r x y H Q:=by
 cases hz:g d e with
 | none=>rw[hz]at h;exact h.elim
 | some z =>
  rw[hz]at h
  exact ok x y d e z H F Q R.sub hx hy hz fun v H' F' gr p=>h v H' F' (R.frm gr) (R.gr gr) p
theorem a9(ok:OpOk K cl r g)(ha:k9 K cl E ta f)(hb:k9 K cl E tb k):k9 K cl E (tOp r ta tb) (eB g f k):=by
 intro σ H Q env F R h
 refine ha σ H _ env F R ((Ct.bnd h O9).mono fun x H1 ⟨F1,e1,d,s1,R1,p1,h1⟩=>?_)
 refine hb σ H1 _ e1 F1 R1 ((Ct.bnd h1 O9).mono fun y H2 ⟨F2,e2,e,s2,R2,p2,h2⟩=>?_)
 exact ok.fin R2 (.inl (Rp.mono s2 _ _ p1)) (.inl p2) h2
theorem A3(ok:OpOk K cl r g)(hb:k9 K cl E tb k):k9 K cl E (tOp r (E6 i) tb) (A1 g i k):=by
 intro σ H Q env F R h
 unfold A1 at h
 cases q:look env i with
 | none=>rw[q]at h;exact h.elim
 | some d0 =>
  rw[q]at h
  obtain⟨x,e0,_⟩:=R.look q
  refine⟨x,e0,hb σ H _ env F R ((Ct.bnd h O9).mono fun y H2 ⟨F2,e2,e,s2,R2,p2,h2⟩=>?_)⟩
  cases q2:look e2 i with
  | none=>rw[q2]at h2;exact h2.elim
  | some d =>
   rw[q2]at h2
   obtain⟨x',e',rb⟩:=R2.look q2
   rw[e0]at e';cases e'
   exact ok.fin R2 rb (.inl p2) h2
theorem b1j(ok:OpOk K cl r g)(ha:k9 K cl E ta f):k9 K cl E (tOp r ta (E6 j)) (eBW g f j):=by
 intro σ H Q env F R h
 refine ha σ H _ env F R ((Ct.bnd h O9).mono fun x H1 ⟨F1,e1,d,s1,R1,p1,h1⟩=>?_)
 cases q:look e1 j with
 | none=>rw[q]at h1;exact h1.elim
 | some d' =>
  rw[q]at h1
  obtain⟨y,e,rb⟩:=R1.look q
  exact⟨y,e,ok.fin R1 (.inl p1) rb h1⟩
theorem a9x(ok:OpOk K cl r g):k9 K cl E (tOp r (E6 i) (E6 j)) (a19 g i j):=by
 intro σ H Q env F R h
 unfold a19 at h
 cases q:look env i with
 | none=>rw[q]at h;exact h.elim
 | some d =>
  cases q2:look env j with
  | none=>rw[q,q2]at h;exact h.elim
  | some d' =>
   rw[q,q2]at h
   obtain⟨x,e,rb⟩:=R.look q
   obtain⟨y,e',rb'⟩:=R.look q2
   exact⟨x,e,y,e',ok.fin R rb rb' h⟩
end
section
variable {K:W.Frag}{cl:Str→Addr}{E:XK}
theorem Rb.int{F H:Hp}{i:Int}{v:V}(h:Rb K cl F H (.int i) v):v=.int i:=by
 rcases h with h | ⟨_,_,_,_,z,_⟩
 ·simpa only[Rp]using h
 ·cases z
theorem Rb.bl{F H:Hp}{i:Bool}{v:V}(h:Rb K cl F H (.bl i) v):v=.bl i:=by
 rcases h with h | ⟨_,_,_,_,z,_⟩
 ·simpa only[Rp]using h
 ·cases z
theorem Rb.str{F H:Hp}{i:Str}{v:V}(h:Rb K cl F H (.str i) v):v=.str i:=by
 rcases h with h | ⟨_,_,_,_,z,_⟩
 ·simpa only[Rp]using h
 ·cases z
theorem Rb.non{F H:Hp}{v:V}(h:Rb K cl F H .non v):v=.non:=by
 rcases h with h | ⟨_,_,_,_,z,_⟩
 ·simpa only[Rp]using h
 ·cases z
theorem Rb.lst{F H:Hp}{ds:List D}{v:V}(s:Same F H)(h:Rb K cl F H (.lst ds) v):∃a xs,v=.ref a∧H a=some (.lst xs)∧Rps K cl F ds xs:=by
 rcases h with h | ⟨a,xs,ds',e,z,h,r⟩
 ·simp only[Rp]at h
  obtain⟨a,xs,e,h,r⟩:=h
  exact⟨a,xs,e,s _ _ h,r⟩
 ·cases z;exact⟨a,xs,e,h,r⟩
theorem Rb.tup{F H:Hp}{ds:List D}{v:V}(s:Same F H)(h:Rb K cl F H (.tup ds) v):∃a xs,v=.ref a∧H a=some (.tup xs)∧Rps K cl F ds xs:=by
 rcases h with h | ⟨_,_,_,_,z,_⟩
 ·simp only[Rp]at h
  obtain⟨a,xs,e,h,r⟩:=h
  exact⟨a,xs,e,s _ _ h,r⟩
 ·cases z
theorem Rb.scr{F H:Hp}{ns:List Int}{v:V}(s:Same F H)(h:Rb K cl F H (.scr ns) v):∃a,v=.ref a∧Scr K H a (ns.map V.int):=by
 rcases h with h | ⟨_,_,_,_,z,_⟩
 ·simp only[Rp]at h
  obtain⟨a,e,h⟩:=h
  exact⟨a,e,h.same s⟩
 ·cases z
def gI(C:Int→Int→Prop) [∀i j,Decidable (C i j)] (g:Int→Int→D):D→D→Option D
 | .int i,.int j=>if C i j then some (g i j)else none
 | _,_=>none
def gI0(g:Int→Int→D):D→D→Option D
 | .int i,.int j=>some (g i j)
 | _,_=>none
theorem a5p{C:Int→Int→Prop} [∀i j,Decidable (C i j)] {g:Int→Int→V} {g':Int→Int→D} (hg:∀F i j,Rp K cl F (g' i j) (g i j)):OpOk K cl (rI C g) (gI C g'):=by
 intro x y d e z H F Q s hx hy h q
 unfold gI at h
 split at h
 ·rename_i i j
  split at h
  ·rename_i c;cases h
   exact⟨i,j,hx.int,hy.int,c,q _ H F (.refl s) (hg F i j)⟩
  ·cases h
 ·cases h
theorem a1D{g:Int→Int→V}{g':Int→Int→D}(hg:∀F i j,Rp K cl F (g' i j) (g i j)):OpOk K cl (V9 g) (gI0 g'):=by
 intro x y d e z H F Q s hx hy h q
 unfold gI0 at h
 split at h
 ·rename_i i j
  cases h
  exact⟨i,j,hx.int,hy.int,q _ H F (.refl s) (hg F i j)⟩
 ·cases h
end
section
variable {K:W.Frag}{cl:Str→Addr}{E:XK}{σ:St}{H F:Hp}{env:DE}
theorem Rel.newN{p:Addr}{o:HO}(R:Rel K cl σ H F env)(hp:H p=none):Rel K cl σ (upd H p o) F env∧Frm σ H F env σ (upd H p o) F env:=by
 have fp:F p=none:=R.sub.free hp
 have ne:∀a u,H a=some u→a≠p:=fun a u h z=>by rw[z,hp]at h;cases h
 refine⟨⟨R.sub.trans (S1 hp _),R.len,R.fz,fun i ds h=>?_,R.inj⟩,⟨Same.refl _,fun a u h f w=>?_,fun _ _ h=>⟨h,rfl⟩,fun a h=>?_⟩⟩
 ·obtain⟨a,xs,e,hH,hF,r⟩:=R.mu i ds h
  exact⟨a,xs,e,by rw[c8 (ne _ _ hH)];exact hH,hF,r⟩
 ·exact⟨by rw[c8 (ne _ _ h)];exact h,f,w⟩
 ·by_cases z:a=p
  ·rw[z];exact hp
  ·rw[c8 z]at h;exact h
theorem Ct.newN{p:Addr}{xs:List V}{ds:List D}{Q:VK}(R:Rel K cl σ H F env)(hp:H p=none)(r:Rps K cl F ds xs)(h:Ct K cl E (PN K cl) (some (.ok ds env)) σ H F env Q):Q (.ref p) (upd H p (.lst xs)):=by
 obtain⟨R',f⟩:=R.newN (o:=.lst xs) hp
 refine h _ _ F f R' ⟨p,xs,rfl,hp,h7,R.sub.free hp,fun j mj e=>?_,r⟩
 obtain⟨ds',q⟩:=mj
 obtain⟨a,ys,e1,hH,_⟩:=R.mu j ds' q
 rw[e]at e1;cases e1
 rw[hp]at hH;cases hH
def zN(f:NF):ZF:=fun e=>bnd (f e) fun ds e1=>some (.ok (.lst ds) e1)
theorem u0{t:TE}{f:NF}(h:S5 K cl E t f):k9 K cl E t (zN f):=by
 intro σ H Q env F R q
 refine h σ H Q env F R ?_
 unfold zN at q
 rcases hf:f env with _ | ⟨ds,e1⟩ | c
 ·rw[hf]at q;exact q
 ·rw[hf]at q
  rintro b H' F' fr R' ⟨a,xs,rfl,hn,hH,hF,nm,r⟩
  have sF:Same F' (upd F' a (.lst xs)):=S1 hF _
  refine q _ H' (upd F' a (.lst xs)) ⟨fr.fz.trans sF,fun b o hb fb w=>?_,fr.keep,fr.dom⟩ ⟨fun b o z=>?_,R'.len,fun i d z=>?_,fun i es z=>?_,R'.inj⟩ (by show Rp K cl _ (.lst ds) _;simp only[Rp];exact⟨a,xs,rfl,h7,r.mono sF⟩)
  ·obtain⟨h1,f1,w1⟩:=fr.hid b o hb fb w
   have nb:b≠a:=fun z=>by rw[z,hn]at hb;cases hb
   exact⟨h1,by rw[c8 nb];exact f1,w1⟩
  ·by_cases y:b=a
   ·subst y;rw[h7]at z;cases z;exact hH
   ·rw[c8 y]at z;exact R'.sub _ _ z
  ·obtain⟨v,e,r1⟩:=R'.fz i d z
   exact⟨v,e,r1.mono sF⟩
  ·obtain⟨b,ys,e,h1,f1,r1⟩:=R'.mu i es z
   have nb:b≠a:=fun y=>nm i ⟨es,z⟩ (by rw[e,y])
   exact⟨b,ys,e,h1,by rw[c8 nb];exact f1,r1.mono sF⟩
 ·rw[hf]at q;exact q
def aN:AF:=fun e=>some (.ok [] e)
def aC(f:ZF)(k:AF):AF:=fun e=>bnd (f e) fun d e1=>bnd (k e1) fun ds e2=>some (.ok (d::ds) e2)
theorem d6:U0 K cl E a0j aN:=fun σ H Q env F R h=>h [] H F Frm.refl R .nil
theorem b0{te:TE}{ta:TA}{f:ZF}{k:AF}(hf:k9 K cl E te f)(hk:U0 K cl E ta k):U0 K cl E (Q4 te ta) (aC f k):=by
 intro σ H Q env F R h
 refine hf σ H _ env F R ((Ct.bnd h b1h).mono fun x H1 ⟨F1,e1,d,s1,R1,p1,h1⟩=>?_)
 refine hk σ H1 _ e1 F1 R1 ((Ct.bnd h1 b1h).mono fun xs H2 ⟨F2,e2,ds,s2,R2,p2,h2⟩=>?_)
 exact h2 (x::xs) H2 F2 Frm.refl R2 (.cons (Rp.mono s2 _ _ p1) p2)
def eT(f:AF):ZF:=fun e=>bnd (f e) fun ds e1=>if ds.length≤sizeLine then some (.ok (.tup ds) e1)else none
def eL(f:AF):NF:=fun e=>bnd (f e) fun ds e1=>if ds.length≤sizeLine then some (.ok ds e1)else none
theorem C0{ta:TA}{f:AF}(hf:U0 K cl E ta f):k9 K cl E (b0Q ta) (eT f):=by
 intro σ H Q env F R h
 refine hf σ H _ env F R ((Ct.bnd h O9).mono fun xs H1 ⟨F1,e1,ds,s1,R1,p1,h1⟩=>?_)
 have hl:ds.length=xs.length:=Rps.length p1
 split at h1
 ·rename_i z
  refine⟨by rw[← hl];exact z,fun p hp=>?_⟩
  have g:Gr H1 F1 (upd H1 p (.tup xs)) (upd F1 p (.tup xs)):=.new R1.sub hp
  exact h1 _ _ _ (R1.frm g) (R1.gr g) (by show Rp K cl _ (.tup ds) _;simp only[Rp];exact⟨p,xs,rfl,h7,Rps.mono g.fz _ _ p1⟩)
 ·exact h1.elim
theorem P3{ta:TA}{f:AF}(hf:U0 K cl E ta f):S5 K cl E (b0R ta) (eL f):=by
 intro σ H Q env F R h
 refine hf σ H _ env F R ((Ct.bnd h V1).mono fun xs H1 ⟨F1,e1,ds,s1,R1,p1,h1⟩=>?_)
 have hl:ds.length=xs.length:=Rps.length p1
 split at h1
 ·rename_i z
  exact⟨by rw[← hl];exact z,fun p hp=>Ct.newN R1 hp p1 h1⟩
 ·exact h1.elim
def bZ(f:ZF):BF:=fun e=>bnd (f e) fun d e1=>match d with
 | .bl b=>some (.ok b e1)
 | _=>none
theorem B6{t:TE}{f:ZF}(hf:k9 K cl E t f):J3 K cl E (tB t) (bZ f):=by
 intro σ H Q env F R h
 refine hf σ H _ env F R ((Ct.bnd h a5o).mono fun x H1 ⟨F1,e1,d,s1,R1,p1,h1⟩=>?_)
 split at h1
 ·rename_i b
  have:x=.bl b:=by have:=(show Rp K cl F1 (.bl b) x from p1);simpa only[Rp]using this
  exact⟨b,this,h1 b H1 F1 Frm.refl R1 rfl⟩
 ·exact h1.elim
theorem m3{t:TE}{f:ZF}(hf:k9 K cl E t f):J3 K cl E (a8R t) (bZ f):=B6 hf
def D2(f:BF):BF:=fun e=>bnd (f e) fun b e1=>some (.ok (!b) e1)
def K7(f k:BF):BF:=fun e=>bnd (f e) fun b e1=>if b=true then k e1 else some (.ok false e1)
def C5(f k:BF):BF:=fun e=>bnd (f e) fun b e1=>if b=true then some (.ok true e1)else k e1
theorem G0{t:TT}{f:BF}(hf:J3 K cl E t f):J3 K cl E (b0E t) (D2 f):=by
 intro σ H Q env F R h
 refine hf σ H _ env F R ((Ct.bnd h a5o).mono fun x H1 ⟨F1,e1,d,s1,R1,p1,h1⟩=>?_)
 cases (show x=d from p1)
 exact h1 _ H1 F1 Frm.refl R1 rfl
theorem M4{t u:TT}{f k:BF}(hf:J3 K cl E t f)(hk:J3 K cl E u k):J3 K cl E (b0D t u) (K7 f k):=by
 intro σ H Q env F R h
 refine hf σ H _ env F R ((Ct.bnd h a5o).mono fun x H1 ⟨F1,e1,d,s1,R1,p1,h1⟩=>?_)
 cases (show x=d from p1)
 by_cases z:x=true
 ·rw[if_pos z]at h1 ⊢;exact hk σ H1 Q e1 F1 R1 h1
 ·rw[if_neg z]at h1 ⊢;exact h1 _ H1 F1 Frm.refl R1 rfl
theorem E9{t u:TT}{f k:BF}(hf:J3 K cl E t f)(hk:J3 K cl E u k):J3 K cl E (tOr t u) (C5 f k):=by
 intro σ H Q env F R h
 refine hf σ H _ env F R ((Ct.bnd h a5o).mono fun x H1 ⟨F1,e1,d,s1,R1,p1,h1⟩=>?_)
 cases (show x=d from p1)
 by_cases z:x=true
 ·rw[if_pos z]at h1 ⊢;exact h1 _ H1 F1 Frm.refl R1 rfl
 ·rw[if_neg z]at h1 ⊢;exact hk σ H1 Q e1 F1 R1 h1
def a7W(f:ZF):ZF:=fun e=>bnd (f e) fun d e1=>match d with
 | .bl b=>some (.ok (.bl (!b)) e1)
 | _=>none
def a1_(f k:ZF):ZF:=fun e=>bnd (f e) fun d e1=>match d with
 | .bl b=>if b=true then k e1 else some (.ok (.bl false) e1)
 | _=>none
def eOr(f k:ZF):ZF:=fun e=>bnd (f e) fun d e1=>match d with
 | .bl b=>if b=true then some (.ok (.bl true) e1)else k e1
 | _=>none
theorem b1k{t:TE}{f:ZF}(hf:k9 K cl E t f):k9 K cl E (a8H t) (a7W f):=by
 intro σ H Q env F R h
 refine hf σ H _ env F R ((Ct.bnd h O9).mono fun x H1 ⟨F1,e1,d,s1,R1,p1,h1⟩=>?_)
 split at h1
 ·rename_i b
  have:x=.bl b:=by have:=(show Rp K cl F1 (.bl b) x from p1);simpa only[Rp]using this
  exact⟨b,this,h1 _ H1 F1 Frm.refl R1 (by show Rp K cl F1 (.bl _) _;simp only[Rp])⟩
 ·exact h1.elim
theorem a1E{t u:TE}{f k:ZF}(hf:k9 K cl E t f)(hk:k9 K cl E u k):k9 K cl E (a8G t u) (a1_ f k):=by
 intro σ H Q env F R h
 refine hf σ H _ env F R ((Ct.bnd h O9).mono fun x H1 ⟨F1,e1,d,s1,R1,p1,h1⟩=>?_)
 split at h1
 ·rename_i b
  have:x=.bl b:=by have:=(show Rp K cl F1 (.bl b) x from p1);simpa only[Rp]using this
  refine⟨b,this,?_⟩
  by_cases z:b=true
  ·rw[if_pos z]at h1 ⊢;exact hk σ H1 Q e1 F1 R1 h1
  ·rw[if_neg z]at h1 ⊢;exact h1 _ H1 F1 Frm.refl R1 (by show Rp K cl F1 (.bl _) _;simp only[Rp])
 ·exact h1.elim
theorem a5q{t u:TE}{f k:ZF}(hf:k9 K cl E t f)(hk:k9 K cl E u k):k9 K cl E (b0F t u) (eOr f k):=by
 intro σ H Q env F R h
 refine hf σ H _ env F R ((Ct.bnd h O9).mono fun x H1 ⟨F1,e1,d,s1,R1,p1,h1⟩=>?_)
 split at h1
 ·rename_i b
  have:x=.bl b:=by have:=(show Rp K cl F1 (.bl b) x from p1);simpa only[Rp]using this
  refine⟨b,this,?_⟩
  by_cases z:b=true
  ·rw[if_pos z]at h1 ⊢;exact h1 _ H1 F1 Frm.refl R1 (by show Rp K cl F1 (.bl _) _;simp only[Rp])
  ·rw[if_neg z]at h1 ⊢;exact hk σ H1 Q e1 F1 R1 h1
 ·exact h1.elim
def nIf(c:BF)(f k:NF):NF:=fun e=>bnd (c e) fun b e1=>if b=true then f e1 else k e1
theorem b1m{c:TT}{t u:TE}{b:BF}{f k:NF}(hc:J3 K cl E c b)(hf:S5 K cl E t f)(hk:S5 K cl E u k):S5 K cl E (tIf c t u) (nIf b f k):=by
 intro σ H Q env F R h
 refine hc σ H _ env F R ((Ct.bnd h V1).mono fun x H1 ⟨F1,e1,d,s1,R1,p1,h1⟩=>?_)
 cases (show x=d from p1)
 by_cases z:x=true
 ·rw[if_pos z]at h1 ⊢;exact hf σ H1 Q e1 F1 R1 h1
 ·rw[if_neg z]at h1 ⊢;exact hk σ H1 Q e1 F1 R1 h1
def b1n(K:W.Frag)(cl:Str→Addr)(r:V→Hp→VK→Prop)(g:D→Option D):Prop:=∀x d z H F Q,Same F H→Rb K cl F H d x→g d=some z→(∀v H' F',Gr H F H' F'→Rp K cl F' z v→Q v H')→r x H Q
def eU(g:D→Option D)(f:ZF):ZF:=fun e=>bnd (f e) fun d e1=>P8 (g d) e1
theorem b1o{r:V→Hp→VK→Prop}{g:D→Option D}{t:TE}{f:ZF}(ok:b1n K cl r g)(hf:k9 K cl E t f):k9 K cl E (tUn r t) (eU g f):=by
 intro σ H Q env F R h
 refine hf σ H _ env F R ((Ct.bnd h O9).mono fun x H1 ⟨F1,e1,d,s1,R1,p1,h1⟩=>?_)
 cases hz:g d with
 | none=>rw[hz]at h1;exact h1.elim
 | some z =>
  rw[hz]at h1
  exact ok x d z H1 F1 Q R1.sub (.inl p1) hz fun v H' F' gr p=>h1 v H' F' (R1.frm gr) (R1.gr gr) p
def a08:D→Option D
 | .int i=>some (.int (-i))
 | _=>none
theorem a6x:b1n K cl (rU fun i=>.int (-i)) a08:=by
 intro x d z H F Q s hx h q
 unfold a08 at h
 split at h
 ·rename_i i;cases h
  exact⟨i,hx.int,q _ H F (.refl s) (by simp only[Rp])⟩
 ·cases h
def a7X(K:W.Frag)(cl:Str→Addr)(r:List V→Hp→VK→Prop)(g:List D→Option D):Prop:=∀xs ds z H F Q,Same F H→Rps K cl F ds xs→g ds=some z→(∀v H' F',Gr H F H' F'→Rp K cl F' z v→Q v H')→r xs H Q
def CbOk1(K:W.Frag)(cl:Str→Addr)(r:List V→Hp→VK→Prop)(g:D→Option D):Prop:=∀x d z H F Q,Same F H→Rb K cl F H d x→g d=some z→(∀v H' F',Gr H F H' F'→Rp K cl F' z v→Q v H')→r [x] H Q
def W7(g:List D→Option D)(f:AF):ZF:=fun e=>bnd (f e) fun ds e1=>P8 (g ds) e1
def J0(g:D→Option D)(i:Nat):ZF:=fun e=>match look e i with
 | some d=>P8 (g d) e
 | none=>none
theorem a1F{r:List V→Hp→VK→Prop}{g:List D→Option D}{t:TA}{f:AF}(ok:a7X K cl r g)(hf:U0 K cl E t f):k9 K cl E (tCB r t) (W7 g f):=by
 intro σ H Q env F R h
 refine hf σ H _ env F R ((Ct.bnd h O9).mono fun x H1 ⟨F1,e1,d,s1,R1,p1,h1⟩=>?_)
 cases hz:g d with
 | none=>rw[hz]at h1;exact h1.elim
 | some z =>
  rw[hz]at h1
  exact ok x d z H1 F1 Q R1.sub p1 hz fun v H' F' gr p=>h1 v H' F' (R1.frm gr) (R1.gr gr) p
theorem Y6{r:List V→Hp→VK→Prop}{g:D→Option D}{i:Nat}(ok:CbOk1 K cl r g):k9 K cl E (tCB r (Q4 (E6 i) a0j)) (J0 g i):=by
 intro σ H Q env F R h
 unfold J0 at h
 cases q:look env i with
 | none=>rw[q]at h;exact h.elim
 | some d =>
  rw[q]at h
  obtain⟨x,e,rb⟩:=R.look q
  refine⟨x,e,?_⟩
  cases hz:g d with
  | none=>simp only[hz,Y5]at h;exact h.elim
  | some z =>
   simp only[hz,Y4]at h
   exact ok x d z H F Q R.sub rb hz fun v H' F' gr p=>h v H' F' (R.frm gr) (R.gr gr) p
def g1(g:D→Option D):List D→Option D
 | [d]=>g d
 | _=>none
theorem CbOk1.cb{r:List V→Hp→VK→Prop}{g:D→Option D}(ok:CbOk1 K cl r g):a7X K cl r (g1 g):=by
 intro xs ds z H F Q s hx h q
 unfold g1 at h
 split at h
 ·obtain⟨v,r,rfl,h1,h2⟩:=hx.inv
  rw[h2.inv0]
  exact ok v _ z H F Q s (.inl h1) h q
 ·cases h
def b1p(K:W.Frag)(cl:Str→Addr)(r:List V→Hp→VK→Prop)(g:D→Option (List D)):Prop:=∀x d zs H F Q,Same F H→Rb K cl F H d x→g d=some zs→(∀p xs,H p=none→Rps K cl F zs xs→Q (.ref p) (upd H p (.lst xs)))→r [x] H Q
def nCV(g:D→Option (List D))(i:Nat):NF:=fun e=>match look e i with
 | some d=>P8 (g d) e
 | none=>none
theorem a6y{r:List V→Hp→VK→Prop}{g:D→Option (List D)}{i:Nat}(ok:b1p K cl r g):S5 K cl E (tCB r (Q4 (E6 i) a0j)) (nCV g i):=by
 intro σ H Q env F R h
 unfold nCV at h
 cases q:look env i with
 | none=>rw[q]at h;exact h.elim
 | some d =>
  rw[q]at h
  obtain⟨x,e,rb⟩:=R.look q
  refine⟨x,e,?_⟩
  cases hz:g d with
  | none=>simp only[hz,Y5]at h;exact h.elim
  | some z =>
   simp only[hz,Y4]at h
   exact ok x d z H F Q R.sub rb hz fun p xs hp r=>Ct.newN R hp r h
def a7Y(K:W.Frag)(cl:Str→Addr)(r:R2)(g:D→D→Option (List D)):Prop:=∀x y d e zs H F Q,Same F H→Rb K cl F H d x→Rb K cl F H e y→g d e=some zs→(∀p xs,H p=none→Rps K cl F zs xs→Q (.ref p) (upd H p (.lst xs)))→r x y H Q
def nB(g:D→D→Option (List D))(f k:ZF):NF:=fun e=>bnd (f e) fun d e1=>bnd (k e1) fun d' e2=>P8 (g d d') e2
theorem a1H{r:R2}{g:D→D→Option (List D)}{ta tb:TE}{f k:ZF}(ok:a7Y K cl r g)(ha:k9 K cl E ta f)(hb:k9 K cl E tb k):S5 K cl E (tOp r ta tb) (nB g f k):=by
 intro σ H Q env F R h
 refine ha σ H _ env F R ((Ct.bnd h V1).mono fun x H1 ⟨F1,e1,d,s1,R1,p1,h1⟩=>?_)
 refine hb σ H1 _ e1 F1 R1 ((Ct.bnd h1 V1).mono fun y H2 ⟨F2,e2,e,s2,R2,p2,h2⟩=>?_)
 cases hz:g d e with
 | none=>rw[hz]at h2;exact h2.elim
 | some z =>
  rw[hz]at h2
  exact ok x y d e z H2 F2 Q R2.sub (.inl (Rp.mono s2 _ _ p1)) (.inl p2) hz fun p xs hp r=>Ct.newN R2 hp r h2
end
section
variable {K:W.Frag}{cl:Str→Addr}{E:XK}{σ:St}{H F:Hp}{env:DE}
instance decMul(i j:Int):Decidable (IntMulOk i j):=by unfold IntMulOk;infer_instance
instance decPow(i j:Int):Decidable (a1X i j):=by unfold a1X;infer_instance
abbrev n8:=gI0 fun i j=>.int (i+j)
abbrev x6:=gI IntMulOk fun i j=>.int (i*j)
abbrev v5:=gI (fun _ j=>0<j∧j.natAbs.log2<9000) fun i j=>.int (i/j)
abbrev n4:=gI (fun _ j=>0<j) fun i j=>.int (i%j)
abbrev J1:=gI a1X fun i j=>.int (i ^ j.toNat)
abbrev S6:=gI0 fun i j=>.bl (decide (i<j))
abbrev gLe:=gI0 fun i j=>.bl (decide (i≤j))
abbrev gGt:=gI0 fun i j=>.bl (decide (j<i))
abbrev gGe:=gI0 fun i j=>.bl (decide (j≤i))
theorem v7:OpOk K cl (V9 fun i j=>.int (i+j)) n8:=a1D fun F i j=>by simp only[Rp]
theorem W8:OpOk K cl (rI IntMulOk fun i j=>.int (i*j)) x6:=a5p fun F i j=>by simp only[Rp]
theorem E1:OpOk K cl (rI (fun _ j=>0<j∧j.natAbs.log2<9000) fun i j=>.int (i/j)) v5:=a5p fun F i j=>by simp only[Rp]
theorem z7:OpOk K cl (rI (fun _ j=>0<j) fun i j=>.int (i%j)) n4:=a5p fun F i j=>by simp only[Rp]
theorem W9:OpOk K cl (rI a1X fun i j=>.int (i ^ j.toNat)) J1:=a5p fun F i j=>by simp only[Rp]
theorem Y7:OpOk K cl (V9 fun i j=>.bl (decide (i<j))) S6:=a1D fun F i j=>by simp only[Rp]
theorem a0B:OpOk K cl (V9 fun i j=>.bl (decide (i≤j))) gLe:=a1D fun F i j=>by simp only[Rp]
theorem a8Y:OpOk K cl (V9 fun i j=>.bl (decide (j<i))) gGt:=a1D fun F i j=>by simp only[Rp]
theorem a8Z:OpOk K cl (V9 fun i j=>.bl (decide (j≤i))) gGe:=a1D fun F i j=>by simp only[Rp]
def toV:D→Option V
 | .non=>some .non
 | .bl b=>some (.bl b)
 | .int i=>some (.int i)
 | .str x=>some (.str x)
 | _=>none
theorem Rb.toV{d:D}{v u:V}(h:Rb K cl F H d v)(e:toV d=some u):v=u:=by
 cases d with
 | non=>cases e;exact h.non
 | bl b=>cases e;exact h.bl
 | int i=>cases e;exact h.int
 | str x=>cases e;exact h.str
 | _=>cases e
def C1(neg:Bool)(d e:D):Option D:=match toV d,toV e with
 | some x,some y=>if a49 x y=true then some (.bl (if neg then !decide (x=y)else decide (x=y)))else none
 | _,_=>none
theorem Y8:OpOk K cl rEq (C1 false):=by
 intro x y d e z H F Q s hx hy h q
 unfold C1 at h
 split at h
 ·rename_i u w hu hw
  split at h
  ·rename_i c;cases h
   rw[hx.toV hu,hy.toV hw]
   exact⟨c,q _ H F (.refl s) (by simp only[Rp];rfl)⟩
  ·cases h
 ·cases h
theorem a29:OpOk K cl rNe (C1 true):=by
 intro x y d e z H F Q s hx hy h q
 unfold C1 at h
 split at h
 ·rename_i u w hu hw
  split at h
  ·rename_i c;cases h
   rw[hx.toV hu,hy.toV hw]
   exact⟨c,q _ H F (.refl s) (by simp only[Rp];rfl)⟩
  ·cases h
 ·cases h
@[simp] theorem a9y(neg:Bool)(a b:Int):C1 neg (.int a) (.int b)=some (.bl (if neg then !decide (a=b)else decide (a=b))):=by
 unfold C1 toV
 simp only[a49,if_true,V.int.injEq]
def F5(neg:Bool)(d e:D):Option D:=match d,e with
 | .non,.non=>some (.bl (!neg))
 | _,.non=>some (.bl neg)
 | _,_=>none
theorem Rb.notNon{d:D}{v:V}(h:Rb K cl F H d v)(n:d≠.non):v≠.non:=by
 rcases h with h | ⟨_,_,_,rfl,_⟩
 ·cases d<;>simp only[Rp]at h
  ·exact absurd rfl n
  all_goals first | (rw[h];intro z;cases z) | (obtain⟨_,_,rfl,_⟩:=h;intro z;cases z) | (obtain⟨_,rfl,_⟩:=h;intro z;cases z) | (obtain⟨_,_,_,rfl,_⟩:=h;intro z;cases z)
 ·intro z;cases z
theorem a3D:OpOk K cl (fun x y H Q=>y=.non∧Q (.bl (decide (x=.non))) H) (F5 false):=by
 intro x y d e z H F Q s hx hy h q
 unfold F5 at h
 split at h
 ·cases h;rw[hx.non];exact⟨hy.non,q _ H F (.refl s) (by simp[Rp])⟩
 ·rename_i n;cases h
  exact⟨hy.non,q _ H F (.refl s) (by simp only[Rp];rw[decide_eq_false (hx.notNon n)])⟩
 ·cases h
theorem a2a:OpOk K cl (fun x y H Q=>y=.non∧Q (.bl (!decide (x=.non))) H) (F5 true):=by
 intro x y d e z H F Q s hx hy h q
 unfold F5 at h
 split at h
 ·cases h;rw[hx.non];exact⟨hy.non,q _ H F (.refl s) (by simp[Rp])⟩
 ·rename_i n;cases h
  exact⟨hy.non,q _ H F (.refl s) (by simp only[Rp];rw[decide_eq_false (hx.notNon n)];rfl)⟩
 ·cases h
theorem Rps.atI{ds:List D}{xs:List V}{i:Int}{d:D}(h:Rps K cl F ds xs)(e:atI ds i=some d):∃v,L2.atI xs i=some v∧Rp K cl F d v:=by
 unfold L2.atI at e ⊢
 rw[← h.length]
 cases q:L9 ds.length i with
 | none=>rw[q]at e;cases e
 | some j=>rw[q]at e;exact h.get e
def t6(d e:D):Option D:=match d,e with
 | .lst ds,.int i=>atI ds i
 | .scr ns,.int i=>(atI ns i).map .int
 | _,_=>none
def d7(d e:D):Option D:=match d,e with
 | .tup ds,.int i=>atI ds i
 | _,_=>none
theorem a9z{α β:Type}(f:α→β)(xs:List α)(i:Int):atI (xs.map f) i=(atI xs i).map f:=by
 unfold L2.atI
 rw[List.length_map]
 cases L9 xs.length i with
 | none=>rfl
 | some j=>simp
theorem A4:OpOk K cl (a7r K) t6:=by
 intro x y d e z H F Q s hx hy h q
 unfold t6 at h
 split at h
 ·obtain⟨a,xs,rfl,hH,r⟩:=hx.lst s
  obtain⟨v,e,p⟩:=r.atI h
  exact⟨a,xs,_,v,rfl,hy.int,.of hH,e,q v H F (.refl s) p⟩
 ·rename_i ns i
  obtain⟨a,rfl,hS⟩:=hx.scr s
  cases hz:atI ns i with
  | none=>rw[hz]at h;cases h
  | some n =>
   rw[hz]at h;cases h
   exact⟨a,_,_,.int n,rfl,hy.int,hS.seq,by rw[a9z,hz];rfl,q _ H F (.refl s) (by simp only[Rp])⟩
 ·cases h
theorem e8:OpOk K cl (a7s K) d7:=by
 intro x y d e z H F Q s hx hy h q
 unfold d7 at h
 split at h
 ·obtain⟨a,xs,rfl,hH,r⟩:=hx.tup s
  obtain⟨v,e,p⟩:=r.atI h
  exact⟨a,xs,_,v,rfl,hy.int,.of hH,e,q v H F (.refl s) p⟩
 ·cases h
def P9:D→D→Bool
 | .non,.non=>true
 | .bl a,.bl b=>a == b
 | .bl a,.int b=>(if a then 1 else 0) == b
 | .int a,.bl b=>a == (if b then 1 else 0)
 | .int a,.int b=>a == b
 | .str a,.str b=>a == b
 | _,_=>false
def a5r:List D→List D→Bool
 | [],[]=>true
 | x::xs,y::ys=>P9 x y && a5r xs ys
 | _,_=>false
def i3:D→Bool
 | .non=>true
 | .bl _=>true
 | .int _=>true
 | .str _=>true
 | _=>false
theorem Rp.flat{d:D}{v:V}(h:Rp K cl F d v)(f:i3 d=true):toV d=some v∧N9 v=true:=by
 cases d<;>simp only[Rp]at h<;>first | (subst h;exact⟨rfl,rfl⟩) | cases f
theorem Rps.flat:∀{ds:List D} {vs:List V},Rps K cl F ds vs→ds.all i3=true→vs.all N9=true
 | [],_,h,_=>by rw[h.inv0];rfl
 | d::ds,_,h,f=>by
  obtain⟨v,r,rfl,h1,h2⟩:=h.inv
  rw[List.all_cons,Bool.and_eq_true]at f
  rw[List.all_cons,(h1.flat f.1).2,h2.flat f.2];rfl
theorem Rp.eq{d e:D}{v u:V}(h:Rp K cl F d v)(g:Rp K cl F e u)(fd:i3 d=true)(fe:i3 e=true):eqV v u=P9 d e:=by
 have h1:=(h.flat fd).1
 have h2:=(g.flat fe).1
 cases d<;>cases e<;>first | (cases h1;cases h2;rfl) | (cases fd;done) | (cases fe;done)
theorem Rps.eq:∀{ds es:List D} {vs us:List V},Rps K cl F ds vs→Rps K cl F es us→ds.all i3=true→es.all i3=true→a7C vs us=a5r ds es
 | [],[],_,_,h,g,_,_=>by rw[h.inv0,g.inv0];rfl
 | [],_::_,_,_,h,g,_,_=>by rw[h.inv0];obtain⟨_,_,rfl,_,_⟩:=g.inv;rfl
 | _::_,[],_,_,h,g,_,_=>by rw[g.inv0];obtain⟨_,_,rfl,_,_⟩:=h.inv;rfl
 | d::ds,e::es,_,_,h,g,fd,fe=>by
  obtain⟨v,r,rfl,h1,h2⟩:=h.inv
  obtain⟨u,r',rfl,g1,g2⟩:=g.inv
  rw[List.all_cons,Bool.and_eq_true]at fd fe
  unfold a7C a5r
  rw[h1.eq g1 fd.1 fe.1,h2.eq g2 fd.2 fe.2]
def V2(d e:D):Option (List D):=match d,e with
 | .lst ds,.lst es=>if ds.length+es.length≤sizeLine then some (ds++es)else none
 | _,_=>none
theorem a1I:a7Y K cl b01 V2:=by
 intro x y d e zs H F Q s hx hy h q
 unfold V2 at h
 split at h
 ·split at h
  ·rename_i c;cases h
   obtain⟨a,xs,rfl,hH,r⟩:=hx.lst s
   obtain⟨b,ys,rfl,hH',r'⟩:=hy.lst s
   exact⟨a,b,xs,ys,rfl,rfl,hH,hH',by rw[← r.length,← r'.length];exact c,fun p hp=>q p _ hp (r.append r')⟩
  ·cases h
 ·cases h
theorem Rps.rep{ds:List D}{xs:List V}(h:Rps K cl F ds xs):∀n:Nat,Rps K cl F (List.replicate n ds).flatten (List.replicate n xs).flatten
 | 0=>.nil
 | n+1=>by rw[List.replicate_succ,List.replicate_succ,List.flatten_cons,List.flatten_cons];exact h.append (h.rep n)
def a2b(d e:D):Option (List D):=match d,e with
 | .lst ds,.int k=>if -(2 ^ 63)≤k∧k<2 ^ 63∧ds.length*k.toNat≤sizeLine then some (List.replicate k.toNat ds).flatten else none
 | _,_=>none
theorem b1q:a7Y K cl b02 a2b:=by
 intro x y d e zs H F Q s hx hy h q
 unfold a2b at h
 split at h
 ·split at h
  ·rename_i ds k c;cases h
   obtain⟨a,xs,rfl,hH,r⟩:=hx.lst s
   exact⟨a,k,xs,rfl,hy.int,hH,c.1,c.2.1,by rw[← r.length];exact c.2.2,fun p hp=>q p _ hp (r.rep _)⟩
  ·cases h
 ·cases h
def A2:D→Option D
 | .lst ds=>some (.int ds.length)
 | .tup ds=>some (.int ds.length)
 | .scr ns=>some (.int ns.length)
 | _=>none
theorem S7:CbOk1 K cl (a4D K) A2:=by
 intro x d z H F Q s hx h q
 unfold A2 at h
 split at h
 ·cases h
  obtain⟨a,xs,rfl,hH,r⟩:=hx.lst s
  exact⟨a,xs,rfl,.inl (.of hH),q _ H F (.refl s) (by simp only[Rp];rw[r.length])⟩
 ·cases h
  obtain⟨a,xs,rfl,hH,r⟩:=hx.tup s
  exact⟨a,xs,rfl,.inr (.of hH),q _ H F (.refl s) (by simp only[Rp];rw[r.length])⟩
 ·cases h
  obtain⟨a,rfl,hS⟩:=hx.scr s
  exact⟨a,_,rfl,.inl hS.seq,q _ H F (.refl s) (by simp only[Rp];rw[List.length_map])⟩
 ·cases h
def Q5:D→Option (List D)
 | .lst ds=>some ds
 | .tup ds=>some ds
 | .scr ns=>some (ns.map .int)
 | _=>none
theorem a4N:b1p K cl (a4E K) Q5:=by
 intro x d zs H F Q s hx h q
 unfold Q5 at h
 split at h
 ·cases h
  obtain⟨a,xs,rfl,hH,r⟩:=hx.lst s
  exact⟨a,xs,rfl,.inl (.of hH),fun p hp=>q p _ hp r⟩
 ·cases h
  obtain⟨a,xs,rfl,hH,r⟩:=hx.tup s
  exact⟨a,xs,rfl,.inr (.of hH),fun p hp=>q p _ hp r⟩
 ·cases h
  obtain⟨a,rfl,hS⟩:=hx.scr s
  exact⟨a,_,rfl,.inl hS.seq,fun p hp=>q p _ hp Rps.ofInts⟩
 ·cases h
def Q6:List D→Option (List Bool)
 | []=>some []
 | .bl b::ds=>(Q6 ds).map (b :: ·)
 | _=>none
theorem a3E:∀{ds:List D} {bs:List Bool},Q6 ds=some bs→ds=bs.map .bl
 | [],_,h=>by cases h;rfl
 | .bl b::ds,_,h=>by
  unfold Q6 at h
  cases q:Q6 ds with
  | none=>rw[q]at h;cases h
  | some bs=>rw[q]at h;cases h;rw[a3E q];rfl
 | .non::_,_,h=>by cases h
 | .int _::_,_,h=>by cases h
 | .str _::_,_,h=>by cases h
 | .ty _::_,_,h=>by cases h
 | .cls _::_,_,h=>by cases h
 | .tup _::_,_,h=>by cases h
 | .lst _::_,_,h=>by cases h
 | .scr _::_,_,h=>by cases h
 | .exc _::_,_,h=>by cases h
 | .obj _ _ _::_,_,h=>by cases h
def a2c:D→Option D
 | .lst ds=>(Q6 ds).map fun bs=>.bl (bs.all id)
 | _=>none
theorem b1r:CbOk1 K cl (b07 K) a2c:=by
 intro x d z H F Q s hx h q
 unfold a2c at h
 split at h
 ·rename_i ds
  cases hb:Q6 ds with
  | none=>rw[hb]at h;cases h
  | some bs =>
   rw[hb]at h;cases h
   obtain⟨a,xs,rfl,hH,r⟩:=hx.lst s
   rw[a3E hb]at r
   rw[r.bls]at hH
   exact⟨a,bs,rfl,.of hH,q _ H F (.refl s) (by simp only[Rp])⟩
 ·cases h
end
inductive R1 where | ret (d:D) | own (ds:List D) | owz (dss:List (List D)) | ex (c:Str)
def g6(K:W.Frag)(cl:Str→Addr)(g:List D→Option R1):Sp:=fun vs H Q E=>∃ds F,Same F H∧Rps K cl F ds vs∧match g ds with
 | none=>False
 | some (.ret d)=>∀v H' F',Gr H F H' F'→Rp K cl F' d v→Q v H'
 | some (.own es)=>∀a xs H' F',Gr H F H' F'→H a=none→H' a=some (.lst xs)→F' a=none→Rps K cl F' es xs→Q (.ref a) H'
 | some (.owz dss)=>∀p as H' F',Gr H F H' F'→H p=none→H' p=some (.tup (as.map V.ref))→F' p=none→Rz K cl F' H' (fun a=>H a=none) dss as→Q (.ref p) H'
 | some (.ex c)=>∀H' F',Gr H F H' F'→E (.ref (cl c)) none H'
def toZ(r:Option R1)(e:DE):Option (R D):=match r with
 | none=>none
 | some (.ret d)=>some (.ok d e)
 | some (.own ds)=>some (.ok (.lst ds) e)
 | some (.owz _)=>none
 | some (.ex c)=>some (.ex c)
def S8(r:Option R1)(e:DE):Option (R D):=match r with
 | some (.ret d)=>some (.ok d e)
 | some (.own ds)=>some (.ok (.lst ds) e)
 | _=>none
def G1(g:List D→Option R1)(f:AF):ZF:=fun e=>bnd (f e) fun ds e1=>toZ (g ds) e1
def e6(g:List D→Option R1)(f:AF):ZF:=fun e=>bnd (f e) fun ds e1=>S8 (g ds) e1
def put(i:Nat)(s:Sl)(e:DE):Option RS:=match e[i]? with
 | none=>none
 | some (.hd _)=>none
 | some _=>some (.nx (e.set i s))
def a1J(i:Nat)(r:Option R1)(e:DE):Option RS:=match r with
 | none=>none
 | some (.ret d)=>put i (.fz d) e
 | some (.own ds)=>put i (.ow ds) e
 | some (.owz _)=>none
 | some (.ex c)=>some (.ex c)
def a1K(i:Nat)(r:Option R1)(e:DE):Option RS:=match r with
 | some (.ret d)=>put i (.fz d) e
 | some (.own ds)=>put i (.ow ds) e
 | _=>none
def a2_(r:Option R1):Option RS:=match r with
 | none=>none
 | some (.ret d)=>some (.rt d)
 | some (.own ds)=>some (.ro ds)
 | some (.owz dss)=>some (.rz dss)
 | some (.ex c)=>some (.ex c)
def a1L(r:Option R1):Option RS:=match r with
 | some (.ret d)=>some (.rt d)
 | some (.own ds)=>some (.ro ds)
 | _=>none
def m5:SF:=fun e=>some (.nx e)
def d4(f k:SF):SF:=fun e=>match f e with
 | some (.nx e1)=>k e1
 | r=>r
def v8(i:Nat)(f:ZF):SF:=fun e=>I0 (f e) fun d e1=>put i (.fz d) e1
def u3(i:Nat)(f:NF):SF:=fun e=>I0 (f e) fun ds e1=>put i (.ow ds) e1
def a1M(i:Nat)(g:List D→Option R1)(f:AF):SF:=fun e=>I0 (f e) fun ds e1=>a1J i (g ds) e1
def a1N(i:Nat)(g:List D→Option R1)(f:AF):SF:=fun e=>I0 (f e) fun ds e1=>a1K i (g ds) e1
def h9(f:ZF):SF:=fun e=>I0 (f e) fun d _=>some (.rt d)
def a0C(f:NF):SF:=fun e=>I0 (f e) fun ds _=>some (.ro ds)
def a1O(g:List D→Option R1)(f:AF):SF:=fun e=>I0 (f e) fun ds _=>a1L (g ds)
def Y9(i:Nat):SF:=fun e=>match e[i]? with
 | some (.fz d)=>some (.rt d)
 | some (.ow ds)=>some (.ro ds)
 | _=>none
def m7(c:BF)(f k:SF):SF:=fun e=>I0 (c e) fun b e1=>if b=true then f e1 else k e1
def sCt:SF:=fun e=>some (.ct e)
def a3G(c:Str)(f:AF):SF:=fun e=>I0 (f e) fun ds _=>if ds.length≤sizeLine then some (.ex c)else none
def a09(i:Nat)(f:ZF):SF:=fun e=>match look e i with
 | some (.lst _)=>I0 (f e) fun d e1=>match e1[i]? with
  | some (.ow ds)=>if ds.length<sizeLine then some (.nx (e1.set i (.ow (ds++[d]))))else none
  | _=>none
 | _=>none
def a5s(i:Nat)(k:ZF)(f:ZF):SF:=fun e=>I0 (f e) fun d e1=>match look e1 i with
 | none=>none
 | some _=>I0 (k e1) fun j e2=>match e2[i]?,j with
  | some (.ow ds),.int j=>match L9 ds.length j with
   | some n=>some (.nx (e2.set i (.ow (ds.set n d))))
   | none=>none
  | _,_=>none
section
variable {K:W.Frag}{cl:Str→Addr}{E:XK}{σ:St}{H F:Hp}{env:DE}
theorem Gr.fx{H' F':Hp}(g:Gr H F H' F'):FX σ H F env H' F':=⟨g.fz,g.sub,fun a o h f _=>g.hid a o h f,g.dom⟩
theorem a6z{g:List D→Option R1}{ds:List D}{vs:List V}{Q:VK}(R:Rel K cl σ H F env)(p:Rps K cl F ds vs)(h:Ct K cl E (PZ K cl) (toZ (g ds) env) σ H F env Q):g6 K cl g (vs++[]) H Q E:=by
 rw[List.append_nil]
 refine⟨ds,F,R.sub,p,?_⟩
 unfold toZ at h
 split at h
 ·exact h.elim
 ·exact fun v H' F' gr r=>h v H' F' (R.frm gr) (R.gr gr) r
 ·rename_i es _
  intro a xs H' F' gr ha hH hF r
  have sF:Same F' (upd F' a (.lst xs)):=S1 hF _
  have gr':Gr H F H' (upd F' a (.lst xs)):=by
   refine⟨gr.fz.trans sF,fun b o z=>?_,fun b o hb fb=>?_⟩
   ·by_cases y:b=a
    ·subst y;rw[h7]at z;cases z;exact hH
    ·rw[c8 y]at z;exact gr.sub _ _ z
   ·obtain⟨h1,f1⟩:=gr.hid b o hb fb
    have nb:b≠a:=fun z=>by rw[z,ha]at hb;cases hb
    exact⟨h1,by rw[c8 nb];exact f1⟩
  exact h _ H' _ (R.frm gr') (R.gr gr') (by show Rp K cl _ (.lst es) _;simp only[Rp];exact⟨a,xs,rfl,h7,r.mono sF⟩)
 ·exact h.elim
 ·exact fun H' F' gr=>h H' F' gr.fx
theorem a9A{r:Option R1}{e:DE}{P:Py D V}{Q:VK}(h:Ct K cl E P (S8 r e) σ H F env Q):toZ r e=S8 r e∧∀c,r≠some (.ex c):=by
 unfold S8 at h
 split at h
 ·exact⟨rfl,fun c z=>by cases z⟩
 ·exact⟨rfl,fun c z=>by cases z⟩
 ·exact h.elim
theorem X0{g:List D→Option R1}{t:TA}{f:AF}(hf:U0 K cl E t f):k9 K cl E (T7 (g6 K cl g) [] E t) (G1 g f):=by
 intro σ H Q env F R h
 refine hf σ H _ env F R ((Ct.bnd h O9).mono fun vs H1 ⟨F1,e1,ds,s1,R1,p1,h1⟩=>a6z R1 p1 h1)
theorem i0{g:List D→Option R1}{t:TA}{f:AF}(hf:U0 K cl E t f):k9 K cl E (T7 (g6 K cl g) [] E0 t) (e6 g f):=by
 intro σ H Q env F R h
 refine hf σ H _ env F R ((Ct.bnd h O9).mono fun vs H1 ⟨F1,e1,ds,s1,R1,p1,h1⟩=>?_)
 refine a6z R1 p1 ?_
 obtain⟨z,n⟩:=a9A h1
 rw[z]
 unfold Ct at h1 ⊢
 split at h1
 ·exact h1
 ·exact h1
 ·rename_i c q
  exact absurd q (by unfold S8;split<;>intro y<;>cases y)
theorem t5:RfS K cl E a8I m5:=fun N σ H env F R h=>h σ H F Frm.refl R
theorem b15:RfS K cl E a8J sCt:=fun N σ H env F R h=>h σ H F Frm.refl R
theorem e9{t u:TS}{f k:SF}(hf:RfS K cl E t f)(hk:RfS K cl E u k):RfS K cl E (b0H t u) (d4 f k):=by
 intro N σ H env F R h
 refine hf _ σ H env F R ?_
 unfold d4 at h
 split at h
 ·rename_i e1 q
  rw[q]
  intro σ' H' F' fr R'
  exact hk N σ' H' e1 F' R' (h.from fr)
 ·rename_i n
  unfold Cs at h ⊢
  split at h
  ·exact h
  ·rename_i e q;exact absurd q (n e)
  all_goals exact h
theorem a2d{i:Nat}{s:Sl}{e:DE}{N:Ends}{σ0:St}{H0 F0:Hp}{env0:DE}(h:Cs K cl E (put i s e) σ0 H0 F0 env0 N):i<e.length∧(∀ds,e[i]?≠some (.hd ds))∧Cs K cl E (some (.nx (e.set i s))) σ0 H0 F0 env0 N:=by
 unfold put at h
 split at h
 ·exact h.elim
 ·exact h.elim
 ·rename_i z n q
  exact⟨(List.getElem?_eq_some_iff.mp q).1,fun ds y=>by rw[q]at y;cases y;exact n ds rfl,h⟩
theorem C2{i:Nat}{t:TE}{f:ZF}(hf:k9 K cl E t f):RfS K cl E (a0h t (X6 i)) (v8 i f):=by
 intro N σ H env F R h
 refine hf σ H _ env F R ((Cs.bnd h).mono fun x H1 ⟨F1,e1,d,fr,R1,p1,h1⟩=>?_)
 obtain⟨hi,nh,h2⟩:=a2d h1
 exact h2 _ H1 F1 (fr.trans (Frm.put nh)) (R1.put hi nh p1)
theorem G2{i:Nat}{t:TE}{f:NF}(hf:S5 K cl E t f):RfS K cl E (a0h t (X6 i)) (u3 i f):=by
 intro N σ H env F R h
 refine hf σ H _ env F R ((Cs.bnd h).mono fun x H1 ⟨F1,e1,ds,fr,R1,p1,h1⟩=>?_)
 obtain⟨a,xs,rfl,hn,hH,hF,nm,r⟩:=p1
 obtain⟨hi,nh,h2⟩:=a2d h1
 exact h2 _ H1 F1 (fr.putO hn nh) (R1.putO hi hH hF nm r)
theorem j2{t:TE}{f:ZF}(hf:k9 K cl E t f):RfS K cl E (a3f t) (h9 f):=by
 intro N σ H env F R h
 exact hf σ H _ env F R ((Cs.bnd h).mono fun x H1 ⟨F1,e1,d,fr,R1,p1,h1⟩=>h1 x H1 F1 (fr.toFX R1.sub) p1)
theorem a0D{t:TE}{f:NF}(hf:S5 K cl E t f):RfS K cl E (a3f t) (a0C f):=by
 intro N σ H env F R h
 refine hf σ H _ env F R ((Cs.bnd h).mono fun x H1 ⟨F1,e1,ds,fr,R1,p1,h1⟩=>?_)
 obtain⟨a,xs,rfl,hn,hH,hF,nm,r⟩:=p1
 exact h1 a xs H1 F1 (fr.toFX R1.sub) hH hF (fun o e=>by rw[hn]at e;cases e) r
theorem a4O{i:Nat}:RfS K cl E (a3f (E6 i)) (Y9 i):=by
 intro N σ H env F R h
 unfold Y9 at h
 split at h
 ·rename_i d q
  obtain⟨v,e,r⟩:=R.fz i d q
  exact⟨v,e,h v H F (Frm.refl.toFX R.sub) r⟩
 ·rename_i ds q
  obtain⟨a,xs,e,hH,hF,r⟩:=R.mu i ds (.inl q)
  exact⟨_,e,h a xs H F (Frm.refl.toFX R.sub) hH hF (fun o _=>⟨i,ds,q,e⟩) r⟩
 ·exact h.elim
theorem l5{c:TT}{t u:TS}{b:BF}{f k:SF}(hc:J3 K cl E c b)(hf:RfS K cl E t f)(hk:RfS K cl E u k):RfS K cl E (b0I c t u) (m7 b f k):=by
 intro N σ H env F R h
 refine hc σ H _ env F R ((Cs.bnd h).mono fun x H1 ⟨F1,e1,d,fr,R1,p1,h1⟩=>?_)
 cases (show x=d from p1)
 by_cases z:x=true
 ·rw[if_pos z]at h1 ⊢;exact hf N σ H1 e1 F1 R1 (h1.from fr)
 ·rw[if_neg z]at h1 ⊢;exact hk N σ H1 e1 F1 R1 (h1.from fr)
theorem a7Z{c:Str}{t:TA}{f:AF}(hf:U0 K cl E t f):RfS K cl E (a58 (cl c) E t) (a3G c f):=by
 intro N σ H env F R h
 refine hf σ H _ env F R ((Cs.bnd h).mono fun xs H1 ⟨F1,e1,ds,fr,R1,p1,h1⟩=>?_)
 have hl:ds.length=xs.length:=Rps.length p1
 split at h1
 ·rename_i z
  exact⟨by rw[← hl];exact z,h1 H1 F1 (fr.toFX R1.sub)⟩
 ·exact h1.elim
theorem a9B{i:Nat}{g:List D→Option R1}{t:TA}{f:AF}(hf:U0 K cl E t f):RfS K cl E (a0h (T7 (g6 K cl g) [] E t) (X6 i)) (a1M i g f):=by
 intro N σ H env F R h
 refine hf σ H _ env F R ((Cs.bnd h).mono fun vs H1 ⟨F1,e1,ds,fr,R1,p1,h1⟩=>?_)
 show g6 K cl g (vs++[]) H1 _ E
 rw[List.append_nil]
 refine⟨ds,F1,R1.sub,p1,?_⟩
 unfold a1J at h1
 split at h1
 ·exact h1.elim
 ·obtain⟨hi,nh,h2⟩:=a2d h1
  exact fun v H' F' gr r=>h2 _ H' F' ((fr.trans (R1.frm gr)).trans (Frm.put nh)) ((R1.gr gr).put hi nh r)
 ·obtain⟨hi,nh,h2⟩:=a2d h1
  intro a xs H' F' gr ha hH hF r
  refine h2 _ H' F' ((fr.trans (R1.frm gr)).putO (fr.dom a ha) nh) ((R1.gr gr).putO hi hH hF (fun j mj e=>?_) r)
  obtain⟨es,q⟩:=mj
  obtain⟨b,ys,e',hb,_⟩:=R1.mu j es q
  rw[e]at e';cases e'
  rw[ha]at hb;cases hb
 ·exact h1.elim
 ·exact fun H' F' gr=>h1 H' F' (fr.fx gr.fx)
theorem a70{i:Nat}{g:List D→Option R1}{t:TA}{f:AF}(hf:U0 K cl E t f):RfS K cl E (a0h (T7 (g6 K cl g) [] E0 t) (X6 i)) (a1N i g f):=by
 intro N σ H env F R h
 refine hf σ H _ env F R ((Cs.bnd h).mono fun vs H1 ⟨F1,e1,ds,fr,R1,p1,h1⟩=>?_)
 show g6 K cl g (vs++[]) H1 _ E0
 rw[List.append_nil]
 refine⟨ds,F1,R1.sub,p1,?_⟩
 unfold a1K at h1
 split at h1
 ·rename_i q;rw[q]
  obtain⟨hi,nh,h2⟩:=a2d h1
  exact fun v H' F' gr r=>h2 _ H' F' ((fr.trans (R1.frm gr)).trans (Frm.put nh)) ((R1.gr gr).put hi nh r)
 ·rename_i q;rw[q]
  obtain⟨hi,nh,h2⟩:=a2d h1
  intro a xs H' F' gr ha hH hF r
  refine h2 _ H' F' ((fr.trans (R1.frm gr)).putO (fr.dom a ha) nh) ((R1.gr gr).putO hi hH hF (fun j mj e=>?_) r)
  obtain⟨es,q⟩:=mj
  obtain⟨b,ys,e',hb,_⟩:=R1.mu j es q
  rw[e]at e';cases e'
  rw[ha]at hb;cases hb
 ·exact h1.elim
theorem a71{g:List D→Option R1}{t:TA}{f:AF}(hf:U0 K cl E t f):RfS K cl E (a3f (T7 (g6 K cl g) [] E0 t)) (a1O g f):=by
 intro N σ H env F R h
 refine hf σ H _ env F R ((Cs.bnd h).mono fun vs H1 ⟨F1,e1,ds,fr,R1,p1,h1⟩=>?_)
 show g6 K cl g (vs++[]) H1 _ E0
 rw[List.append_nil]
 refine⟨ds,F1,R1.sub,p1,?_⟩
 unfold a1L at h1
 split at h1
 ·rename_i q;rw[q]
  exact fun v H' F' gr r=>h1 v H' F' (fr.fx gr.fx) r
 ·rename_i q;rw[q]
  exact fun a xs H' F' gr ha hH hF r=>h1 a xs H' F' (fr.fx gr.fx) hH hF (fun o e=>by rw[fr.dom a ha]at e;cases e) r
 ·exact h1.elim
theorem Rel.change{i:Nat}{ds es:List D}{a:Addr}{ys:List V}(R:Rel K cl σ H F env)(h:env[i]? = some (.ow ds))(e:σ[i]? = some (some (.ref a)))(r:Rps K cl F es ys) :
  Rel K cl σ (upd H a (.lst ys)) F (env.set i (.ow es))∧Frm σ H F env σ (upd H a (.lst ys)) F (env.set i (.ow es)):=by
 obtain⟨a',xs,e',hH,hF,_⟩:=R.mu i ds (.inl h)
 rw[e]at e';cases e'
 have hi:i<env.length:=(List.getElem?_eq_some_iff.mp h).1
 have self:(env.set i (.ow es))[i]? = some (.ow es):=List.getElem?_set_self hi
 have oth:∀j,j≠i→(env.set i (.ow es))[j]? = env[j]?:=fun j hj=>List.getElem?_set_ne (Ne.symm hj)
 have mui:∀j,Mu (env.set i (.ow es)) j→Mu env j:=fun j ⟨fs,q⟩=>by
  by_cases z:j=i
  ·subst z;exact⟨ds,.inl h⟩
  ·rw[oth j z]at q;exact⟨fs,q⟩
 refine⟨⟨fun b o q=>?_,by rw[List.length_set];exact R.len,fun j d q=>?_,fun j fs q=>?_,fun j k b hj hk=>R.inj j k b (mui j hj) (mui k hk)⟩,⟨Same.refl _,fun b o hb fb w=>?_,fun j fs q=>?_,fun b q=>?_⟩⟩
 ·have z:b≠a:=fun z=>by rw[z,hF]at q;cases q
  rw[c8 z];exact R.sub _ _ q
 ·have z:j≠i:=fun z=>by subst z;rw[self]at q;cases q
  rw[oth j z]at q;exact R.fz j d q
 ·by_cases z:j=i
  ·subst z
   rw[self]at q
   rcases q with q | q
   ·cases q;exact⟨a,ys,e,h7,hF,r⟩
   ·cases q
  ·rw[oth j z]at q
   obtain⟨b,zs,e1,h1,f1,r1⟩:=R.mu j fs q
   have nb:b≠a:=fun y=>z (R.inj j i b ⟨fs,q⟩ ⟨ds,.inl h⟩ e1 (by rw[y];exact e))
   exact⟨b,zs,e1,by rw[c8 nb];exact h1,f1,r1⟩
 ·have z:b≠a:=fun z=>w ⟨i,ds,h,by rw[z];exact e⟩
  refine⟨by rw[c8 z];exact hb,fb,fun⟨j,fs,q,e1⟩=>?_⟩
  by_cases y:j=i
  ·subst y;rw[e]at e1;cases e1;exact z rfl
  ·rw[oth j y]at q;exact w ⟨j,fs,q,e1⟩
 ·have z:j≠i:=fun z=>by subst z;rw[h]at q;cases q
  exact⟨by rw[oth j z];exact q,rfl⟩
 ·by_cases z:b=a
  ·rw[z,h7]at q;cases q
  ·rw[c8 z]at q;exact q
theorem a6A{i:Nat}{t:TE}{f:ZF}(hf:k9 K cl E t f):RfS K cl E (a46 (tBM K "list" a4A (E6 i) (Q4 t a0j))) (a09 i f):=by
 intro N σ H env F R h
 unfold a09 at h
 split at h
 ·rename_i ds0 q
  obtain⟨x,e0,rb⟩:=R.look q
  obtain⟨a0,xs0,rfl,hH0,_⟩:=rb.lst R.sub
  refine⟨_,e0,.inl ⟨rfl,xs0,.of hH0⟩,?_⟩
  ·refine hf σ H _ env F R ((Cs.bnd h).mono fun y H1 ⟨F1,e1,d,fr,R1,p1,h1⟩=>?_)
   split at h1
   ·rename_i ds q1
    split at h1
    ·rename_i c
     obtain⟨a,xs,e,hH,hF,r⟩:=R1.mu i ds (.inl q1)
     rw[e0]at e;cases e
     obtain⟨R2,f2⟩:=R1.change q1 e0 (r.append (.one p1))
     exact⟨_,xs,y,rfl,rfl,hH,by rw[← r.length];exact c,h1 σ _ F1 (fr.trans f2) R2⟩
    ·exact h1.elim
   ·exact h1.elim
 ·exact h.elim
theorem b1s{i:Nat}{t u:TE}{f k:ZF}(hf:k9 K cl E t f)(hk:k9 K cl E u k):RfS K cl E (a0h t (b0M (E6 i) u a8U)) (a5s i k f):=by
 intro N σ H env F R h
 refine hf σ H _ env F R ((Cs.bnd h).mono fun x H1 ⟨F1,e1,d,fr,R1,p1,h1⟩=>?_)
 cases q:look e1 i with
 | none=>simp only[q]at h1;exact h1.elim
 | some d0 =>
  simp only[q]at h1
  obtain⟨o,e0,_⟩:=R1.look q
  refine⟨o,e0,hk σ H1 _ e1 F1 R1 ((Cs.bnd (h1.from fr)).mono fun y H2 ⟨F2,e2,j,fr2,R2,p2,h2⟩=>?_)⟩
  split at h2
  ·rename_i _ _ ds j q2
   split at h2
   ·rename_i n hn
    obtain⟨a,xs,e,hH,hF,r⟩:=R2.mu i ds (.inl q2)
    rw[e0]at e;cases e
    obtain⟨R3,f3⟩:=R2.change q2 e0 (r.set (Rp.mono fr2.fz _ _ p1) n)
    have hy:y=.int j:=by have:=(show Rp K cl F2 (.int j) y from p2);simpa only[Rp]using this
    exact⟨a,xs,j,n,rfl,hy,hH,by rw[← r.length];exact hn,h2 σ _ F2 (fr2.trans f3) R3⟩
   ·exact h2.elim
  ·exact h2.elim
end
abbrev GF:=D→DE→Option DE
def c6(i:Nat):GF:=fun d e=>match e[i]? with
 | none=>none
 | some (.hd _)=>none
 | some _=>some (e.set i (.fz d))
def Z0:List GF→List D→DE→Option DE
 | [],[],e=>some e
 | b::bs,d::ds,e=>match b d e with
  | none=>none
  | some e1=>Z0 bs ds e1
 | _,_,_=>none
def K8(bs:List GF):GF:=fun d e=>match d with
 | .tup ds=>Z0 bs ds e
 | _=>none
section
variable (K:W.Frag)(cl:Str→Addr)
def U1(k:Nat)(g:TG)(b:GF):Prop:=∀v σ H Q d env env' F,Rel K cl σ H F env→Rp K cl F d v→b d env=some env'→(∀σ',σ'.drop k=σ.drop k→σ'.length=σ.length→Frm σ H F env σ' H F env'→Rel K cl σ' H F env'→Q σ' H)→g v σ H Q
def a5t(k:Nat)(t:TGs)(bs:List GF):Prop:=∀vs σ H Q ds env env' F,Rel K cl σ H F env→Rps K cl F ds vs→Z0 bs ds env=some env'→(∀σ',σ'.drop k=σ.drop k→σ'.length=σ.length→Frm σ H F env σ' H F env'→Rel K cl σ' H F env'→Q σ' H)→t vs σ H Q
end
section
variable {K:W.Frag}{cl:Str→Addr}{E:XK}{σ:St}{H F:Hp}{env:DE}{k:Nat}
theorem a72{α:Type}{l:List α}{i k:Nat}{x:α}(h:i<k):(l.set i x).drop k=l.drop k:=by
 apply List.ext_getElem?
 intro j
 rw[List.getElem?_drop,List.getElem?_drop,List.getElem?_set_ne (by omega)]
theorem f9{i:Nat}(hi:i<k):U1 K cl k (X6 i) (c6 i):=by
 intro v σ H Q d env env' F R p h q
 unfold c6 at h
 split at h
 ·cases h
 ·cases h
 ·rename_i z n e
  cases h
  have nh:∀ds,env[i]?≠some (.hd ds):=fun ds y=>by rw[e]at y;cases y;exact n ds rfl
  exact q _ (a72 hi) List.length_set (Frm.put nh) (R.put (List.getElem?_eq_some_iff.mp e).1 nh p)
theorem M5:a5t K cl k b0K []:=by
 intro vs σ H Q ds env env' F R p h q
 cases ds with
 | nil=>cases h;exact⟨p.inv0,q σ rfl rfl Frm.refl R⟩
 | cons _ _=>cases h
theorem k8{t:TG}{u:TGs}{b:GF}{bs:List GF}(h1:U1 K cl k t b)(h2:a5t K cl k u bs):a5t K cl k (a8K t u) (b::bs):=by
 intro vs σ H Q ds env env' F R p h q
 cases ds with
 | nil=>cases h
 | cons d ds =>
  obtain⟨v,r,rfl,p1,p2⟩:=p.inv
  unfold Z0 at h
  split at h
  ·cases h
  ·rename_i e1 hb
   refine⟨v,r,rfl,h1 v σ H _ d env e1 F R p1 hb fun σ1 d1 l1 f1 R1=>?_⟩
   exact h2 r σ1 H _ ds e1 env' F R1 p2 h fun σ2 d2 l2 f2 R2=>q σ2 (d2.trans d1) (l2.trans l1) (f1.trans f2) R2
theorem a2G:∀{bs:List GF} {ds:List D} {e e':DE},Z0 bs ds e=some e'→ds.length=bs.length
 | [],[],_,_,_=>rfl
 | [],_::_,_,_,h=>by cases h
 | _::_,[],_,_,h=>by cases h
 | b::bs,d::ds,e,e',h=>by
  unfold Z0 at h
  split at h
  ·cases h
  ·simp[a2G h]
theorem M6{t:TGs}{bs:List GF}{n:Nat}(h:a5t K cl k t bs)(hn:bs.length=n):U1 K cl k (a7m K n t) (K8 bs):=by
 intro v σ H Q d env env' F R p e q
 unfold K8 at e
 split at e
 ·rename_i ds
  simp only[Rp]at p
  obtain⟨a,xs,rfl,hF,r⟩:=p
  exact⟨a,xs,rfl,.of (R.sub _ _ hF),by rw[← r.length,a2G e,hn],h xs σ H Q ds env env' F R r e q⟩
 ·cases e
def M7(f:ZF)(b:GF):SF:=fun e=>I0 (f e) fun d e1=>match b d e1 with
 | none=>none
 | some e2=>some (.nx e2)
theorem S9{t:TE}{g:TG}{f:ZF}{b:GF}(hf:k9 K cl E t f)(hg:U1 K cl k g b):RfS K cl E (a0h t g) (M7 f b):=by
 intro N σ H env F R h
 refine hf σ H _ env F R ((Cs.bnd h).mono fun x H1 ⟨F1,e1,d,fr,R1,p1,h1⟩=>?_)
 split at h1
 ·exact h1.elim
 ·rename_i e2 hb
  exact hg x σ H1 _ d e1 e2 F1 R1 p1 hb fun σ' _ _ f2 R2=>h1 σ' H1 F1 (fr.trans f2) R2
def l7(b:GF)(body:SF):List D→DE→Option RS
 | [],e=>some (.nx e)
 | d::ds,e=>match b d e with
  | none=>none
  | some e1=>match body e1 with
   | some (.nx e2)=>l7 b body ds e2
   | some (.ct e2)=>l7 b body ds e2
   | some (.bk e2)=>some (.nx e2)
   | r=>r
theorem a73{b:GF}{body:SF}{g:TG}{tb:TS}{d:D}{x:V}{ds:List D}{e1:DE}{N:Ends}{σ1:St}{H1 F1:Hp}{Pv:St→Hp→Prop}(hb:RfS K cl E tb body)(hg:U1 K cl k g b)
  (f1:Frm σ H F env σ1 H1 F1 e1) (R1:Rel K cl σ1 H1 F1 e1) (p:Rp K cl F1 d x) (h:Cs K cl E (l7 b body (d::ds) e1) σ H F env N)
  (hP:∀σ' H' F' e',Frm σ H F env σ' H' F' e'→Rel K cl σ' H' F' e'→Cs K cl E (l7 b body ds e') σ H F env N→Pv σ' H') :
  g x σ1 H1 fun σ2 H2=>tb { N with nx:=Pv,ct:=Pv,bk:=N.nx } σ2 H2:=by
 unfold l7 at h
 split at h
 ·exact h.elim
 ·rename_i e2 hbd
  refine hg x σ1 H1 _ d e1 e2 F1 R1 p hbd fun σ2 _ _ f2 R2=>?_
  refine hb _ σ2 H1 e2 F1 R2 ?_
  split at h
  ·rename_i e3 q;rw[q]
   exact fun σ' H' F' f3 R3=>hP σ' H' F' e3 ((f1.trans f2).trans f3) R3 h
  ·rename_i e3 q;rw[q]
   exact fun σ' H' F' f3 R3=>hP σ' H' F' e3 ((f1.trans f2).trans f3) R3 h
  ·rename_i e3 q;rw[q]
   exact fun σ' H' F' f3 R3=>h σ' H' F' ((f1.trans f2).trans f3) R3
  ·rename_i n1 n2 n3
   have h2:=h.from (f1.trans f2)
   unfold Cs at h2 ⊢
   split at h2
   ·exact h2
   ·rename_i e q;exact absurd q (n1 e)
   ·rename_i e q;exact absurd q (n3 e)
   ·rename_i e q;exact absurd q (n2 e)
   ·exact h2
   ·exact h2
   ·exact h2
   ·exact h2
theorem a0p{α:Type}{l:List α}{i:Nat}{x:α}(h:l[i]? = some x):l.drop i=x::l.drop (i+1):=by
 obtain⟨hi,e⟩:=List.getElem?_eq_some_iff.mp h
 rw[← e];exact List.drop_eq_getElem_cons hi
theorem a5u{b:GF}{body:SF}{g:TG}{tb:TS}{ds:List D}{xs:List V}{a:Addr}{N:Ends}(hb:RfS K cl E tb body)(hg:U1 K cl k g b)(R:Rel K cl σ H F env)
  (hl:∀σ' H' F' e',Frm σ H F env σ' H' F' e'→Rel K cl σ' H' F' e'→SqL K H' a xs) (r:Rps K cl F ds xs) (h:Cs K cl E (l7 b body ds env) σ H F env N) :
  ∃W:Nat→Nat→St→Hp→Prop,(∃m,W 0 m σ H)∧∀i m σ H,W i m σ H →
   ((Itl K a).stop i H∧N.nx σ H)∨((Itl K a).go i H∧∃M:St→Hp→Prop,(∀σ' H',M σ' H'→∃m',m'<m∧W (i+1) m' σ' H')∧∀x H',(Itl K a).yld i H x H'→g x σ H' fun σ2 H2=>tb { N with nx:=M,ct:=M,bk:=N.nx } σ2 H2):=by
 refine a7o (xs:=xs) (fun i σ' H'=>∃F' e',Frm σ H F env σ' H' F' e'∧Rel K cl σ' H' F' e'∧Cs K cl E (l7 b body (ds.drop i) e') σ H F env N) ⟨F,env,Frm.refl,R,h⟩ (fun i σ' H' _ ⟨F',e',f,R',_⟩=>hl σ' H' F' e' f R') (fun i x σ' H' hx ⟨F',e',f,R',h'⟩=>?_) (fun σ' H' ⟨F',e',f,R',h'⟩=>?_)
 ·obtain⟨d,hd,p⟩:=r.get' hx
  rw[a0p hd]at h'
  exact a73 hb hg f R' (Rp.mono f.fz _ _ p) h' fun σ2 H2 F2 e2 f2 R2 h2=>⟨F2,e2,f2,R2,h2⟩
 ·rw[← r.length,List.drop_length]at h'
  exact h' σ' H' F' f R'
def seqL:D→Option (List D)
 | .lst ds=>some ds
 | .scr ns=>some (ns.map .int)
 | _=>none
theorem Rp.seqL{d:D}{ds:List D}{v:V}(p:Rp K cl F d v)(s:L2.seqL d=some ds):∃a xs,v=.ref a∧Rps K cl F ds xs∧∀H',Same F H'→SqL K H' a xs:=by
 unfold L2.seqL at s
 split at s
 ·cases s;simp only[Rp]at p
  obtain⟨a,xs,e,h,r⟩:=p
  exact⟨a,xs,e,r,fun H' g=>.of (g _ _ h)⟩
 ·cases s;simp only[Rp]at p
  obtain⟨a,e,h⟩:=p
  exact⟨a,_,e,Rps.ofInts,fun H' g=>(h.same g).seq⟩
 ·cases s
def x8(f:ZF)(b:GF)(body:SF):SF:=fun e=>I0 (f e) fun d e1=>match seqL d with
 | none=>none
 | some ds=>l7 b body ds e1
theorem X1{t:TE}{g:TG}{tb:TS}{f:ZF}{b:GF}{body:SF}(hf:k9 K cl E t f)(hg:U1 K cl k g b)(hb:RfS K cl E tb body):RfS K cl E (a7n (a1l K t) g tb) (x8 f b body):=by
 intro N σ H env F R h
 refine hf σ H _ env F R ((Cs.bnd h).mono fun x H1 ⟨F1,e1,d,fr,R1,p1,h1⟩=>?_)
 split at h1
 ·exact h1.elim
 ·rename_i ds hs
  obtain⟨a,xs,rfl,r,hl⟩:=Rp.seqL p1 hs
  exact⟨a,rfl,⟨xs,hl H1 R1.sub⟩,a5u hb hg R1 (fun σ' H' F' e' f2 R2=>hl H' (f2.fz.trans R2.sub)) r (h1.from fr)⟩
end
section
variable {K:W.Frag}{cl:Str→Addr}{E:XK}{σ:St}{H F:Hp}{env:DE}{k:Nat}
def unhide(i:Nat)(ds:List D)(r:Option RS):Option RS:=match r with
 | some (.nx e)=>some (.nx (e.set i (.ow ds)))
 | some (.bk _)=>none
 | some (.ct _)=>none
 | r=>r
theorem Rel.hide{i:Nat}{ds:List D}(R:Rel K cl σ H F env)(h:env[i]? = some (.ow ds)):Rel K cl σ H F (env.set i (.hd ds)):=by
 have hi:i<env.length:=(List.getElem?_eq_some_iff.mp h).1
 have self:(env.set i (.hd ds))[i]? = some (.hd ds):=List.getElem?_set_self hi
 have oth:∀j,j≠i→(env.set i (.hd ds))[j]? = env[j]?:=fun j hj=>List.getElem?_set_ne (Ne.symm hj)
 have mui:∀(j:Nat) (fs:List D),(env.set i (.hd ds))[j]? = some (.ow fs)∨(env.set i (.hd ds))[j]? = some (.hd fs)→env[j]? = some (.ow fs)∨env[j]? = some (.hd fs):=fun j fs q=>by
  by_cases z:j=i
  ·subst z;rw[self]at q;rcases q with q | q<;>cases q;exact .inl h
  ·rw[oth j z]at q;exact q
 refine⟨R.sub,by rw[List.length_set];exact R.len,fun j d q=>?_,fun j fs q=>R.mu j fs (mui j fs q),fun j l b ⟨fs,q⟩ ⟨gs,q'⟩=>R.inj j l b ⟨fs,mui j fs q⟩ ⟨gs,mui l gs q'⟩⟩
 have z:j≠i:=fun z=>by subst z;rw[self]at q;cases q
 rw[oth j z]at q;exact R.fz j d q
theorem Ow.hide{i:Nat}{ds:List D}{a:Addr}(w:Ow σ (env.set i (.hd ds)) a):Ow σ env a:=by
 obtain⟨j,fs,q,e⟩:=w
 by_cases z:j=i
 ·subst z
  have hj:j<env.length:=by have:=(List.getElem?_eq_some_iff.mp q).1;rwa [List.length_set]at this
  rw[List.getElem?_set_self hj]at q;cases q
 ·rw[List.getElem?_set_ne (Ne.symm z)]at q;exact⟨j,fs,q,e⟩
theorem Rel.unhide{i:Nat}{ds:List D}(R:Rel K cl σ H F env)(h:env[i]? = some (.hd ds)):Rel K cl σ H F (env.set i (.ow ds)):=by
 have hi:i<env.length:=(List.getElem?_eq_some_iff.mp h).1
 have self:(env.set i (.ow ds))[i]? = some (.ow ds):=List.getElem?_set_self hi
 have oth:∀j,j≠i→(env.set i (.ow ds))[j]? = env[j]?:=fun j hj=>List.getElem?_set_ne (Ne.symm hj)
 have mui:∀(j:Nat) (fs:List D),(env.set i (.ow ds))[j]? = some (.ow fs)∨(env.set i (.ow ds))[j]? = some (.hd fs)→env[j]? = some (.ow fs)∨env[j]? = some (.hd fs):=fun j fs q=>by
  by_cases z:j=i
  ·subst z;rw[self]at q;rcases q with q | q<;>cases q;exact .inr h
  ·rw[oth j z]at q;exact q
 refine⟨R.sub,by rw[List.length_set];exact R.len,fun j d q=>?_,fun j fs q=>R.mu j fs (mui j fs q),fun j l b ⟨fs,q⟩ ⟨gs,q'⟩=>R.inj j l b ⟨fs,mui j fs q⟩ ⟨gs,mui l gs q'⟩⟩
 have z:j≠i:=fun z=>by subst z;rw[self]at q;cases q
 rw[oth j z]at q;exact R.fz j d q
theorem Cs.hide{i:Nat}{ds:List D}{r:Option RS}{N:Ends}(R:Rel K cl σ H F env)(h:env[i]? = some (.ow ds))(c:Cs K cl E (unhide i ds r) σ H F env N):Cs K cl E r σ H F (env.set i (.hd ds)) N:=by
 have hi:i<env.length:=(List.getElem?_eq_some_iff.mp h).1
 have self:(env.set i (.hd ds))[i]? = some (.hd ds):=List.getElem?_set_self hi
 have fx:∀{H' F'},FX σ H F (env.set i (.hd ds)) H' F'→FX σ H F env H' F':=fun x=>⟨x.fz,x.sub,fun a o h f w=>x.hid a o h f fun y=>w y.hide,x.dom⟩
 rcases r with _ | r
 ·exact c
 cases r with
 | nx e =>
  intro σ' H' F' f R'
  obtain⟨q,eσ⟩:=f.keep i ds self
  refine c σ' H' F' ⟨f.fz,fun a o ha fa w=>?_,fun j fs q'=>?_,f.dom⟩ (R'.unhide q)
  ·obtain⟨h1,f1,w1⟩:=f.hid a o ha fa fun y=>w y.hide
   refine⟨h1,f1,fun⟨j,fs,q2,e2⟩=>?_⟩
   by_cases z:j=i
   ·subst z
    rw[eσ]at e2
    exact w ⟨j,ds,h,e2⟩
   ·rw[List.getElem?_set_ne (Ne.symm z)]at q2
    exact w1 ⟨j,fs,q2,e2⟩
  ·have z:j≠i:=fun z=>by subst z;rw[h]at q';cases q'
   obtain⟨q2,e2⟩:=f.keep j fs (by rw[List.getElem?_set_ne (Ne.symm z)];exact q')
   exact⟨by rw[List.getElem?_set_ne (Ne.symm z)];exact q2,e2⟩
 | bk e=>exact c.elim
 | ct e=>exact c.elim
 | rt d=>exact fun v H' F' x p=>c v H' F' (fx x) p
 | ro es=>exact fun a xs H' F' x ha fa nw p=>c a xs H' F' (fx x) ha fa (fun o e=>(nw o e).hide) p
 | rz dss=>exact fun p as H' F' x hp ht fp rz=>c p as H' F' (fx x) hp ht fp (rz.imp fun a xs ha fa nw o e=>(nw o e).hide)
 | ex n=>exact fun H' F' x=>c H' F' (fx x)
def D3(i:Nat)(b:GF)(body:SF):SF:=fun e=>match e[i]? with
 | some (.fz d)=>(match seqL d with
  | none=>none
  | some ds=>l7 b body ds e)
 | some (.ow ds)=>unhide i ds (l7 b body ds (e.set i (.hd ds)))
 | some (.hd ds)=>l7 b body ds e
 | _=>none
theorem Rel.hid_stays{i:Nat}{ds:List D}(R:Rel K cl σ H F env)(h:env[i]? = some (.hd ds)):∃a xs,σ[i]? = some (some (.ref a))∧Rps K cl F ds xs∧H a=some (.lst xs)∧∀σ' H' F' e',Frm σ H F env σ' H' F' e'→H' a=some (.lst xs):=by
 obtain⟨a,xs,e,hH,hF,r⟩:=R.mu i ds (.inr h)
 refine⟨a,xs,e,r,hH,fun σ' H' F' e' f=>(f.hid a _ hH hF fun⟨j,fs,q,e'⟩=>?_).1⟩
 have z:i=j:=R.inj i j a ⟨ds,.inr h⟩ ⟨fs,.inl q⟩ e e'
 subst z;rw[h]at q;cases q
theorem a2e{i:Nat}{g:TG}{tb:TS}{b:GF}{body:SF}(hg:U1 K cl k g b)(hb:RfS K cl E tb body):RfS K cl E (a7n (a1l K (E6 i)) g tb) (D3 i b body):=by
 intro N σ H env F R h
 unfold D3 at h
 split at h
 ·rename_i d q
  split at h
  ·exact h.elim
  ·rename_i ds hs
   obtain⟨v,e,p⟩:=R.fz i d q
   obtain⟨a,xs,rfl,r,hl⟩:=Rp.seqL p hs
   exact⟨_,e,a,rfl,⟨xs,hl H R.sub⟩,a5u hb hg R (fun σ' H' F' e' f2 R2=>hl H' (f2.fz.trans R2.sub)) r h⟩
 ·rename_i ds q
  have hi:i<env.length:=(List.getElem?_eq_some_iff.mp q).1
  have R':=R.hide q
  obtain⟨a,xs,e,r,hH,st⟩:=R'.hid_stays (i:=i) (ds:=ds) (List.getElem?_set_self hi)
  exact⟨_,e,a,rfl,⟨xs,.of hH⟩,a5u hb hg R' (fun σ' H' F' e' f2 R2=>.of (st σ' H' F' e' f2)) r (h.hide R q)⟩
 ·rename_i ds q
  obtain⟨a,xs,e,r,hH,st⟩:=R.hid_stays q
  exact⟨_,e,a,rfl,⟨xs,.of hH⟩,a5u hb hg R (fun σ' H' F' e' f2 R2=>.of (st σ' H' F' e' f2)) r h⟩
 ·exact h.elim
def a2f(e:DE):Bool:=e.all fun s=>match s with
 | .hd _=>false
 | _=>true
def b1t(n i:Nat)(exm:Str→Bool)(body suite:SF):SF:=fun e=>match body e with
 | some (.ex c)=>if(exm c && a2f e)=true then(match suite ((List.replicate n Sl.no).set i (.fz (.exc c)))with
   | some (.nx e2)=>put i .no e2
   | some (.rt d)=>some (.rt d)
   | some (.ro ds)=>some (.ro ds)
   | _=>none)else none
 | r=>r
theorem Rel.drop{i:Nat}(R:Rel K cl σ H F env)(nh:∀ds,env[i]?≠some (.hd ds)):Rel K cl (σ.set i none) H F (env.set i .no)∧Frm σ H F env (σ.set i none) H F (env.set i .no):=by
 have key:∀(j:Nat) (s:Sl),(env.set i .no)[j]? = some s→s≠.no→j≠i∧env[j]? = some s:=fun j s q ns=>by
  by_cases z:j=i
  ·subst z
   have hj:j<env.length:=by have:=(List.getElem?_eq_some_iff.mp q).1;rwa [List.length_set]at this
   rw[List.getElem?_set_self hj]at q;cases q;exact absurd rfl ns
  ·rw[List.getElem?_set_ne (Ne.symm z)]at q;exact⟨z,q⟩
 have muk:∀j,Mu (env.set i .no) j→j≠i∧Mu env j:=fun j ⟨ds,q⟩=>by
  rcases q with q | q
  ·obtain⟨z,q⟩:=key j _ q (fun z=>by cases z);exact⟨z,ds,.inl q⟩
  ·obtain⟨z,q⟩:=key j _ q (fun z=>by cases z);exact⟨z,ds,.inr q⟩
 refine⟨⟨R.sub,by rw[List.length_set,List.length_set];exact R.len,fun j d q=>?_,fun j ds q=>?_,fun j l b hj hl e1 e2=>?_⟩,⟨Same.refl _,fun a o h f w=>⟨h,f,fun⟨j,ds,q,e⟩=>?_⟩,fun j ds q=>?_,fun _ h=>h⟩⟩
 ·obtain⟨z,q⟩:=key j _ q (fun z=>by cases z)
  obtain⟨v,e,p⟩:=R.fz j d q
  exact⟨v,by rw[List.getElem?_set_ne (Ne.symm z)];exact e,p⟩
 ·have:j≠i∧(env[j]? = some (.ow ds)∨env[j]? = some (.hd ds)):=by
   rcases q with q | q
   ·obtain⟨z,q⟩:=key j _ q (fun z=>by cases z);exact⟨z,.inl q⟩
   ·obtain⟨z,q⟩:=key j _ q (fun z=>by cases z);exact⟨z,.inr q⟩
  obtain⟨z,q⟩:=this
  obtain⟨a,xs,e,r⟩:=R.mu j ds q
  exact⟨a,xs,by rw[List.getElem?_set_ne (Ne.symm z)];exact e,r⟩
 ·obtain⟨zj,mj⟩:=muk j hj
  obtain⟨zl,ml⟩:=muk l hl
  rw[List.getElem?_set_ne (Ne.symm zj)]at e1
  rw[List.getElem?_set_ne (Ne.symm zl)]at e2
  exact R.inj j l b mj ml e1 e2
 ·obtain⟨z,q⟩:=key j _ q (fun z=>by cases z)
  rw[List.getElem?_set_ne (Ne.symm z)]at e
  exact w ⟨j,ds,q,e⟩
 ·have z:j≠i:=fun z=>by subst z;exact nh ds q
  rw[List.getElem?_set_ne (Ne.symm z),List.getElem?_set_ne (Ne.symm z)]
  exact⟨q,rfl⟩
end
section
variable {K:W.Frag}{cl:Str→Addr}{E:XK}{σ:St}{H F:Hp}{env:DE}{k:Nat}
def Z1:Option Sl→Sl
 | some (.fz d)=>.fz d
 | some (.ow ds)=>.hd ds
 | some (.hd ds)=>.hd ds
 | _=>.no
def i7(k:Nat)(js:List Nat)(e:DE):DE:=List.replicate k .no++js.map fun j=>Z1 e[j]?
def j6(b:GF)(c:BF)(el:ZF)(ec:DE)(eo:DE):List D→List D→Option (R (List D))
 | [],acc=>some (.ok acc eo)
 | d::ds,acc=>match b d ec with
  | none=>none
  | some e1=>bnd (c e1) fun t e2=>if t=true then bnd (el e2) fun y _=>if acc.length<sizeLine then j6 b c el ec eo ds (acc++[y])else none
   else j6 b c el ec eo ds acc
theorem U2{js:List Nat}{e:DE}{i:Nat}{s:Sl}(h:(i7 k js e)[i]? = some s)(n:s≠.no):k≤i∧∃j,js[i-k]? = some j∧Z1 e[j]? = s:=by
 unfold i7 at h
 by_cases z:i<k
 ·rw[List.getElem?_append_left (by rw[List.length_replicate];exact z),List.getElem?_replicate,if_pos z]at h
  cases h;exact absurd rfl n
 ·rw[List.getElem?_append_right (by rw[List.length_replicate];omega),List.length_replicate,List.getElem?_map]at h
  cases q:js[i-k]? with
  | none=>rw[q]at h;cases h
  | some j=>rw[q]at h;cases h;exact⟨by omega,j,rfl,rfl⟩
theorem Q7{js:List Nat}{i j:Nat}{v:V}(hk:k≤i)(hj:js[i-k]? = some j)(h:σ[j]? = some (some v)):(k6 k js σ)[i]? = some (some v):=by
 unfold k6
 rw[List.getElem?_append_right (by rw[List.length_replicate];exact hk),List.length_replicate,List.getElem?_map,hj]
 simp[h]
theorem Rel.comp{js:List Nat}(R:Rel K cl σ H F env)(nd:js.Nodup):Rel K cl (k6 k js σ) H F (i7 k js env):=by
 have cap:∀{j:Nat} {ds:List D},Z1 env[j]? = .hd ds→env[j]? = some (.ow ds)∨env[j]? = some (.hd ds):=fun{j ds} h=>by
  unfold Z1 at h
  split at h
  ·cases h
  ·rename_i q;cases h;exact .inl q
  ·rename_i q;cases h;exact .inr q
  ·cases h
 have noow:∀{j:Nat} {ds:List D},Z1 env[j]?≠.ow ds:=fun{j ds} h=>by
  unfold Z1 at h
  split at h<;>cases h
 have mu':∀(i:Nat) (ds:List D),((i7 k js env)[i]? = some (.ow ds)∨(i7 k js env)[i]? = some (.hd ds))→k≤i∧∃j,js[i-k]? = some j∧(env[j]? = some (.ow ds)∨env[j]? = some (.hd ds)):=fun i ds q=>by
  rcases q with q | q
  ·obtain⟨hk,j,hj,c⟩:=U2 q (fun z=>by cases z);exact absurd c noow
  ·obtain⟨hk,j,hj,c⟩:=U2 q (fun z=>by cases z);exact⟨hk,j,hj,cap c⟩
 refine⟨R.sub,?_,fun i d q=>?_,fun i ds q=>?_,fun i l b ⟨ds,q⟩ ⟨es,q'⟩ e1 e2=>?_⟩
 ·unfold k6 i7
  rw[List.length_append,List.length_append,List.length_replicate,List.length_replicate,List.length_map,List.length_map]
 ·obtain⟨hk,j,hj,c⟩:=U2 q (fun z=>by cases z)
  have:env[j]? = some (.fz d):=by
   unfold Z1 at c
   split at c
   ·rename_i q;cases c;exact q
   all_goals cases c
  obtain⟨v,e,p⟩:=R.fz j d this
  exact⟨v,Q7 hk hj e,p⟩
 ·obtain⟨hk,j,hj,c⟩:=mu' i ds q
  obtain⟨a,xs,e,r⟩:=R.mu j ds c
  exact⟨a,xs,Q7 hk hj e,r⟩
 ·obtain⟨hk,j,hj,c⟩:=mu' i ds q
  obtain⟨hl,m,hm,c'⟩:=mu' l es q'
  obtain⟨a,xs,e,_⟩:=R.mu j ds c
  obtain⟨a',xs',e',_⟩:=R.mu m es c'
  have h1:=Q7 (k:=k) hk hj e
  have h2:=Q7 (k:=k) hl hm e'
  rw[e1]at h1;cases h1
  rw[e2]at h2;cases h2
  have jm:j=m:=R.inj j m b ⟨ds,c⟩ ⟨es,c'⟩ e e'
  subst jm
  obtain⟨hi',ei⟩:=List.getElem?_eq_some_iff.mp hj
  obtain⟨hl',el⟩:=List.getElem?_eq_some_iff.mp hm
  have:i-k=l-k:=(List.getElem_inj nd).mp (ei.trans el.symm)
  omega
def NoOw(e:DE):Prop:=∀(i:Nat) (ds:List D),e[i]?≠some (.ow ds)
theorem a2H{js:List Nat}{e:DE}:NoOw (i7 k js e):=fun i ds q=>by
 obtain⟨hk,j,hj,c⟩:=U2 q (fun z=>by cases z)
 unfold Z1 at c
 split at c<;>cases c
theorem NoOw.not{e:DE}(n:NoOw e){σ:St}{a:Addr}:¬Ow σ e a:=fun⟨i,ds,q,_⟩=>n i ds q
theorem Frm.gr{σ':St}{H' F':Hp}{env':DE}(f:Frm σ H F env σ' H' F' env')(n:NoOw env)(s:Same F' H'):Gr H F H' F':=⟨f.fz,s,fun a o h g=>by obtain⟨h1,f1,_⟩:=f.hid a o h g n.not;exact⟨h1,f1⟩⟩
theorem FX.gr{H' F':Hp}(f:FX σ H F env H' F')(n:NoOw env):Gr H F H' F':=⟨f.fz,f.sub,fun a o h g=>f.hid a o h g n.not⟩
structure Grow(K:W.Frag)(cl:Str→Addr)(σ:St)(H0 F0:Hp)(env:DE)(B:Addr)(acc:List D)(ys:List V)(H F:Hp):Prop where
 rel:Rel K cl σ H F env
 frm:Frm σ H0 F0 env σ H F env
 new:H0 B=none
 at_:H B=some (.lst ys)
 un:F B=none
 far:∀j,Mu env j→σ[j]?≠some (some (.ref B))
 rps:Rps K cl F acc ys
 stay:∀a o,H0 a=some o→F0 a=none→H a=some o∧F a=none
theorem Grow.start{B:Addr}(R:Rel K cl σ H F env)(hB:H B=none):Grow K cl σ H F env B [] [] (upd H B (.lst [])) F:=by
 obtain⟨R',f⟩:=R.newN (o:=.lst []) hB
 refine⟨R',f,hB,h7,R.sub.free hB,fun j ⟨ds,q⟩ e=>?_,.nil,fun a o h f=>⟨by rw[c8 (fun z=>by rw[z,hB]at h;cases h)];exact h,f⟩⟩
 obtain⟨a,ys,e1,hH,_⟩:=R.mu j ds q
 rw[e]at e1;cases e1
 rw[hB]at hH;cases hH
theorem Grow.gr{B:Addr}{acc:List D}{ys:List V}{H0 F0 H' F':Hp}(g:Grow K cl σ H0 F0 env B acc ys H F)(r:Gr H F H' F'):Grow K cl σ H0 F0 env B acc ys H' F' :=
 ⟨g.rel.gr r,g.frm.trans (g.rel.frm r),g.new,(r.hid B _ g.at_ g.un).1,(r.hid B _ g.at_ g.un).2,g.far,g.rps.mono r.fz,fun a o h f=>by obtain⟨h1,f1⟩:=g.stay a o h f;exact r.hid a o h1 f1⟩
theorem Grow.push{B:Addr}{acc:List D}{ys:List V}{H0 F0:Hp}{d:D}{y:V}(g:Grow K cl σ H0 F0 env B acc ys H F)(p:Rp K cl F d y):Grow K cl σ H0 F0 env B (acc++[d]) (ys++[y]) (upd H B (.lst (ys++[y]))) F:=by
 have ne:∀a o,F a=some o→a≠B:=fun a o h z=>by rw[z,g.un]at h;cases h
 refine⟨⟨fun a o h=>by rw[c8 (ne a o h)];exact g.rel.sub _ _ h,g.rel.len,g.rel.fz,fun j ds q=>?_,g.rel.inj⟩,⟨g.frm.fz,fun a o h f w=>?_,g.frm.keep,fun a h=>?_⟩,g.new,h7,g.un,g.far,g.rps.append (.one p),fun a o h f=>by rw[c8 (fun z=>by rw[z,g.new]at h;cases h)];exact g.stay a o h f⟩
 ·obtain⟨a,xs,e,hH,r⟩:=g.rel.mu j ds q
  have z:a≠B:=fun z=>g.far j ⟨ds,q⟩ (by rw[e,z])
  exact⟨a,xs,e,by rw[c8 z];exact hH,r⟩
 ·have z:a≠B:=fun z=>by rw[z,g.new]at h;cases h
  rw[c8 z];exact g.frm.hid a o h f w
 ·by_cases z:a=B
  ·rw[z,h7]at h;cases h
  ·rw[c8 z]at h;exact g.frm.dom a h
theorem a2I{b:GF}{c:BF}{el:ZF}{g:TG}{tf:TT}{te:TE}{js:List Nat}{B:Addr}{d:D}{x:V}{ds acc:List D}{ys:List V}{H0 F0:Hp}{Q:VK}{Pv:List V→Hp→Prop}(nd:js.Nodup)
  (hg:U1 K cl k g b) (hc:J3 K cl E tf c) (he:k9 K cl E te el) (gw:Grow K cl σ H0 F0 env B acc ys H F) (p:Rp K cl F d x)
  (h:Ct K cl E (PN K cl) (j6 b c el (i7 k js env) env (d::ds) acc) σ H0 F0 env Q)
  (hP:∀acc' ys' H' F',Grow K cl σ H0 F0 env B acc' ys' H' F'→Ct K cl E (PN K cl) (j6 b c el (i7 k js env) env ds acc') σ H0 F0 env Q→Pv ys' H') :
  g x (k6 k js σ) H fun σ2 H2=>(σ2.drop k=(k6 k js σ).drop k∧σ2.length=(k6 k js σ).length)∧tf σ2 H2 fun t H3 =>
   if t=true then te σ2 H3 fun y H4=>H4 B=some (.lst ys)∧ys.length<sizeLine∧Pv (ys++[y]) (upd H4 B (.lst (ys++[y])))else Pv ys H3:=by
 unfold j6 at h
 have Rc:Rel K cl (k6 k js σ) H F (i7 k js env):=gw.rel.comp nd
 split at h
 ·exact h.elim
 ·rename_i e1 hb
  refine hg x _ H _ d _ e1 F Rc p hb fun σ2 d2 l2 f2 R2=>⟨⟨d2,l2⟩,?_⟩
  have n1:NoOw (i7 k js env):=a2H
  -- ways out by an exception
  have exc:∀{H' F':Hp} {σ':St} {e':DE} {H'' F'':Hp} {n:Str},Frm (k6 k js σ) H F (i7 k js env) σ' H' F' e'→FX σ' H' F' e' H'' F''→(∀H' F',FX σ H0 F0 env H' F'→E (.ref (cl n)) none H')→E (.ref (cl n)) none H'':=fun{H' F' σ' e' H'' F'' n} f fx q=>by
   have gr:Gr H F H'' F'':=(f.fx fx).gr n1
   exact q _ _ (gw.frm.fx gr.fx)
  refine hc σ2 H _ e1 F R2 ?_
  cases hce:c e1 with
  | none=>rw[hce]at h;exact h.elim
  | some rc =>
   rw[hce]at h
   cases rc with
   | ex n=>exact fun H' F' fx=>exc f2 fx h
   | ok t e2 =>
    intro t' H3 F3 f3 R3 ht
    have ht:t'=t:=ht
    subst ht
    have h:Ct K cl E (PN K cl) (if t'=true then bnd (el e2) fun y _=>if acc.length<sizeLine then j6 b c el (i7 k js env) env ds (acc++[y])else none else j6 b c el (i7 k js env) env ds acc) σ H0 F0 env Q:=h
    have gr3:Gr H F H3 F3:=(f2.trans f3).gr n1 R3.sub
    by_cases z:t'=true
    ·rw[if_pos z]at h ⊢
     refine he σ2 H3 _ e2 F3 R3 ?_
     cases hel:el e2 with
     | none=>rw[hel]at h;exact h.elim
     | some re =>
      rw[hel]at h
      cases re with
      | ex n=>exact fun H' F' fx=>exc (f2.trans f3) fx h
      | ok y e3 =>
       intro v H4 F4 f4 R4 hv
       have h:Ct K cl E (PN K cl) (if acc.length<sizeLine then j6 b c el (i7 k js env) env ds (acc++[y])else none) σ H0 F0 env Q:=h
       split at h
       ·rename_i hlen
        have gr4:Gr H F H4 F4:=((f2.trans f3).trans f4).gr n1 R4.sub
        have gw4:=gw.gr gr4
        exact⟨gw4.at_,by rw[← gw4.rps.length];exact hlen,hP _ _ _ _ (gw4.push hv) h⟩
       ·exact h.elim
    ·rw[if_neg z]at h ⊢
     exact hP _ _ _ _ (gw.gr gr3) h
theorem a3H{b:GF}{c:BF}{el:ZF}{js:List Nat}{B:Addr}{acc:List D}{ys:List V}{H0 F0:Hp}{Q:VK}(gw:Grow K cl σ H0 F0 env B acc ys H F)(h:Ct K cl E (PN K cl) (j6 b c el (i7 k js env) env [] acc) σ H0 F0 env Q):Q (.ref B) H :=
 h _ H F gw.frm gw.rel ⟨B,ys,rfl,gw.new,gw.at_,gw.un,gw.far,gw.rps⟩
theorem a3a{b:GF}{c:BF}{el:ZF}{g:TG}{tf:TT}{te:TE}{js:List Nat}{ds:List D}{xs:List V}{a B:Addr}{Q:VK}(nd:js.Nodup)(hg:U1 K cl k g b)(hc:J3 K cl E tf c)(he:k9 K cl E te el)(R:Rel K cl σ H F env)(hB:H B=none)
  (hl:∀H' F',Same F F'→Same F' H'→(∀a o,H a=some o→F a=none→H' a=some o∧F' a=none)→SqL K H' a xs) (r:Rps K cl F ds xs) (h:Ct K cl E (PN K cl) (j6 b c el (i7 k js env) env ds []) σ H F env Q) :
  W4 (Itl K a) g tf te k (k6 k js σ) B (fun H'=>Q (.ref B) H') H:=by
 refine a59 (xs:=xs) (fun i ys H'=>∃F' acc,Grow K cl σ H F env B acc ys H' F'∧Ct K cl E (PN K cl) (j6 b c el (i7 k js env) env (ds.drop i) acc) σ H F env Q) ⟨F,[],.start R hB,h⟩ (fun i ys H' _ ⟨F',acc,gw,_⟩=>hl H' F' gw.frm.fz gw.rel.sub gw.stay) (fun i x ys H' hx ⟨F',acc,gw,h'⟩=>?_) (fun ys H' ⟨F',acc,gw,h'⟩=>?_)
 ·obtain⟨d,hd,p⟩:=r.get' hx
  rw[a0p hd]at h'
  exact a2I (Pv:=fun ys' H2=>∃F' acc,Grow K cl σ H F env B acc ys' H2 F'∧Ct K cl E (PN K cl) (j6 b c el (i7 k js env) env (ds.drop (i+1)) acc) σ H F env Q) nd hg hc he gw (Rp.mono gw.frm.fz _ _ p) h' fun acc' ys' H2 F2 gw2 h2=>⟨F2,acc',gw2,h2⟩
 ·rw[← r.length,List.drop_length]at h'
  exact a3H gw h'
def l6:BF:=fun e=>some (.ok true e)
theorem B3:J3 K cl E a8V l6:=fun σ H Q env F R h=>h true H F Frm.refl R rfl
def a0E(k:Nat)(js:List Nat)(f:ZF)(b:GF)(c:BF)(el:ZF):NF:=fun e=>bnd (f e) fun d e1=>match seqL d with
 | none=>none
 | some ds=>j6 b c el (i7 k js e1) e1 ds []
def A5(i:Nat)(k:Nat)(js:List Nat)(b:GF)(c:BF)(el:ZF):NF:=fun e=>match look e i with
 | some d=>(match seqL d with
  | none=>none
  | some ds=>j6 b c el (i7 k js e) e ds [])
 | none=>none
theorem a4P{t:TE}{g:TG}{tf:TT}{te:TE}{js:List Nat}{f:ZF}{b:GF}{c:BF}{el:ZF}(nd:js.Nodup)(hf:k9 K cl E t f)(hg:U1 K cl k g b)(hc:J3 K cl E tf c)(he:k9 K cl E te el):S5 K cl E (a26 (a1l K t) g tf te k js) (a0E k js f b c el):=by
 intro σ H Q env F R h
 refine hf σ H _ env F R ((Ct.bnd h V1).mono fun x H1 ⟨F1,e1,d,s1,R1,p1,h1⟩=>?_)
 split at h1
 ·exact h1.elim
 ·rename_i ds hs
  obtain⟨a,xs,rfl,r,hl⟩:=Rp.seqL p1 hs
  exact⟨a,rfl,⟨xs,hl H1 R1.sub⟩,fun B hB=>a3a nd hg hc he R1 hB (fun H' F' f2 s2 _=>hl H' (f2.trans s2)) r h1⟩
theorem M8{i:Nat}{g:TG}{tf:TT}{te:TE}{js:List Nat}{b:GF}{c:BF}{el:ZF}(nd:js.Nodup)(hg:U1 K cl k g b)(hc:J3 K cl E tf c)(he:k9 K cl E te el):S5 K cl E (a26 (a1l K (E6 i)) g tf te k js) (A5 i k js b c el):=by
 intro σ H Q env F R h
 unfold A5 look at h
 cases q:env[i]? with
 | none=>rw[q]at h;exact h.elim
 | some s =>
  rw[q]at h
  cases s with
  | no=>exact h.elim
  | fz d =>
   have h:Ct K cl E (PN K cl) (match seqL d with
    | none=>none
    | some ds=>j6 b c el (i7 k js env) env ds []) σ H F env Q:=h
   split at h
   ·exact h.elim
   ·rename_i ds hs
    obtain⟨v,e,p⟩:=R.fz i d q
    obtain⟨a,xs,rfl,r,hl⟩:=Rp.seqL p hs
    exact⟨_,e,a,rfl,⟨xs,hl H R.sub⟩,fun B hB=>a3a nd hg hc he R hB (fun H' F' f2 s2 _=>hl H' (f2.trans s2)) r h⟩
  | ow ds =>
   have h:Ct K cl E (PN K cl) (j6 b c el (i7 k js env) env ds []) σ H F env Q:=h
   obtain⟨a,xs,e,hH,hF,r⟩:=R.mu i ds (.inl q)
   exact⟨_,e,a,rfl,⟨xs,.of hH⟩,fun B hB=>a3a nd hg hc he R hB (fun H' F' _ _ st=>.of (st a _ hH hF).1) r h⟩
  | hd ds =>
   have h:Ct K cl E (PN K cl) (j6 b c el (i7 k js env) env ds []) σ H F env Q:=h
   obtain⟨a,xs,e,hH,hF,r⟩:=R.mu i ds (.inr q)
   exact⟨_,e,a,rfl,⟨xs,.of hH⟩,fun B hB=>a3a nd hg hc he R hB (fun H' F' _ _ st=>.of (st a _ hH hF).1) r h⟩
end
def fD(n m:Nat)(body:SF)(ds:List D):Option R1:=if ds.length=m then(match body (ds.map .fz++List.replicate (n-ds.length) .no)with
 | some (.nx _)=>some (.ret .non)
 | some (.rt d)=>some (.ret d)
 | some (.ro es)=>some (.own es)
 | some (.rz dss)=>some (.owz dss)
 | some (.ex c)=>some (.ex c)
 | _=>none)else none
section
variable {P:Program}{w:World}{K:W.Frag}{mg:Str→Option Value}{base:Heap}{cl:Str→Addr}
theorem a6B{N:List Str}{vs:List V}{ds:List D}{H F:Hp}(s:Same F H)(p:Rps K cl F ds vs):Rel K cl (start N vs) H F (ds.map .fz++List.replicate (N.length-ds.length) .no)∧NoOw (ds.map .fz++List.replicate (N.length-ds.length) .no):=by
 have key:∀(i:Nat) (t:Sl),(ds.map Sl.fz++List.replicate (N.length-ds.length) .no)[i]? = some t→t≠.no→∃d,ds[i]? = some d∧t=.fz d:=fun i t q n=>by
  by_cases z:i<ds.length
  ·rw[List.getElem?_append_left (by rw[List.length_map];exact z),List.getElem?_map]at q
   cases hd:ds[i]? with
   | none=>rw[hd]at q;cases q
   | some d=>rw[hd]at q;cases q;exact⟨d,rfl,rfl⟩
  ·rw[List.getElem?_append_right (by rw[List.length_map];omega),List.getElem?_replicate]at q
   split at q
   ·cases q;exact absurd rfl n
   ·cases q
 have no:NoOw (ds.map .fz++List.replicate (N.length-ds.length) .no):=fun i es q=>by
  obtain⟨d,_,z⟩:=key i _ q (fun z=>by cases z);cases z
 refine⟨⟨s,?_,fun i d q=>?_,fun i es q=>?_,fun i j b ⟨es,q⟩ _ _ _=>?_⟩,no⟩
 ·unfold start
  rw[List.length_append,List.length_append,List.length_map,List.length_map,List.length_replicate,List.length_replicate,p.length]
 ·obtain⟨d',hd,z⟩:=key i _ q (fun z=>by cases z)
  cases z
  obtain⟨v,hv,r⟩:=p.get hd
  refine⟨v,?_,r⟩
  unfold start
  rw[List.getElem?_append_left (by rw[List.length_map];exact(List.getElem?_eq_some_iff.mp hv).1),List.getElem?_map,hv];rfl
 ·rcases q with q | q
  ·obtain⟨d,_,z⟩:=key i _ q (fun z=>by cases z);cases z
  ·obtain⟨d,_,z⟩:=key i _ q (fun z=>by cases z);cases z
 ·rcases q with q | q
  ·obtain⟨d,_,z⟩:=key i _ q (fun z=>by cases z);cases z
  ·obtain⟨d,_,z⟩:=key i _ q (fun z=>by cases z);cases z
theorem a0F{n m:Nat}{body:SF}{vs:List V}{H:Hp}{Q:VK}{E:XK}(h:g6 K cl (fD n m body) vs H Q E):vs.length=m:=by
 obtain⟨ds,F,s,p,h⟩:=h
 unfold fD at h
 by_cases z:ds.length=m
 ·rw[← p.length];exact z
 ·rw[if_neg z]at h;exact h.elim
theorem Q8{N:List Str}{m:Nat}{body:SF}{t:TS}{vs:List V}{H:Hp}{Q:VK}{E:XK}(hb:RfS K cl E t body)(h:g6 K cl (fD N.length m body) vs H Q E):t { nx:=fun _ H'=>Q .non H',rt:=Q } (start N vs) H:=by
 obtain⟨ds,F,s,p,h⟩:=h
 obtain⟨R,no⟩:=a6B (N:=N) s p
 refine hb _ _ H _ F R ?_
 unfold fD at h
 by_cases z:ds.length=m
 ·rw[if_pos z]at h
  cases r:body (ds.map .fz++List.replicate (N.length-ds.length) .no)with
  | none=>rw[r]at h;exact h.elim
  | some rs =>
   rw[r]at h
   cases rs with
   | nx e=>exact fun σ' H' F' f R'=>h .non H' F' (f.gr no R'.sub) (by simp only[Rp])
   | rt d=>exact fun v H' F' x q=>h v H' F' (x.gr no) q
   | ro es =>
    refine fun a xs H' F' x ha fa nw q=>h a xs H' F' (x.gr no) ?_ ha fa q
    cases e:H a with
    | none=>rfl
    | some o=>exact absurd (nw o e) no.not
   | rz dss =>
    refine fun p as H' F' x hp ht fp rz=>h p as H' F' (x.gr no) hp ht fp (rz.imp fun a xs ha fa nw=>?_)
    cases e:H a with
    | none=>rfl
    | some o=>exact absurd (nw o e) no.not
   | bk e=>exact h.elim
   | ct e=>exact h.elim
   | ex c=>exact fun H' F' x=>h H' F' (x.gr no)
 ·rw[if_neg z]at h;exact h.elim
theorem Fun.okD{x qual:Str}{st:Stmt}{f:Addr}{fd:FuncData}{N ps:List Str}{k:Nat}{body:SF}(F:Fun K x qual st f fd)(S:FnScope N ps (a7 st))
  (hbody:∀(cdv:Value) (A:Around) (outer:List Env) (s:Shared) (H:Hp) (E:XK),Room k (A.deeper (envOfC qual (a7 st) s.heap.objs.size f cdv)) →
   ∃t,PSs (K6 (m4 P w) P w K mg base N qual (a7 st) f cdv A outer s H E) (g7 st) t∧RfS K cl E t body):FnOk P w K mg base (m4 P w) (k+1) f fd ps (g6 K cl (fD N.length ps.length body)) :=
 F.okE S (fun vs H Q E h=>a0F h) fun cdv A outer s H vs Q E hr h=>by
  obtain⟨t,h1,h2⟩:=hbody cdv A outer s H E hr
  exact⟨t,h1,Q8 h2 h⟩
theorem FunD.okD{x qual:Str}{st:Stmt}{dT f:Addr}{fd:FuncData}{N ps:List Str}{k:Nat}{body:SF}(F:FunD K x qual st dT f fd)(S:FnScope N ps (a7 st))
  (hbody:∀(cdv:Value) (A:Around) (outer:List Env) (s:Shared) (H:Hp) (E:XK),Room k (A.deeper (envOfC qual (a7 st) s.heap.objs.size f cdv)) →
   ∃t,PSs (K6 (m4 P w) P w K mg base N qual (a7 st) f cdv A outer s H E) (g7 st) t∧RfS K cl E t body):FnOk P w K mg base (m4 P w) (k+1) f fd ps (g6 K cl (fD N.length ps.length body)) :=
 F.okE S (fun vs H Q E h=>a0F h) fun cdv A outer s H vs Q E hr h=>by
  obtain⟨t,h1,h2⟩:=hbody cdv A outer s H E hr
  exact⟨t,h1,Q8 h2 h⟩
theorem a9C{g:List D→Option R1}{vs:List V}{H:Hp}{Q:VK}{E:XK}{a:Addr}{ns:List Int}(e:vs=[.ref a])(h:Scr K H a (ns.map V.int))(q:∀H',Q (.bl true) H')(m:g [.scr ns]=some (.ret (.bl true))):g6 K cl g vs H Q E:=by
 refine⟨[.scr ns],H,Same.refl _,?_,?_⟩
 ·rw[e];exact .one (by simp only[Rp];exact⟨a,rfl,h⟩)
 ·rw[m]
  intro v H' F' _ p
  have p:Rp K cl F' (.bl true) v:=p
  simp only[Rp]at p
  rw[p];exact q H'
def tyN:D→Option String
 | .non=>some "NoneType"
 | .bl _=>some "bool"
 | .int _=>some "int"
 | .str _=>some "str"
 | .lst _=>some "list"
 | .tup _=>some "tuple"
 | _=>none
theorem a4Q{K:W.Frag}(t n:String)(ht:t∈["NoneType","bool","int","str","list","tuple"])(hn:n∈["bool","int","str","list","tuple"]):W.kitOne K (.type t) (.type n)=some (t == n || (t == "bool" && n == "int")):=by
 simp only[List.mem_cons,List.not_mem_nil,or_false]at ht hn
 rcases ht with rfl | rfl | rfl | rfl | rfl | rfl<;>rcases hn with rfl | rfl | rfl | rfl | rfl<;>first | rfl | with_unfolding_all rfl
def a2g:List D→Option D
 | [d,.ty n]=>match tyN d with
  | some t=>if n∈["bool","int","str","list","tuple"]then some (.bl (t == n || (t == "bool" && n == "int")))else none
  | none=>none
 | _=>none
theorem a4R{d:D}{t:String}(h:tyN d=some t):t∈["NoneType","bool","int","str","list","tuple"]:=by
 cases d<;>cases h<;>decide
theorem a6D{F H:Hp}{d:D}{t:String}{v:V}(s:Same F H)(p:Rp K cl F d v)(h:tyN d=some t):TyX K H v (.type t):=by
 cases d<;>cases h<;>simp only[Rp]at p
 ·subst p;exact .of .non
 ·subst p;exact .of (.bl _)
 ·subst p;exact .of (.int _)
 ·subst p;exact .of (.str _)
 ·obtain⟨a,xs,rfl,h,_⟩:=p;exact .of (.tup (s _ _ h))
 ·obtain⟨a,xs,rfl,h,_⟩:=p;exact .of (.lst (s _ _ h))
theorem b1u:a7X K cl (a5e K) a2g:=by
 intro xs ds z H F Q s hx h q
 unfold a2g at h
 split at h
 ·rename_i d n
  split at h
  ·rename_i t ht
   split at h
   ·rename_i hn;cases h
    obtain⟨v,r,rfl,p1,p2⟩:=hx.inv
    obtain⟨u,r',rfl,p3,p4⟩:=p2.inv
    rw[p4.inv0]
    simp only[Rp]at p3
    subst p3
    exact⟨v,_,_,_,_,rfl,rfl,a6D s p1 ht,a4Q t n (a4R ht) hn,q _ H F (.refl s) (by simp only[Rp])⟩
   ·cases h
  ·cases h
 ·cases h
def a0G(n:String)(d:D):Option D:=match tyN d with
 | some t=>if n∈["bool","int","str","list","tuple"]then some (.bl (t == n || (t == "bool" && n == "int")))else none
 | none=>none
def O1(i:Nat)(n:String):ZF:=fun e=>match look e i with
 | some d=>P8 (a0G n d) e
 | none=>none
theorem a0H{E:XK}{i:Nat}{n:String}{t:TE}(ht:t=tC (.ty n):=by rfl):k9 K cl E (tCB (a5e K) (Q4 (E6 i) (Q4 t a0j))) (O1 i n):=by
 subst ht
 intro σ H Q env F R h
 unfold O1 at h
 cases q:look env i with
 | none=>rw[q]at h;exact h.elim
 | some d =>
  rw[q]at h
  obtain⟨x,e,rb⟩:=R.look q
  refine⟨x,e,?_⟩
  cases hz:a0G n d with
  | none=>simp only[hz,Y5]at h;exact h.elim
  | some z =>
   simp only[hz,Y4]at h
   unfold a0G at hz
   split at hz
   ·rename_i t ht
    split at hz
    ·rename_i hn;cases hz
     refine⟨x,_,_,_,_,rfl,rfl,?_,a4Q t n (a4R ht) hn,h _ H F Frm.refl R (by show Rp K cl F (.bl _) _;simp only[Rp])⟩
     rcases rb with p | ⟨a,xs,ds,rfl,rfl,hH,_⟩
     ·exact a6D R.sub p ht
     ·cases ht;exact .of (.lst hH)
    ·cases hz
   ·cases hz
end
section
variable {α β:Type}
def P4(r:Option RS)(k:SF):Option RS:=match r with
 | some (.nx e)=>k e
 | r=>r
theorem a9D{f k:SF}{e:DE}:d4 f k e=P4 (f e) k:=rfl
theorem a2h{e:DE}{k:SF}:P4 (some (.nx e)) k=k e:=rfl
theorem a9E{d:D}{k:SF}:P4 (some (.rt d)) k=some (.rt d):=rfl
theorem a9F{d:List D}{k:SF}:P4 (some (.ro d)) k=some (.ro d):=rfl
theorem a9G{d:Str}{k:SF}:P4 (some (.ex d)) k=some (.ex d):=rfl
theorem a9H{e:DE}{k:SF}:P4 (some (.bk e)) k=some (.bk e):=rfl
theorem a9I{e:DE}{k:SF}:P4 (some (.ct e)) k=some (.ct e):=rfl
theorem a9J{k:SF}:P4 none k=none:=rfl
theorem a74{c:Prop} [Decidable c] {a b:Option RS} {k:SF}:P4 (if c then a else b) k=if c then P4 a k else P4 b k:=by split<;>rfl
theorem a9K{c:Prop} [Decidable c] {a b:Option (R α)} {k:α→DE→Option RS}:I0 (if c then a else b) k=if c then I0 a k else I0 b k:=by split<;>rfl
theorem a9L{d:D}{e:DE}:toZ (some (.ret d)) e=some (.ok d e):=rfl
theorem a9M{d:List D}{e:DE}:toZ (some (.own d)) e=some (.ok (.lst d) e):=rfl
theorem b1v{d:Str}{e:DE}:toZ (some (.ex d)) e=some (.ex d):=rfl
theorem a75{d:D}{e:DE}:S8 (some (.ret d)) e=some (.ok d e):=rfl
theorem a76{d:List D}{e:DE}:S8 (some (.own d)) e=some (.ok (.lst d) e):=rfl
theorem a6E{i:Nat}{d:D}{e:DE}:a1J i (some (.ret d)) e=put i (.fz d) e:=rfl
theorem a6F{i:Nat}{d:List D}{e:DE}:a1J i (some (.own d)) e=put i (.ow d) e:=rfl
theorem a77{i:Nat}{d:Str}{e:DE}:a1J i (some (.ex d)) e=some (.ex d):=rfl
theorem a5v{i:Nat}{d:D}{e:DE}:a1K i (some (.ret d)) e=put i (.fz d) e:=rfl
theorem a5w{i:Nat}{d:List D}{e:DE}:a1K i (some (.own d)) e=put i (.ow d) e:=rfl
theorem a6G{d:D}:a2_ (some (.ret d))=some (.rt d):=rfl
theorem a6H{d:List D}:a2_ (some (.own d))=some (.ro d):=rfl
theorem a78{d:Str}:a2_ (some (.ex d))=some (.ex d):=rfl
theorem a5x{d:D}:a1L (some (.ret d))=some (.rt d):=rfl
theorem a5y{d:List D}:a1L (some (.own d))=some (.ro d):=rfl
def J6(r:Option RS):Option R1:=match r with
 | some (.nx _)=>some (.ret .non)
 | some (.rt d)=>some (.ret d)
 | some (.ro es)=>some (.own es)
 | some (.rz dss)=>some (.owz dss)
 | some (.ex c)=>some (.ex c)
 | _=>none
theorem b16{n m:Nat}{body:SF}{ds:List D}(h:ds.length=m):fD n m body ds=J6 (body (ds.map .fz++List.replicate (n-m) .no)):=by
 unfold fD;rw[if_pos h,h];rfl
theorem a9N{e:DE}:J6 (some (.nx e))=some (.ret .non):=rfl
theorem a2i{d:D}:J6 (some (.rt d))=some (.ret d):=rfl
theorem a9O{d:List (List D)}:J6 (some (.rz d))=some (.owz d):=rfl
theorem a9P{d:List (List D)}{k:SF}:P4 (some (.rz d)) k=some (.rz d):=rfl
theorem a6I{d:List (List D)}:a2_ (some (.owz d))=some (.rz d):=rfl
theorem a9Q{d:List D}:J6 (some (.ro d))=some (.own d):=rfl
theorem a9R{d:Str}:J6 (some (.ex d))=some (.ex d):=rfl
theorem a79{c:Prop} [Decidable c] {a b:Option RS}:J6 (if c then a else b)=if c then J6 a else J6 b:=by split<;>rfl
def T3(r:Option RS)(k:SF):Option RS:=match r with
 | some (.nx e)=>k e
 | some (.ct e)=>k e
 | some (.bk e)=>some (.nx e)
 | r=>r
theorem a9S{e:DE}{k:SF}:T3 (some (.nx e)) k=k e:=rfl
theorem a9T{e:DE}{k:SF}:T3 (some (.ct e)) k=k e:=rfl
theorem a9U{e:DE}{k:SF}:T3 (some (.bk e)) k=some (.nx e):=rfl
theorem a9V{d:D}{k:SF}:T3 (some (.rt d)) k=some (.rt d):=rfl
theorem a9W{d:List (List D)}{k:SF}:T3 (some (.rz d)) k=some (.rz d):=rfl
theorem a9X{d:List D}{k:SF}:T3 (some (.ro d)) k=some (.ro d):=rfl
theorem a9Y{d:Str}{k:SF}:T3 (some (.ex d)) k=some (.ex d):=rfl
theorem a7_{b:GF}{body:SF}{e:DE}:l7 b body [] e=some (.nx e):=rfl
def M9(x:Option DE)(k:SF):Option RS:=match x with
 | none=>none
 | some e=>k e
theorem U3{b:GF}{body:SF}{d:D}{ds:List D}{e:DE}:l7 b body (d::ds) e=M9 (b d e) fun e1=>T3 (body e1) (l7 b body ds):=by
 rw[l7];cases b d e<;>rfl
theorem n5{e:DE}{k:SF}:M9 (some e) k=k e:=rfl
def a3I(n i:Nat)(exm:Str→Bool)(suite:SF)(e:DE)(r:Option RS):Option RS:=match r with
 | some (.ex c)=>if(exm c && a2f e)=true then(match suite ((List.replicate n Sl.no).set i (.fz (.exc c)))with
   | some (.nx e2)=>put i .no e2
   | some (.rt d)=>some (.rt d)
   | some (.ro ds)=>some (.ro ds)
   | _=>none)else none
 | r=>r
theorem a6J{n i:Nat}{exm:Str→Bool}{body suite:SF}{e:DE}:b1t n i exm body suite e=a3I n i exm suite e (body e):=rfl
def a5z(i:Nat)(r:Option RS):Option RS:=match r with
 | some (.nx e2)=>put i .no e2
 | some (.rt d)=>some (.rt d)
 | some (.ro ds)=>some (.ro ds)
 | _=>none
theorem a9Z{i:Nat}{e:DE}:a5z i (some (.nx e))=put i .no e:=rfl
theorem a90{i:Nat}{d:D}:a5z i (some (.rt d))=some (.rt d):=rfl
theorem a91{i:Nat}{d:List D}:a5z i (some (.ro d))=some (.ro d):=rfl
theorem a92{n i:Nat}{exm:Str→Bool}{suite:SF}{e:DE}{c:Str}:a3I n i exm suite e (some (.ex c))=if(exm c && a2f e)=true then a5z i (suite ((List.replicate n Sl.no).set i (.fz (.exc c))))else none:=rfl
theorem a93{n i:Nat}{exm:Str→Bool}{suite:SF}{e:DE}{d:D}:a3I n i exm suite e (some (.rt d))=some (.rt d):=rfl
theorem a94{n i:Nat}{exm:Str→Bool}{suite:SF}{e:DE}{d:List D}:a3I n i exm suite e (some (.ro d))=some (.ro d):=rfl
theorem a95{n i:Nat}{exm:Str→Bool}{suite:SF}{e e1:DE}:a3I n i exm suite e (some (.nx e1))=some (.nx e1):=rfl
theorem a96(a b:Int):n8 (.int a) (.int b)=some (.int (a+b)):=rfl
theorem b1w(a b:Int):S6 (.int a) (.int b)=some (.bl (decide (a<b))):=rfl
theorem b1x(a b:Int):gLe (.int a) (.int b)=some (.bl (decide (a≤b))):=rfl
theorem b1y(a b:Int):gGt (.int a) (.int b)=some (.bl (decide (b<a))):=rfl
theorem b1z(a b:Int):gGe (.int a) (.int b)=some (.bl (decide (b≤a))):=rfl
theorem a2j{a b:Int}(h:IntMulOk a b):x6 (.int a) (.int b)=some (.int (a*b)):=by show(if _ then _ else _)=_;rw[if_pos h]
theorem a2k{a b:Int}(h:0<b∧b.natAbs.log2<9000):v5 (.int a) (.int b)=some (.int (a/b)):=by show(if _ then _ else _)=_;rw[if_pos h]
theorem N0{a b:Int}(h:0<b):n4 (.int a) (.int b)=some (.int (a%b)):=by show(if _ then _ else _)=_;rw[if_pos h]
theorem a0I{a b:Int}(h:a1X a b):J1 (.int a) (.int b)=some (.int (a ^ b.toNat)):=by show(if _ then _ else _)=_;rw[if_pos h]
end
def Fits(i:Int):Prop:=Builtin.Int.intBits i≤2 ^ 20
theorem a97{a b:Int}(h:a.natAbs≤b.natAbs):Builtin.Int.intBits a≤Builtin.Int.intBits b:=by
 unfold Builtin.Int.intBits
 split
 ·exact Nat.zero_le _
 ·rename_i ha
  have ha':a.natAbs≠0:=by
   intro z;apply ha;first | exact Int.natAbs_eq_zero.mp z | (simpa using z)
  have hb':b.natAbs≠0:=by omega
  split
  ·rename_i hb
   exact absurd (by first | exact Int.natAbs_eq_zero.mpr hb | (simpa using hb)) hb'
  ·have h1:b.natAbs<2 ^ (b.natAbs.log2+1):=Nat.lt_log2_self
   have h2:a.natAbs.log2<b.natAbs.log2+1:=(Nat.log2_lt ha').mpr (by omega)
   omega
theorem Fits.le{a b:Int}(h:Fits b)(l:a.natAbs≤b.natAbs):Fits a:=Nat.le_trans (a97 l) h
theorem Fits.mod{i n:Int}(hn:0<n)(h:Fits n):Fits (i%n):=by
 refine h.le ?_
 have h1:=Int.emod_nonneg i (show n≠0 by omega)
 have h2:=Int.emod_lt_of_pos i hn
 omega
theorem Fits.mul{i j:Int}(a:Fits i)(b:Fits j):IntMulOk i j:=IntMulOk.of_bits a b
theorem a8a{i:Int}(h:i.natAbs<2 ^ 400:=by decide):Fits i:=by
 have e:Builtin.Int.intBits (2 ^ 400:Int)≤2 ^ 20:=by decide +kernel
 have e2:(2 ^ 400:Int).natAbs=2 ^ 400:=by decide +kernel
 exact(show Fits (2 ^ 400)from e).le (by omega)
theorem b2v{a b:Int}(h:a.natAbs<2 ^ 64):IntMulOk a b:=IntMulOk.of_left (intBits_le_64 (by omega) (by omega))
theorem a5A{a b:Int}(h:b.natAbs<2 ^ 64):IntMulOk a b:=IntMulOk.of_right (intBits_le_64 (by omega) (by omega))
theorem X2{a b:Int}(h:b.natAbs<2 ^ 64):x6 (.int a) (.int b)=some (.int (a*b)):=a2j (a5A h)
section
variable {α:Type}
theorem a81{a:α}{l:List α}:atI (a::l) 0=some a:=by unfold atI L9;simp
theorem a5B{a:α}{l:List α}{n:Nat}:atI (a::l) ((n:Int)+1)=atI l n:=by
 unfold atI L9
 have h1:(0:Int)≤(n:Int)+1:=by omega
 have h2:(0:Int)≤(n:Int):=by omega
 rw[if_pos h1,if_pos h2]
 by_cases z:(n:Int)<(l.length:Int)
 ·rw[if_pos z,if_pos (by rw[List.length_cons];push_cast;omega)]
  show(a::l)[((n:Int)+1).toNat]? = l[((n:Int)).toNat]?
  rw[show((n:Int)+1).toNat=n+1 by omega,show((n:Int)).toNat=n by omega]
  rfl
 ·rw[if_neg z,if_neg (by rw[List.length_cons];push_cast;omega)]
  rfl
theorem a82{a b:α}{l:List α}:atI (a::b::l) 1=some b:=(a5B (n:=0)).trans a81
theorem a3b{a b c:α}{l:List α}:atI (a::b::c::l) 2=some c:=(a5B (n:=1)).trans a82
theorem a5C{a b c d:α}{l:List α}:atI (a::b::c::d::l) 3=some d:=(a5B (n:=2)).trans a3b
end
def v9(ns:List Int)(k:Int):Int:=ns.getD k.toNat 0
theorem a98{ns:List Int}{k:Int}(hk:0≤k):(if k<(ns.length:Int)then(match atI ns k with
  | none=>none
  | some n=>some (R1.ret (D.int n)))else some (R1.ret (D.int 0)))=some (R1.ret (D.int (v9 ns k))):=by
 unfold v9
 by_cases z:k<(ns.length:Int)
 ·rw[if_pos z]
  have h:k.toNat<ns.length:=by omega
  have e:atI ns k=some ns[k.toNat]:=by
   unfold atI L9
   rw[if_pos hk,if_pos z]
   exact List.getElem?_eq_getElem h
  rw[e,List.getD_eq_getElem?_getD,List.getElem?_eq_getElem h];rfl
 ·rw[if_neg z,List.getD_eq_getElem?_getD,List.getElem?_eq_none (by omega)];rfl
section
variable {K:W.Frag}{cl:Str→Addr}{E:XK}{σ:St}{H F:Hp}{env:DE}{k:Nat}
def oS(f:ZF):OF:=fun e=>bnd (f e) fun d e1=>match d with
 | .int i=>some (.ok (some i) e1)
 | _=>none
theorem a3c{t:TE}{f:ZF}(hf:k9 K cl E t f):RfO K cl E (a8S t) (oS f):=by
 intro σ H Q env F R h
 refine hf σ H _ env F R ((Ct.bnd h b2E).mono fun x H1 ⟨F1,e1,d,s1,R1,p1,h1⟩=>?_)
 split at h1
 ·rename_i i
  have:x=.int i:=by have:=(show Rp K cl F1 (.int i) x from p1);simpa only[Rp]using this
  exact⟨i,this,h1 _ H1 F1 Frm.refl R1 rfl⟩
 ·exact h1.elim
def a0_(xs:List D)(lo hi:Option Int):List D:=(xs.drop (HT.sIx xs.length 0 lo)).take (HT.sIx xs.length xs.length hi-HT.sIx xs.length 0 lo)
theorem Rps.cut{ds:List D}{xs:List V}(h:Rps K cl F ds xs)(lo hi:Option Int):Rps K cl F (a0_ ds lo hi) (a11 xs lo hi):=by
 unfold a0_ a11
 rw[h.length]
 exact(h.drop _).take _
def a1a(i:Nat)(l u:OF):NF:=fun e=>match look e i with
 | none=>none
 | some _=>bnd (l e) fun lo e2=>bnd (u e2) fun hi e3=>match look e3 i with
  | some d=>(match seqL d with
   | some ds=>some (.ok (a0_ ds lo hi) e3)
   | none=>none)
  | none=>none
theorem Rb.seqL{d:D}{ds:List D}{v:V}(s:Same F H)(p:Rb K cl F H d v)(q:L2.seqL d=some ds):∃a xs,v=.ref a∧Rps K cl F ds xs∧SqL K H a xs:=by
 rcases p with p | ⟨a,xs,es,e,rfl,h,r⟩
 ·obtain⟨a,xs,e,r,l⟩:=Rp.seqL p q;exact⟨a,xs,e,r,l H s⟩
 ·cases q;exact⟨a,xs,e,r,.of h⟩
theorem a6K{i:Nat}{tl tu:TO}{l u:OF}(hl:RfO K cl E tl l)(hu:RfO K cl E tu u):S5 K cl E (tSl (a7u K) (E6 i) tl tu) (a1a i l u):=by
 intro σ H Q env F R h
 unfold a1a at h
 cases q:look env i with
 | none=>rw[q]at h;exact h.elim
 | some d0 =>
  rw[q]at h
  obtain⟨x,e0,_⟩:=R.look q
  refine⟨x,e0,?_⟩
  refine hl σ H _ env F R ((Ct.bnd h V1).mono fun lo H2 ⟨F2,e2,lo',s2,R2,p2,h2⟩=>?_)
  refine hu σ H2 _ e2 F2 R2 ((Ct.bnd h2 V1).mono fun hi H3 ⟨F3,e3,hi',s3,R3,p3,h3⟩=>?_)
  cases (show lo=lo' from p2)
  cases (show hi=hi' from p3)
  cases q2:look e3 i with
  | none=>simp only[q2]at h3;exact h3.elim
  | some d =>
   simp only[q2]at h3
   obtain⟨x',e',rb⟩:=R3.look q2
   rw[e0]at e';cases e'
   split at h3
   ·rename_i ds hs
    obtain⟨a,xs,rfl,r,hq⟩:=rb.seqL R3.sub hs
    exact⟨a,xs,rfl,hq,fun p hp=>Ct.newN R3 hp (r.cut _ _) h3⟩
   ·exact h3.elim
end
section
variable {P:Program}{w:World}{mg:Str→Option Value}{base:Heap}{K:W.Frag}{cl:Str→Addr}{E:XK}{σ:St}{H F:Hp}{env:DE}{k:Nat}
def G3:List D→Option (List Int)
 | []=>some []
 | .int b::ds=>(G3 ds).map (b :: ·)
 | _=>none
theorem R5:∀{ds:List D} {bs:List Int},G3 ds=some bs→ds=bs.map .int
 | [],_,h=>by cases h;rfl
 | .int b::ds,_,h=>by
  unfold G3 at h
  cases q:G3 ds with
  | none=>rw[q]at h;cases h
  | some bs=>rw[q]at h;cases h;rw[R5 q];rfl
 | .non::_,_,h=>by cases h
 | .bl _::_,_,h=>by cases h
 | .str _::_,_,h=>by cases h
 | .ty _::_,_,h=>by cases h
 | .cls _::_,_,h=>by cases h
 | .tup _::_,_,h=>by cases h
 | .lst _::_,_,h=>by cases h
 | .scr _::_,_,h=>by cases h
 | .exc _::_,_,h=>by cases h
 | .obj _ _ _::_,_,h=>by cases h
theorem ints_map:∀(ns:List Int),G3 (ns.map .int)=some ns
 | []=>rfl
 | n::ns=>by show(G3 (ns.map .int)).map (n :: ·)=_;rw[ints_map ns];rfl
def a1b:D→Option D
 | .lst ds=>(G3 ds).map fun ns=>.int ns.sum
 | _=>none
theorem b1A:CbOk1 K cl (b09 K) a1b:=by
 intro x d z H F Q s hx h q
 unfold a1b at h
 split at h
 ·rename_i ds
  cases hb:G3 ds with
  | none=>rw[hb]at h;cases h
  | some ns =>
   rw[hb]at h;cases h
   obtain⟨a,xs,rfl,hH,r⟩:=hx.lst s
   rw[R5 hb]at r
   rw[r.ints]at hH
   exact⟨a,ns,rfl,.of hH,q _ H F (.refl s) (by simp only[Rp])⟩
 ·cases h
theorem b17{b:GF}{c:BF}{el:ZF}{g:TG}{tf:TT}{te:TE}{js:List Nat}{ds:List D}{xs:List V}{a B:Addr}{Q:VK}(nd:js.Nodup)(hg:U1 K cl k g b)(hc:J3 K cl E tf c)(he:k9 K cl E te el)(R:Rel K cl σ H F env)(hB:H B=none)
  (hF:F a=some (.tup xs)) (r:Rps K cl F ds xs) (h:Ct K cl E (PN K cl) (j6 b c el (i7 k js env) env ds []) σ H F env Q) :
  W4 (Itt K a) g tf te k (k6 k js σ) B (fun H'=>Q (.ref B) H') H:=by
 refine a7F (xs:=xs) (fun i ys H'=>∃F' acc,Grow K cl σ H F env B acc ys H' F'∧Ct K cl E (PN K cl) (j6 b c el (i7 k js env) env (ds.drop i) acc) σ H F env Q) ⟨F,[],.start R hB,h⟩ (fun i ys H' _ ⟨F',acc,gw,_⟩=>.of (gw.rel.sub _ _ (gw.frm.fz _ _ hF))) (fun i x ys H' hx ⟨F',acc,gw,h'⟩=>?_) (fun ys H' ⟨F',acc,gw,h'⟩=>?_)
 ·obtain⟨d,hd,p⟩:=r.get' hx
  rw[a0p hd]at h'
  exact a2I (Pv:=fun ys' H2=>∃F' acc,Grow K cl σ H F env B acc ys' H2 F'∧Ct K cl E (PN K cl) (j6 b c el (i7 k js env) env (ds.drop (i+1)) acc) σ H F env Q) nd hg hc he gw (Rp.mono gw.frm.fz _ _ p) h' fun acc' ys' H2 F2 gw2 h2=>⟨F2,acc',gw2,h2⟩
 ·rw[← r.length,List.drop_length]at h'
  exact a3H gw h'
def K9(k:Nat)(js:List Nat)(f:ZF)(b:GF)(c:BF)(el:ZF):NF:=fun e=>bnd (f e) fun d e1=>match d with
 | .tup ds=>j6 b c el (i7 k js e1) e1 ds []
 | _=>none
theorem a3J{t:TE}{g:TG}{tf:TT}{te:TE}{js:List Nat}{f:ZF}{b:GF}{c:BF}{el:ZF}(nd:js.Nodup)(hf:k9 K cl E t f)(hg:U1 K cl k g b)(hc:J3 K cl E tf c)(he:k9 K cl E te el):S5 K cl E (a26 (b0O K t) g tf te k js) (K9 k js f b c el):=by
 intro σ H Q env F R h
 refine hf σ H _ env F R ((Ct.bnd h V1).mono fun x H1 ⟨F1,e1,d,s1,R1,p1,h1⟩=>?_)
 split at h1
 ·have p1:=(show Rp K cl F1 (.tup _) x from p1)
  simp only[Rp]at p1
  obtain⟨a,xs,rfl,hF,r⟩:=p1
  exact⟨a,rfl,⟨xs,.of (R1.sub _ _ hF)⟩,fun B hB=>b17 nd hg hc he R1 hB hF r h1⟩
 ·exact h1.elim
end
def b1B(x:Option DE)(k:DE→Option (R (List D))):Option (R (List D)):=match x with
 | none=>none
 | some e=>k e
theorem a2J{e:DE}{k:DE→Option (R (List D))}:b1B (some e) k=k e:=rfl
theorem a6L{b:GF}{c:BF}{el:ZF}{ec eo:DE}{acc:List D}:j6 b c el ec eo [] acc=some (.ok acc eo):=rfl
theorem a1P{b:GF}{c:BF}{el:ZF}{ec eo:DE}{d:D}{ds acc:List D}:j6 b c el ec eo (d::ds) acc=b1B (b d ec) fun e1=>bnd (c e1) fun t e2=>if t=true then bnd (el e2) fun y _=>if acc.length<sizeLine then j6 b c el ec eo ds (acc++[y])else none else j6 b c el ec eo ds acc:=by
 rw[j6];cases b d ec<;>rfl
section
variable {K:W.Frag}{cl:Str→Addr}{E:XK}{σ:St}{H F:Hp}{env:DE}{k:Nat}
def inD(d:D)(es:List D):Bool:=es.any fun e=>P9 e d
theorem Rps.inV{d:D}{v:V}(p:Rp K cl F d v)(f:i3 d=true):∀{es:List D} {us:List V},Rps K cl F es us→es.all i3=true→L2.inV v us=inD d es
 | [],_,h,_=>by rw[h.inv0];rfl
 | e::es,_,h,fe=>by
  obtain⟨u,r,rfl,h1,h2⟩:=h.inv
  rw[List.all_cons,Bool.and_eq_true]at fe
  have:=Rps.inV p f h2 fe.2
  unfold L2.inV inD at this ⊢
  rw[List.any_cons,List.any_cons,h1.eq p fe.1 f,this]
def gIn(neg:Bool)(d e:D):Option D:=match e with
 | .lst es=>if(i3 d && es.all i3)=true then some (.bl (if neg then !inD d es else inD d es))else none
 | .tup es=>if(i3 d && es.all i3)=true then some (.bl (if neg then !inD d es else inD d es))else none
 | _=>none
theorem Rb.flat{d:D}{v:V}(h:Rb K cl F H d v)(f:i3 d=true):Rp K cl F d v:=by
 rcases h with h | ⟨_,_,_,_,rfl,_⟩
 ·exact h
 ·cases f
theorem b18{neg:Bool}:OpOk K cl (rIn K neg) (gIn neg):=by
 intro x y d e z H F Q s hx hy h q
 unfold gIn at h
 split at h
 ·split at h
  ·rename_i c;cases h
   rw[Bool.and_eq_true]at c
   obtain⟨a,xs,rfl,hH,r⟩:=hy.lst s
   have px:=hx.flat c.1
   refine⟨a,xs,rfl,.inl (.of hH),(px.flat c.1).2,r.flat c.2,q _ H F (.refl s) ?_⟩
   simp only[Rp];rw[r.inV px c.1 c.2]
  ·cases h
 ·split at h
  ·rename_i c;cases h
   rw[Bool.and_eq_true]at c
   obtain⟨a,xs,rfl,hH,r⟩:=hy.tup s
   have px:=hx.flat c.1
   refine⟨a,xs,rfl,.inr (.of hH),(px.flat c.1).2,r.flat c.2,q _ H F (.refl s) ?_⟩
   simp only[Rp];rw[r.inV px c.1 c.2]
  ·cases h
 ·cases h
def X3(i:Nat)(g:List D→List D):SF:=fun e=>match e[i]? with
 | some (.ow ds)=>some (.nx (e.set i (.ow (g ds))))
 | _=>none
theorem a8b{i:Nat}:RfS K cl E (a46 (a7v K "list" a56 (E6 i))) (X3 i fun _=>[]):=by
 intro N σ H env F R h
 unfold X3 at h
 split at h
 ·rename_i ds q
  obtain⟨a,xs,e,hH,hF,r⟩:=R.mu i ds (.inl q)
  obtain⟨R2,f2⟩:=R.change q e (es:=[]) (ys:=[]) .nil
  exact⟨_,e,.inl ⟨rfl,xs,.of hH⟩,a,xs,rfl,rfl,hH,h σ _ F f2 R2⟩
 ·exact h.elim
end
mutual
def l9:D→D→Bool
 | .tup ds,e=>(match e with
  | .tup es=>E4 ds es
  | _=>false)
 | .lst ds,e=>(match e with
  | .lst es=>E4 ds es
  | _=>false)
 | d,e=>P9 d e
def E4:List D→List D→Bool
 | [],es=>es.isEmpty
 | d::ds,es=>(match es with
  | []=>false
  | e::es=>l9 d e && E4 ds es)
end
mutual
def g4:D→Bool
 | .tup ds=>w6 ds
 | .lst ds=>w6 ds
 | d=>i3 d
def w6:List D→Bool
 | []=>true
 | d::ds=>g4 d && w6 ds
end
mutual
def E5:D→Nat
 | .tup ds=>A6 ds+1
 | .lst ds=>A6 ds+1
 | _=>0
def A6:List D→Nat
 | []=>0
 | d::ds=>max (E5 d) (A6 ds)
end
def a3L(ds es:List D)(j:Nat):Bool:=match ds[j]?,es[j]? with
 | some d,some e=>l9 d e
 | _,_=>true
theorem L3:∀{ds es:List D},ds.length=es.length→(List.range ds.length).all (a3L ds es)=E4 ds es
 | [],[],_=>by simp[E4]
 | d::ds,e::es,h=>by
  have h':ds.length=es.length:=by simpa using h
  simp only[E4]
  show(List.range (ds.length+1)).all _=(l9 d e && E4 ds es)
  rw[List.range_succ_eq_map,List.all_cons,List.all_map,← L3 h']
  rfl
theorem T4:∀{ds es:List D},ds.length≠es.length→E4 ds es=false
 | [],[],h=>absurd rfl h
 | _::_,[],_=>by simp[E4]
 | [],_::_,_=>by simp[E4]
 | d::ds,e::es,h=>by
  simp only[E4]
  rw[T4 (fun q=>h (by simp[q])),Bool.and_false]
section
variable {K:W.Frag}{cl:Str→Addr}{F:Hp}
theorem Z2{d e:D}{v:V}(fd:i3 d=true)(p:Rp K cl F d v)(q:Rp K cl F e v)(pe:g4 e=true):P9 d e=true:=by
 cases d<;>first | (cases fd;done) | skip
 all_goals simp only[Rp]at p;subst p
 all_goals cases e<;>simp only[Rp]at q<;>first | (cases q;done) | (cases q;simp[P9];done) | (obtain⟨_,_,z,_⟩:=q;cases z;done) | (obtain⟨_,z,_⟩:=q;cases z;done) | (simp[g4,i3]at pe;done)
mutual
theorem a2l:∀(d e:D) (v:V),Rp K cl F d v→Rp K cl F e v→g4 d=true→g4 e=true→l9 d e=true
 | .tup ds,e,v,p,q,pd,pe=>by
  simp only[Rp]at p
  obtain⟨a,xs,rfl,ha,r⟩:=p
  cases e<;>simp only[Rp]at q
  case tup es =>
   obtain⟨a',ys,z,ha',r'⟩:=q
   cases z;rw[ha]at ha';cases ha'
   simp only[g4]at pd pe
   simp only[l9]
   exact a1c ds es xs r r' pd pe
  case lst es =>
   obtain⟨a',ys,z,ha',r'⟩:=q
   cases z;rw[ha]at ha';cases ha'
  all_goals first | (cases q;done) | (simp[g4,i3]at pe;done)
 | .lst ds,e,v,p,q,pd,pe=>by
  simp only[Rp]at p
  obtain⟨a,xs,rfl,ha,r⟩:=p
  cases e<;>simp only[Rp]at q
  case lst es =>
   obtain⟨a',ys,z,ha',r'⟩:=q
   cases z;rw[ha]at ha';cases ha'
   simp only[g4]at pd pe
   simp only[l9]
   exact a1c ds es xs r r' pd pe
  case tup es =>
   obtain⟨a',ys,z,ha',r'⟩:=q
   cases z;rw[ha]at ha';cases ha'
  all_goals first | (cases q;done) | (simp[g4,i3]at pe;done)
 | .non,e,v,p,q,pd,pe=>by simp only[l9];exact Z2 rfl p q pe
 | .bl _,e,v,p,q,pd,pe=>by simp only[l9];exact Z2 rfl p q pe
 | .int _,e,v,p,q,pd,pe=>by simp only[l9];exact Z2 rfl p q pe
 | .str _,e,v,p,q,pd,pe=>by simp only[l9];exact Z2 rfl p q pe
 | .ty _,e,v,p,q,pd,pe=>by simp[g4,i3]at pd
 | .cls _,e,v,p,q,pd,pe=>by simp[g4,i3]at pd
 | .scr _,e,v,p,q,pd,pe=>by simp[g4,i3]at pd
 | .exc _,e,v,p,q,pd,pe=>by simp[g4,i3]at pd
 | .obj _ _ _,e,v,p,q,pd,pe=>by simp[g4,i3]at pd
theorem a1c:∀(ds es:List D) (vs:List V),Rps K cl F ds vs→Rps K cl F es vs→w6 ds=true→w6 es=true→E4 ds es=true
 | [],es,vs,p,q,_,_=>by
  rw[p.inv0]at q
  cases es with
  | nil=>simp[E4]
  | cons e es=>obtain⟨_,_,z,_⟩:=q.inv;cases z
 | d::ds,es,vs,p,q,pd,pe=>by
  obtain⟨v,r,rfl,p1,p2⟩:=p.inv
  cases es with
  | nil=>have:=q.inv0;cases this
  | cons e es =>
   obtain⟨v',r',z,q1,q2⟩:=q.inv
   cases z
   simp only[w6,Bool.and_eq_true]at pd pe
   simp only[E4]
   rw[a2l d e v p1 q1 pd.1 pe.1,a1c ds es r p2 q2 pd.2 pe.2];rfl
end
end
section
variable {X:Cx}{cl:Str→Addr}{F:Hp}{pins:List (Addr×Obj)}{σ:St}{H:Hp}{s:Shared}
theorem Z3{a:Addr}{d:D}{v:V}{u:Value}{A:Around}(hu:A.units<cLine)(hl:(∃xs,SqL X.K H a xs)∨∃xs,SqT X.K H a xs)(I:Inv X pins σ H s)(f:i3 d=true)(p:Rp X.K cl F d v)(r:RelV v u):SeqAt.EqAt A s (.ref a) u false∧SeqAt.EqAt A s u (.ref a) false:=by
 rcases hl with⟨xs,h⟩ | ⟨xs,h⟩
 ·obtain⟨us,r1,p1,z1⟩:=I.list h
  have q:=p1.isList
  cases d<;>first | (cases f;done) | skip
  all_goals simp only[Rp]at p;subst p
  ·cases r;exact⟨.list_none q hu,.none_list q hu⟩
  ·cases r;exact⟨.list_bool _ q hu,.bool_list _ q hu⟩
  ·obtain⟨t,rfl⟩:=r;exact⟨.list_int _ _ q hu,.int_list _ _ q hu⟩
  ·obtain⟨t,rfl⟩:=r;exact⟨.list_str _ _ q hu,.str_list _ _ q hu⟩
 ·obtain⟨us,r1,q,z1⟩:=I.tuple h
  cases d<;>first | (cases f;done) | skip
  all_goals simp only[Rp]at p;subst p
  ·cases r;exact⟨.tuple_none q hu,.none_tuple q hu⟩
  ·cases r;exact⟨.tuple_bool _ q hu,.bool_tuple _ q hu⟩
  ·obtain⟨t,rfl⟩:=r;exact⟨.tuple_int _ _ q hu,.int_tuple _ _ q hu⟩
  ·obtain⟨t,rfl⟩:=r;exact⟨.tuple_str _ _ q hu,.str_tuple _ _ q hu⟩
theorem D4{d:D}(p:g4 d=true):i3 d=true∨(∃ds,d=.tup ds)∨∃ds,d=.lst ds:=by
 cases d<;>first | exact .inl rfl | exact .inr (.inl ⟨_,rfl⟩) | exact .inr (.inr ⟨_,rfl⟩) | (simp[g4,i3]at p;done)
theorem a8c{d e:D}(f:i3 d=true):l9 d e=P9 d e:=by cases d<;>first | (cases f;done) | simp only[l9]
theorem U4{d e:D}{v u:V}{a b:Value}{A:Around}(I:Inv X pins σ H s)(sF:Same F H)(hu:A.units<cLine)(f:i3 d=true)(p:Rp X.K cl F d v)(q:Rp X.K cl F e u)(rv:RelV v a)(ru:RelV u b)(pe:g4 e=true):SeqAt.EqAt A s a b (l9 d e):=by
 rw[a8c f]
 rcases D4 pe with fe | ⟨es,rfl⟩ | ⟨es,rfl⟩
 ·rw[← p.eq q f fe]
  exact a53 rv ru (p.flat f).2 (q.flat fe).2
 ·simp only[Rp]at q
  obtain⟨c,ys,rfl,hb,r'⟩:=q
  cases ru
  have:=(Z3 (A:=A) hu (.inr ⟨ys,.of (sF _ _ hb)⟩) I f p rv).2
  have z:P9 d (.tup es)=false:=by cases d<;>first | (cases f;done) | rfl
  rw[z];exact this
 ·simp only[Rp]at q
  obtain⟨c,ys,rfl,hb,r'⟩:=q
  cases ru
  have:=(Z3 (A:=A) hu (.inl ⟨ys,.of (sF _ _ hb)⟩) I f p rv).2
  have z:P9 d (.lst es)=false:=by cases d<;>first | (cases f;done) | rfl
  rw[z];exact this
mutual
theorem a99(I:Inv X pins σ H s)(sF:Same F H):∀(d e:D) (v u:V) (a b:Value) (A:Around),A.units+E5 d<cLine→Rp X.K cl F d v→Rp X.K cl F e u→RelV v a→RelV u b→g4 d=true→g4 e=true→SeqAt.EqAt A s a b (l9 d e)
 | .tup ds,e,v,u,va,ua,A,hu,p,q,rv,ru,pd,pe=>by
  have p0:=p
  have hu':A.units<cLine:=by omega
  simp only[E5]at hu
  simp only[Rp]at p
  obtain⟨a,xs,rfl,ha,r⟩:=p
  cases rv
  have ha':=sF _ _ ha
  rcases D4 pe with f | ⟨es,rfl⟩ | ⟨es,rfl⟩
  ·have:=(Z3 (A:=A) hu' (.inr ⟨xs,.of ha'⟩) I f q ru).1
   have z:l9 (.tup ds) e=false:=by cases e<;>first | (cases f;done) | simp only[l9]
   rw[z];exact this
  ·have q0:=q
   simp only[Rp]at q
   obtain⟨b,ys,rfl,hb,r'⟩:=q
   cases ru
   have hb':=sF _ _ hb
   by_cases z:a=b
   ·subst z
    rw[a2l _ _ _ p0 q0 pd pe]
    exact .same _
   ·obtain⟨us,r1,p1,_⟩:=I.tuple (.of ha')
    obtain⟨ws,r2,p2,_⟩:=I.tuple (.of hb')
    simp only[g4]at pd pe
    have he:∀j (h1:j<us.toArray.size) (h2:j<ws.toArray.size),SeqAt.EqAt A.in1 s us.toArray[j] ws.toArray[j] (a3L ds es j):=T5 I sF ds es xs ys us ws A.in1 (by show A.units+1+A6 ds<cLine;omega) r r' r1 r2 pd pe
    have:=SeqAt.EqAt.of_refs z (SeqAt.RcAt.tuples p1 p2 hu' he)
    have e1:us.toArray.size=ds.length:=by simp[← r1.length,r.length]
    have e2:ws.toArray.size=es.length:=by simp[← r2.length,r'.length]
    rw[e1,e2]at this
    simp only[l9]
    by_cases hl:ds.length=es.length
    ·rw[← hl,Nat.min_self,L3 hl,beq_self_eq_true,Bool.and_true]at this
     exact this
    ·rw[T4 hl]
     rw[beq_eq_false_iff_ne.mpr hl,Bool.and_false]at this
     exact this
  ·simp only[Rp]at q
   obtain⟨b,ys,rfl,hb,r'⟩:=q
   cases ru
   obtain⟨us,r1,p1,_⟩:=I.tuple (.of ha')
   obtain⟨ws,r2,p2,_⟩:=I.list (.of (sF _ _ hb))
   simp only[l9]
   exact .tuple_list p1 p2.isList hu'
 | .lst ds,e,v,u,va,ua,A,hu,p,q,rv,ru,pd,pe=>by
  have p0:=p
  have hu':A.units<cLine:=by omega
  simp only[E5]at hu
  simp only[Rp]at p
  obtain⟨a,xs,rfl,ha,r⟩:=p
  cases rv
  have ha':=sF _ _ ha
  rcases D4 pe with f | ⟨es,rfl⟩ | ⟨es,rfl⟩
  ·have:=(Z3 (A:=A) hu' (.inl ⟨xs,.of ha'⟩) I f q ru).1
   have z:l9 (.lst ds) e=false:=by cases e<;>first | (cases f;done) | simp only[l9]
   rw[z];exact this
  ·simp only[Rp]at q
   obtain⟨b,ys,rfl,hb,r'⟩:=q
   cases ru
   obtain⟨us,r1,p1,_⟩:=I.list (.of ha')
   obtain⟨ws,r2,p2,_⟩:=I.tuple (.of (sF _ _ hb))
   simp only[l9]
   exact .list_tuple p1.isList p2 hu'
  ·have q0:=q
   simp only[Rp]at q
   obtain⟨b,ys,rfl,hb,r'⟩:=q
   cases ru
   have hb':=sF _ _ hb
   by_cases z:a=b
   ·subst z
    rw[a2l _ _ _ p0 q0 pd pe]
    exact .same _
   ·obtain⟨us,r1,p1,_⟩:=I.list (.of ha')
    obtain⟨ws,r2,p2,_⟩:=I.list (.of hb')
    simp only[g4]at pd pe
    have he:∀j (h1:j<us.toArray.size) (h2:j<ws.toArray.size),SeqAt.EqAt A.in1 s us.toArray[j] ws.toArray[j] (a3L ds es j):=T5 I sF ds es xs ys us ws A.in1 (by show A.units+1+A6 ds<cLine;omega) r r' r1 r2 pd pe
    have e1:us.toArray.size=ds.length:=by simp[← r1.length,r.length]
    have e2:ws.toArray.size=es.length:=by simp[← r2.length,r'.length]
    simp only[l9]
    by_cases hl:ds.length=es.length
    ·have:=SeqAt.EqAt.of_refs z (SeqAt.RcAt.lists p1.isList p2.isList (by rw[e1,e2,hl]) hu' he)
     rw[e1,L3 hl]at this
     exact this
    ·rw[T4 hl]
     exact SeqAt.EqAt.of_refs z (SeqAt.RcAt.lists_lengths p1.isList p2.isList (by rw[e1,e2];simp[hl]) hu')
 | .non,e,v,u,va,ua,A,hu,p,q,rv,ru,pd,pe=>U4 I sF (by omega) rfl p q rv ru pe
 | .bl _,e,v,u,va,ua,A,hu,p,q,rv,ru,pd,pe=>U4 I sF (by omega) rfl p q rv ru pe
 | .int _,e,v,u,va,ua,A,hu,p,q,rv,ru,pd,pe=>U4 I sF (by omega) rfl p q rv ru pe
 | .str _,e,v,u,va,ua,A,hu,p,q,rv,ru,pd,pe=>U4 I sF (by omega) rfl p q rv ru pe
 | .ty _,e,v,u,va,ua,A,hu,p,q,rv,ru,pd,pe=>by simp[g4,i3]at pd
 | .cls _,e,v,u,va,ua,A,hu,p,q,rv,ru,pd,pe=>by simp[g4,i3]at pd
 | .scr _,e,v,u,va,ua,A,hu,p,q,rv,ru,pd,pe=>by simp[g4,i3]at pd
 | .exc _,e,v,u,va,ua,A,hu,p,q,rv,ru,pd,pe=>by simp[g4,i3]at pd
 | .obj _ _ _,e,v,u,va,ua,A,hu,p,q,rv,ru,pd,pe=>by simp[g4,i3]at pd
theorem T5(I:Inv X pins σ H s)(sF:Same F H):∀(ds es:List D) (xs ys:List V) (us ws:List Value) (A:Around),A.units+A6 ds<cLine→Rps X.K cl F ds xs→Rps X.K cl F es ys→Vals xs us→Vals ys ws→w6 ds=true→w6 es=true→∀j (h1:j<us.toArray.size) (h2:j<ws.toArray.size),SeqAt.EqAt A s us.toArray[j] ws.toArray[j] (a3L ds es j)
 | [],es,xs,ys,us,ws,A,hu,p,q,rv,rw',pd,pe=>fun j h1 h2=>by
  rw[p.inv0]at rv;cases rv;simp at h1
 | d::ds,es,xs,ys,us,ws,A,hu,p,q,rv,rw',pd,pe=>fun j h1 h2=>by
  obtain⟨x,xs',rfl,p1,p2⟩:=p.inv
  cases rv with
  | cons r1 t1 =>
   cases es with
   | nil=>rw[q.inv0]at rw';cases rw';simp at h2
   | cons e es =>
    obtain⟨y,ys',rfl,q1,q2⟩:=q.inv
    cases rw' with
    | cons r2 t2 =>
     simp only[w6,Bool.and_eq_true]at pd pe
     simp only[A6]at hu
     cases j with
     | zero=>exact a99 I sF d e x y _ _ A (by omega) p1 q1 r1 r2 pd.1 pe.1
     | succ j =>
      have:=T5 I sF ds es xs' ys' _ _ A (by omega) p2 q2 t1 t2 pd.2 pe.2 j (by simpa using h1) (by simpa using h2)
      simpa [a3L]using this
end
end
theorem a5D{A:Around}{k:Nat}(hr:Room k A):A.units+41<cLine:=Nat.lt_of_le_of_lt (Nat.add_le_add_left (by decide:41≤64) _) hr.units
def O2 : D→Bool
 | .tup _=>true
 | .lst _=>true
 | _=>false
theorem Rb.toRp{K:W.Frag}{cl:Str→Addr}{F H:Hp}{d:D}{v:V}(s:Same F H)(h:Rb K cl F H d v):∃F',Same F F'∧Same F' H∧Rp K cl F' d v:=by
 rcases h with h | ⟨a,xs,ds,rfl,rfl,ha,r⟩
 ·exact⟨F,Same.refl _,s,h⟩
 ·have g:Same F (upd F a (.lst xs)):=fun b o q=>by
   by_cases z:b=a
   ·subst z;have:=s _ _ q;rw[ha]at this;cases this;exact h7
   ·rw[c8 z];exact q
  refine⟨upd F a (.lst xs),g,fun b o q=>?_,?_⟩
  ·by_cases z:b=a
   ·subst z;rw[h7]at q;cases q;exact ha
   ·rw[c8 z]at q;exact s _ _ q
  ·simp only[Rp];exact⟨a,xs,rfl,h7,r.mono g⟩
section
variable {X:Cx}{cl:Str→Addr}{F:Hp}{pins:List (Addr×Obj)}{σ:St}{H:Hp}{s:Shared}
theorem a0J{a:Addr}{d:D}{v:V}{u:Value}{A:Around}(hu:A.units<cLine)(hl:(∃xs,SqL X.K H a xs)∨∃xs,SqT X.K H a xs)(I:Inv X pins σ H s)(f:i3 d=true)(p:Rp X.K cl F d v)(r:RelV v u) :
  (SeqAt.RcAt A s (.ref a) u false∧SeqAt.RcAt A s u (.ref a) false)∧SeqAt.RcNeAt A s (.ref a) u true∧SeqAt.RcNeAt A s u (.ref a) true:=by
 rcases hl with⟨xs,h⟩ | ⟨xs,h⟩
 ·obtain⟨us,r1,p1,z1⟩:=I.list h
  have q:=p1.isList
  cases d<;>first | (cases f;done) | skip
  all_goals simp only[Rp]at p;subst p
  ·cases r;exact⟨⟨.list_none q hu,.none_list q hu⟩,.list_none q hu,.none_list q hu⟩
  ·cases r;exact⟨⟨.list_bool _ q hu,.bool_list _ q hu⟩,.list_bool _ q hu,.bool_list _ q hu⟩
  ·obtain⟨t,rfl⟩:=r;exact⟨⟨.list_int _ _ q hu,.int_list _ _ q hu⟩,.list_int _ _ q hu,.int_list _ _ q hu⟩
  ·obtain⟨t,rfl⟩:=r;exact⟨⟨.list_str _ _ q hu,.str_list _ _ q hu⟩,.list_str _ _ q hu,.str_list _ _ q hu⟩
 ·obtain⟨us,r1,q,z1⟩:=I.tuple h
  cases d<;>first | (cases f;done) | skip
  all_goals simp only[Rp]at p;subst p
  ·cases r;exact⟨⟨.tuple_none q hu,.none_tuple q hu⟩,.tuple_none q hu,.none_tuple q hu⟩
  ·cases r;exact⟨⟨.tuple_bool _ q hu,.bool_tuple _ q hu⟩,.tuple_bool _ q hu,.bool_tuple _ q hu⟩
  ·obtain⟨t,rfl⟩:=r;exact⟨⟨.tuple_int _ _ q hu,.int_tuple _ _ q hu⟩,.tuple_int _ _ q hu,.int_tuple _ _ q hu⟩
  ·obtain⟨t,rfl⟩:=r;exact⟨⟨.tuple_str _ _ q hu,.str_tuple _ _ q hu⟩,.tuple_str _ _ q hu,.str_tuple _ _ q hu⟩
theorem a9_{d e:D}{v u:V}{a b:Value}{A:Around}(I:Inv X pins σ H s)(sF:Same F H)(hu:A.units+E5 d<cLine)(p:Rp X.K cl F d v)(q:Rp X.K cl F e u)(rv:RelV v a)(ru:RelV u b)(pd:g4 d=true)(pe:g4 e=true)(hs:O2 d=true∨O2 e=true) :
  SeqAt.RcAt A s a b (l9 d e)∧SeqAt.RcNeAt A s a b (!l9 d e):=by
 have hu':A.units<cLine:=by omega
 rcases D4 pd with fd | ⟨ds,rfl⟩ | ⟨ds,rfl⟩
 ·have se:O2 e=true:=hs.resolve_left (by cases d<;>first | (cases fd;done) | simp[O2])
  rcases D4 pe with fe | ⟨es,rfl⟩ | ⟨es,rfl⟩
  ·cases e<;>first | (cases fe;done) | (cases se;done)
  ·simp only[Rp]at q
   obtain⟨c,ys,rfl,hb,r'⟩:=q
   cases ru
   have:=a0J (A:=A) hu' (.inr ⟨ys,.of (sF _ _ hb)⟩) I fd p rv
   have z:l9 d (.tup es)=false:=by cases d<;>first | (cases fd;done) | simp[l9,P9]
   rw[z];exact⟨this.1.2,this.2.2⟩
  ·simp only[Rp]at q
   obtain⟨c,ys,rfl,hb,r'⟩:=q
   cases ru
   have:=a0J (A:=A) hu' (.inl ⟨ys,.of (sF _ _ hb)⟩) I fd p rv
   have z:l9 d (.lst es)=false:=by cases d<;>first | (cases fd;done) | simp[l9,P9]
   rw[z];exact⟨this.1.2,this.2.2⟩
 ·simp only[E5]at hu
  simp only[Rp]at p
  obtain⟨l,xs,rfl,ha,r⟩:=p
  cases rv
  have ha':=sF _ _ ha
  obtain⟨us,r1,p1,_⟩:=I.tuple (.of ha')
  rcases D4 pe with fe | ⟨es,rfl⟩ | ⟨es,rfl⟩
  ·have:=a0J (A:=A) hu' (.inr ⟨xs,.of ha'⟩) I fe q ru
   have z:l9 (.tup ds) e=false:=by cases e<;>first | (cases fe;done) | simp only[l9]
   rw[z];exact⟨this.1.1,this.2.1⟩
  ·simp only[Rp]at q
   obtain⟨c,ys,rfl,hb,r'⟩:=q
   cases ru
   obtain⟨ws,r2,p2,_⟩:=I.tuple (.of (sF _ _ hb))
   simp only[g4]at pd pe
   have he:=T5 I sF ds es xs ys us ws A.in1 (by show A.units+1+A6 ds<cLine;omega) r r' r1 r2 pd pe
   have h1:=SeqAt.RcAt.tuples p1 p2 hu' he
   have h2:=SeqAt.RcNeAt.tuples p1 p2 hu' he
   have e1:us.toArray.size=ds.length:=by simp[← r1.length,r.length]
   have e2:ws.toArray.size=es.length:=by simp[← r2.length,r'.length]
   rw[e1,e2]at h1 h2
   simp only[l9]
   by_cases hl:ds.length=es.length
   ·rw[← hl,Nat.min_self,L3 hl,beq_self_eq_true,Bool.and_true]at h1 h2
    exact⟨h1,h2⟩
   ·rw[T4 hl]
    rw[beq_eq_false_iff_ne.mpr hl,Bool.and_false]at h1 h2
    exact⟨h1,h2⟩
  ·simp only[Rp]at q
   obtain⟨c,ys,rfl,hb,r'⟩:=q
   cases ru
   obtain⟨ws,r2,p2,_⟩:=I.list (.of (sF _ _ hb))
   simp only[l9]
   exact⟨.tuple_list p1 p2.isList hu',.tuple_list p1 p2.isList hu'⟩
 ·simp only[E5]at hu
  simp only[Rp]at p
  obtain⟨l,xs,rfl,ha,r⟩:=p
  cases rv
  have ha':=sF _ _ ha
  obtain⟨us,r1,p1,_⟩:=I.list (.of ha')
  rcases D4 pe with fe | ⟨es,rfl⟩ | ⟨es,rfl⟩
  ·have:=a0J (A:=A) hu' (.inl ⟨xs,.of ha'⟩) I fe q ru
   have z:l9 (.lst ds) e=false:=by cases e<;>first | (cases fe;done) | simp only[l9]
   rw[z];exact⟨this.1.1,this.2.1⟩
  ·simp only[Rp]at q
   obtain⟨c,ys,rfl,hb,r'⟩:=q
   cases ru
   obtain⟨ws,r2,p2,_⟩:=I.tuple (.of (sF _ _ hb))
   simp only[l9]
   exact⟨.list_tuple p1.isList p2 hu',.list_tuple p1.isList p2 hu'⟩
  ·simp only[Rp]at q
   obtain⟨c,ys,rfl,hb,r'⟩:=q
   cases ru
   obtain⟨ws,r2,p2,_⟩:=I.list (.of (sF _ _ hb))
   simp only[g4]at pd pe
   have he:=T5 I sF ds es xs ys us ws A.in1 (by show A.units+1+A6 ds<cLine;omega) r r' r1 r2 pd pe
   have e1:us.toArray.size=ds.length:=by simp[← r1.length,r.length]
   have e2:ws.toArray.size=es.length:=by simp[← r2.length,r'.length]
   simp only[l9]
   by_cases hl:ds.length=es.length
   ·have h1:=SeqAt.RcAt.lists p1.isList p2.isList (by rw[e1,e2,hl]) hu' he
    have h2:=SeqAt.RcNeAt.lists p1.isList p2.isList (by rw[e1,e2,hl]) hu' he
    rw[e1,L3 hl]at h1 h2
    exact⟨h1,h2⟩
   ·rw[T4 hl]
    exact⟨SeqAt.RcAt.lists_lengths p1.isList p2.isList (by rw[e1,e2];simp[hl]) hu',SeqAt.RcNeAt.lists_lengths p1.isList p2.isList (by rw[e1,e2];simp[hl]) hu'⟩
end
def b1C(K:W.Frag)(cl:Str→Addr)(neg:Bool):R2:=fun x y H Q=>∃F d e,Same F H∧Rp K cl F d x∧Rp K cl F e y∧g4 d=true∧g4 e=true∧E5 d≤40∧(O2 d=true∨O2 e=true)∧Q (.bl (if neg then !l9 d e else l9 d e)) H
theorem a4T{X:Cx}{K:W.Frag}{cl:Str→Addr}(hu:X.A.units+41<cLine)(hK:X.K=K:=by rfl):B8 X (compareOp .NotEq) (b1C K cl true):=by
 subst hK
 intro pins s σ H x y v u Q I rx ry h
 obtain⟨F,d,e,sF,p,q,pd,pe,hd,hs,hQ⟩:=h
 exact(a9_ I sF (by omega) p q rx ry pd pe hs).2 X.prog X.w _ _ ⟨.bl _,H,I,rfl,hQ⟩
def P5(neg:Bool)(d e:D):Option D:=if(g4 d && g4 e && decide (E5 d≤40) && (O2 d || O2 e))=true then some (.bl (if neg then !l9 d e else l9 d e))else none
theorem a6M{K:W.Frag}{cl:Str→Addr}{neg:Bool}:OpOk K cl (b1C K cl neg) (P5 neg):=by
 intro x y d e z H F Q s hx hy h q
 unfold P5 at h
 split at h
 ·rename_i c;cases h
  simp only[Bool.and_eq_true,Bool.or_eq_true,decide_eq_true_eq]at c
  obtain⟨F1,g1,s1,p1⟩:=hx.toRp s
  have hy1:Rb K cl F1 H e y:=by
   rcases hy with hy | ⟨a,xs,ds,e1,e2,ha,r⟩
   ·exact .inl (hy.mono g1)
   ·exact .inr ⟨a,xs,ds,e1,e2,ha,r.mono g1⟩
  obtain⟨F2,g2,s2,p2⟩:=hy1.toRp s1
  exact⟨F2,d,e,s2,p1.mono g2,p2,c.1.1.1,c.1.1.2,c.1.2,c.2,q _ H F (.refl s) (by simp only[Rp])⟩
 ·cases h
mutual
theorem a3M:∀(d:D),g4 d=true→l9 d d=true
 | .tup ds,h=>by simp only[g4]at h;simp only[l9];exact a0q ds h
 | .lst ds,h=>by simp only[g4]at h;simp only[l9];exact a0q ds h
 | .non,_=>by simp[l9,P9]
 | .bl _,_=>by simp[l9,P9]
 | .int _,_=>by simp[l9,P9]
 | .str _,_=>by simp[l9,P9]
 | .ty _,h=>by simp[g4,i3]at h
 | .cls _,h=>by simp[g4,i3]at h
 | .scr _,h=>by simp[g4,i3]at h
 | .exc _,h=>by simp[g4,i3]at h
 | .obj _ _ _,h=>by simp[g4,i3]at h
theorem a0q:∀(ds:List D),w6 ds=true→E4 ds ds=true
 | [],_=>by simp[E4]
 | d::ds,h=>by
  simp only[w6,Bool.and_eq_true]at h
  simp only[E4]
  rw[a3M d h.1,a0q ds h.2];rfl
end
theorem a2K{d:D}(neg:Bool)(h1:g4 d=true)(h2:E5 d≤40)(h3:O2 d=true):P5 neg d d=some (.bl (!neg)):=by
 unfold P5
 rw[if_pos (by simp[h1,h2,h3]),a3M d h1]
 cases neg<;>rfl
theorem a0U{α:Type}{f:α→D}{l:List α}(h:∀a∈l,g4 (f a)=true):w6 (l.map f)=true:=by
 induction l with
 | nil=>rfl
 | cons a l ih =>
  simp only[List.map_cons,w6,Bool.and_eq_true]
  exact⟨h a List.mem_cons_self,ih fun b hb=>h b (List.mem_cons_of_mem _ hb)⟩
theorem a2L{α:Type}{f:α→D}{l:List α}{n:Nat}(h:∀a∈l,E5 (f a)≤n):A6 (l.map f)≤n:=by
 induction l with
 | nil=>simp[A6]
 | cons a l ih =>
  simp only[List.map_cons,A6]
  have:=h a List.mem_cons_self
  have:=ih fun b hb=>h b (List.mem_cons_of_mem _ hb)
  omega
section
variable {K:W.Frag}{cl:Str→Addr}{E:XK}{σ:St}{H F:Hp}{env:DE}{k:Nat}
def b2F(K:W.Frag)(cl:Str→Addr)(E:XK)(a:Addr)(t:TS)(f:SF):Prop:=∀(N:Ends) σ H env F,Rel K cl σ H F env→(∃cls,F a=some (a5d a cls none))→Cs K cl E (f env) σ H F env N→t N σ H
theorem RfS.x{a:Addr}{t:TS}{f:SF}(h:RfS K cl E t f):b2F K cl E a t f:=fun N σ H env F R _ c=>h N σ H env F R c
end
def a0r:Sl→Sl
 | .ow ds=>.fz (.lst ds)
 | .hd ds=>.fz (.lst ds)
 | s=>s
def J7:DE→DE
 | []=>[]
 | s::e=>a0r s::J7 e
mutual
def noL:D→Bool
 | .lst _=>false
 | .scr _=>false
 | .exc _=>false
 | .obj _ _ _=>false
 | .tup ds=>noLs ds
 | _=>true
def noLs:List D→Bool
 | []=>true
 | d::ds=>noL d && noLs ds
end
def B7(σ:St)(env:DE)(b:Addr):Prop:=∃j,Mu env j∧σ[j]? = some (some (.ref b))
theorem a2m:∀(e:DE),J7 e=e.map a0r
 | []=>rfl
 | s::e=>by rw[J7,a2m e];rfl
section
variable {K:W.Frag}{cl:Str→Addr}{E:XK}{σ:St}{H F F1 H' F' F2:Hp}{env:DE}
mutual
theorem Rp.noL(g:∀b o,F' b=some o→(∀xs,o≠.lst xs)→F2 b=some o):∀(d:D) (v:V),L2.noL d=true→Rp K cl F' d v→Rp K cl F2 d v
 | .non,_,_,h=>by simpa only[Rp]using h
 | .bl _,_,_,h=>by simpa only[Rp]using h
 | .int _,_,_,h=>by simpa only[Rp]using h
 | .str _,_,_,h=>by simpa only[Rp]using h
 | .ty _,_,_,h=>by simpa only[Rp]using h
 | .cls _,_,_,h=>by simpa only[Rp]using h
 | .tup ds,v,n,h=>by
  simp only[Rp]at h ⊢
  obtain⟨a,xs,e,h1,h2⟩:=h
  exact⟨a,xs,e,g _ _ h1 (fun _ z=>nomatch z),Rps.noL g ds xs (by simpa only[L2.noL]using n) h2⟩
 | .lst ds,v,n,h=>by simp[L2.noL]at n
 | .scr ns,v,n,h=>by simp[L2.noL]at n
 | .exc c,v,n,h=>by simp[L2.noL]at n
 | .obj _ _ _,v,n,h=>by simp[L2.noL]at n
theorem Rps.noL(g:∀b o,F' b=some o→(∀xs,o≠.lst xs)→F2 b=some o):∀(ds:List D) (vs:List V),L2.noLs ds=true→Rps K cl F' ds vs→Rps K cl F2 ds vs
 | [],_,_,h=>by simpa only[Rps]using h
 | d::ds,vs,n,h=>by
  simp only[Rps]at h ⊢
  simp only[L2.noLs,Bool.and_eq_true]at n
  obtain⟨v,r,e,h1,h2⟩:=h
  exact⟨v,r,e,Rp.noL g d v n.1 h1,Rps.noL g ds r n.2 h2⟩
end
theorem a2n{j:Nat}{s:Sl}(h:(J7 env)[j]? = some s):∃s0,env[j]? = some s0∧s=a0r s0:=by
 rw[a2m,List.getElem?_map]at h
 cases q:env[j]? with
 | none=>rw[q]at h;cases h
 | some s0=>rw[q]at h;exact⟨s0,rfl,(Option.some.inj h).symm⟩
theorem a3N{j:Nat}:¬Mu (J7 env) j:=fun⟨ds,q⟩=>by
 rcases q with q | q
 ·obtain⟨s0,_,e⟩:=a2n q;cases s0<;>cases e
 ·obtain⟨s0,_,e⟩:=a2n q;cases s0<;>cases e
theorem a4U(R:Rel K cl σ H F env):∃F1,Rel K cl σ H F1 (J7 env)∧(∀b,B7 σ env b→∃xs,F1 b=some (.lst xs)∧H b=some (.lst xs))∧∀b,¬B7 σ env b→F1 b=F b:=by
 classical
 have hF:∀b,B7 σ env b→F b=none∧∃xs,H b=some (.lst xs):=fun b ⟨j,⟨ds,q⟩,e⟩=>by
  obtain⟨a,xs,e1,h1,f1,_⟩:=R.mu j ds q
  rw[e]at e1;cases e1
  exact⟨f1,xs,h1⟩
 have sF:Same F (fun b=>if B7 σ env b then H b else F b):=fun b o q=>by
  show(if B7 σ env b then H b else F b)=some o
  rw[if_neg (fun w=>by rw[(hF b w).1]at q;cases q)];exact q
 refine⟨fun b=>if B7 σ env b then H b else F b,⟨fun b o q=>?_,by rw[a2m,List.length_map];exact R.len,fun i d q=>?_,fun i ds q=>absurd ⟨ds,q⟩ a3N,fun i j a hi=>absurd hi a3N⟩,fun b w=>?_,fun b w=>if_neg w⟩
 ·try dsimp only at q
  split at q
  ·exact q
  ·exact R.sub _ _ q
 ·obtain⟨s0,e0,e1⟩:=a2n q
  cases s0 with
  | no=>cases e1
  | fz d'=>cases e1;obtain⟨v,e2,r⟩:=R.fz i _ e0;exact⟨v,e2,r.mono sF⟩
  | ow ds =>
   cases e1
   obtain⟨a,xs,e2,h2,f2,r⟩:=R.mu i ds (.inl e0)
   refine⟨_,e2,?_⟩
   simp only[Rp]
   refine⟨a,xs,rfl,?_,r.mono sF⟩
   rw[if_pos ⟨i,⟨ds,.inl e0⟩,e2⟩];exact h2
  | hd ds =>
   cases e1
   obtain⟨a,xs,e2,h2,f2,r⟩:=R.mu i ds (.inr e0)
   refine⟨_,e2,?_⟩
   simp only[Rp]
   refine⟨a,xs,rfl,?_,r.mono sF⟩
   rw[if_pos ⟨i,⟨ds,.inr e0⟩,e2⟩];exact h2
 ·obtain⟨xs,h⟩:=(hF b w).2
  exact⟨xs,by(try dsimp only);rw[if_pos w];exact h,h⟩
theorem Z4(R:Rel K cl σ H F env)(o1:∀b,B7 σ env b→∃xs,F1 b=some (.lst xs)∧H b=some (.lst xs))(o2:∀b,¬B7 σ env b→F1 b=F b)(x:FX σ H F1 (J7 env) H' F') :
  ∃F2,Frm σ H F env σ H' F2 env∧Rel K cl σ H' F2 env∧(∀b o,F' b=some o→(∀xs,o≠.lst xs)→F2 b=some o)∧∀b,F' b=none→F2 b=none:=by
 classical
 have nw:∀b,¬Ow σ (J7 env) b:=fun b ⟨j,ds,q,_⟩=>a3N ⟨ds,.inl q⟩
 have hF:∀b,B7 σ env b→F b=none:=fun b ⟨j,⟨ds,q⟩,e⟩=>by
  obtain⟨a,xs,e1,h1,f1,_⟩:=R.mu j ds q
  rw[e]at e1;cases e1
  exact f1
 have sF:Same F (fun b=>if B7 σ env b then none else F' b):=fun b o q=>by
  have w:¬B7 σ env b:=fun w=>by rw[hF b w]at q;cases q
  show(if B7 σ env b then none else F' b)=some o
  rw[if_neg w]
  exact x.fz _ _ (by rw[o2 b w];exact q)
 have kept:∀b xs,B7 σ env b→H b=some (.lst xs)→H' b=some (.lst xs):=fun b xs w h=>by
  obtain⟨ys,f,h2⟩:=o1 b w
  rw[h]at h2;cases h2
  exact x.sub _ _ (x.fz _ _ f)
 refine⟨fun b=>if B7 σ env b then none else F' b,⟨sF,fun b o hb fb w=>?_,fun _ _ h=>⟨h,rfl⟩,x.dom⟩,⟨fun b o q=>?_,R.len,fun i d q=>?_,fun i ds q=>?_,R.inj⟩,fun b o q nl=>?_,fun b q=>?_⟩
 ·by_cases ww:B7 σ env b
  ·obtain⟨ys,f,h2⟩:=o1 b ww
   refine⟨by rw[hb]at h2;cases h2;exact kept b ys ww hb,by(try dsimp only);rw[if_pos ww],w⟩
  ·obtain⟨h1,f1⟩:=x.hid b o hb (by rw[o2 b ww];exact fb) (nw b)
   exact⟨h1,by(try dsimp only);rw[if_neg ww];exact f1,w⟩
 ·try dsimp only at q
  split at q
  ·cases q
  ·exact x.sub _ _ q
 ·obtain⟨v,e,r⟩:=R.fz i d q;exact⟨v,e,r.mono sF⟩
 ·obtain⟨a,xs,e,h1,f1,r⟩:=R.mu i ds q
  have w:B7 σ env a:=⟨i,⟨ds,q⟩,e⟩
  exact⟨a,xs,e,kept a xs w h1,by(try dsimp only);rw[if_pos w],r.mono sF⟩
 ·dsimp only
  rw[if_neg (fun w=>by obtain⟨ys,f,_⟩:=o1 b w;rw[x.fz _ _ f]at q;cases q;exact nl _ rfl)];exact q
 ·dsimp only
  split
  ·rfl
  ·exact q
def a1Q(f:ZF):ZF:=fun e=>match f (J7 e)with
 | some (.ok d _)=>if noL d=true then some (.ok d e)else none
 | some (.ex c)=>some (.ex c)
 | none=>none
def Z5(f:BF):BF:=fun e=>match f (J7 e)with
 | some (.ok d _)=>some (.ok d e)
 | some (.ex c)=>some (.ex c)
 | none=>none
theorem a8d{t:TE}{f:ZF}(hf:k9 K cl E t f):k9 K cl E t (a1Q f):=by
 intro σ H Q env F R h
 obtain⟨F1,R1,o1,o2⟩:=a4U R
 refine hf σ H Q (J7 env) F1 R1 ?_
 unfold a1Q at h
 split at h
 ·rename_i d e2 q
  rw[q]
  intro b H' F' fr R' p
  split at h
  ·rename_i n
   obtain⟨F2,fr2,R2,g,_⟩:=Z4 R o1 o2 (fr.toFX R'.sub)
   exact h b H' F2 fr2 R2 (Rp.noL g d b n p)
  ·exact h.elim
 ·rename_i c q
  rw[q]
  intro H' F' x
  obtain⟨F2,fr2,R2,_⟩:=Z4 R o1 o2 x
  exact h H' F2 (fr2.toFX R2.sub)
 ·exact h.elim
theorem a3O{t:TT}{f:BF}(hf:J3 K cl E t f):J3 K cl E t (Z5 f):=by
 intro σ H Q env F R h
 obtain⟨F1,R1,o1,o2⟩:=a4U R
 refine hf σ H Q (J7 env) F1 R1 ?_
 unfold Z5 at h
 split at h
 ·rename_i d e2 q
  rw[q]
  intro b H' F' fr R' p
  obtain⟨F2,fr2,R2,g,_⟩:=Z4 R o1 o2 (fr.toFX R'.sub)
  exact h b H' F2 fr2 R2 p
 ·rename_i c q
  rw[q]
  intro H' F' x
  obtain⟨F2,fr2,R2,_⟩:=Z4 R o1 o2 x
  exact h H' F2 (fr2.toFX R2.sub)
 ·exact h.elim
def bLd(r:Option (R Bool))(e:DE):Option (R Bool):=match r with
 | some (.ok d _)=>some (.ok d e)
 | some (.ex c)=>some (.ex c)
 | none=>none
def zLd(r:Option (R D))(e:DE):Option (R D):=match r with
 | some (.ok d _)=>if noL d=true then some (.ok d e)else none
 | some (.ex c)=>some (.ex c)
 | none=>none
theorem a8e(f:BF)(e:DE):Z5 f e=bLd (f (J7 e)) e:=rfl
theorem a8f(f:ZF)(e:DE):a1Q f e=zLd (f (J7 e)) e:=rfl
theorem b1F(d:Bool)(e e2:DE):bLd (some (.ok d e2)) e=some (.ok d e):=rfl
theorem b1G(c:Str)(e:DE):bLd (some (.ex c)) e=some (.ex c):=rfl
theorem b1H(d:D)(e e2:DE):zLd (some (.ok d e2)) e=if noL d=true then some (.ok d e)else none:=rfl
theorem b1I(c:Str)(e:DE):zLd (some (.ex c)) e=some (.ex c):=rfl
variable {k:Nat}
end
def un:Option D→Sl
 | none=>.no
 | some d=>.fz d
def U5:Sl→Bool
 | .hd _=>false
 | _=>true
def okS:Option Sl→Bool
 | none=>false
 | some s=>U5 s
theorem a8g(o:Option D):U5 (un o)=true:=by cases o<;>rfl
theorem a8h:U5 .no=true:=rfl
theorem a8i(d:D):U5 (.fz d)=true:=rfl
theorem a8j(d:List D):U5 (.ow d)=true:=rfl
theorem a8k(d:List D):U5 (.hd d)=false:=rfl
theorem a8l(s:Sl):okS (some s)=U5 s:=rfl
theorem a8m:okS none=false:=rfl
theorem b0a:a0r .no=.no:=rfl
theorem b0b(d:D):a0r (.fz d)=.fz d:=rfl
theorem b0c(d:List D):a0r (.ow d)=.fz (.lst d):=rfl
theorem b0d(d:List D):a0r (.hd d)=.fz (.lst d):=rfl
theorem b1J(i:Nat)(s:Sl)(e:DE):put i s e=if okS e[i]? = true then some (.nx (e.set i s))else none:=by
 unfold put okS
 cases e[i]? with
 | none=>rfl
 | some t=>cases t<;>rfl
theorem a8n(i:Nat)(d:D)(e:DE):c6 i d e=if okS e[i]? = true then some (e.set i (.fz d))else none:=by
 unfold c6 okS
 cases e[i]? with
 | none=>rfl
 | some t=>cases t<;>rfl
theorem b0e(o:Option D):a0r (un o)=un o:=by cases o<;>rfl
theorem a8o:a2f []=true:=rfl
theorem a6N(s:Sl)(e:DE):a2f (s::e)=(U5 s && a2f e):=by cases s<;>rfl
def l3(r:Option RS):Option RS:=match r with
 | some (.ct e)=>some (.nx e)
 | r=>r
theorem b0f(e:DE):l3 (some (.nx e))=some (.nx e):=rfl
theorem b0g(e:DE):l3 (some (.ct e))=some (.nx e):=rfl
theorem b0h(d:D):l3 (some (.rt d))=some (.rt d):=rfl
theorem b0i(c:Str):l3 (some (.ex c))=some (.ex c):=rfl
theorem b0j(d:List (List D)):l3 (some (.rz d))=some (.rz d):=rfl
theorem b0k(d:List D):l3 (some (.ro d))=some (.ro d):=rfl
theorem U6{r:Option RS}{k:SF}:T3 r k=T3 (l3 r) k:=by
 cases r with
 | none=>rfl
 | some r=>cases r<;>rfl
theorem a3P{α:Type}{b:GF}{body:SF}(f:α→D)(I:List α→DE→Prop)(l0:List α):∀(l pre:List α) (e:DE),l0=pre++l→I pre e→(∀pre x post e,l0=pre++x::post→I pre e→∃e2,l3 (M9 (b (f x) e) body)=some (.nx e2)∧I (pre++[x]) e2)→∃e',l7 b body (l.map f) e=some (.nx e')∧I l0 e'
 | [],pre,e,hl,h,_=>⟨e,rfl,by rw[hl,List.append_nil];exact h⟩
 | x::l,pre,e,hl,h,hs=>by
  obtain⟨e2,h2,h3⟩:=hs pre x l e hl h
  obtain⟨e',h4,h5⟩:=a3P f I l0 l (pre++[x]) e2 (by rw[hl,List.append_assoc];rfl) h3 hs
  refine⟨e',?_,h5⟩
  rw[List.map_cons,U3]
  cases q:b (f x) e with
  | none=>rw[q]at h2;cases h2
  | some e1 =>
   rw[q]at h2
   have h2:l3 (body e1)=some (.nx e2):=h2
   rw[n5,U6,h2];exact h4
theorem R6{α:Type}{b:GF}{body:SF}(f:α→D)(I:List α→DE→Prop)(l:List α)(e:DE)(h:I [] e)(hs:∀pre x post e,l=pre++x::post→I pre e→∃e2,l3 (M9 (b (f x) e) body)=some (.nx e2)∧I (pre++[x]) e2):∃e',l7 b body (l.map f) e=some (.nx e')∧I l e' :=
 a3P f I l l [] e rfl h hs
def a0K:RS→Bool
 | .rt _=>true
 | .ro _=>true
 | .rz _=>true
 | .ex _=>true
 | _=>false
theorem a2M{α:Type}{b:GF}{body:SF}{r:RS}(hr:a0K r=true)(f:α→D)(I:List α→DE→Prop)(p:α→Bool)(l0:List α):∀(l pre:List α) (e:DE),l0=pre++l→I pre e→(∀pre x post e,l0=pre++x::post→I pre e→if p x=true then l3 (M9 (b (f x) e) body)=some r else ∃e2,l3 (M9 (b (f x) e) body)=some (.nx e2)∧I (pre++[x]) e2) →
  if l.any p=true then l7 b body (l.map f) e=some r else ∃e',l7 b body (l.map f) e=some (.nx e')∧I l0 e'
 | [],pre,e,hl,h,_=>⟨e,rfl,by rw[hl,List.append_nil];exact h⟩
 | x::l,pre,e,hl,h,hs=>by
  have h2:=hs pre x l e hl h
  rw[List.any_cons,List.map_cons,U3]
  by_cases z:p x=true
  ·rw[if_pos z]at h2
   rw[z,Bool.true_or,if_pos rfl]
   cases q:b (f x) e with
   | none=>rw[q]at h2;cases h2
   | some e1 =>
    rw[q]at h2
    have h2:l3 (body e1)=some r:=h2
    rw[n5,U6,h2]
    cases r<;>first | rfl | cases hr
  ·rw[if_neg z]at h2
   obtain⟨e2,h2,h4⟩:=h2
   have:=a2M hr f I p l0 l (pre++[x]) e2 (by rw[hl,List.append_assoc];rfl) h4 hs
   rw[Bool.eq_false_iff.mpr z,Bool.false_or]
   cases q:b (f x) e with
   | none=>rw[q]at h2;cases h2
   | some e1 =>
    rw[q]at h2
    have h2:l3 (body e1)=some (.nx e2):=h2
    rw[n5,U6,h2];exact this
theorem a8p{α:Type}{b:GF}{body:SF}{r:RS}(hr:a0K r=true)(f:α→D)(I:List α→DE→Prop)(p:α→Bool)(l:List α)(e:DE)(h:I [] e)(hs:∀pre x post e,l=pre++x::post→I pre e→if p x=true then l3 (M9 (b (f x) e) body)=some r else ∃e2,l3 (M9 (b (f x) e) body)=some (.nx e2)∧I (pre++[x]) e2) :
  if l.any p=true then l7 b body (l.map f) e=some r else ∃e',l7 b body (l.map f) e=some (.nx e')∧I l e' :=
 a2M hr f I p l l [] e rfl h hs
theorem F6{α:Type}{b:GF}{c:BF}{el:ZF}{ec eo:DE}(f:α→D)(g:α→D)(q:α→Bool):∀(l:List α) (acc:List D),acc.length+l.length≤sizeLine→(∀x∈l,∃e1 e2,b (f x) ec=some e1∧c e1=some (.ok (q x) e2)∧(q x=true→∃e3,el e2=some (.ok (g x) e3)))→j6 b c el ec eo (l.map f) acc=some (.ok (acc++(l.filter q).map g) eo)
 | [],acc,_,_=>by simp only[List.filter_nil,List.map_nil,List.append_nil];rfl
 | x::l,acc,hl,h=>by
  obtain⟨e1,e2,h1,h2,h3⟩:=h x List.mem_cons_self
  have hl':acc.length<sizeLine:=by rw[List.length_cons]at hl;omega
  rw[List.map_cons,a1P,h1,a2J,h2,W6]
  by_cases z:q x=true
  ·obtain⟨e3,h4⟩:=h3 z
   rw[if_pos z,h4,W6,if_pos hl',F6 f g q l (acc++[g x]) (by rw[List.length_append,List.length_cons,List.length_nil];rw[List.length_cons]at hl;omega) (fun y m=>h y (List.mem_cons_of_mem _ m)),List.filter_cons_of_pos z,List.map_cons,List.append_assoc];rfl
  ·rw[if_neg z,F6 f g q l acc (by rw[List.length_cons]at hl;omega) (fun y m=>h y (List.mem_cons_of_mem _ m)),List.filter_cons_of_neg z]
theorem b0l{ds:List D}{v u:Int}(h:0≤v)(h2:v≤u):a0_ ds (some v) (some u)=(ds.drop v.toNat).take (u-v).toNat:=by
 unfold a0_
 obtain⟨n,rfl⟩:=Int.eq_ofNat_of_zero_le h
 obtain⟨m,rfl⟩:=Int.eq_ofNat_of_zero_le (Int.le_trans h h2)
 rw[HT.sIx_nat,HT.sIx_nat,Int.toNat_natCast]
 have e:((m:Int)-(n:Int)).toNat=m-n:=by omega
 rw[e]
 by_cases z:n≤ds.length
 ·rw[Nat.min_eq_left z]
  by_cases y:m≤ds.length
  ·rw[Nat.min_eq_left y]
  ·rw[Nat.min_eq_right (by omega),List.take_of_length_le (by rw[List.length_drop];exact Nat.le_refl _),List.take_of_length_le (by rw[List.length_drop];omega)]
 ·rw[List.drop_of_length_le (show ds.length≤min n ds.length by omega),List.drop_of_length_le (by omega),List.take_nil,List.take_nil]
theorem b0m(d:D)(n:String):a2g [d,.ty n]=a0G n d:=by unfold a2g a0G;rfl
theorem b0n{n k:Nat}(h:k<n):L9 n (k:Int)=some k:=by
 unfold L9;rw[if_pos (by omega),if_pos (by omega),Int.toNat_natCast]
def P6{α:Type}(g:Nat→α→D)(n:Nat):List α→List D
 | []=>[]
 | x::l=>g n x::P6 g (n+1) l
theorem a1d{α:Type}(f:α→D):∀(n:Nat) (l:List α),l.map f=P6 (fun _=>f) n l
 | _,[]=>rfl
 | n,x::l=>by rw[List.map_cons,P6,a1d f (n+1) l]
theorem a4W{α:Type}{b:GF}{body:SF}(g:Nat→α→D)(I:List α→DE→Prop)(Z:List α→α→RS→Prop)(l0:List α):∀(l pre:List α) (e:DE),l0=pre++l→I pre e →
  (∀pre x post e,l0=pre++x::post→I pre e→(∃r,a0K r=true∧l3 (M9 (b (g pre.length x) e) body)=some r∧Z pre x r)∨(∃e2,l3 (M9 (b (g pre.length x) e) body)=some (.nx e2)∧I (pre++[x]) e2)) →
  ((∃pr x post r,l0=pr++x::post∧a0K r=true∧l7 b body (P6 g pre.length l) e=some r∧Z pr x r∧∃e',I pr e')∨(∃e',l7 b body (P6 g pre.length l) e=some (.nx e')∧I l0 e'))
 | [],pre,e,hl,h,_=>.inr ⟨e,rfl,by rw[hl,List.append_nil];exact h⟩
 | x::l,pre,e,hl,h,hs=>by
  have hstep:∀r,l3 (M9 (b (g pre.length x) e) body)=some r→l7 b body (P6 g pre.length (x::l)) e=T3 (some r) (l7 b body (P6 g (pre.length+1) l)):=fun r h2=>by
   rw[P6,U3]
   cases q:b (g pre.length x) e with
   | none=>rw[q]at h2;cases h2
   | some e1 =>
    rw[q]at h2
    have h2:l3 (body e1)=some r:=h2
    rw[n5,U6,h2]
  rcases hs pre x l e hl h with⟨r,hr,h2,hz⟩ | ⟨e2,h2,h3⟩
  ·refine .inl ⟨pre,x,l,r,hl,hr,?_,hz,e,h⟩
   rw[hstep r h2]
   cases r<;>first | rfl | cases hr
  ·have ih:=a4W g I Z l0 l (pre++[x]) e2 (by rw[hl,List.append_assoc];rfl) h3 hs
   rw[List.length_append,List.length_singleton]at ih
   rw[hstep _ h2]
   exact ih
theorem a6O{α:Type}{b:GF}{body:SF}(g:Nat→α→D)(I:List α→DE→Prop)(Z:List α→α→RS→Prop)(l:List α)(e:DE)(h:I [] e)
  (hs:∀pre x post e,l=pre++x::post→I pre e→(∃r,a0K r=true∧l3 (M9 (b (g pre.length x) e) body)=some r∧Z pre x r)∨(∃e2,l3 (M9 (b (g pre.length x) e) body)=some (.nx e2)∧I (pre++[x]) e2)) :
  (∃pre x post r,l=pre++x::post∧a0K r=true∧l7 b body (P6 g 0 l) e=some r∧Z pre x r∧∃e',I pre e')∨(∃e',l7 b body (P6 g 0 l) e=some (.nx e')∧I l e') :=
 a4W g I Z l l [] e rfl h hs
section
variable {K:W.Frag}{cl:Str→Addr}{E:XK}
def P7(d e:D):Option D:=match d,e with
 | .tup ds,.tup es=>match G3 ds,G3 es with
  | some ns,some ms=>some (.bl (HT.lexLt ns ms))
  | _,_=>none
 | _,_=>none
theorem b1K:OpOk K cl (a7q K) P7:=by
 intro x y d e z H F Q s hx hy h q
 unfold P7 at h
 split at h
 ·rename_i ds es
  split at h
  ·rename_i ns ms h1 h2
   cases h
   obtain⟨a,xs,rfl,hH,r⟩:=hx.tup s
   obtain⟨b,ys,rfl,hH',r'⟩:=hy.tup s
   rw[R5 h1]at r
   rw[R5 h2]at r'
   rw[r.ints]at hH
   rw[r'.ints]at hH'
   exact⟨a,b,ns,ms,rfl,rfl,.of hH,.of hH',q _ H F (.refl s) (by simp only[Rp])⟩
  ·cases h
 ·cases h
end
open Classical in
section
variable {K:W.Frag}{cl:Str→Addr}{E:XK}
theorem a3Q:∀a b:List Int,HT.lexLt a b=false→HT.lexLt b a=false→a=b
 | [],[],_,_=>rfl
 | [],_::_,h,_=>by cases h
 | _::_,[],_,h=>by cases h
 | x::xs,y::ys,h1,h2=>by
  rw[HT.lexLt_cons]at h1 h2
  by_cases e:x=y
  ·subst e
   rw[if_pos rfl]at h1 h2
   rw[a3Q xs ys h1 h2]
  ·rw[if_neg e]at h1
   rw[if_neg (Ne.symm e)]at h2
   have:=of_decide_eq_false h1
   have:=of_decide_eq_false h2
   exact absurd (show x=y by omega) e
end
section
variable {K:W.Frag}{cl:Str→Addr}{E:XK}{σ:St}{H F:Hp}{env:DE}
abbrev HF:=Str→SF
def hN:HF:=fun _ _=>none
end
section
variable {K:W.Frag}{cl:Str→Addr}{E:XK}{σ:St}{H F:Hp}{env:DE}
theorem Rps.lookup{f:Str}:∀{ns:List Str} {ds:List D} {xs:List V} {z:D},Rps K cl F ds xs→(ns.zip ds).lookup f=some z→∃v,(ns.zip xs).lookup f=some v∧Rp K cl F z v
 | [],ds,xs,z,_,h=>by simp at h
 | n::ns,[],xs,z,r,h=>by simp at h
 | n::ns,d::ds,xs,z,r,h=>by
  obtain⟨v,ys,rfl,p,r'⟩:=r.inv
  rw[List.zip_cons_cons,List.lookup_cons]at h ⊢
  by_cases q:(f == n)=true
  ·rw[q]at h ⊢;cases h;exact⟨v,rfl,p⟩
  ·rw[Bool.not_eq_true _ |>.mp q]at h ⊢;exact r'.lookup h
end
open PySem.W
section
variable {K:W.Frag}{cl:Str→Addr}
theorem a3R{F:Hp}:∀(l:List Nat),Rps K cl F (l.map fun(i:Nat)=>D.int (i:Int)) (l.map fun(i:Nat)=>V.int (i:Int))
 | []=>.nil
 | i::l=>.cons (by simp only[Rp]) (a3R l)
end
structure GrM(a:Addr)(H F H' F':Hp):Prop where
 fz:Same F F'
 sub:Same F' H'
 hid:∀b o,b≠a→H b=some o→F b=none→H' b=some o∧F' b=none
 dom:∀b,H' b=none→H b=none
structure Bs(a:Addr)(σ:St)(env:DE)(H0 F0 H F:Hp):Prop where
 fz:Same F0 F
 hid:∀b o,b≠a→H0 b=some o→F0 b=none→H b=some o∧F b=none∧¬Ow σ env b
 dom:∀b,H b=none→H0 b=none
section
variable {K:W.Frag}{cl:Str→Addr}{E:XK}{σ:St}{H F:Hp}{env:DE}
theorem Bs.frm{a:Addr}{ds:List D}{σ':St}{env':DE}{H0 F0 H' F':Hp}(B:Bs a σ env H0 F0 H F)(f:Frm σ H F env σ' H' F' env'):Bs a σ' env' H0 F0 H' F' :=
 ⟨B.fz.trans f.fz,fun b o n h g=>by obtain⟨h1,f1,w1⟩:=B.hid b o n h g;exact f.hid b o h1 f1 w1,fun b h=>B.dom b (f.dom b h)⟩
theorem Bs.gr{a:Addr}{H0 F0:Hp}(B:Bs a σ env H0 F0 H F)(s:Same F H):GrM a H0 F0 H F :=
 ⟨B.fz,s,fun b o n h g=>by obtain⟨h1,f1,_⟩:=B.hid b o n h g;exact⟨h1,f1⟩,B.dom⟩
end
abbrev Q0:=List Int×List D
def a2o(k:Q0):List Q0→List Q0
 | []=>[k]
 | l::r=>if HT.lexLt l.1 k.1 then l::a2o k r else k::l::r
def L4:List Q0→List Q0
 | []=>[]
 | k::r=>a2o k (L4 r)
theorem a0s(k:Q0):∀r:List Q0,(a2o k r).Perm (k::r)
 | []=>.refl _
 | l::r=>by
  unfold a2o
  split
  ·exact((a0s k r).cons l).trans (List.Perm.swap k l r)
  ·exact .refl _
theorem Z6:∀r:List Q0,(L4 r).Perm r
 | []=>.refl _
 | k::r=>(a0s k _).trans ((Z6 r).cons k)
theorem a0V(k:Q0):∀r:List Q0,r.Pairwise (fun a b=>HT.lexLt b.1 a.1=false)→(a2o k r).Pairwise (fun a b=>HT.lexLt b.1 a.1=false)
 | [],_=>List.pairwise_singleton _ _
 | l::r,h=>by
  rw[List.pairwise_cons]at h
  unfold a2o
  split
  ·rename_i c
   rw[List.pairwise_cons]
   refine⟨fun b hb=>?_,a0V k r h.2⟩
   rcases List.mem_cons.mp ((a0s k r).mem_iff.mp hb)with rfl | hb
   ·exact a16 _ _ c
   ·exact h.1 b hb
  ·rename_i c
   rw[Bool.not_eq_true]at c
   rw[List.pairwise_cons]
   refine⟨fun b hb=>?_,by rw[List.pairwise_cons];exact h⟩
   rcases List.mem_cons.mp hb with rfl | hb
   ·exact c
   ·exact a3v _ _ _ c (h.1 b hb)
theorem a0t:∀r:List Q0,(L4 r).Pairwise (fun a b=>HT.lexLt b.1 a.1=false)
 | []=>.nil
 | k::r=>a0V k _ (a0t r)
theorem X4:∀{a b:List Q0},a.Perm b→a.Pairwise (fun a b=>HT.lexLt b.1 a.1=false)→b.Pairwise (fun a b=>HT.lexLt b.1 a.1=false)→a.Pairwise (fun a b=>a.1≠b.1)→a=b
 | [],b,h,_,_,_=>h.symm.eq_nil.symm▸rfl
 | x::a,[],h,_,_,_=>absurd h.eq_nil nofun
 | x::a,y::b,h,ha,hb,hd=>by
  rw[List.pairwise_cons]at ha hb hd
  have e:x=y:=by
   have mx:x∈y::b:=h.mem_iff.mp (by simp)
   have my:y∈x::a:=h.mem_iff.mpr (by simp)
   rcases List.mem_cons.mp mx with e | mx
   ·exact e
   ·rcases List.mem_cons.mp my with e | my
    ·exact e.symm
    ·exact absurd (a3Q _ _ (hb.1 x mx) (ha.1 y my)) (hd.1 y my)
  subst e
  rw[X4 ((List.perm_cons x).mp h) ha.2 hb.2 hd.2]
def V3(el:ZF)(ec:DE):Nat→Option (List (List Int))
 | 0=>some []
 | n+1=>match V3 el ec n with
  | some ks=>(match el (ec.set 0 (.fz (.int (n:Int))))with
   | some (.ok (.tup ds) _)=>(match G3 ds with
    | some k=>if k≠[]then some (ks++[k])else none
    | none=>none)
   | _=>none)
  | none=>none
def L5(ks:List (List Int)):List Q0:=(List.range ks.length).map fun(i:Nat)=>(ks.getD i [],[D.int (i:Int)])
def okK(ks:List (List Int)):Bool:=decide ks.Nodup && ks.all fun k=>k.length == (ks.headD []).length
def L6(js:List Nat)(f:AF)(el:ZF):NF:=fun e=>bnd (f e) fun ds e1=>match ds with
 | [.int n]=>if 0≤n∧n<64 then(match V3 el (i7 1 js e1) n.toNat with
  | some ks=>if okK ks=true then some (.ok ((L4 (L5 ks)).map fun q=>q.2.headD .non) e1)else none
  | none=>none)else none
 | _=>none
theorem a1e{el:ZF}{ec:DE}:∀{n:Nat} {ks:List (List Int)},V3 el ec n=some ks→ks.length=n
 | 0,ks,h=>by cases h;rfl
 | n+1,ks,h=>by
  unfold V3 at h
  split at h
  ·rename_i ks' e
   split at h
   ·split at h
    ·split at h
     ·cases h;rw[List.length_append,a1e e];rfl
     ·cases h
    ·cases h
   ·cases h
  ·cases h
theorem a2p{el:ZF}{ec:DE}:∀{n:Nat} {ks:List (List Int)},V3 el ec n=some ks→∀i,i<n→∃e',el (ec.set 0 (.fz (.int (i:Int))))=some (.ok (.tup ((ks.getD i []).map .int)) e')∧ks.getD i []≠[]
 | 0,ks,h,i,hi=>by omega
 | n+1,ks,h,i,hi=>by
  unfold V3 at h
  split at h
  ·rename_i ks' e
   have hl:=a1e e
   split at h
   ·rename_i ds e' he
    split at h
    ·rename_i k hk
     split at h
     ·rename_i hn
      cases h
      by_cases z:i=n
      ·subst z
       have:(ks'++[k]).getD i []=k:=by rw[List.getD_eq_getElem?_getD,List.getElem?_append_right (by omega),hl,Nat.sub_self];rfl
       rw[this]
       exact⟨e',by rw[he,R5 hk],hn⟩
      ·obtain⟨e2,h1,h2⟩:=a2p e i (by omega)
       have:(ks'++[k]).getD i []=ks'.getD i []:=by rw[List.getD_eq_getElem?_getD,List.getD_eq_getElem?_getD,List.getElem?_append_left (by omega)]
       rw[this]
       exact⟨e2,h1,h2⟩
     ·cases h
    ·cases h
   ·cases h
  ·cases h
section
variable {K:W.Frag}{cl:Str→Addr}{E:XK}
theorem a8q{env:DE}{i:Nat}{d:D}(n:NoOw env):NoOw (env.set i (.fz d)):=by
 intro j ds q
 by_cases z:i=j
 ·subst z
  by_cases hi:i<env.length
  ·rw[List.getElem?_set_self hi]at q;cases q
  ·rw[List.getElem?_eq_none (by rw[List.length_set];omega)]at q;cases q
 ·rw[List.getElem?_set_ne z]at q;exact n j ds q
theorem a83{F H:Hp}:∀{ks:List (List Int)} {ys:List V},Same F H→Rps K cl F (ks.map fun k=>D.tup (k.map .int)) ys→(∀k∈ks,k≠[])→VPs K H ys ks
 | [],_,_,r,_=>by rw[r.inv0];trivial
 | k::ks,_,s,r,h=>by
  obtain⟨v,xs,rfl,p,r'⟩:=r.inv
  refine⟨?_,a83 s r' fun k' m=>h k' (List.mem_cons_of_mem _ m)⟩
  obtain⟨a,vs,rfl,hF,rv⟩:∃a vs,v=.ref a∧F a=some (.tup vs)∧Rps K cl F (k.map .int) vs:=by simpa only[Rp]using p
  have e:vs=k.map V.int:=Rps.ints rv
  subst e
  exact⟨a,[],rfl,by rw[List.append_nil];exact .of (s _ _ hF),h k List.mem_cons_self,fun r m=>by cases m⟩
theorem a3T{t:TA}{f:AF}{te:TE}{el:ZF}{js:List Nat}(nd:js.Nodup)(hf:U0 K cl E t f)(he:k9 K cl E te el):S5 K cl E (a6i K t te js) (L6 js f el):=by
 intro σ H Q env F R h
 refine hf σ H _ env F R ((Ct.bnd h V1).mono fun xs H1 ⟨F1,e1,ds,s1,R1,p1,h1⟩=>?_)
 split at h1
 ·rename_i n
  split at h1
  ·rename_i hn
   split at h1
   ·rename_i ks hk
    split at h1
    ·rename_i ok
     have hl:=a1e hk
     have ok':ks.Nodup∧∀k∈ks,k.length=(ks.headD []).length:=by simpa [okK]using ok
     have ex:xs=[.int n]:=Rps.ints (ns:=[n]) p1
     subst ex
     refine⟨n,rfl,fun r hr=>?_⟩
     refine⟨n.toNat,r,rfl,by rw[h7,Int.toNat_of_nonneg hn.1],by omega,fun H2 ext=>?_⟩
     have ext':∀a o,H1 a=some o→H2 a=some o:=fun a o ha=>ext a o (by rw[c8 (fun z=>by rw[z,hr]at ha;cases ha)];exact ha)
     refine⟨fun i ys H'=>∃F',Gr H1 F1 H' F'∧Rps K cl F' ((ks.take i).map fun k=>D.tup (k.map .int)) ys,⟨F1,⟨Same.refl _,fun a o ha=>ext' a o (R1.sub a o ha),fun a o ha fa=>⟨ext' a o ha,fa⟩⟩,.nil⟩,fun i ys H' hi ⟨F',g,rk⟩=>?_,fun ys H' hy ⟨F',g,rk⟩=>?_⟩
     ·obtain⟨e',hel,_⟩:=a2p hk i hi
      have R2:=R1.gr g
      have Rc:Rel K cl (k6 1 js σ) H' F' (i7 1 js e1):=R2.comp nd
      have n1:NoOw (i7 1 js e1):=a2H
      have Rp':=Rc.put (i:=0) (d:=.int (i:Int)) (v:=.int (i:Int)) (by unfold i7;simp) (fun ds z=>by unfold i7 at z;simp at z) (by simp only[Rp])
      refine he ((k6 1 js σ).set 0 (some (.int (i:Int)))) H' _ _ F' Rp' ?_
      rw[hel]
      intro v H4 F4 f4 R4 hv
      have gr4:Gr H' F' H4 F4:=f4.gr (a8q n1) R4.sub
      refine⟨F4,g.trans gr4,?_⟩
      have et:ks.take (i+1)=ks.take i++[ks.getD i []]:=by
       rw[List.take_add_one,List.getD_eq_getElem?_getD]
       rw[List.getElem?_eq_getElem (by omega)]
       rfl
      rw[et,List.map_append]
      exact(rk.mono gr4.fz).append (.one hv)
     ·rw[List.take_of_length_le (by omega)]at rk
      have ne:∀k∈ks,k≠[]:=fun k m=>by
       obtain⟨i,hi,e⟩:=List.mem_iff_getElem.mp m
       obtain⟨_,_,h3⟩:=a2p hk i (by omega)
       rw[List.getD_eq_getElem?_getD,List.getElem?_eq_getElem hi,Option.getD_some,e]at h3
       exact h3
      have gk:∀i,i<ks.length→ks.getD i []=ks[i]! := fun i hi=>by simp[List.getD_eq_getElem?_getD,hi]
      have at_:∀i (hi:i<ks.length),ks.getD i []=ks[i]:=fun i hi=>by rw[List.getD_eq_getElem?_getD,List.getElem?_eq_getElem hi];rfl
      refine⟨ks,a83 g.sub rk ne,fun i j hi hj z=>?_,fun l p hl' hp hs=>?_⟩
      ·have hi:i<ks.length:=by omega
       have hj:j<ks.length:=by omega
       rw[at_ i hi,at_ j hj]
       refine⟨by rw[ok'.2 _ (List.getElem_mem hi),ok'.2 _ (List.getElem_mem hj)],fun e=>z ((List.getElem_inj ok'.1).mp e)⟩
      ·have R2:=R1.gr g
       obtain⟨R3,f3⟩:=R2.newN (o:=.lst (p.map fun(i:Nat)=>V.int (i:Int))) hl'
       have h1:∀b H' F',Frm σ H1 F1 e1 σ H' F' e1→Rel K cl σ H' F' e1→PN K cl ((L4 (L5 ks)).map fun q=>q.2.headD .non) σ H1 H' F' e1 b→Q b H':=h1
       refine h1 _ _ F' ((R1.frm g).trans f3) R3 ⟨l,_,rfl,g.dom l hl',h7,R2.sub.free hl',fun j ⟨ds,q⟩ e=>?_,?_⟩
       ·obtain⟨a,ys',e1',hH,_⟩:=R2.mu j ds q
        rw[e]at e1';cases e1'
        rw[hl']at hH;cases hH
       ·have hp':p.Perm (List.range ks.length):=by rw[hl];exact hp
        have srt:p.map (fun(i:Nat)=>((ks.getD i [],[D.int (i:Int)]):Q0))=L4 (L5 ks):=by
         refine X4 ((hp'.map _).trans (Z6 _).symm) ?_ (a0t _) ?_
         ·rw[List.pairwise_map];exact hs
         ·rw[List.pairwise_map]
          have nd:p.Nodup:=hp'.nodup_iff.mpr List.nodup_range
          refine List.Pairwise.imp_of_mem ?_ nd
          intro a b ma mb hab e
          have ha:=List.mem_range.mp (hp'.mem_iff.mp ma)
          have hb:=List.mem_range.mp (hp'.mem_iff.mp mb)
          have e:ks.getD a []=ks.getD b []:=e
          rw[at_ a ha,at_ b hb]at e
          exact hab ((List.getElem_inj ok'.1).mp e)
        rw[← srt,List.map_map]
        exact a3R p
    ·exact h1.elim
   ·exact h1.elim
  ·exact h1.elim
 ·exact h1.elim
end
section
variable {P:Program}{w:World}{K:W.Frag}{mg:Str→Option Value}{base:Heap}{cl:Str→Addr}{TB:List (Addr×Str)}
theorem Fun.okT{x qual:Str}{st:Stmt}{f:Addr}{fd:FuncData}{N ps:List Str}{k:Nat}{body:SF}(F:Fun K x qual st f fd)(S:FnScope N ps (a7 st))
  (hbody:∀(A:Around) (outer:List Env) (s:Shared) (H:Hp) (E:XK),TbAll TB H→Room k (A.deeper (envOfC qual (a7 st) s.heap.objs.size f fd.code)) →
   ∃t,PSs (K6 (m4 P w) P w K mg base N qual (a7 st) f fd.code A outer s H E) (g7 st) t∧RfS K cl E t body):FnOk P w K mg base (m4 P w) (k+1) f fd ps (S2 TB (g6 K cl (fD N.length ps.length body))):=by
 obtain⟨oc,od,kV,doc,pm,an,cdv,ct,osl,rfl,lk,hcd⟩:=F.ex
 refine a1o lk hcd S (fun vs H Q E h=>a0F h.2) fun A outer s H vs Q E hr h=>?_
 obtain⟨t,h1,h2⟩:=hbody A outer s H E h.1 hr
 exact⟨t,h1,Q8 h2 h.2⟩
variable {X:Cx}{k k':Nat}{x:Str}{ps:List Str}{sp:Sp}{E:XK}{e:Expr}{es:List Expr}{t:TA}{p pos:Pos}
theorem a2q(hT:TbAll TB X.H₀)(G:Own X.prog X.w X.K X.mg X.base k x ps (S2 TB sp))(hr:Room k' X.A)(hk:k≤k')(hx:W3 (m4 X.prog X.w) X E)(ha:PA X (e::es) t)(hg:Gl X x:=by rfl)
  (hdb:(x == ("__debug__" : Str))=false:=by decide) (he:starEach (e::es) X.env=(false,eval e X.env)::starEach es X.env:=by rfl) (hpl:(backTo pos (starEach es X.env)).any (·.1)=false:=by rfl) :
  PE X (.Call (.Name x p) (e::es) [] pos) (T7 sp [] E t):=by
 have ha':PA X (e::es) (fun σ H Q=>∃R:List V→Hp→Prop,t σ H R∧∀vs H1,R vs H1→TbAll TB H1→Q vs H1):=by
  intro pos pins s σ H Q I h
  obtain⟨R,h1,h2⟩:=h
  exact wpAny_mono (ha pos pins s σ H R I h1) (fun us s' ⟨vs,H',I',r,q⟩=>⟨vs,H',I',r,h2 _ _ q (hT.now I'.base)⟩) fun _ _ z=>z
 have:=j0 G hr hk hx ha' hg hdb he hpl (p:=p)
 intro pins s σ H Q I h
 exact this pins s σ H Q I ⟨_,h,fun vs H1 z hT'=>⟨hT',z⟩⟩
end
section
variable {P:Program}{w:World}{K:W.Frag}{mg:Str→Option Value}{base:Heap}{cl:Str→Addr}{TB:List (Addr×Str)}
theorem FunD.okT{x qual:Str}{st:Stmt}{dT f:Addr}{fd:FuncData}{N ps:List Str}{k:Nat}{body:SF}(F:FunD K x qual st dT f fd)(S:FnScope N ps (a7 st))
  (hbody:∀(A:Around) (outer:List Env) (s:Shared) (H:Hp) (E:XK),TbAll TB H→Room k (A.deeper (envOfC qual (a7 st) s.heap.objs.size f fd.code)) →
   ∃t,PSs (K6 (m4 P w) P w K mg base N qual (a7 st) f fd.code A outer s H E) (g7 st) t∧RfS K cl E t body):FnOk P w K mg base (m4 P w) (k+1) f fd ps (S2 TB (g6 K cl (fD N.length ps.length body))):=by
 obtain⟨oc,od,kV,doc,pm,an,cdv,ct,osl,rfl,lk,hcd⟩:=F.ex
 refine a1o lk hcd S (fun vs H Q E h=>a0F h.2) fun A outer s H vs Q E hr h=>?_
 obtain⟨t,h1,h2⟩:=hbody A outer s H E h.1 hr
 exact⟨t,h1,Q8 h2 h.2⟩
variable {X:Cx}{k k':Nat}{x:Str}{ps:List Str}{sp:Sp}{E:XK}{e:Expr}{es:List Expr}{t:TA}{p pos:Pos}{d:V}
theorem OwnD.own(G:OwnD P w K mg base k x ps sp d):Own P w K mg base k x ps sp:=by
 obtain⟨f,fd,du,F,b,bd,rd,kp,m⟩:=G.ex
 exact⟨f,fd,F,b,kp,m⟩
end
def a1f(k:Int):List Int→List Int
 | []=>[k]
 | x::r=>if k<x then k::x::r else if k=x then x::r else x::a1f k r
def A0:List Int→List Int
 | []=>[]
 | k::r=>a1f k (A0 r)
theorem a1g{k x:Int}:∀{l:List Int},x∈a1f k l↔x=k∨x∈l
 | []=>by simp[a1f]
 | y::l=>by
  unfold a1f
  split
  ·simp
  ·split
   ·rename_i h;subst h;simp
   ·rw[List.mem_cons,a1g,List.mem_cons]
    constructor
    ·rintro(h | h | h)
     ·exact .inr (.inl h)
     ·exact .inl h
     ·exact .inr (.inr h)
    ·rintro(h | h | h)
     ·exact .inr (.inl h)
     ·exact .inl h
     ·exact .inr (.inr h)
theorem a4X{k:Int}:∀{l:List Int},l.Pairwise (· < ·)→(a1f k l).Pairwise (· < ·)
 | [],_=>List.pairwise_singleton _ _
 | y::l,h=>by
  unfold a1f
  have h':=List.pairwise_cons.mp h
  split
  ·rename_i hk
   refine List.pairwise_cons.mpr ⟨fun x m=>?_,h⟩
   rcases List.mem_cons.mp m with rfl | m
   ·exact hk
   ·exact Int.lt_trans hk (h'.1 x m)
  ·split
   ·exact h
   ·refine List.pairwise_cons.mpr ⟨fun x m=>?_,a4X h'.2⟩
    rcases a1g.mp m with rfl | m
    ·omega
    ·exact h'.1 x m
theorem U7{x:Int}:∀{l:List Int},x∈A0 l↔x∈l
 | []=>by simp[A0]
 | k::l=>by unfold A0;rw[a1g,U7,List.mem_cons]
theorem Z7:∀l:List Int,(A0 l).Pairwise (· < ·)
 | []=>.nil
 | k::l=>a4X (Z7 l)
theorem a6P:∀{a b:List Int},a.Pairwise (· < ·)→b.Pairwise (· < ·)→(∀x,x∈a↔x∈b)→a=b
 | [],[],_,_,_=>rfl
 | [],y::b,_,_,h=>absurd ((h y).mpr List.mem_cons_self) List.not_mem_nil
 | x::a,[],_,_,h=>absurd ((h x).mp List.mem_cons_self) List.not_mem_nil
 | x::a,y::b,ha,hb,h=>by
  have ha':=List.pairwise_cons.mp ha
  have hb':=List.pairwise_cons.mp hb
  have e:x=y:=by
   rcases List.mem_cons.mp ((h x).mp List.mem_cons_self)with e | m
   ·exact e
   ·rcases List.mem_cons.mp ((h y).mpr List.mem_cons_self)with e | m2
    ·exact e.symm
    ·have:=hb'.1 x m
     have:=ha'.1 y m2
     omega
  subst e
  congr 1
  refine a6P ha'.2 hb'.2 fun z=>?_
  constructor
  ·intro m
   rcases List.mem_cons.mp ((h z).mp (List.mem_cons_of_mem _ m))with e | m2
   ·subst e;have:=ha'.1 z m;omega
   ·exact m2
  ·intro m
   rcases List.mem_cons.mp ((h z).mpr (List.mem_cons_of_mem _ m))with e | m2
   ·subst e;have:=hb'.1 z m;omega
   ·exact m2
def O8(f:AF):NF:=fun e=>bnd (f e) fun ds e1=>match ds with
 | [.lst xs]=>(match G3 xs with
  | some ns=>if ns.length<64 then some (.ok ((A0 ns).map .int) e1)else none
  | none=>none)
 | _=>none
section
variable {K:W.Frag}{cl:Str→Addr}{E:XK}
theorem Z8{t:TA}{f:AF}(hf:U0 K cl E t f):S5 K cl E (a6s K t) (O8 f):=by
 intro σ H Q env F R h
 refine hf σ H _ env F R ((Ct.bnd h V1).mono fun vs H1 ⟨F1,e1,ds,s1,R1,p1,h1⟩=>?_)
 split at h1
 ·rename_i xs
  split at h1
  ·rename_i ns hn
   split at h1
   ·rename_i hl
    obtain⟨v,r,rfl,q1,q2⟩:=Rps.inv p1
    rw[q2.inv0]
    simp only[Rp]at q1
    obtain⟨a,ys,rfl,ha,rr⟩:=q1
    rw[R5 hn]at rr
    rw[rr.ints]at ha
    refine⟨a,ns,rfl,.of (R1.sub _ _ ha),hl,fun l ks hl' hpw hm=>?_⟩
    have e:ks=A0 ns:=a6P hpw (Z7 ns) fun x=>(hm x).trans U7.symm
    subst e
    exact Ct.newN R1 hl' Rps.ofInts h1
   ·exact h1.elim
  ·exact h1.elim
 ·exact h1.elim
end
section
variable {K:W.Frag}{cl:Str→Addr}{E:XK}
def Z9:D→Option D
 | .lst ds=>some (.tup ds)
 | _=>none
theorem a4Y:CbOk1 K cl (a6u K) Z9:=by
 intro x d z H F Q s hx h q
 unfold Z9 at h
 split at h
 ·cases h
  obtain⟨a,xs,rfl,hH,r⟩:=hx.lst s
  refine⟨a,xs,rfl,.inl ⟨.of hH,fun p hp=>?_⟩⟩
  have g:Gr H F (upd H p (.tup xs)) (upd F p (.tup xs)):=.new s hp
  exact q _ _ _ g (by simp only[Rp];exact⟨p,xs,rfl,h7,Rps.mono g.fz _ _ r⟩)
 ·cases h
def ibD:List D→List D→Option (List Int×List Int)
 | [],[]=>some ([],[])
 | .int a::xs,.int b::ys=>(ibD xs ys).map fun r=>(a::r.1,b::r.2)
 | .bl p::xs,.bl q::ys=>(ibD xs ys).map fun r=>(b2i p::r.1,b2i q::r.2)
 | _,_=>none
theorem b19:∀{ds es:List D} {F F':Hp} {xs ys:List V} {r:List Int×List Int},Rps K cl F ds xs→Rps K cl F' es ys→ibD ds es=some r→ibV xs ys=some r:=by
 intro ds es
 fun_induction ibD ds es with
 | case1=>intro F F' xs ys r h1 h2 h;cases h;rw[h1.inv0,h2.inv0];rfl
 | case2 a xs b ys ih =>
  intro F F' us vs r h1 h2 h
  obtain⟨v,r1,rfl,p1,q1⟩:=h1.inv
  obtain⟨u,r2,rfl,p2,q2⟩:=h2.inv
  have e1:v=.int a:=by simpa only[Rp]using p1
  have e2:u=.int b:=by simpa only[Rp]using p2
  subst e1 e2
  cases z:ibD xs ys with
  | none=>rw[z]at h;cases h
  | some w=>rw[z]at h;cases h;unfold ibV;rw[ih q1 q2 z];rfl
 | case3 a xs b ys ih =>
  intro F F' us vs r h1 h2 h
  obtain⟨v,r1,rfl,p1,q1⟩:=h1.inv
  obtain⟨u,r2,rfl,p2,q2⟩:=h2.inv
  have e1:v=.bl a:=by simpa only[Rp]using p1
  have e2:u=.bl b:=by simpa only[Rp]using p2
  subst e1 e2
  cases z:ibD xs ys with
  | none=>rw[z]at h;cases h
  | some w=>rw[z]at h;cases h;unfold ibV;rw[ih q1 q2 z];rfl
 | case4=>intro F F' xs ys r _ _ h;cases h
def a0a(d e:D):Option D:=match d,e with
 | .tup ds,.tup es=>match ibD ds es with
  | some r=>some (.bl (HT.lexLt r.1 r.2))
  | none=>none
 | _,_=>none
theorem b0o:OpOk K cl (a8W K) a0a:=by
 intro x y d e z H F Q s hx hy h q
 unfold a0a at h
 split at h
 ·rename_i ds es
  split at h
  ·rename_i r h1
   cases h
   obtain⟨a,xs,rfl,hH,r1⟩:=hx.tup s
   obtain⟨b,ys,rfl,hH',r2⟩:=hy.tup s
   exact⟨a,b,xs,ys,r.1,r.2,rfl,rfl,.of hH,.of hH',b19 r1 r2 h1,q _ H F (.refl s) (by simp only[Rp])⟩
  ·cases h
 ·cases h
end
end L2
namespace Law
open PySem L2 PyProof.Rows
def J4(i:Nat):Stmt:=PySem.Challenge.pw_cratefit_k56_whole_corners.main.body.getD i (.Pass ⟨0,0,0,0⟩)
abbrev G4:Stmt:=J4 4
abbrev J8:Stmt:=J4 5
abbrev C6:Stmt:=J4 6
abbrev C7:Stmt:=J4 7
abbrev J9:Stmt:=J4 9
abbrev R7:Stmt:=J4 10
abbrev K0:Stmt:=J4 11
abbrev j8:Stmt:=J4 13
abbrev u6:Stmt:=J4 14
abbrev G5:Stmt:=J4 15
abbrev K1:Stmt:=J4 17
abbrev N1:Stmt:=J4 18
abbrev N2:Stmt:=J4 19
abbrev N3:Stmt:=J4 20
abbrev C3:Stmt:=J4 21
abbrev N4:Stmt:=J4 22
abbrev N5:Stmt:=J4 23
abbrev N6:Stmt:=J4 24
abbrev m8:Stmt:=J4 25
abbrev G6:Stmt:=J4 26
abbrev w8:Stmt:=J4 27
variable {P:Program}{w:World}{K:PySem.W.Frag}{mg:Str→Option Value}{base:Heap}{c:Str→Addr}
structure Txt(K:PySem.W.Frag)(mg:Str→Option Value)(c:Str→Addr):Prop where
 z_all:mg "all" = none
 z_bool:mg "bool" = none
 z_int:mg "int" = none
 z_isinstance:mg "isinstance" = none
 z_len:mg "len" = none
 z_list:mg "list" = none
 z_range:mg "range" = none
 z_set:mg "set" = none
 z_sorted:mg "sorted" = none
 z_sum:mg "sum" = none
 z_tuple:mg "tuple" = none
 m_BadTurn:mg "BadTurn" = some (.ref (c "BadTurn"))
 x_BadTurn:PySem.W.excIn K (c "BadTurn") a3r "ValueError.__new__" = true
def a1R:SF:=(d4 (M7 (eV 0) (K8 [(c6 2),(c6 3),(c6 4)])) (d4 (m7 (D2 (bZ (eV 1))) (h9 (eT (aC (eV 2) (aC (eV 3) aN)))) m5) (d4 (m7 (D2 (bZ (eV 4))) (a3G "BadTurn" (aC (eC (.str "a ware that may not be turned has no sides turned")) aN)) m5) (h9 (eT (aC (eV 3) (aC (eV 2) aN)))))))
def m9:List D→Option R1:=fD 5 2 a1R
theorem O3:FnScope ["ware","lie","w","h","turns"] ["ware","lie"] (a7 G4):=⟨rfl,rfl,rfl,by decide +kernel,rfl,by decide +kernel,by decide +kernel⟩
seal PSs PS PE PA PT
theorem a4n{f:Addr}{fd:FuncData}(F:Fun K "sides_of" "sides_of" G4 f fd)(T:Txt K mg c)  : FnOk P w K mg base (m4 P w) 3 f fd ["ware","lie"] (g6 K c m9) :=
 F.okD (k:=2) O3 fun cdv A outer s H E hr=>⟨_,(c9 (O4 (pv 0) (M3 (K:=K) (n:=3) rfl (k7 (g5 (i:=2) O3.nd rfl (Or.inl rfl)) (k7 (g5 (i:=3) O3.nd rfl (Or.inl rfl)) (k7 (g5 (i:=4) O3.nd rfl (Or.inl rfl)) M0))))) (c9 (t4 (K4 (y6 (pv 1))) (d9 (h8 (r9 (a5 (pv 2) (a5 (pv 3) c7))))) j4) (c9 (t4 (K4 (y6 (pv 4))) (d9 (a7A M1 T.x_BadTurn rfl T.m_BadTurn (a5 b0C c7))) j4) (d9 (h8 (r9 (a5 (pv 3) (a5 (pv 2) c7)))))))),(e9 (S9 a8 (M6 (k8 (f9 (k:=5) (by decide)) (k8 (f9 (k:=5) (by decide)) (k8 (f9 (k:=5) (by decide)) M5))) rfl)) (e9 (l5 (G0 (B6 a8)) (j2 (C0 (b0 a8 (b0 a8 d6)))) t5) (e9 (l5 (G0 (B6 a8)) (a7Z (b0 b9 d6)) t5) (j2 (C0 (b0 a8 (b0 a8 d6)))))))⟩
def a2N:SF:=(d4 (M7 (eV 0) (K8 [(c6 1),(c6 2),(c6 3)])) (a0C (nIf (K7 (bZ (eV 3)) (bZ (eB (C1 true) (eV 1) (eV 2)))) (eL (aC (eC (.bl false)) (aC (eC (.bl true)) aN))) (eL (aC (eC (.bl false)) aN)))))
def A7:List D→Option R1:=fD 4 1 a2N
theorem Q9:FnScope ["ware","w","h","turns"] ["ware"] (a7 J8):=⟨rfl,rfl,rfl,by decide +kernel,rfl,by decide +kernel,by decide +kernel⟩
theorem a5E{f:Addr}{fd:FuncData}(F:Fun K "lies_of" "lies_of" J8 f fd)(T:Txt K mg c)  : FnOk P w K mg base (m4 P w) 3 f fd ["ware"] (g6 K c A7) :=
 F.okD (k:=2) Q9 fun cdv A outer s H E hr=>⟨_,(c9 (O4 (pv 0) (M3 (K:=K) (n:=3) rfl (k7 (g5 (i:=1) Q9.nd rfl (Or.inl rfl)) (k7 (g5 (i:=2) Q9.nd rfl (Or.inl rfl)) (k7 (g5 (i:=3) Q9.nd rfl (Or.inl rfl)) M0))))) (d9 (h8 (a7k (PW.pt (R8 (y6 (pv 3)) (V7 (i5 a25 (pv 1) (pv 2) (g9 _))))) (D7 (a5 z9 (a5 z9 c7))) (D7 (a5 z9 c7)))))),(e9 (S9 a8 (M6 (k8 (f9 (k:=4) (by decide)) (k8 (f9 (k:=4) (by decide)) (k8 (f9 (k:=4) (by decide)) M5))) rfl)) (a0D (b1m (M4 (B6 a8) (m3 (a9 a29 a8 a8))) (P3 (b0 b9 (b0 b9 d6))) (P3 (b0 b9 d6)))))⟩
def a6Q:SF:=(h9 (W7 (g1 a1b) (aC (zN (A5 0 1 [] (c6 0) l6 (eB x6 (eB d7 (eV 0) (eC (.int 0))) (eB d7 (eV 0) (eC (.int 1)))))) aN)))
def F7:List D→Option R1:=fD 1 1 a6Q
theorem a5F:FnScope ["wares"] ["wares"] (a7 C6):=⟨rfl,rfl,rfl,by decide +kernel,rfl,by decide +kernel,by decide +kernel⟩
theorem a5G{f:Addr}{fd:FuncData}(F:Fun K "area_of" "area_of" C6 f fd)(T:Txt K mg c)  : FnOk P w K mg base (m4 P w) 3 f fd ["wares"] (g6 K c F7) :=
 F.okD (k:=2) a5F fun cdv A outer s H E hr=>⟨_,(d9 (h8 (t8 (a6c (K:=K)) rfl T.z_sum b0_ (a5 (E2 (Nc:=["ware"]) (k:=1) (js:=[]) rfl ⟨by decide +kernel,rfl,by decide +kernel,(by change ∀y∈Scope.names _,y.2=NameKind.free→(a7 C6).names.lookup y.1=some .cell∨(a7 C6).names.lookup y.1=some .free;decide +kernel),by decide +kernel,rfl,rfl,by decide +kernel⟩ (r8 (pv 0)) (fun _ _ _ _ _=>(g5 (i:=0) (by show List.Nodup [("ware" : Str)];decide +kernel) rfl (Or.inl rfl))) (fun _ _ _ _ _=>J2) (fun _ _ _ _ _=>(g0 R0 (e7 (d5 (K:=K)) (pv 0) a6 (fun _ _=>rfl)) (e7 (d5 (K:=K)) (pv 0) a6 (fun _ _=>rfl))))) c7)))),(j2 (a1F b1A.cb (b0 (u0 (M8 (by decide) (f9 (k:=1) (by decide)) B3 (a9 W8 (a9 e8 a8 b9) (a9 e8 a8 b9)))) d6)))⟩
def a6R:SF:=(a0C (L6 [0] (aC (J0 A2 0) aN) (eT (aC (eU a08 (e6 F7 (aC (zN (eL (aC (A1 t6 1 (eV 0)) aN))) aN))) (aC (eV 0) aN)))))
def A8:List D→Option R1:=fD 1 1 a6R
theorem a5H:FnScope ["wares"] ["wares"] (a7 C7):=⟨rfl,rfl,rfl,by decide +kernel,rfl,by decide +kernel,by decide +kernel⟩
theorem a5I{TB:List (Addr×Str)}{f:Addr}{fd:FuncData}(F:Fun K "by_area" "by_area" C7 f fd)(T:Txt K mg c)(G_area_of:Own P w K mg base 3 "area_of" ["wares"] (g6 K c F7)){cc Pt:Addr}(hcode:fd.code=.ref cc)(hC:PySem.W.CodeHd base cc Pt)(hB:base.BuiltinsAt mg Pt)(hL:TB.lookup Pt=some "by_area.<locals>.<lambda>"):FnOk P w K mg base (m4 P w) 8 f fd ["wares"] (S2 TB (g6 K c A8)) :=
 F.okT (k:=7) a5H fun A outer s H E hT hr=>⟨_,(d9 (h8 (a3x (Nc:=["k","wares"]) (js:=[0]) (kn := "k") (q := "by_area.<locals>.<lambda>") hr rfl rfl T.z_sorted rfl T.z_range (a5 (t8 (x5 (K:=K)) rfl T.z_len S0 (a5 (pv 0) c7)) c7) rfl hcode hC hB rfl (hT _ _ hL) ⟨by decide +kernel,rfl,by decide +kernel,(by change ∀y∈Scope.names _,y.2=NameKind.free→(a7 C7).names.lookup y.1=some .cell∨(a7 C7).names.lookup y.1=some .free;decide +kernel),by decide +kernel,rfl,rfl,by decide +kernel⟩ rfl rfl (fun _ _ _ _ _=>rfl) rfl rfl (fun _ _ _ _=>(r9 (a5 (a8N a5Y (j0 G_area_of (((hr.in1).in1).deeper _) (by decide) j5 (a5 (D7 (a5 (e7 (t9 (K:=K)) (pv 1) (pv 0) (fun _ _=>rfl)) c7)) c7))) (a5 (pv 0) c7))))))),(a0D (a3T (by decide) (b0 (Y6 S7) d6) (C0 (b0 (b1o a6x (i0 (b0 (u0 (P3 (b0 (A3 A4 a8) d6))) d6))) (b0 a8 d6)))))⟩
def a6S:SF:=(d4 (M7 (eV 1) (K8 [(c6 2),(c6 3),(c6 4)])) (d4 (M7 (G1 m9 (aC (eV 0) (aC (eV 4) aN))) (K8 [(c6 5),(c6 6)])) (h9 (eT (aC (eV 2) (aC (eV 3) (aC (eB n8 (eV 2) (eV 5)) (aC (eB n8 (eV 3) (eV 6)) aN))))))))
def y3:List D→Option R1:=fD 7 2 a6S
theorem G7:FnScope ["ware","place","x","y","lie","w","h"] ["ware","place"] (a7 J9):=⟨rfl,rfl,rfl,by decide +kernel,rfl,by decide +kernel,by decide +kernel⟩
theorem a5J{f:Addr}{fd:FuncData}(F:Fun K "spot_of" "spot_of" J9 f fd)(T:Txt K mg c)(G_sides_of:Own P w K mg base 3 "sides_of" ["ware","lie"] (g6 K c m9)):FnOk P w K mg base (m4 P w) 5 f fd ["ware","place"] (g6 K c y3) :=
 F.okD (k:=4) G7 fun cdv A outer s H E hr=>⟨_,(c9 (O4 (pv 1) (M3 (K:=K) (n:=3) rfl (k7 (g5 (i:=2) G7.nd rfl (Or.inl rfl)) (k7 (g5 (i:=3) G7.nd rfl (Or.inl rfl)) (k7 (g5 (i:=4) G7.nd rfl (Or.inl rfl)) M0))))) (c9 (O4 (j0 G_sides_of hr (by decide) (XAcc.passes M1) (a5 (pv 0) (a5 (pv 4) c7))) (M3 (K:=K) (n:=2) rfl (k7 (g5 (i:=5) G7.nd rfl (Or.inl rfl)) (k7 (g5 (i:=6) G7.nd rfl (Or.inl rfl)) M0)))) (d9 (h8 (r9 (a5 (pv 2) (a5 (pv 3) (a5 (g0 v3 (pv 2) (pv 5)) (a5 (g0 v3 (pv 3) (pv 6)) c7))))))))),(e9 (S9 a8 (M6 (k8 (f9 (k:=7) (by decide)) (k8 (f9 (k:=7) (by decide)) (k8 (f9 (k:=7) (by decide)) M5))) rfl)) (e9 (S9 (X0 (b0 a8 (b0 a8 d6))) (M6 (k8 (f9 (k:=7) (by decide)) (k8 (f9 (k:=7) (by decide)) M5)) rfl)) (j2 (C0 (b0 a8 (b0 a8 (b0 (a9 v7 a8 a8) (b0 (a9 v7 a8 a8) d6))))))))⟩
def a4Z:SF:=(d4 (v8 2 (eOr (eB gLe (eB d7 (eV 0) (eC (.int 2))) (eB d7 (eV 1) (eC (.int 0)))) (eB gLe (eB d7 (eV 1) (eC (.int 2))) (eB d7 (eV 0) (eC (.int 0)))))) (d4 (v8 3 (eOr (eB gLe (eB d7 (eV 0) (eC (.int 3))) (eB d7 (eV 1) (eC (.int 1)))) (eB gLe (eB d7 (eV 1) (eC (.int 3))) (eB d7 (eV 0) (eC (.int 1)))))) (h9 (eOr (eV 2) (eV 3)))))
def G8:List D→Option R1:=fD 4 2 a4Z
theorem a1h:FnScope ["one","other","across","up"] ["one","other"] (a7 R7):=⟨rfl,rfl,rfl,by decide +kernel,rfl,by decide +kernel,by decide +kernel⟩
theorem a8r{f:Addr}{fd:FuncData}(F:Fun K "apart" "apart" R7 f fd)(T:Txt K mg c)  : FnOk P w K mg base (m4 P w) 3 f fd ["one","other"] (g6 K c G8) :=
 F.okD (k:=2) a1h fun cdv A outer s H E hr=>⟨_,(c9 (l4 (i:=2) a1h.nd rfl (Or.inl rfl) (a45 (B9 a0x (e7 (d5 (K:=K)) (pv 0) a6 (fun _ _=>rfl)) (e7 (d5 (K:=K)) (pv 1) a6 (fun _ _=>rfl)) (g9 _)) (a0f (B9 a0x (e7 (d5 (K:=K)) (pv 1) a6 (fun _ _=>rfl)) (e7 (d5 (K:=K)) (pv 0) a6 (fun _ _=>rfl)) (g9 _))))) (c9 (l4 (i:=3) a1h.nd rfl (Or.inl rfl) (a45 (B9 a0x (e7 (d5 (K:=K)) (pv 0) a6 (fun _ _=>rfl)) (e7 (d5 (K:=K)) (pv 1) a6 (fun _ _=>rfl)) (g9 _)) (a0f (B9 a0x (e7 (d5 (K:=K)) (pv 1) a6 (fun _ _=>rfl)) (e7 (d5 (K:=K)) (pv 0) a6 (fun _ _=>rfl)) (g9 _))))) (d9 (h8 (a45 (pv 2) (a0f (pv 3))))))),(e9 (C2 (a5q (a9 a0B (a9 e8 a8 b9) (a9 e8 a8 b9)) (a9 a0B (a9 e8 a8 b9) (a9 e8 a8 b9)))) (e9 (C2 (a5q (a9 a0B (a9 e8 a8 b9) (a9 e8 a8 b9)) (a9 a0B (a9 e8 a8 b9) (a9 e8 a8 b9)))) (j2 (a5q a8 a8))))⟩
def a2O:SF:=(d4 (M7 (eV 1) (K8 [(c6 2),(c6 3),(c6 4),(c6 5)])) (h9 (a1_ (eB gGe (eV 2) (eC (.int 0))) (a1_ (eB gGe (eV 3) (eC (.int 0))) (a1_ (eB gLe (eV 4) (eB d7 (eV 0) (eC (.int 0)))) (eB gLe (eV 5) (eB d7 (eV 0) (eC (.int 1)))))))))
def C8:List D→Option R1:=fD 6 2 a2O
theorem L7:FnScope ["box","spot","x","y","x2","y2"] ["box","spot"] (a7 K0):=⟨rfl,rfl,rfl,by decide +kernel,rfl,by decide +kernel,by decide +kernel⟩
theorem a5K{f:Addr}{fd:FuncData}(F:Fun K "lies_in" "lies_in" K0 f fd)(T:Txt K mg c)  : FnOk P w K mg base (m4 P w) 3 f fd ["box","spot"] (g6 K c C8) :=
 F.okD (k:=2) L7 fun cdv A outer s H E hr=>⟨_,(c9 (O4 (pv 1) (M3 (K:=K) (n:=4) rfl (k7 (g5 (i:=2) L7.nd rfl (Or.inl rfl)) (k7 (g5 (i:=3) L7.nd rfl (Or.inl rfl)) (k7 (g5 (i:=4) L7.nd rfl (Or.inl rfl)) (k7 (g5 (i:=5) L7.nd rfl (Or.inl rfl)) M0)))))) (d9 (h8 (a1k (B9 a8Q (pv 2) a6 (g9 _)) (a1k (B9 a8Q (pv 3) a6 (g9 _)) (a1k (B9 a0x (pv 4) (e7 (d5 (K:=K)) (pv 0) a6 (fun _ _=>rfl)) (g9 _)) (a0f (B9 a0x (pv 5) (e7 (d5 (K:=K)) (pv 0) a6 (fun _ _=>rfl)) (g9 _))))))))),(e9 (S9 a8 (M6 (k8 (f9 (k:=6) (by decide)) (k8 (f9 (k:=6) (by decide)) (k8 (f9 (k:=6) (by decide)) (k8 (f9 (k:=6) (by decide)) M5)))) rfl)) (j2 (a1E (a9 a8Z a8 b9) (a1E (a9 a8Z a8 b9) (a1E (a9 a0B a8 (a9 e8 a8 b9)) (a9 a0B a8 (a9 e8 a8 b9)))))))⟩
def a22:SF:=(d4 (u3 4 (O8 (aC (zN (nB V2 (zN (eL (aC (eC (.int 0)) aN))) (zN (A5 1 1 [] (c6 0) l6 (eB d7 (eV 0) (eC (.int 3))))))) aN))) (d4 (u3 5 (O8 (aC (zN (nB V2 (zN (eL (aC (eC (.int 0)) aN))) (zN (A5 1 1 [] (c6 0) l6 (eB d7 (eV 0) (eC (.int 2))))))) aN))) (d4 (D3 4 (c6 6) (D3 5 (c6 7) (d4 (v8 8 (eT (aC (eV 7) (aC (eV 6) (aC (eB n8 (eV 7) (eV 2)) (aC (eB n8 (eV 6) (eV 3)) aN)))))) (m7 (K7 (bZ (e6 C8 (aC (eV 0) (aC (eV 8) aN)))) (bZ (W7 (g1 a2c) (aC (zN (A5 1 1 [8] (c6 0) l6 (e6 G8 (aC (eV 1) (aC (eV 0) aN))))) aN)))) (h9 (eT (aC (eV 7) (aC (eV 6) aN)))) m5)))) (h9 (eC .non)))))
def p9:List D→Option R1:=fD 9 4 a22
theorem y4:FnScope ["box","spots","w","h","ys","xs","y","x","spot"] ["box","spots","w","h"] (a7 j8):=⟨rfl,rfl,rfl,by decide +kernel,rfl,by decide +kernel,by decide +kernel⟩
theorem a2r{f:Addr}{fd:FuncData}(F:Fun K "least_place" "least_place" j8 f fd)(T:Txt K mg c)(G_apart:Own P w K mg base 3 "apart" ["one","other"] (g6 K c G8))(G_lies_in:Own P w K mg base 3 "lies_in" ["box","spot"] (g6 K c C8)):FnOk P w K mg base (m4 P w) 5 f fd ["box","spots","w","h"] (g6 K c p9) :=
 F.okD (k:=4) y4 fun cdv A outer s H E hr=>⟨_,(c9 (l4 (i:=4) y4.nd rfl (Or.inl rfl) (Y3 rfl rfl T.z_sorted rfl T.z_set (a5 (g0 a1r (D7 (a5 a6 c7)) (E2 (Nc:=["spot"]) (k:=1) (js:=[]) rfl ⟨by decide +kernel,rfl,by decide +kernel,(by change ∀y∈Scope.names _,y.2=NameKind.free→(a7 j8).names.lookup y.1=some .cell∨(a7 j8).names.lookup y.1=some .free;decide +kernel),by decide +kernel,rfl,rfl,by decide +kernel⟩ (r8 (pv 1)) (fun _ _ _ _ _=>(g5 (i:=0) (by show List.Nodup [("spot" : Str)];decide +kernel) rfl (Or.inl rfl))) (fun _ _ _ _ _=>J2) (fun _ _ _ _ _=>(e7 (d5 (K:=K)) (pv 0) a6 (fun _ _=>rfl))))) c7))) (c9 (l4 (i:=5) y4.nd rfl (Or.inl rfl) (Y3 rfl rfl T.z_sorted rfl T.z_set (a5 (g0 a1r (D7 (a5 a6 c7)) (E2 (Nc:=["spot"]) (k:=1) (js:=[]) rfl ⟨by decide +kernel,rfl,by decide +kernel,(by change ∀y∈Scope.names _,y.2=NameKind.free→(a7 j8).names.lookup y.1=some .cell∨(a7 j8).names.lookup y.1=some .free;decide +kernel),by decide +kernel,rfl,rfl,by decide +kernel⟩ (r8 (pv 1)) (fun _ _ _ _ _=>(g5 (i:=0) (by show List.Nodup [("spot" : Str)];decide +kernel) rfl (Or.inl rfl))) (fun _ _ _ _ _=>J2) (fun _ _ _ _ _=>(e7 (d5 (K:=K)) (pv 0) a6 (fun _ _=>rfl))))) c7))) (c9 (K5 PassesOwn.leaving rfl (r8 (pv 4)) (g5 (i:=6) y4.nd rfl (Or.inl rfl)) (d9 (K5 PassesOwn.leaving rfl (r8 (pv 5)) (g5 (i:=7) y4.nd rfl (Or.inl rfl)) (c9 (l4 (i:=8) y4.nd rfl (Or.inr rfl) (r9 (a5 (pv 7) (a5 (pv 6) (a5 (g0 v3 (pv 7) (pv 2)) (a5 (g0 v3 (pv 6) (pv 3)) c7)))))) (d9 (t4 (PW.pt (R8 (y6 (j0 G_lies_in hr (by decide) j5 (a5 (pv 0) (a5 (pv 8) c7)))) (V7 (y6 (t8 (a6b (K:=K)) rfl T.z_all b08 (a5 (E2 (Nc:=["other","spot"]) (k:=1) (js:=[8]) rfl ⟨by decide +kernel,rfl,by decide +kernel,(by change ∀y∈Scope.names _,y.2=NameKind.free→(a7 j8).names.lookup y.1=some .cell∨(a7 j8).names.lookup y.1=some .free;decide +kernel),by decide +kernel,rfl,rfl,by decide +kernel⟩ (r8 (pv 1)) (fun _ _ _ _ _=>(g5 (i:=0) (by show List.Nodup [("other" : Str),("spot" : Str)];decide +kernel) rfl (Or.inl rfl))) (fun _ _ _ _ _=>J2) (fun _ _ _ _ _=>(j0 G_apart hr (by decide) j5 (a5 (pv 1) (a5 (pv 0) c7))))) c7)))))) (d9 (h8 (r9 (a5 (pv 7) (a5 (pv 6) c7))))) j4)))))) (d9 (h8 K2))))),(e9 (G2 (Z8 (b0 (u0 (a1H a1I (u0 (P3 (b0 b9 d6))) (u0 (M8 (by decide) (f9 (k:=1) (by decide)) B3 (a9 e8 a8 b9))))) d6))) (e9 (G2 (Z8 (b0 (u0 (a1H a1I (u0 (P3 (b0 b9 d6))) (u0 (M8 (by decide) (f9 (k:=1) (by decide)) B3 (a9 e8 a8 b9))))) d6))) (e9 (a2e (f9 (k:=9) (by decide)) (a2e (f9 (k:=9) (by decide)) (e9 (C2 (C0 (b0 a8 (b0 a8 (b0 (a9 v7 a8 a8) (b0 (a9 v7 a8 a8) d6)))))) (l5 (M4 (B6 (i0 (b0 a8 (b0 a8 d6)))) (B6 (a1F b1r.cb (b0 (u0 (M8 (by decide) (f9 (k:=1) (by decide)) B3 (i0 (b0 a8 (b0 a8 d6))))) d6)))) (j2 (C0 (b0 a8 (b0 a8 d6)))) t5)))) (j2 b9))))⟩
def a1i:SF:=(d4 (v8 3 (eC .non)) (d4 (x8 (e6 A7 (aC (eV 2) aN))  (c6 4) (d4 (M7 (G1 m9 (aC (eV 2) (aC (eV 4) aN))) (K8 [(c6 5),(c6 6)])) (d4 (a1N 7 p9 (aC (eV 0) (aC (eV 1) (aC (eV 5) (aC (eV 6) aN))))) (d4 (m7 (bZ (eB (F5 false) (eV 7) (eC .non))) sCt m5) (d4 (M7 (eV 7) (K8 [(c6 8),(c6 9)])) (m7 (C5 (bZ (eB (F5 false) (eV 3) (eC .non))) (bZ (eB P7 (eT (aC (eV 9) (aC (eV 8) aN))) (eT (aC (eB d7 (eV 3) (eC (.int 1))) (aC (eB d7 (eV 3) (eC (.int 0))) aN)))))) (v8 3 (eT (aC (eV 8) (aC (eV 9) (aC (eV 4) aN))))) m5)))))) (Y9 3)))
def j1:List D→Option R1:=fD 10 3 a1i
theorem j7:FnScope ["box","spots","ware","best","lie","w","h","corner","x","y"] ["box","spots","ware"] (a7 u6):=⟨rfl,rfl,rfl,by decide +kernel,rfl,by decide +kernel,by decide +kernel⟩
theorem a0M{f:Addr}{fd:FuncData}(F:Fun K "cornered_place" "cornered_place" u6 f fd)(T:Txt K mg c)(G_lies_of:Own P w K mg base 3 "lies_of" ["ware"] (g6 K c A7))(G_sides_of:Own P w K mg base 3 "sides_of" ["ware","lie"] (g6 K c m9))(G_least_place:Own P w K mg base 5 "least_place" ["box","spots","w","h"] (g6 K c p9)):FnOk P w K mg base (m4 P w) 7 f fd ["box","spots","ware"] (g6 K c j1) :=
 F.okD (k:=6) j7 fun cdv A outer s H E hr=>⟨_,(c9 (l4 (i:=3) j7.nd rfl (Or.inl rfl) K2) (c9 (K5 PassesOwn.leaving rfl (r8 (j0 G_lies_of hr (by decide) j5 (a5 (pv 2) c7))) (g5 (i:=4) j7.nd rfl (Or.inl rfl)) (c9 (O4 (j0 G_sides_of hr (by decide) (XAcc.passes M1) (a5 (pv 2) (a5 (pv 4) c7))) (M3 (K:=K) (n:=2) rfl (k7 (g5 (i:=5) j7.nd rfl (Or.inl rfl)) (k7 (g5 (i:=6) j7.nd rfl (Or.inl rfl)) M0)))) (c9 (l4 (i:=7) j7.nd rfl (Or.inl rfl) (j0 G_least_place hr (by decide) j5 (a5 (pv 0) (a5 (pv 1) (a5 (pv 5) (a5 (pv 6) c7)))))) (c9 (t4 (i5 a3g (pv 7) K2 (g9 _)) (d9 a3_) j4) (c9 (O4 (pv 7) (M3 (K:=K) (n:=2) rfl (k7 (g5 (i:=8) j7.nd rfl (Or.inl rfl)) (k7 (g5 (i:=9) j7.nd rfl (Or.inl rfl)) M0)))) (d9 (t4 (PW.pt (K3 (i5 a3g (pv 3) K2 (g9 _)) (V8 (i5 (a9p (K:=K) (Nat.lt_of_le_of_lt (Nat.le_add_right _ _) (a5D hr))) (r9 (a5 (pv 9) (a5 (pv 8) c7))) (r9 (a5 (e7 (d5 (K:=K)) (pv 3) a6 (fun _ _=>rfl)) (a5 (e7 (d5 (K:=K)) (pv 3) a6 (fun _ _=>rfl)) c7))) (g9 _))))) (d9 (l4 (i:=3) j7.nd rfl (Or.inl rfl) (r9 (a5 (pv 8) (a5 (pv 9) (a5 (pv 4) c7)))))) j4))))))) (d9 (h8 (pv 3))))),(e9 (C2 b9) (e9 (X1 (i0 (b0 a8 d6)) (f9 (k:=10) (by decide)) (e9 (S9 (X0 (b0 a8 (b0 a8 d6))) (M6 (k8 (f9 (k:=10) (by decide)) (k8 (f9 (k:=10) (by decide)) M5)) rfl)) (e9 (a70 (b0 a8 (b0 a8 (b0 a8 (b0 a8 d6))))) (e9 (l5 (m3 (a9 a3D a8 b9)) b15 t5) (e9 (S9 a8 (M6 (k8 (f9 (k:=10) (by decide)) (k8 (f9 (k:=10) (by decide)) M5)) rfl)) (l5 (E9 (m3 (a9 a3D a8 b9)) (m3 (a9 b1K (C0 (b0 a8 (b0 a8 d6))) (C0 (b0 (a9 e8 a8 b9) (b0 (a9 e8 a8 b9) d6)))))) (C2 (C0 (b0 a8 (b0 a8 (b0 a8 d6))))) t5)))))) a4O))⟩
def a5L:SF:=(d4 (u3 2 (eL aN)) (d4 (u3 3 (nB a2b (zN (eL (aC (eC .non) aN))) (J0 A2 1))) (d4 (x8 (e6 A8 (aC (eV 1) aN))  (c6 4) (d4 (v8 5 (a1Q (G1 j1 (aC (eV 0) (aC (eV 2) (aC (A1 t6 1 (eV 4)) aN)))))) (m7 (bZ (eB (F5 true) (eV 5) (eC .non))) (d4 (a5s 3 (eV 4) (eV 5)) (a09 2 (G1 y3 (aC (A1 t6 1 (eV 4)) (aC (eV 5) aN))))) m5))) (Y9 3))))
def u9:List D→Option R1:=fD 6 2 a5L
theorem J5:FnScope ["box","wares","spots","places","k","place"] ["box","wares"] (a7 G5):=⟨rfl,rfl,rfl,by decide +kernel,rfl,by decide +kernel,by decide +kernel⟩
theorem a4o{TB:List (Addr×Str)}{f:Addr}{fd:FuncData}(F:Fun K "cornered" "cornered" G5 f fd)(T:Txt K mg c)(G_by_area:Own P w K mg base 8 "by_area" ["wares"] (S2 TB (g6 K c A8)))(G_cornered_place:Own P w K mg base 7 "cornered_place" ["box","spots","ware"] (g6 K c j1))(G_spot_of:Own P w K mg base 5 "spot_of" ["ware","place"] (g6 K c y3)):FnOk P w K mg base (m4 P w) 10 f fd ["box","wares"] (S2 TB (g6 K c u9)) :=
 F.okT (k:=9) J5 fun A outer s H E hT hr=>⟨_,(c9 (l4 (i:=2) J5.nd rfl (Or.inl rfl) (D7 c7)) (c9 (l4 (i:=3) J5.nd rfl (Or.inl rfl) (g0 b03 (D7 (a5 K2 c7)) (t8 (x5 (K:=K)) rfl T.z_len S0 (a5 (pv 1) c7)))) (c9 (K5 PassesOwn.leaving rfl (r8 (a2q hT G_by_area hr (by decide) j5 (a5 (pv 1) c7))) (g5 (i:=4) J5.nd rfl (Or.inl rfl)) (c9 (l4 (i:=5) J5.nd rfl (Or.inl rfl) (j0 G_cornered_place hr (by decide) (XAcc.passes M1) (a5 (pv 0) (a5 (pv 2) (a5 (e7 (t9 (K:=K)) (pv 1) (pv 4) (fun _ _=>rfl)) c7))))) (d9 (t4 (i5 a1Y (pv 5) K2 (g9 _)) (c9 (O4 (pv 5) (b0N (pv 3) (pv 4) a7t)) (d9 (a1W (a6a (K:=K) PySem.F.plainAttrs_list PySem.F.slot_list_append PySem.F.type_list_append a0k (pv 2) (a5 (j0 G_spot_of hr (by decide) (XAcc.passes M1) (a5 (e7 (t9 (K:=K)) (pv 1) (pv 4) (fun _ _=>rfl)) (a5 (pv 5) c7))) c7))))) j4)))) (d9 (h8 (pv 3)))))),(e9 (G2 (P3 d6)) (e9 (G2 (a1H b1q (u0 (P3 (b0 b9 d6))) (Y6 S7))) (e9 (X1 (i0 (b0 a8 d6)) (f9 (k:=6) (by decide)) (e9 (C2 (a8d (X0 (b0 a8 (b0 a8 (b0 (A3 A4 a8) d6)))))) (l5 (m3 (a9 a2a a8 b9)) (e9 (b1s a8 a8) (a6A (X0 (b0 (A3 A4 a8) (b0 a8 d6))))) t5))) a4O)))⟩
def a2P:SF:=(h9 (a1_ (O1 0 "int") (a7W (O1 0 "bool"))))
def C9:List D→Option R1:=fD 1 1 a2P
theorem a5M:FnScope ["_law_found"] ["_law_found"] (a7 K1):=⟨rfl,rfl,rfl,by decide +kernel,rfl,by decide +kernel,by decide +kernel⟩
theorem a5N{f:Addr}{fd:FuncData}(F:Fun K "_law_whole" "_law_whole" K1 f fd)(T:Txt K mg c)  : FnOk P w K mg base (m4 P w) 3 f fd ["_law_found"] (g6 K c C9) :=
 F.okD (k:=2) a5M fun cdv A outer s H E hr=>⟨_,(d9 (h8 (a1k (t8 (O6 (K:=K)) rfl T.z_isinstance D8 (a5 (pv 0) (a5 (V6 (v:=.ty "int") rfl T.z_int b06 rfl) c7))) (a0f (b0G (t8 (O6 (K:=K)) rfl T.z_isinstance D8 (a5 (pv 0) (a5 (V6 (v:=.ty "bool") rfl T.z_bool a4C rfl) c7)))))))),(j2 (a1E a0H (b1k a0H)))⟩
def a3V:SF:=(d4 (m7 (bZ (eB S6 (eV 1) (J0 A2 0))) (h9 (A1 t6 0 (eV 1))) m5) (h9 (eC (.int 0))))
def i8:List D→Option R1:=fD 2 2 a3V
theorem a6T:FnScope ["_law_script","_law_k"] ["_law_script","_law_k"] (a7 N1):=⟨rfl,rfl,rfl,by decide +kernel,rfl,by decide +kernel,by decide +kernel⟩
theorem a6U{f:Addr}{fd:FuncData}(F:Fun K "_law_cell" "_law_cell" N1 f fd)(T:Txt K mg c)  : FnOk P w K mg base (m4 P w) 3 f fd ["_law_script","_law_k"] (g6 K c i8) :=
 F.okD (k:=2) a6T fun cdv A outer s H E hr=>⟨_,(c9 (t4 (i5 X8 (pv 1) (t8 (x5 (K:=K)) rfl T.z_len S0 (a5 (pv 0) c7)) (g9 _)) (d9 (h8 (e7 (t9 (K:=K)) (pv 0) (pv 1) (fun _ _=>rfl)))) j4) (d9 (h8 a6))),(e9 (l5 (m3 (a9 Y7 a8 (Y6 S7))) (j2 (A3 A4 a8)) t5) (j2 b9))⟩
def a3W:SF:=(h9 (eB n8 (eB x6 (eV 1) (eB n8 (eC (.int 1)) (eB n4 (eV 0) (eC (.int 6))))) (eB n4 (eB v5 (eV 0) (eC (.int 6))) (eC (.int 3)))))
def D5:List D→Option R1:=fD 2 2 a3W
theorem a6V:FnScope ["_law_cell_here","_law_unit"] ["_law_cell_here","_law_unit"] (a7 N2):=⟨rfl,rfl,rfl,by decide +kernel,rfl,by decide +kernel,by decide +kernel⟩
theorem a6W{f:Addr}{fd:FuncData}(F:Fun K "_law_side" "_law_side" N2 f fd)(T:Txt K mg c)  : FnOk P w K mg base (m4 P w) 3 f fd ["_law_cell_here","_law_unit"] (g6 K c D5) :=
 F.okD (k:=2) a6V fun cdv A outer s H E hr=>⟨_,(d9 (h8 (g0 v3 (g0 R0 (pv 1) (g0 v3 a6 (g0 y8 (pv 0) a6))) (g0 y8 (g0 w9 (pv 0) a6) a6)))),(j2 (a9 v7 (a9 W8 a8 (a9 v7 b9 (a9 z7 a8 b9))) (a9 z7 (a9 E1 a8 b9) b9)))⟩
def a8s:SF:=(d4 (m7 (bZ (eB (C1 false) (eB n4 (eV 0) (eC (.int 5))) (eC (.int 4)))) (h9 (eT (aC (eB x6 (eV 1) (eC (.int 2))) (aC (eB x6 (eV 1) (eC (.int 3))) (aC (eB (C1 false) (eB n4 (eB v5 (eV 0) (eC (.int 5))) (eC (.int 2))) (eC (.int 0))) aN))))) m5) (h9 (eT (aC (e6 D5 (aC (eB v5 (eV 0) (eC (.int 5))) (aC (eV 1) aN))) (aC (e6 D5 (aC (eB v5 (eV 0) (eC (.int 90))) (aC (eV 1) aN))) (aC (eB (C1 false) (eB n4 (eB v5 (eV 0) (eC (.int 1620))) (eC (.int 2))) (eC (.int 0))) aN))))))
def B4:List D→Option R1:=fD 2 2 a8s
theorem a6X:FnScope ["_law_cell_here","_law_unit"] ["_law_cell_here","_law_unit"] (a7 N3):=⟨rfl,rfl,rfl,by decide +kernel,rfl,by decide +kernel,by decide +kernel⟩
theorem a6Y{f:Addr}{fd:FuncData}(F:Fun K "_law_ware" "_law_ware" N3 f fd)(T:Txt K mg c)(G_l_side:Own P w K mg base 3 "_law_side" ["_law_cell_here","_law_unit"] (g6 K c D5)):FnOk P w K mg base (m4 P w) 5 f fd ["_law_cell_here","_law_unit"] (g6 K c B4) :=
 F.okD (k:=4) a6X fun cdv A outer s H E hr=>⟨_,(c9 (t4 (i5 X7 (g0 y8 (pv 0) a6) a6 (g9 _)) (d9 (h8 (r9 (a5 (g0 R0 (pv 1) a6) (a5 (g0 R0 (pv 1) a6) (a5 (B9 X7 (g0 y8 (g0 w9 (pv 0) a6) a6) a6 (g9 _)) c7)))))) j4) (d9 (h8 (r9 (a5 (j0 G_l_side hr (by decide) j5 (a5 (g0 w9 (pv 0) a6) (a5 (pv 1) c7))) (a5 (j0 G_l_side hr (by decide) j5 (a5 (g0 w9 (pv 0) a6) (a5 (pv 1) c7))) (a5 (B9 X7 (g0 y8 (g0 w9 (pv 0) a6) a6) a6 (g9 _)) c7))))))),(e9 (l5 (m3 (a9 Y8 (a9 z7 a8 b9) b9)) (j2 (C0 (b0 (a9 W8 a8 b9) (b0 (a9 W8 a8 b9) (b0 (a9 Y8 (a9 z7 (a9 E1 a8 b9) b9) b9) d6))))) t5) (j2 (C0 (b0 (i0 (b0 (a9 E1 a8 b9) (b0 a8 d6))) (b0 (i0 (b0 (a9 E1 a8 b9) (b0 a8 d6))) (b0 (a9 Y8 (a9 z7 (a9 E1 a8 b9) b9) b9) d6))))))⟩
def a3X:SF:=(d4 (v8 1 (eB v5 (eV 0) (eB J1 (eC (.int 10)) (eC (.int 40))))) (h9 (eT (aC (eB n8 (eC (.int 1)) (eB n4 (eV 0) (eB J1 (eC (.int 10)) (eC (.int 40))))) (aC (eB n8 (eC (.int 1)) (eB n4 (eV 1) (eB J1 (eC (.int 10)) (eC (.int 40))))) (aC (eB (C1 false) (eB n4 (eB v5 (eV 1) (eB J1 (eC (.int 10)) (eC (.int 40)))) (eC (.int 2))) (eC (.int 1))) aN))))))
def u4:List D→Option R1:=fD 2 1 a3X
theorem a0d:FnScope ["_law_cell_here","_law_rest"] ["_law_cell_here"] (a7 C3):=⟨rfl,rfl,rfl,by decide +kernel,rfl,by decide +kernel,by decide +kernel⟩
theorem a23{f:Addr}{fd:FuncData}(F:Fun K "_law_any_ware" "_law_any_ware" C3 f fd)(T:Txt K mg c)  : FnOk P w K mg base (m4 P w) 3 f fd ["_law_cell_here"] (g6 K c u4) :=
 F.okD (k:=2) a0d fun cdv A outer s H E hr=>⟨_,(c9 (l4 (i:=1) a0d.nd rfl (Or.inl rfl) (g0 w9 (pv 0) (g0 W0 a6 a6))) (d9 (h8 (r9 (a5 (g0 v3 a6 (g0 y8 (pv 0) (g0 W0 a6 a6))) (a5 (g0 v3 a6 (g0 y8 (pv 1) (g0 W0 a6 a6))) (a5 (B9 X7 (g0 y8 (g0 w9 (pv 1) (g0 W0 a6 a6)) a6) a6 (g9 _)) c7))))))),(e9 (C2 (a9 E1 a8 (a9 W9 b9 b9))) (j2 (C0 (b0 (a9 v7 b9 (a9 z7 a8 (a9 W9 b9 b9))) (b0 (a9 v7 b9 (a9 z7 a8 (a9 W9 b9 b9))) (b0 (a9 Y8 (a9 z7 (a9 E1 a8 (a9 W9 b9 b9)) b9) b9) d6))))))⟩
def a3Y:SF:=(d4 (m7 (K7 (bZ (eB d7 (eV 0) (eC (.int 2)))) (bZ (eB (C1 true) (eB d7 (eV 0) (eC (.int 0))) (eB d7 (eV 0) (eC (.int 1)))))) (a0C (eL (aC (eC (.bl false)) (aC (eC (.bl true)) aN)))) m5) (a0C (eL (aC (eC (.bl false)) aN))))
def x9:List D→Option R1:=fD 1 1 a3Y
theorem a6Z:FnScope ["_law_ware_here"] ["_law_ware_here"] (a7 N4):=⟨rfl,rfl,rfl,by decide +kernel,rfl,by decide +kernel,by decide +kernel⟩
theorem a60{f:Addr}{fd:FuncData}(F:Fun K "_law_lies" "_law_lies" N4 f fd)(T:Txt K mg c)  : FnOk P w K mg base (m4 P w) 3 f fd ["_law_ware_here"] (g6 K c x9) :=
 F.okD (k:=2) a6Z fun cdv A outer s H E hr=>⟨_,(c9 (t4 (PW.pt (R8 (y6 (e7 (d5 (K:=K)) (pv 0) a6 (fun _ _=>rfl))) (V7 (i5 a25 (e7 (d5 (K:=K)) (pv 0) a6 (fun _ _=>rfl)) (e7 (d5 (K:=K)) (pv 0) a6 (fun _ _=>rfl)) (g9 _))))) (d9 (h8 (D7 (a5 z9 (a5 z9 c7))))) j4) (d9 (h8 (D7 (a5 z9 c7))))),(e9 (l5 (M4 (B6 (a9 e8 a8 b9)) (m3 (a9 a29 (a9 e8 a8 b9) (a9 e8 a8 b9)))) (a0D (P3 (b0 b9 (b0 b9 d6)))) t5) (a0D (P3 (b0 b9 d6))))⟩
def a3Z:SF:=(d4 (m7 (bZ (eB d7 (eV 1) (eC (.int 2)))) (h9 (eT (aC (eB d7 (eV 1) (eC (.int 0))) (aC (eB d7 (eV 1) (eC (.int 1))) (aC (eB n8 (eB d7 (eV 1) (eC (.int 0))) (eB d7 (eV 0) (eC (.int 1)))) (aC (eB n8 (eB d7 (eV 1) (eC (.int 1))) (eB d7 (eV 0) (eC (.int 0)))) aN)))))) m5) (h9 (eT (aC (eB d7 (eV 1) (eC (.int 0))) (aC (eB d7 (eV 1) (eC (.int 1))) (aC (eB n8 (eB d7 (eV 1) (eC (.int 0))) (eB d7 (eV 0) (eC (.int 0)))) (aC (eB n8 (eB d7 (eV 1) (eC (.int 1))) (eB d7 (eV 0) (eC (.int 1)))) aN)))))))
def j3:List D→Option R1:=fD 2 2 a3Z
theorem a61:FnScope ["_law_ware_here","_law_place"] ["_law_ware_here","_law_place"] (a7 N5):=⟨rfl,rfl,rfl,by decide +kernel,rfl,by decide +kernel,by decide +kernel⟩
theorem a62{f:Addr}{fd:FuncData}(F:Fun K "_law_spot" "_law_spot" N5 f fd)(T:Txt K mg c)  : FnOk P w K mg base (m4 P w) 3 f fd ["_law_ware_here","_law_place"] (g6 K c j3) :=
 F.okD (k:=2) a61 fun cdv A outer s H E hr=>⟨_,(c9 (t4 (y6 (e7 (d5 (K:=K)) (pv 1) a6 (fun _ _=>rfl))) (d9 (h8 (r9 (a5 (e7 (d5 (K:=K)) (pv 1) a6 (fun _ _=>rfl)) (a5 (e7 (d5 (K:=K)) (pv 1) a6 (fun _ _=>rfl)) (a5 (g0 v3 (e7 (d5 (K:=K)) (pv 1) a6 (fun _ _=>rfl)) (e7 (d5 (K:=K)) (pv 0) a6 (fun _ _=>rfl))) (a5 (g0 v3 (e7 (d5 (K:=K)) (pv 1) a6 (fun _ _=>rfl)) (e7 (d5 (K:=K)) (pv 0) a6 (fun _ _=>rfl))) c7))))))) j4) (d9 (h8 (r9 (a5 (e7 (d5 (K:=K)) (pv 1) a6 (fun _ _=>rfl)) (a5 (e7 (d5 (K:=K)) (pv 1) a6 (fun _ _=>rfl)) (a5 (g0 v3 (e7 (d5 (K:=K)) (pv 1) a6 (fun _ _=>rfl)) (e7 (d5 (K:=K)) (pv 0) a6 (fun _ _=>rfl))) (a5 (g0 v3 (e7 (d5 (K:=K)) (pv 1) a6 (fun _ _=>rfl)) (e7 (d5 (K:=K)) (pv 0) a6 (fun _ _=>rfl))) c7)))))))),(e9 (l5 (B6 (a9 e8 a8 b9)) (j2 (C0 (b0 (a9 e8 a8 b9) (b0 (a9 e8 a8 b9) (b0 (a9 v7 (a9 e8 a8 b9) (a9 e8 a8 b9)) (b0 (a9 v7 (a9 e8 a8 b9) (a9 e8 a8 b9)) d6)))))) t5) (j2 (C0 (b0 (a9 e8 a8 b9) (b0 (a9 e8 a8 b9) (b0 (a9 v7 (a9 e8 a8 b9) (a9 e8 a8 b9)) (b0 (a9 v7 (a9 e8 a8 b9) (a9 e8 a8 b9)) d6)))))))⟩
def a8t:SF:=(d4 (m7 (C5 (bZ (eB S6 (eB d7 (eV 2) (eC (.int 0))) (eC (.int 0)))) (C5 (bZ (eB S6 (eB d7 (eV 2) (eC (.int 1))) (eC (.int 0)))) (C5 (bZ (eB gGt (eB d7 (eV 2) (eC (.int 2))) (eB d7 (eV 0) (eC (.int 0))))) (bZ (eB gGt (eB d7 (eV 2) (eC (.int 3))) (eB d7 (eV 0) (eC (.int 1)))))))) (h9 (eC (.bl false))) m5) (d4 (D3 1 (c6 3) (m7 (K7 (bZ (eB S6 (eB d7 (eV 2) (eC (.int 0))) (eB d7 (eV 3) (eC (.int 2))))) (K7 (bZ (eB S6 (eB d7 (eV 3) (eC (.int 0))) (eB d7 (eV 2) (eC (.int 2))))) (K7 (bZ (eB S6 (eB d7 (eV 2) (eC (.int 1))) (eB d7 (eV 3) (eC (.int 3))))) (bZ (eB S6 (eB d7 (eV 3) (eC (.int 1))) (eB d7 (eV 2) (eC (.int 3)))))))) (h9 (eC (.bl false))) m5)) (h9 (eC (.bl true)))))
def z8:List D→Option R1:=fD 4 3 a8t
theorem a2Q:FnScope ["_law_box","_law_spots","_law_spot_here","_law_other"] ["_law_box","_law_spots","_law_spot_here"] (a7 N6):=⟨rfl,rfl,rfl,by decide +kernel,rfl,by decide +kernel,by decide +kernel⟩
theorem a63{f:Addr}{fd:FuncData}(F:Fun K "_law_free" "_law_free" N6 f fd)(T:Txt K mg c)  : FnOk P w K mg base (m4 P w) 3 f fd ["_law_box","_law_spots","_law_spot_here"] (g6 K c z8) :=
 F.okD (k:=2) a2Q fun cdv A outer s H E hr=>⟨_,(c9 (t4 (PW.pt (K3 (i5 X8 (e7 (d5 (K:=K)) (pv 2) a6 (fun _ _=>rfl)) a6 (g9 _)) (K3 (i5 X8 (e7 (d5 (K:=K)) (pv 2) a6 (fun _ _=>rfl)) a6 (g9 _)) (K3 (i5 a8P (e7 (d5 (K:=K)) (pv 2) a6 (fun _ _=>rfl)) (e7 (d5 (K:=K)) (pv 0) a6 (fun _ _=>rfl)) (g9 _)) (V8 (i5 a8P (e7 (d5 (K:=K)) (pv 2) a6 (fun _ _=>rfl)) (e7 (d5 (K:=K)) (pv 0) a6 (fun _ _=>rfl)) (g9 _))))))) (d9 (h8 z9)) j4) (c9 (K5 PassesOwn.leaving rfl (r8 (pv 1)) (g5 (i:=3) a2Q.nd rfl (Or.inl rfl)) (d9 (t4 (PW.pt (R8 (i5 X8 (e7 (d5 (K:=K)) (pv 2) a6 (fun _ _=>rfl)) (e7 (d5 (K:=K)) (pv 3) a6 (fun _ _=>rfl)) (g9 _)) (R8 (i5 X8 (e7 (d5 (K:=K)) (pv 3) a6 (fun _ _=>rfl)) (e7 (d5 (K:=K)) (pv 2) a6 (fun _ _=>rfl)) (g9 _)) (R8 (i5 X8 (e7 (d5 (K:=K)) (pv 2) a6 (fun _ _=>rfl)) (e7 (d5 (K:=K)) (pv 3) a6 (fun _ _=>rfl)) (g9 _)) (V7 (i5 X8 (e7 (d5 (K:=K)) (pv 3) a6 (fun _ _=>rfl)) (e7 (d5 (K:=K)) (pv 2) a6 (fun _ _=>rfl)) (g9 _))))))) (d9 (h8 z9)) j4))) (d9 (h8 z9)))),(e9 (l5 (E9 (m3 (a9 Y7 (a9 e8 a8 b9) b9)) (E9 (m3 (a9 Y7 (a9 e8 a8 b9) b9)) (E9 (m3 (a9 a8Y (a9 e8 a8 b9) (a9 e8 a8 b9))) (m3 (a9 a8Y (a9 e8 a8 b9) (a9 e8 a8 b9)))))) (j2 b9) t5) (e9 (a2e (f9 (k:=4) (by decide)) (l5 (M4 (m3 (a9 Y7 (a9 e8 a8 b9) (a9 e8 a8 b9))) (M4 (m3 (a9 Y7 (a9 e8 a8 b9) (a9 e8 a8 b9))) (M4 (m3 (a9 Y7 (a9 e8 a8 b9) (a9 e8 a8 b9))) (m3 (a9 Y7 (a9 e8 a8 b9) (a9 e8 a8 b9)))))) (j2 b9) t5)) (j2 b9)))⟩
def a24:SF:=(d4 (x8 (e6 x9 (aC (eV 2) aN))  (c6 4) (x8 (zN (O8 (aC (zN (nB V2 (zN (eL (aC (eC (.int 0)) aN))) (zN (A5 1 1 [] (c6 0) l6 (eB d7 (eV 0) (eC (.int 3))))))) aN)))  (c6 5) (x8 (zN (O8 (aC (zN (nB V2 (zN (eL (aC (eC (.int 0)) aN))) (zN (A5 1 1 [] (c6 0) l6 (eB d7 (eV 0) (eC (.int 2))))))) aN)))  (c6 6) (m7 (C5 (bZ (eB (F5 false) (eV 3) (eC .non))) (bZ (eB a0a (eT (aC (eV 5) (aC (eV 6) (aC (eV 4) aN)))) (eT (aC (eB d7 (eV 3) (eC (.int 1))) (aC (eB d7 (eV 3) (eC (.int 0))) (aC (eB d7 (eV 3) (eC (.int 2))) aN))))))) (m7 (bZ (e6 z8 (aC (eV 0) (aC (eV 1) (aC (e6 j3 (aC (eV 2) (aC (eT (aC (eV 6) (aC (eV 5) (aC (eV 4) aN)))) aN))) aN))))) (h9 (eC (.bl false))) m5) m5)))) (h9 (eC (.bl true))))
def j9:List D→Option R1:=fD 7 4 a24
theorem G9:FnScope ["_law_box","_law_spots","_law_ware_here","_law_place","_law_lie","_law_y","_law_x"] ["_law_box","_law_spots","_law_ware_here","_law_place"] (a7 m8):=⟨rfl,rfl,rfl,by decide +kernel,rfl,by decide +kernel,by decide +kernel⟩
theorem a2s{f:Addr}{fd:FuncData}(F:Fun K "_law_none_less" "_law_none_less" m8 f fd)(T:Txt K mg c)(G_l_lies:Own P w K mg base 3 "_law_lies" ["_law_ware_here"] (g6 K c x9))(G_l_free:Own P w K mg base 3 "_law_free" ["_law_box","_law_spots","_law_spot_here"] (g6 K c z8))(G_l_spot:Own P w K mg base 3 "_law_spot" ["_law_ware_here","_law_place"] (g6 K c j3)):FnOk P w K mg base (m4 P w) 5 f fd ["_law_box","_law_spots","_law_ware_here","_law_place"] (g6 K c j9) :=
 F.okD (k:=4) G9 fun cdv A outer s H E hr=>⟨_,(c9 (K5 PassesOwn.leaving rfl (r8 (j0 G_l_lies hr (by decide) j5 (a5 (pv 2) c7))) (g5 (i:=4) G9.nd rfl (Or.inl rfl)) (d9 (K5 PassesOwn.leaving rfl (r8 (Y3 rfl rfl T.z_sorted rfl T.z_set (a5 (g0 a1r (D7 (a5 a6 c7)) (E2 (Nc:=["_law_spot_here"]) (k:=1) (js:=[]) rfl ⟨by decide +kernel,rfl,by decide +kernel,(by change ∀y∈Scope.names _,y.2=NameKind.free→(a7 m8).names.lookup y.1=some .cell∨(a7 m8).names.lookup y.1=some .free;decide +kernel),by decide +kernel,rfl,rfl,by decide +kernel⟩ (r8 (pv 1)) (fun _ _ _ _ _=>(g5 (i:=0) (by show List.Nodup [("_law_spot_here" : Str)];decide +kernel) rfl (Or.inl rfl))) (fun _ _ _ _ _=>J2) (fun _ _ _ _ _=>(e7 (d5 (K:=K)) (pv 0) a6 (fun _ _=>rfl))))) c7))) (g5 (i:=5) G9.nd rfl (Or.inl rfl)) (d9 (K5 PassesOwn.leaving rfl (r8 (Y3 rfl rfl T.z_sorted rfl T.z_set (a5 (g0 a1r (D7 (a5 a6 c7)) (E2 (Nc:=["_law_spot_here"]) (k:=1) (js:=[]) rfl ⟨by decide +kernel,rfl,by decide +kernel,(by change ∀y∈Scope.names _,y.2=NameKind.free→(a7 m8).names.lookup y.1=some .cell∨(a7 m8).names.lookup y.1=some .free;decide +kernel),by decide +kernel,rfl,rfl,by decide +kernel⟩ (r8 (pv 1)) (fun _ _ _ _ _=>(g5 (i:=0) (by show List.Nodup [("_law_spot_here" : Str)];decide +kernel) rfl (Or.inl rfl))) (fun _ _ _ _ _=>J2) (fun _ _ _ _ _=>(e7 (d5 (K:=K)) (pv 0) a6 (fun _ _=>rfl))))) c7))) (g5 (i:=6) G9.nd rfl (Or.inl rfl)) (d9 (t4 (PW.pt (K3 (i5 a3g (pv 3) K2 (g9 _)) (V8 (i5 (a7V (K:=K) (Nat.lt_of_le_of_lt (Nat.le_add_right _ _) (a5D hr))) (r9 (a5 (pv 5) (a5 (pv 6) (a5 (pv 4) c7)))) (r9 (a5 (e7 (d5 (K:=K)) (pv 3) a6 (fun _ _=>rfl)) (a5 (e7 (d5 (K:=K)) (pv 3) a6 (fun _ _=>rfl)) (a5 (e7 (d5 (K:=K)) (pv 3) a6 (fun _ _=>rfl)) c7)))) (g9 _))))) (d9 (t4 (y6 (j0 G_l_free hr (by decide) j5 (a5 (pv 0) (a5 (pv 1) (a5 (j0 G_l_spot hr (by decide) j5 (a5 (pv 2) (a5 (r9 (a5 (pv 6) (a5 (pv 5) (a5 (pv 4) c7)))) c7))) c7))))) (d9 (h8 z9)) j4)) j4))))))) (d9 (h8 z9))),(e9 (X1 (i0 (b0 a8 d6)) (f9 (k:=7) (by decide)) (X1 (u0 (Z8 (b0 (u0 (a1H a1I (u0 (P3 (b0 b9 d6))) (u0 (M8 (by decide) (f9 (k:=1) (by decide)) B3 (a9 e8 a8 b9))))) d6))) (f9 (k:=7) (by decide)) (X1 (u0 (Z8 (b0 (u0 (a1H a1I (u0 (P3 (b0 b9 d6))) (u0 (M8 (by decide) (f9 (k:=1) (by decide)) B3 (a9 e8 a8 b9))))) d6))) (f9 (k:=7) (by decide)) (l5 (E9 (m3 (a9 a3D a8 b9)) (m3 (a9 b0o (C0 (b0 a8 (b0 a8 (b0 a8 d6)))) (C0 (b0 (a9 e8 a8 b9) (b0 (a9 e8 a8 b9) (b0 (a9 e8 a8 b9) d6))))))) (l5 (B6 (i0 (b0 a8 (b0 a8 (b0 (i0 (b0 a8 (b0 (C0 (b0 a8 (b0 a8 (b0 a8 d6)))) d6))) d6))))) (j2 b9) t5) t5)))) (j2 b9))⟩
def a5O:SF:=(d4 (m7 (C5 (D2 (bZ (O1 3 "tuple"))) (C5 (bZ (eB (C1 true) (J0 A2 3) (eC (.int 3)))) (D2 (bZ (W7 a2g (aC (eB d7 (eV 3) (eC (.int 2))) (aC (eC (.ty "bool")) aN))))))) (h9 (eC (.bl false))) m5) (d4 (m7 (C5 (D2 (bZ (e6 C9 (aC (eB d7 (eV 3) (eC (.int 0))) aN)))) (C5 (D2 (bZ (e6 C9 (aC (eB d7 (eV 3) (eC (.int 1))) aN)))) (bZ (eB (gIn true) (eB d7 (eV 3) (eC (.int 2))) (e6 x9 (aC (eV 2) aN)))))) (h9 (eC (.bl false))) m5) (a1O z8 (aC (eV 0) (aC (eV 1) (aC (e6 j3 (aC (eV 2) (aC (eV 3) aN))) aN))))))
def r0:List D→Option R1:=fD 4 4 a5O
theorem a4p:FnScope ["_law_box","_law_spots","_law_ware_here","_law_place"] ["_law_box","_law_spots","_law_ware_here","_law_place"] (a7 G6):=⟨rfl,rfl,rfl,by decide +kernel,rfl,by decide +kernel,by decide +kernel⟩
theorem a4q{f:Addr}{fd:FuncData}(F:Fun K "_law_placed" "_law_placed" G6 f fd)(T:Txt K mg c)(G_l_lies:Own P w K mg base 3 "_law_lies" ["_law_ware_here"] (g6 K c x9))(G_l_whole:Own P w K mg base 3 "_law_whole" ["_law_found"] (g6 K c C9))(G_l_free:Own P w K mg base 3 "_law_free" ["_law_box","_law_spots","_law_spot_here"] (g6 K c z8))(G_l_spot:Own P w K mg base 3 "_law_spot" ["_law_ware_here","_law_place"] (g6 K c j3)):FnOk P w K mg base (m4 P w) 5 f fd ["_law_box","_law_spots","_law_ware_here","_law_place"] (g6 K c r0) :=
 F.okD (k:=4) a4p fun cdv A outer s H E hr=>⟨_,(c9 (t4 (PW.pt (K3 (K4 (y6 (t8 (O6 (K:=K)) rfl T.z_isinstance D8 (a5 (pv 3) (a5 (V6 (v:=.ty "tuple") rfl T.z_tuple a02 rfl) c7))))) (K3 (i5 a25 (t8 (x5 (K:=K)) rfl T.z_len S0 (a5 (pv 3) c7)) a6 (g9 _)) (V8 (K4 (y6 (t8 (O6 (K:=K)) rfl T.z_isinstance D8 (a5 (e7 (d5 (K:=K)) (pv 3) a6 (fun _ _=>rfl)) (a5 (V6 (v:=.ty "bool") rfl T.z_bool a4C rfl) c7))))))))) (d9 (h8 z9)) j4) (c9 (t4 (PW.pt (K3 (K4 (y6 (j0 G_l_whole hr (by decide) j5 (a5 (e7 (d5 (K:=K)) (pv 3) a6 (fun _ _=>rfl)) c7)))) (K3 (K4 (y6 (j0 G_l_whole hr (by decide) j5 (a5 (e7 (d5 (K:=K)) (pv 3) a6 (fun _ _=>rfl)) c7)))) (V8 (i5 (a5_ (K:=K)) (e7 (d5 (K:=K)) (pv 3) a6 (fun _ _=>rfl)) (j0 G_l_lies hr (by decide) j5 (a5 (pv 2) c7)) (by with_unfolding_all rfl)))))) (d9 (h8 z9)) j4) (d9 (h8 (j0 G_l_free hr (by decide) j5 (a5 (pv 0) (a5 (pv 1) (a5 (j0 G_l_spot hr (by decide) j5 (a5 (pv 2) (a5 (pv 3) c7))) c7)))))))),(e9 (l5 (E9 (G0 (B6 a0H)) (E9 (m3 (a9 a29 (Y6 S7) b9)) (G0 (B6 (a1F b1u (b0 (a9 e8 a8 b9) (b0 b9 d6))))))) (j2 b9) t5) (e9 (l5 (E9 (G0 (B6 (i0 (b0 (a9 e8 a8 b9) d6)))) (E9 (G0 (B6 (i0 (b0 (a9 e8 a8 b9) d6)))) (m3 (a9 b18 (a9 e8 a8 b9) (i0 (b0 a8 d6)))))) (j2 b9) t5) (a71 (b0 a8 (b0 a8 (b0 (i0 (b0 a8 (b0 a8 d6))) d6))))))⟩
def a5P:SF:=(d4 (v8 1 (eC (.int 1))) (d4 (m7 (bZ (eB (C1 false) (eB n4 (eB v5 (e6 i8 (aC (eV 0) (aC (eC (.int 0)) aN))) (eC (.int 2))) (eC (.int 3))) (eC (.int 1)))) (v8 1 (eB n8 (eC (.int 1)) (eB n4 (eB v5 (e6 i8 (aC (eV 0) (aC (eC (.int 0)) aN))) (eC (.int 6))) (eB J1 (eC (.int 10)) (eC (.int 38)))))) m5) (d4 (v8 2 (eC (.int 8))) (d4 (m7 (bZ (eB (C1 false) (eB n4 (eB v5 (e6 i8 (aC (eV 0) (aC (eC (.int 0)) aN))) (eC (.int 6))) (eC (.int 8))) (eC (.int 7)))) (v8 2 (eC (.int 20))) m5) (d4 (v8 3 (W7 (g1 Z9) (aC (zN (K9 1 [1,0] (eT (aC (eC (.int 1)) (aC (eC (.int 2)) aN))) (c6 0) l6 (eB n8 (eB x6 (eV 1) (eB n4 (eB v5 (e6 i8 (aC (eV 2) (aC (eV 0) aN))) (eC (.int 4))) (eC (.int 13)))) (eB n4 (eB v5 (e6 i8 (aC (eV 2) (aC (eV 0) aN))) (eC (.int 52))) (eC (.int 3)))))) aN))) (d4 (u3 4 (a0E 1 [1] (zN (a1a 0 (oS (eC (.int 3))) (oS (eB n8 (eC (.int 3)) (eV 2))))) (c6 0) l6 (e6 B4 (aC (eV 0) (aC (eV 1) aN))))) (d4 (m7 (bZ (eB (C1 false) (eB n4 (e6 i8 (aC (eV 0) (aC (eC (.int 0)) aN))) (eC (.int 2))) (eC (.int 1)))) (d4 (v8 3 (W7 (g1 Z9) (aC (zN (K9 1 [0] (eT (aC (eC (.int 1)) (aC (eC (.int 2)) aN))) (c6 0) l6 (eB n4 (e6 i8 (aC (eV 1) (aC (eV 0) aN))) (eB n8 (eB J1 (eC (.int 10)) (eC (.int 42))) (eC (.int 1)))))) aN))) (u3 4 (a0E 1 [] (zN (a1a 0 (oS (eC (.int 3))) (oS (eB n8 (eC (.int 3)) (eV 2))))) (c6 0) l6 (e6 u4 (aC (eV 0) aN))))) m5) (d4 (u3 5 (nCV Q5 4)) (d4 (a1M 6 u9 (aC (eV 3) (aC (eV 5) aN))) (d4 (m7 (C5 (D2 (bZ (O1 6 "list"))) (C5 (bZ (eB (C1 true) (J0 A2 6) (J0 A2 4))) (bZ (a19 (P5 true) 5 4)))) (h9 (eC (.bl false))) m5) (d4 (u3 7 (nCV Q5 6)) (d4 (X3 6 fun _=>[]) (d4 (m7 (bZ (eBW (P5 true) (G1 u9 (aC (eV 3) (aC (eV 5) aN))) 7)) (h9 (eC (.bl false))) m5) (d4 (u3 8 (eL aN)) (d4 (x8 (zN (L6 [4] (aC (J0 A2 4) aN) (eT (aC (eB x6 (eU a08 (eB d7 (A1 t6 1 (eV 0)) (eC (.int 0)))) (eB d7 (A1 t6 1 (eV 0)) (eC (.int 1)))) (aC (eV 0) aN)))))  (c6 9) (d4 (m7 (Z5 (K7 (bZ (eB (F5 true) (A1 t6 7 (eV 9)) (eC .non))) (D2 (bZ (e6 r0 (aC (eV 3) (aC (eV 8) (aC (A1 t6 4 (eV 9)) (aC (A1 t6 7 (eV 9)) aN))))))))) (h9 (eC (.bl false))) m5) (d4 (m7 (Z5 (D2 (bZ (e6 j9 (aC (eV 3) (aC (eV 8) (aC (A1 t6 4 (eV 9)) (aC (A1 t6 7 (eV 9)) aN)))))))) (h9 (eC (.bl false))) m5) (m7 (bZ (eB (F5 true) (A1 t6 7 (eV 9)) (eC .non))) (a09 8 (e6 j3 (aC (A1 t6 4 (eV 9)) (aC (A1 t6 7 (eV 9)) aN)))) m5)))) (h9 (eC (.bl true))))))))))))))))))
def a84:List D→Option R1:=fD 10 1 a5P
theorem A9:FnScope ["_law_script","_law_unit","_law_many","_law_box","_law_wares","_law_handed","_law_spoilt","_law_found","_law_spots","_law_k"] ["_law_script"] (a7 w8):=⟨rfl,rfl,rfl,by decide +kernel,rfl,by decide +kernel,by decide +kernel⟩
theorem b0p{TB:List (Addr×Str)}{f:Addr}{fd:FuncData}(F:Fun K "law" "law" w8 f fd)(T:Txt K mg c)(G_l_cell:Own P w K mg base 3 "_law_cell" ["_law_script","_law_k"] (g6 K c i8))(G_l_ware:Own P w K mg base 5 "_law_ware" ["_law_cell_here","_law_unit"] (g6 K c B4))(G_l_any_ware:Own P w K mg base 3 "_law_any_ware" ["_law_cell_here"] (g6 K c u4))(G_cornered:Own P w K mg base 10 "cornered" ["box","wares"] (S2 TB (g6 K c u9)))(G_l_placed:Own P w K mg base 5 "_law_placed" ["_law_box","_law_spots","_law_ware_here","_law_place"] (g6 K c r0))(G_l_none_less:Own P w K mg base 5 "_law_none_less" ["_law_box","_law_spots","_law_ware_here","_law_place"] (g6 K c j9))(G_l_spot:Own P w K mg base 3 "_law_spot" ["_law_ware_here","_law_place"] (g6 K c j3)){cc Pt:Addr}(hcode:fd.code=.ref cc)(hC:PySem.W.CodeHd base cc Pt)(hB:base.BuiltinsAt mg Pt)(hL:TB.lookup Pt=some "law.<locals>.<lambda>"):FnOk P w K mg base (m4 P w) 12 f fd ["_law_script"] (S2 TB (g6 K c a84)) :=
 F.okT (k:=11) A9 fun A outer s H E hT hr=>⟨_,(c9 (l4 (i:=1) A9.nd rfl (Or.inr rfl) a6) (c9 (t4 (i5 X7 (g0 y8 (g0 w9 (j0 G_l_cell hr (by decide) j5 (a5 (pv 0) (a5 a6 c7))) a6) a6) a6 (g9 _)) (d9 (l4 (i:=1) A9.nd rfl (Or.inr rfl) (g0 v3 a6 (g0 y8 (g0 w9 (j0 G_l_cell hr (by decide) j5 (a5 (pv 0) (a5 a6 c7))) a6) (g0 W0 a6 a6))))) j4) (c9 (l4 (i:=2) A9.nd rfl (Or.inl rfl) a6) (c9 (t4 (i5 X7 (g0 y8 (g0 w9 (j0 G_l_cell hr (by decide) j5 (a5 (pv 0) (a5 a6 c7))) a6) a6) a6 (g9 _)) (d9 (l4 (i:=2) A9.nd rfl (Or.inl rfl) a6)) j4) (c9 (l4 (i:=3) A9.nd rfl (Or.inl rfl) (O5 (W5 (K:=K)) rfl T.z_tuple a02 (a5 (E2 (Nc:=["_law_k","_law_unit","_law_script"]) (k:=1) (js:=[1,0]) rfl ⟨by decide +kernel,rfl,by decide +kernel,(by change ∀y∈Scope.names _,y.2=NameKind.free→(a7 w8).names.lookup y.1=some .cell∨(a7 w8).names.lookup y.1=some .free;decide +kernel),by decide +kernel,rfl,rfl,by decide +kernel⟩ (a5W (r9 (a5 a6 (a5 a6 c7)))) (fun _ _ _ _ _=>(g5 (i:=0) (by show List.Nodup [("_law_k" : Str),("_law_unit" : Str),("_law_script" : Str)];decide +kernel) rfl (Or.inl rfl))) (fun _ _ _ _ _=>J2) (fun _ _ _ _ _=>(g0 v3 (g0 R0 (pv 1) (g0 y8 (g0 w9 (j0 G_l_cell hr (by decide) j5 (a5 (pv 2) (a5 (pv 0) c7))) a6) a6)) (g0 y8 (g0 w9 (j0 G_l_cell hr (by decide) j5 (a5 (pv 2) (a5 (pv 0) c7))) a6) a6)))) c7))) (c9 (l4 (i:=4) A9.nd rfl (Or.inr rfl) (E2 (Nc:=["_law_cell_here","_law_unit"]) (k:=1) (js:=[1]) rfl ⟨by decide +kernel,rfl,by decide +kernel,(by change ∀y∈Scope.names _,y.2=NameKind.free→(a7 w8).names.lookup y.1=some .cell∨(a7 w8).names.lookup y.1=some .free;decide +kernel),by decide +kernel,rfl,rfl,by decide +kernel⟩ (r8 (a3k (a3s (K:=K)) (pv 0) (a0y a6) (a0y (g0 v3 a6 (pv 2))))) (fun _ _ _ _ _=>(g5 (i:=0) (by show List.Nodup [("_law_cell_here" : Str),("_law_unit" : Str)];decide +kernel) rfl (Or.inl rfl))) (fun _ _ _ _ _=>J2) (fun _ _ _ _ _=>(j0 G_l_ware hr (by decide) j5 (a5 (pv 0) (a5 (pv 1) c7)))))) (c9 (t4 (i5 X7 (g0 y8 (j0 G_l_cell hr (by decide) j5 (a5 (pv 0) (a5 a6 c7))) a6) a6 (g9 _)) (c9 (l4 (i:=3) A9.nd rfl (Or.inl rfl) (O5 (W5 (K:=K)) rfl T.z_tuple a02 (a5 (E2 (Nc:=["_law_k","_law_script"]) (k:=1) (js:=[0]) rfl ⟨by decide +kernel,rfl,by decide +kernel,(by change ∀y∈Scope.names _,y.2=NameKind.free→(a7 w8).names.lookup y.1=some .cell∨(a7 w8).names.lookup y.1=some .free;decide +kernel),by decide +kernel,rfl,rfl,by decide +kernel⟩ (a5W (r9 (a5 a6 (a5 a6 c7)))) (fun _ _ _ _ _=>(g5 (i:=0) (by show List.Nodup [("_law_k" : Str),("_law_script" : Str)];decide +kernel) rfl (Or.inl rfl))) (fun _ _ _ _ _=>J2) (fun _ _ _ _ _=>(g0 y8 (j0 G_l_cell hr (by decide) j5 (a5 (pv 1) (a5 (pv 0) c7))) (g0 v3 (g0 W0 a6 a6) a6)))) c7))) (d9 (l4 (i:=4) A9.nd rfl (Or.inr rfl) (E2 (Nc:=["_law_cell_here"]) (k:=1) (js:=[]) rfl ⟨by decide +kernel,rfl,by decide +kernel,(by change ∀y∈Scope.names _,y.2=NameKind.free→(a7 w8).names.lookup y.1=some .cell∨(a7 w8).names.lookup y.1=some .free;decide +kernel),by decide +kernel,rfl,rfl,by decide +kernel⟩ (r8 (a3k (a3s (K:=K)) (pv 0) (a0y a6) (a0y (g0 v3 a6 (pv 2))))) (fun _ _ _ _ _=>(g5 (i:=0) (by show List.Nodup [("_law_cell_here" : Str)];decide +kernel) rfl (Or.inl rfl))) (fun _ _ _ _ _=>J2) (fun _ _ _ _ _=>(j0 G_l_any_ware hr (by decide) j5 (a5 (pv 0) c7))))))) j4) (c9 (l4 (i:=5) A9.nd rfl (Or.inl rfl) (O5 (a0c (K:=K)) rfl T.z_list a14 (a5 (pv 4) c7))) (c9 (l4 (i:=6) A9.nd rfl (Or.inl rfl) (a2q hT G_cornered hr (by decide) (XAcc.passes M1) (a5 (pv 3) (a5 (pv 5) c7)))) (c9 (t4 (PW.pt (K3 (K4 (y6 (t8 (O6 (K:=K)) rfl T.z_isinstance D8 (a5 (pv 6) (a5 (V6 (v:=.ty "list") rfl T.z_list a14 rfl) c7))))) (K3 (i5 a25 (t8 (x5 (K:=K)) rfl T.z_len S0 (a5 (pv 6) c7)) (t8 (x5 (K:=K)) rfl T.z_len S0 (a5 (pv 4) c7)) (g9 _)) (V8 (i5 (a4T (K:=K) (cl:=c) (a5D hr)) (pv 5) (pv 4) (g9 _)))))) (d9 (h8 z9)) j4) (c9 (l4 (i:=7) A9.nd rfl (Or.inl rfl) (O5 (a0c (K:=K)) rfl T.z_list a14 (a5 (pv 6) c7))) (c9 (a1W (a9q (K:=K) PySem.F.plainAttrs_list PySem.F.slot_list_clear PySem.F.type_list_clear a7x (pv 6))) (c9 (t4 (i5 (a4T (K:=K) (cl:=c) (a5D hr)) (a2q hT G_cornered hr (by decide) (XAcc.passes M1) (a5 (pv 3) (a5 (pv 5) c7))) (pv 7) (g9 _)) (d9 (h8 z9)) j4) (c9 (l4 (i:=8) A9.nd rfl (Or.inl rfl) (D7 c7)) (c9 (K5 PassesOwn.leaving rfl (r8 (a3x (Nc:=["_law_k","_law_wares"]) (js:=[4]) (kn := "_law_k") (q := "law.<locals>.<lambda>") hr rfl rfl T.z_sorted rfl T.z_range (a5 (t8 (x5 (K:=K)) rfl T.z_len S0 (a5 (pv 4) c7)) c7) rfl hcode hC hB rfl (hT _ _ hL) ⟨by decide +kernel,rfl,by decide +kernel,(by change ∀y∈Scope.names _,y.2=NameKind.free→(a7 w8).names.lookup y.1=some .cell∨(a7 w8).names.lookup y.1=some .free;decide +kernel),by decide +kernel,rfl,rfl,by decide +kernel⟩ rfl rfl (fun _ _ _ _ _=>rfl) rfl rfl (fun _ _ _ _=>(r9 (a5 (g0 R0 (a8N a5Y (e7 (d5 (K:=K)) (e7 (t9 (K:=K)) (pv 1) (pv 0) (fun _ _=>rfl)) a6 (fun _ _=>rfl))) (e7 (d5 (K:=K)) (e7 (t9 (K:=K)) (pv 1) (pv 0) (fun _ _=>rfl)) a6 (fun _ _=>rfl))) (a5 (pv 0) c7)))))) (g5 (i:=9) A9.nd rfl (Or.inl rfl)) (c9 (t4 (PW.pt (R8 (i5 a1Y (e7 (t9 (K:=K)) (pv 7) (pv 9) (fun _ _=>rfl)) K2 (g9 _)) (V7 (K4 (y6 (j0 G_l_placed hr (by decide) j5 (a5 (pv 3) (a5 (pv 8) (a5 (e7 (t9 (K:=K)) (pv 4) (pv 9) (fun _ _=>rfl)) (a5 (e7 (t9 (K:=K)) (pv 7) (pv 9) (fun _ _=>rfl)) c7)))))))))) (d9 (h8 z9)) j4) (c9 (t4 (K4 (y6 (j0 G_l_none_less hr (by decide) j5 (a5 (pv 3) (a5 (pv 8) (a5 (e7 (t9 (K:=K)) (pv 4) (pv 9) (fun _ _=>rfl)) (a5 (e7 (t9 (K:=K)) (pv 7) (pv 9) (fun _ _=>rfl)) c7))))))) (d9 (h8 z9)) j4) (d9 (t4 (i5 a1Y (e7 (t9 (K:=K)) (pv 7) (pv 9) (fun _ _=>rfl)) K2 (g9 _)) (d9 (a1W (a6a (K:=K) PySem.F.plainAttrs_list PySem.F.slot_list_append PySem.F.type_list_append a0k (pv 8) (a5 (j0 G_l_spot hr (by decide) j5 (a5 (e7 (t9 (K:=K)) (pv 4) (pv 9) (fun _ _=>rfl)) (a5 (e7 (t9 (K:=K)) (pv 7) (pv 9) (fun _ _=>rfl)) c7))) c7)))) j4))))) (d9 (h8 z9))))))))))))))))),(e9 (C2 b9) (e9 (l5 (m3 (a9 Y8 (a9 z7 (a9 E1 (i0 (b0 a8 (b0 b9 d6))) b9) b9) b9)) (C2 (a9 v7 b9 (a9 z7 (a9 E1 (i0 (b0 a8 (b0 b9 d6))) b9) (a9 W9 b9 b9)))) t5) (e9 (C2 b9) (e9 (l5 (m3 (a9 Y8 (a9 z7 (a9 E1 (i0 (b0 a8 (b0 b9 d6))) b9) b9) b9)) (C2 b9) t5) (e9 (C2 (a1F a4Y.cb (b0 (u0 (a3J (by decide) (C0 (b0 b9 (b0 b9 d6))) (f9 (k:=1) (by decide)) B3 (a9 v7 (a9 W8 a8 (a9 z7 (a9 E1 (i0 (b0 a8 (b0 a8 d6))) b9) b9)) (a9 z7 (a9 E1 (i0 (b0 a8 (b0 a8 d6))) b9) b9)))) d6))) (e9 (G2 (a4P (by decide) (u0 (a6K (a3c b9) (a3c (a9 v7 b9 a8)))) (f9 (k:=1) (by decide)) B3 (i0 (b0 a8 (b0 a8 d6))))) (e9 (l5 (m3 (a9 Y8 (a9 z7 (i0 (b0 a8 (b0 b9 d6))) b9) b9)) (e9 (C2 (a1F a4Y.cb (b0 (u0 (a3J (by decide) (C0 (b0 b9 (b0 b9 d6))) (f9 (k:=1) (by decide)) B3 (a9 z7 (i0 (b0 a8 (b0 a8 d6))) (a9 v7 (a9 W9 b9 b9) b9)))) d6))) (G2 (a4P (by decide) (u0 (a6K (a3c b9) (a3c (a9 v7 b9 a8)))) (f9 (k:=1) (by decide)) B3 (i0 (b0 a8 d6))))) t5) (e9 (G2 (a6y a4N)) (e9 (a9B (b0 a8 (b0 a8 d6))) (e9 (l5 (E9 (G0 (B6 a0H)) (E9 (m3 (a9 a29 (Y6 S7) (Y6 S7))) (m3 (a9x a6M)))) (j2 b9) t5) (e9 (G2 (a6y a4N)) (e9 a8b (e9 (l5 (m3 (b1j a6M (X0 (b0 a8 (b0 a8 d6))))) (j2 b9) t5) (e9 (G2 (P3 d6)) (e9 (X1 (u0 (a3T (by decide) (b0 (Y6 S7) d6) (C0 (b0 (a9 W8 (b1o a6x (a9 e8 (A3 A4 a8) b9)) (a9 e8 (A3 A4 a8) b9)) (b0 a8 d6))))) (f9 (k:=10) (by decide)) (e9 (l5 (a3O (M4 (m3 (a9 a2a (A3 A4 a8) b9)) (G0 (B6 (i0 (b0 a8 (b0 a8 (b0 (A3 A4 a8) (b0 (A3 A4 a8) d6))))))))) (j2 b9) t5) (e9 (l5 (a3O (G0 (B6 (i0 (b0 a8 (b0 a8 (b0 (A3 A4 a8) (b0 (A3 A4 a8) d6)))))))) (j2 b9) t5) (l5 (m3 (a9 a2a (A3 A4 a8) b9)) (a6A (i0 (b0 (A3 A4 a8) (b0 (A3 A4 a8) d6)))) t5)))) (j2 b9))))))))))))))))⟩
end Law
namespace Law
open PySem L2 PyProof.Rows
variable {P:Program}{w:World}{K:PySem.W.Frag}{mg:Str→Option Value}{base:Heap}{c:Str→Addr}
local macro_rules|`(tactic|walk_at $s:str)=>do
 let t←`(tactic|simp(decide:=true)only[*,b16,a9D,a2h,a9E,a9F,a9P,a9G,a9H,a9I,a9J,a74,a9K,a9L,a9M,b1v,a75,a76,a6E,a6F,a77,a5v,a5w,a6G,a6H,a6I,a78,a5x,a5y,a9N,a2i,a9Q,a9O,a9R,a79,a9S,a9T,a9U,a9V,a9X,a9W,a9Y,a7_,U3,n5,b0f,b0g,b0h,b0i,b0k,b0j,a2J,a6L,a1P,i7,Z1,K9,a0E,A5,a8e,b1F,b1G,a8f,b1H,b1I,J7,b0a,b0b,b0c,b0d,noL,noLs,a1a,oS,a1b,D3,unhide,a6J,a95,a92,a93,a94,a9Z,a90,a91,a5r,P9,P5,l9,E4,g4,w6,E5,A6,O2,Nat.max_self,Nat.zero_max,Nat.max_zero,decide_true,Bool.or_true,Bool.true_or,Bool.or_false,List.isEmpty_nil,gIn,inD,List.any_cons,List.any_nil,X3,i3,List.all_cons,List.all_nil,Bool.and_self,Bool.and_true,Bool.true_and,beq_self_eq_true,a96,b1w,b1x,b1y,b1z,X2,a2k,N0,a0I,m7,v8,u3,a1M,a1N,h9,a0C,a1O,Y9,m5,sCt,M7,a3G,a09,a5s,x8,b1J,a8l,a8m,a8h,a8i,a8j,a8k,a8g,b0e,a8o,a6N,eC,eV,eB,A1,eBW,a19,eT,eL,zN,aN,aC,G1,e6,a7W,a1_,eOr,nIf,eU,a08,W7,J0,nCV,nB,V2,g1,A2,Q5,bZ,D2,K7,C5,l6,a8n,K8,Z0,W6,b1d,b1e,S4,b1f,b1g,Y4,Y5,look,d7,t6,a9y,F5,O1,b0m,a0G,tyN,seqL,a81,a82,a3b,a5C,List.map_cons,List.map_nil,List.length_cons,List.length_nil,List.cons_append,List.nil_append,List.replicate_succ,List.replicate_zero,List.getElem?_cons_zero,List.getElem?_cons_succ,List.set_cons_zero,List.set_cons_succ,Nat.reduceAdd,Nat.reduceSub,if_true,if_false,Bool.not_true,Bool.not_false,Bool.not_not,Nat.zero_add,Bool.false_eq_true,decide_eq_true_eq,Bool.not_eq_true',decide_eq_false_iff_not,Option.map_some,Option.map_none,ite_self])
 return if s.getString=="eh" then t.raw else t.raw.modifyArg 4 (·.modifyArg 1 fun l=>l.setArg 0 l[2])
theorem X5{ns:List Int}{k:Int}(hk:0≤k):i8 [.scr ns,.int k]=some (.ret (.int (v9 ns k))):=by
 rw[← a98 hk]
 unfold i8 a3V
 walk_at "ev"
 split
 ·cases atI ns k<;>rfl
 ·rfl
theorem big:∃B:Int,J1 (.int 10) (.int 40)=some (.int B)∧B=10 ^ 40:=⟨_,a0I (by decide +kernel),rfl⟩
structure Sp4 where
 a:Int
 b:Int
 c:Int
 d:Int
def sD(q:Sp4):D:=.tup [.int q.a,.int q.b,.int q.c,.int q.d]
def a0u(W H w h x y:Int):Bool:=decide (0≤x∧0≤y∧x+w≤W∧y+h≤H)
def N7(w h x y:Int)(q:Sp4):Bool:=decide (x+w≤q.a∨q.c≤x∨y+h≤q.b∨q.d≤y)
def u5(W H w h:Int)(L:List Sp4)(x y:Int):Bool:=a0u W H w h x y && L.all (N7 w h x y)
def Fr4(W H w h:Int)(L:List Sp4)(x y:Int):Prop:=(0≤x∧0≤y∧x+w≤W∧y+h≤H)∧∀q∈L,x+w≤q.a∨q.c≤x∨y+h≤q.b∨q.d≤y
theorem N8{W H w h:Int}{L:List Sp4}{x y:Int}:u5 W H w h L x y=true↔Fr4 W H w h L x y:=by
 unfold u5 a0u N7 Fr4
 rw[Bool.and_eq_true,List.all_eq_true,decide_eq_true_iff]
 constructor
 ·rintro⟨a,b⟩
  exact⟨a,fun q m=>of_decide_eq_true (b q m)⟩
 ·rintro⟨a,b⟩
  exact⟨a,fun q m=>decide_eq_true (b q m)⟩
theorem a64(l:List Int)(m:Int)(hm:0≤m):∃t,(t=0∨t∈l)∧t≤m∧0≤t∧∀x∈l,x≤m→x≤t:=by
 induction l with
 | nil=>exact⟨0,.inl rfl,hm,Int.le_refl _,fun x h=>absurd h List.not_mem_nil⟩
 | cons a l ih =>
  obtain⟨t,h1,h2,h3,h4⟩:=ih
  by_cases z:a≤m∧t<a
  ·refine⟨a,.inr List.mem_cons_self,z.1,by omega,fun x hx hxm=>?_⟩
   rcases List.mem_cons.mp hx with rfl | hx
   ·exact Int.le_refl _
   ·have:=h4 x hx hxm;omega
  ·refine⟨t,h1.imp id (List.mem_cons_of_mem _),h2,h3,fun x hx hxm=>?_⟩
   rcases List.mem_cons.mp hx with rfl | hx
   ·omega
   ·exact h4 x hx hxm
theorem a65{W H w h:Int}{L:List Sp4}{x y:Int}(f:Fr4 W H w h L x y):∃x0 y0,(x0=0∨x0∈L.map Sp4.c)∧(y0=0∨y0∈L.map Sp4.d)∧x0≤x∧y0≤y∧Fr4 W H w h L x0 y0:=by
 obtain⟨⟨f1,f2,f3,f4⟩,f5⟩:=f
 obtain⟨y0,a1,a2,a3,a4⟩:=a64 ((L.filter fun q=>decide (¬(x+w≤q.a∨q.c≤x))).map Sp4.d) y f2
 have g:∀q∈L,x+w≤q.a∨q.c≤x∨y0+h≤q.b∨q.d≤y0:=by
  intro q m
  by_cases z:x+w≤q.a∨q.c≤x
  ·rcases z with z | z
   ·exact .inl z
   ·exact .inr (.inl z)
  ·rcases f5 q m with z1 | z1 | z1 | z1
   ·exact absurd (.inl z1) z
   ·exact absurd (.inr z1) z
   ·exact .inr (.inr (.inl (by omega)))
   ·exact .inr (.inr (.inr (a4 q.d (List.mem_map.mpr ⟨q,List.mem_filter.mpr ⟨m,decide_eq_true z⟩,rfl⟩) z1)))
 obtain⟨x0,b1,b2,b3,b4⟩:=a64 ((L.filter fun q=>decide (¬(y0+h≤q.b∨q.d≤y0))).map Sp4.c) x f1
 refine⟨x0,y0,b1.imp id fun z=>?_,a1.imp id fun z=>?_,b2,a2,⟨b3,a3,by omega,by omega⟩,fun q m=>?_⟩
 ·obtain⟨q,m,e⟩:=List.mem_map.mp z
  exact List.mem_map.mpr ⟨q,(List.mem_filter.mp m).1,e⟩
 ·obtain⟨q,m,e⟩:=List.mem_map.mp z
  exact List.mem_map.mpr ⟨q,(List.mem_filter.mp m).1,e⟩
 ·by_cases z:y0+h≤q.b∨q.d≤y0
  ·rcases z with z | z
   ·exact .inr (.inr (.inl z))
   ·exact .inr (.inr (.inr z))
  ·rcases g q m with z1 | z1 | z1 | z1
   ·exact .inl (by omega)
   ·exact .inr (.inl (b4 q.c (List.mem_map.mpr ⟨q,List.mem_filter.mpr ⟨m,decide_eq_true z⟩,rfl⟩) z1))
   ·exact absurd (.inl z1) z
   ·exact absurd (.inr z1) z
theorem a8u(w h x y:Int)(q:Sp4):G8 [.tup [.int x,.int y,.int (x+w),.int (y+h)],sD q]=some (.ret (.bl (N7 w h x y q))):=by
 obtain⟨a,b,c,d⟩:=q
 unfold G8 a4Z N7 sD
 walk_at "ev"
 by_cases h1:x+w≤a<;>by_cases h2:c≤x<;>by_cases h3:y+h≤b<;>by_cases h4:d≤y<;>simp[h1,h2,h3,h4,a2h,a2i]
theorem b0q(W H w h x y:Int):C8 [.tup [.int W,.int H],.tup [.int x,.int y,.int (x+w),.int (y+h)]]=some (.ret (.bl (a0u W H w h x y))):=by
 unfold C8 a2O a0u
 walk_at "ev"
 by_cases h1:0≤x<;>by_cases h2:0≤y<;>by_cases h3:x+w≤W<;>by_cases h4:y+h≤H<;>simp[h1,h2,h3,h4,a2h,a2i]
abbrev lpI(LI:List D→Option R1)(CO:NF)(GA:D→Option D):SF:=(d4 (v8 8 (eT (aC (eV 7) (aC (eV 6) (aC (eB n8 (eV 7) (eV 2)) (aC (eB n8 (eV 6) (eV 3)) aN)))))) (m7 (K7 (bZ (e6 LI (aC (eV 0) (aC (eV 8) aN)))) (bZ (W7 (g1 GA) (aC (zN CO) aN)))) (h9 (eT (aC (eV 7) (aC (eV 6) aN)))) m5))
abbrev Q1(B A:D)(w h:Int)(Y X:List D)(y:Int)(s7 s8:Sl):DE:=[.fz B,.fz A,.fz (.int w),.fz (.int h),.hd Y,.hd X,.fz (.int y),s7,s8]
theorem b2G(LI:List D→Option R1)(CO:NF)(GA:D→Option D)(w h x y:Int)(B A:D)(Y X Bs:List D)(o8:Option D)(b1 b2:Bool)(h1:LI [B,.tup [.int x,.int y,.int (x+w),.int (y+h)]]=some (.ret (.bl b1)))
  (h2:CO (Q1 B A w h Y X y (.fz (.int x)) (.fz (.tup [.int x,.int y,.int (x+w),.int (y+h)])))=some (.ok Bs (Q1 B A w h Y X y (.fz (.int x)) (.fz (.tup [.int x,.int y,.int (x+w),.int (y+h)]))))) (h3:GA (.lst Bs)=some (.bl b2)) :
  lpI LI CO GA (Q1 B A w h Y X y (.fz (.int x)) (un o8))=if(b1 && b2)=true then some (.rt (.tup [.int x,.int y]))else some (.nx (Q1 B A w h Y X y (.fz (.int x)) (.fz (.tup [.int x,.int y,.int (x+w),.int (y+h)])))):=by
 unfold lpI
 unfold Q1 at *
 cases b1<;>cases b2<;>cases o8<;>simp only[un,Bool.and_true,Bool.and_false,Bool.false_and,Bool.true_and,Bool.false_eq_true,if_true,if_false]<;>walk_at "eh"
abbrev coA:NF:=(A5 1 1 [8] (c6 0) l6 (e6 G8 (aC (eV 1) (aC (eV 0) aN))))
theorem b1_(w h x y:Int)(L:List Sp4)(hl:L.length≤1000)(B:D)(Y X:List D):coA (Q1 B (.lst (L.map sD)) w h Y X y (.fz (.int x)) (.fz (.tup [.int x,.int y,.int (x+w),.int (y+h)])))=some (.ok (L.map fun q=>.bl (N7 w h x y q)) (Q1 B (.lst (L.map sD)) w h Y X y (.fz (.int x)) (.fz (.tup [.int x,.int y,.int (x+w),.int (y+h)])))):=by
 show j6 (c6 0) l6 (e6 G8 (aC (eV 1) (aC (eV 0) aN))) [.no,.fz (.tup [.int x,.int y,.int (x+w),.int (y+h)])] (Q1 B (.lst (L.map sD)) w h Y X y (.fz (.int x)) (.fz (.tup [.int x,.int y,.int (x+w),.int (y+h)]))) (L.map sD) []=_
 rw[F6 sD (fun q=>D.bl (N7 w h x y q)) (fun _=>true) L [] (by show 0+_≤2 ^ 24;omega) (fun q _=>⟨[.fz (sD q),.fz (.tup [.int x,.int y,.int (x+w),.int (y+h)])],[.fz (sD q),.fz (.tup [.int x,.int y,.int (x+w),.int (y+h)])],rfl,rfl,fun _=>⟨[.fz (sD q),.fz (.tup [.int x,.int y,.int (x+w),.int (y+h)])],by show S8 (G8 [.tup [.int x,.int y,.int (x+w),.int (y+h)],sD q]) _=_;rw[a8u];rfl⟩⟩)]
 rw[List.filter_eq_self.mpr (fun _ _=>rfl)]
 rfl
theorem b1N(L:List Sp4)(f:Sp4→Bool):a2c (.lst (L.map fun q=>.bl (f q)))=some (.bl (L.all f)):=by
 have:∀L:List Sp4,Q6 (L.map fun q=>.bl (f q))=some (L.map f):=by
  intro L
  induction L with
  | nil=>rfl
  | cons q L ih =>
   show(Q6 (L.map fun q=>.bl (f q))).map (f q :: ·)=_
   rw[ih]
   rfl
 show(Q6 _).map _=_
 rw[this]
 show some (D.bl ((L.map f).all id))=_
 rw[List.all_map]
 rfl
abbrev lpB:SF:=lpI C8 coA a2c
theorem b2a(W H w h y:Int)(L:List Sp4)(hl:L.length≤1000)(Y:List D)(X:List Int)(o7 o8:Option D) :
  (∃pre x post,X=pre++x::post∧(∀x'∈pre,u5 W H w h L x' y=false)∧u5 W H w h L x y=true∧l7 (c6 7) lpB (X.map D.int) (Q1 (.tup [.int W,.int H]) (.lst (L.map sD)) w h Y (X.map D.int) y (un o7) (un o8))=some (.rt (.tup [.int x,.int y])))
  ∨ ((∀x∈X,u5 W H w h L x y=false)∧∃p7 p8,l7 (c6 7) lpB (X.map D.int) (Q1 (.tup [.int W,.int H]) (.lst (L.map sD)) w h Y (X.map D.int) y (un o7) (un o8))=some (.nx (Q1 (.tup [.int W,.int H]) (.lst (L.map sD)) w h Y (X.map D.int) y (un p7) (un p8)))):=by
 have e0:X.map D.int=P6 (fun _=>D.int) 0 X:=a1d D.int 0 X
 rcases a6O (b:=c6 7) (body:=lpB) (fun _=>D.int) (fun pre e=>(∀x'∈pre,u5 W H w h L x' y=false)∧∃p7 p8,e=Q1 (.tup [.int W,.int H]) (.lst (L.map sD)) w h Y (X.map D.int) y (un p7) (un p8)) (fun pre x r=>u5 W H w h L x y=true∧r=.rt (.tup [.int x,.int y])) X (Q1 (.tup [.int W,.int H]) (.lst (L.map sD)) w h Y (X.map D.int) y (un o7) (un o8)) ⟨fun x' m=>absurd m List.not_mem_nil,o7,o8,rfl⟩ (by
  rintro pre x post e hq ⟨hp,p7,p8,rfl⟩
  have hb:c6 7 (.int x) (Q1 (.tup [.int W,.int H]) (.lst (L.map sD)) w h Y (X.map D.int) y (un p7) (un p8))=some (Q1 (.tup [.int W,.int H]) (.lst (L.map sD)) w h Y (X.map D.int) y (.fz (.int x)) (un p8)):=by cases p7<;>rfl
  have st:=b2G C8 coA a2c w h x y (.tup [.int W,.int H]) (.lst (L.map sD)) Y (X.map D.int) _ p8 _ _ (b0q W H w h x y) (b1_ w h x y L hl _ Y _) (b1N L _)
  rw[hb,n5]
  by_cases z:u5 W H w h L x y=true
  ·rw[if_pos (show(a0u W H w h x y && L.all (N7 w h x y))=true from z)]at st
   exact .inl ⟨_,rfl,(congrArg l3 st).trans rfl,z,rfl⟩
  ·rw[if_neg (show ¬(a0u W H w h x y && L.all (N7 w h x y))=true from z)]at st
   refine .inr ⟨_,(congrArg l3 st).trans rfl,fun x' m=>?_,some (.int x),some (.tup [.int x,.int y,.int (x+w),.int (y+h)]),rfl⟩
   rcases List.mem_append.mp m with m | m
   ·exact hp x' m
   ·rw[List.mem_singleton.mp m];exact Bool.eq_false_iff.mpr z)with⟨pre,x,post,r,hq,_,hf,⟨hx,rfl⟩,e',hp,_⟩ | ⟨e',hf,hp,p7,p8,rfl⟩
 ·exact .inl ⟨pre,x,post,hq,hp,hx,by rw[← e0]at hf;exact hf⟩
 ·exact .inr ⟨hp,p7,p8,by rw[← e0]at hf;exact hf⟩
abbrev ouE(B A:D)(w h:Int)(s4:Sl)(X:List D)(s6 s7 s8:Sl):DE:=[.fz B,.fz A,.fz (.int w),.fz (.int h),s4,.ow X,s6,s7,s8]
theorem b2b(W H w h:Int)(L:List Sp4)(hl:L.length≤1000)(Y X:List Int) :
  (∃pre y post px x qx,Y=pre++y::post∧X=px++x::qx∧(∀y'∈pre,∀x'∈X,u5 W H w h L x' y'=false)∧(∀x'∈px,u5 W H w h L x' y=false)∧u5 W H w h L x y=true∧D3 4 (c6 6) (D3 5 (c6 7) lpB) (ouE (.tup [.int W,.int H]) (.lst (L.map sD)) w h (.ow (Y.map D.int)) (X.map D.int) .no .no .no)=some (.rt (.tup [.int x,.int y])))
  ∨ ((∀y∈Y,∀x∈X,u5 W H w h L x y=false)∧∃p6 p7 p8,D3 4 (c6 6) (D3 5 (c6 7) lpB) (ouE (.tup [.int W,.int H]) (.lst (L.map sD)) w h (.ow (Y.map D.int)) (X.map D.int) .no .no .no)=some (.nx (ouE (.tup [.int W,.int H]) (.lst (L.map sD)) w h (.ow (Y.map D.int)) (X.map D.int) (un p6) (un p7) (un p8)))):=by
 have e0:Y.map D.int=P6 (fun _=>D.int) 0 Y:=a1d D.int 0 Y
 have es:D3 4 (c6 6) (D3 5 (c6 7) lpB) (ouE (.tup [.int W,.int H]) (.lst (L.map sD)) w h (.ow (Y.map D.int)) (X.map D.int) .no .no .no)=unhide 4 (Y.map D.int) (l7 (c6 6) (D3 5 (c6 7) lpB) (Y.map D.int) (ouE (.tup [.int W,.int H]) (.lst (L.map sD)) w h (.hd (Y.map D.int)) (X.map D.int) .no .no .no)):=rfl
 rw[es]
 rcases a6O (b:=c6 6) (body:=D3 5 (c6 7) lpB) (fun _=>D.int) (fun pre e=>(∀y'∈pre,∀x'∈X,u5 W H w h L x' y'=false)∧∃p6 p7 p8,e=ouE (.tup [.int W,.int H]) (.lst (L.map sD)) w h (.hd (Y.map D.int)) (X.map D.int) (un p6) (un p7) (un p8)) (fun pre y r=>∃px x qx,X=px++x::qx∧(∀x'∈px,u5 W H w h L x' y=false)∧u5 W H w h L x y=true∧r=.rt (.tup [.int x,.int y])) Y (ouE (.tup [.int W,.int H]) (.lst (L.map sD)) w h (.hd (Y.map D.int)) (X.map D.int) .no .no .no) ⟨fun y' m=>absurd m List.not_mem_nil,none,none,none,rfl⟩ (by
  rintro pre y post e hq ⟨hp,p6,p7,p8,rfl⟩
  have hb:c6 6 (.int y) (ouE (.tup [.int W,.int H]) (.lst (L.map sD)) w h (.hd (Y.map D.int)) (X.map D.int) (un p6) (un p7) (un p8))=some (ouE (.tup [.int W,.int H]) (.lst (L.map sD)) w h (.hd (Y.map D.int)) (X.map D.int) (.fz (.int y)) (un p7) (un p8)):=by cases p6<;>rfl
  rw[hb,n5]
  have e1:D3 5 (c6 7) lpB (ouE (.tup [.int W,.int H]) (.lst (L.map sD)) w h (.hd (Y.map D.int)) (X.map D.int) (.fz (.int y)) (un p7) (un p8))=unhide 5 (X.map D.int) (l7 (c6 7) lpB (X.map D.int) (Q1 (.tup [.int W,.int H]) (.lst (L.map sD)) w h (Y.map D.int) (X.map D.int) y (un p7) (un p8))):=rfl
  rw[e1]
  rcases b2a W H w h y L hl (Y.map D.int) X p7 p8 with⟨px,x,qx,hX,hpx,hx,hf⟩ | ⟨hn,q7,q8,hf⟩
  ·rw[hf]
   exact .inl ⟨_,rfl,rfl,px,x,qx,hX,hpx,hx,rfl⟩
  ·rw[hf]
   refine .inr ⟨_,rfl,fun y' m=>?_,some (.int y),q7,q8,rfl⟩
   rcases List.mem_append.mp m with m | m
   ·exact hp y' m
   ·rw[List.mem_singleton.mp m];exact hn)with⟨pre,y,post,r,hq,_,hf,⟨px,x,qx,hX,hpx,hx,rfl⟩,e',hp,_⟩ | ⟨e',hf,hp,p6,p7,p8,rfl⟩
 ·rw[← e0]at hf
  exact .inl ⟨pre,y,post,px,x,qx,hq,hX,hp,hpx,hx,by rw[hf];rfl⟩
 ·rw[← e0]at hf
  exact .inr ⟨hp,p6,p7,p8,by rw[hf];rfl⟩
abbrev coV(k:Int):NF:=(A5 1 1 [] (c6 0) l6 (eB d7 (eV 0) (eC (.int k))))
theorem a66(f:Sp4→Int)(k:Int)(hk:∀q,atI [D.int q.a,D.int q.b,D.int q.c,D.int q.d] k=some (.int (f q)))(L:List Sp4)(hl:L.length≤1000)(B w h:D)(s4:Sl):coV k [.fz B,.fz (.lst (L.map sD)),.fz w,.fz h,s4,.no,.no,.no,.no]=some (.ok ((L.map f).map D.int) [.fz B,.fz (.lst (L.map sD)),.fz w,.fz h,s4,.no,.no,.no,.no]):=by
 show j6 (c6 0) l6 (eB d7 (eV 0) (eC (.int k))) [.no] [.fz B,.fz (.lst (L.map sD)),.fz w,.fz h,s4,.no,.no,.no,.no] (L.map sD) []=_
 rw[F6 sD (fun q=>D.int (f q)) (fun _=>true) L [] (by show 0+_≤2 ^ 24;omega) (fun q _=>⟨[.fz (sD q)],[.fz (sD q)],rfl,rfl,fun _=>⟨[.fz (sD q)],by
  show P8 (atI [D.int q.a,D.int q.b,D.int q.c,D.int q.d] k) _=_
  rw[hk q]
  rfl⟩⟩)]
 rw[List.filter_eq_self.mpr (fun _ _=>rfl),List.map_map]
 rfl
abbrev nsV(CO:NF):NF:=O8 (aC (zN (nB V2 (zN (eL (aC (eC (.int 0)) aN))) (zN CO))) aN)
theorem b2H(GC:D→D→Option (List D))(CO:NF)(e:DE)(A B:List D)(h:CO e=some (.ok A e))(hg:GC (.lst [.int 0]) (.lst A)=some B):(aC (zN (nB GC (zN (eL (aC (eC (.int 0)) aN))) (zN CO))) aN) e=some (.ok [.lst B] e):=by
 walk_at "eh"
theorem b1O(ks:List Int)(hl:ks.length<1000):V2 (.lst [.int 0]) (.lst (ks.map D.int))=some ((0::ks).map D.int):=by
 show(if _ then _ else _)=_
 rw[if_pos (by rw[List.length_map];show 1+_≤2 ^ 24;omega)]
 rfl
theorem b2I(f:AF)(e e1:DE)(ks:List Int)(h:f e=some (.ok [.lst (ks.map D.int)] e1))(hl:ks.length<64):O8 f e=some (.ok ((A0 ks).map D.int) e1):=by
 unfold O8
 rw[h,W6]
 show(match G3 (ks.map D.int)with
  | some ns=>if ns.length<64 then some (L2.R.ok ((A0 ns).map D.int) e1)else none
  | none=>none)=_
 rw[L2.ints_map]
 show(if ks.length<64 then _ else _)=_
 rw[if_pos hl]
theorem a8v(CO:NF)(e:DE)(ks:List Int)(h:CO e=some (.ok (ks.map D.int) e))(hl:ks.length<63):nsV CO e=some (.ok ((A0 (0::ks)).map D.int) e) :=
 b2I _ e e (0::ks) (b2H V2 CO e _ _ h (b1O ks (by omega))) (by simp;omega)
theorem a40(NY NX:NF)(LP:SF)(B A:D)(w h:D)(Y X:List D)(r:D)(o6 o7 o8:Option D)(h1:NY [.fz B,.fz A,.fz w,.fz h,.no,.no,.no,.no,.no]=some (.ok Y [.fz B,.fz A,.fz w,.fz h,.no,.no,.no,.no,.no]))(h2:NX [.fz B,.fz A,.fz w,.fz h,.ow Y,.no,.no,.no,.no]=some (.ok X [.fz B,.fz A,.fz w,.fz h,.ow Y,.no,.no,.no,.no]))
  (h3:LP [.fz B,.fz A,.fz w,.fz h,.ow Y,.ow X,.no,.no,.no]=some (.rt r)∨(LP [.fz B,.fz A,.fz w,.fz h,.ow Y,.ow X,.no,.no,.no]=some (.nx [.fz B,.fz A,.fz w,.fz h,.ow Y,.ow X,un o6,un o7,un o8])∧r=.non)) :
  fD 9 4 (d4 (u3 4 NY) (d4 (u3 5 NX) (d4 LP (h9 (eC .non))))) [B,A,w,h]=some (.ret r):=by
 rcases h3 with h3 | ⟨h3,rfl⟩<;>walk_at "eh"
def oP:Option (Int×Int)→D
 | none=>.non
 | some (x,y)=>.tup [.int x,.int y]
def b2c(W H w h:Int)(L:List Sp4):Option (Int×Int)→Prop
 | none=>∀x y,¬Fr4 W H w h L x y
 | some (x,y)=>Fr4 W H w h L x y∧∀x' y',Fr4 W H w h L x' y'→y<y'∨(y=y'∧x≤x')
theorem a67{l pre post:List Int}{x:Int}(hp:l.Pairwise (· < ·))(e:l=pre++x::post):∀z∈l,z∈pre∨x≤z:=by
 subst e
 intro z m
 rcases List.mem_append.mp m with m | m
 ·exact .inl m
 ·rcases List.mem_cons.mp m with rfl | m
  ·exact .inr (Int.le_refl _)
  ·have:=(List.pairwise_cons.mp (List.pairwise_append.mp hp).2.1).1 z m
   exact .inr (by omega)
theorem a8w(W H w h:Int)(L:List Sp4)(hl:L.length≤60):∃o,p9 [.tup [.int W,.int H],.lst (L.map sD),.int w,.int h]=some (.ret (oP o))∧b2c W H w h L o:=by
 have hy:=a8v (coV 3) _ (L.map Sp4.d) (a66 Sp4.d 3 (fun q=>a5C) L (by omega) (.tup [.int W,.int H]) (.int w) (.int h) .no) (by rw[List.length_map];omega)
 have hx:=a8v (coV 2) _ (L.map Sp4.c) (a66 Sp4.c 2 (fun q=>a3b) L (by omega) (.tup [.int W,.int H]) (.int w) (.int h) (.ow ((A0 (0::L.map Sp4.d)).map D.int))) (by rw[List.length_map];omega)
 have inx:∀x,(x=0∨x∈L.map Sp4.c)→x∈A0 (0::L.map Sp4.c):=fun x m=>U7.mpr (List.mem_cons.mpr m)
 have iny:∀x,(x=0∨x∈L.map Sp4.d)→x∈A0 (0::L.map Sp4.d):=fun x m=>U7.mpr (List.mem_cons.mpr m)
 rcases b2b W H w h L (by omega) (A0 (0::L.map Sp4.d)) (A0 (0::L.map Sp4.c))with⟨pre,y,post,px,x,qx,eY,eX,h1,h2,h3,lp⟩ | ⟨hn,p6,p7,p8,lp⟩
 ·refine⟨some (x,y),a40 _ _ _ _ _ _ _ _ _ _ none none none hy hx (.inl lp),N8.mp h3,fun x' y' f=>?_⟩
  obtain⟨x0,y0,cx,cy,lx,ly,f0⟩:=a65 f
  have f0:=N8.mpr f0
  rcases a67 (Z7 _) eY y0 (iny y0 cy)with m | m
  ·rw[h1 y0 m x0 (inx x0 cx)]at f0;cases f0
  ·by_cases z:y=y0
   ·subst z
    rcases a67 (Z7 _) eX x0 (inx x0 cx)with m2 | m2
    ·rw[h2 x0 m2]at f0;cases f0
    ·omega
   ·omega
 ·refine⟨none,a40 _ _ _ _ _ _ _ _ _ _ p6 p7 p8 hy hx (.inr ⟨lp,rfl⟩),fun x' y' f=>?_⟩
  obtain⟨x0,y0,cx,cy,lx,ly,f0⟩:=a65 f
  have f0:=N8.mpr f0
  rw[hn y0 (iny y0 cy) x0 (inx x0 cx)]at f0
  cases f0
abbrev Wr:=Int×Int×Bool
def wD(q:Wr):D:=.tup [.int q.1,.int q.2.1,.bl q.2.2]
def gq(L:List Wr)(k:Nat):Wr:=L.getD k (0,0,false)
theorem a5Q{L:List Wr}{k:Nat}(hk:k<L.length):atI (L.map wD) (k:Int)=some (wD (gq L k)):=by
 apply a4z
 rw[List.getElem?_map,List.getElem?_eq_getElem hk]
 unfold gq
 rw[List.getD_eq_getElem?_getD,List.getElem?_eq_getElem hk]
 rfl
theorem a8x{α β:Type}(f:α→β){a:List β}{b:List β}(h:a.Perm b):∀l:List α,b=l.map f→∃m:List α,m.Perm l∧a=m.map f:=by
 induction h with
 | nil=>intro l e;exact⟨l,.refl _,e⟩
 | cons x p ih =>
  intro l e
  cases l with
  | nil=>cases e
  | cons y l =>
   rw[List.map_cons]at e
   injection e with e1 e2
   obtain⟨m,p1,q1⟩:=ih l e2
   exact⟨y::m,p1.cons y,by rw[List.map_cons,e1,q1]⟩
 | swap x y r =>
  intro l e
  match l,e with
  | a::b::l,e =>
   rw[List.map_cons,List.map_cons]at e
   injection e with e1 e2
   injection e2 with e2 e3
   exact⟨b::a::l,.swap _ _ _,by rw[List.map_cons,List.map_cons,e1,e2,e3]⟩
 | trans p q ih1 ih2 =>
  intro l e
  obtain⟨m1,p1,q1⟩:=ih2 l e
  obtain⟨m2,p2,q2⟩:=ih1 m1 q1
  exact⟨m2,p2.trans p1,q2⟩
abbrev oL(σ:List Nat):List D:=σ.map fun(k:Nat)=>D.int (k:Int)
theorem ixn{n k:Nat}(h:k<n):L9 n (k:Int)=some k:=b0n h
theorem b1P(n:Nat)(h:n≤1000):a2b (.lst [.non]) (.int (n:Int))=some (List.replicate n .non):=by
 rw[a2b,if_pos ⟨by omega,by omega,by rw[List.length_singleton,Int.toNat_natCast];show _≤2 ^ 24;omega⟩,Int.toNat_natCast,List.flatten_replicate_singleton]
abbrev Pl:=Int×Int×Bool
def D0(q:Wr)(l:Bool):Int×Int:=if l=true then(q.2.1,q.1)else(q.1,q.2.1)
def y1(q:Wr):List Bool:=if q.2.2=true∧q.1≠q.2.1 then[false,true]else[false]
theorem b0r{q:Wr}(h:true∈y1 q):q.2.2=true:=by
 unfold y1 at h
 split at h
 ·rename_i z;exact z.1
 ·simp at h
theorem a30(q:Wr)(l:Bool)(hl:l∈y1 q):m9 [wD q,.bl l]=some (.ret (.tup [.int (D0 q l).1,.int (D0 q l).2])):=by
 obtain⟨w,h,t⟩:=q
 unfold m9 a1R wD D0
 cases l
 ·clear hl
  walk_at "eh"
 ·have ht:t=true:=b0r hl
  subst ht
  clear hl
  walk_at "eh"
theorem b0s(q:Wr):A7 [wD q]=some (.own ((y1 q).map D.bl)):=by
 obtain⟨w,h,t⟩:=q
 unfold A7 a2N wD y1
 cases t
 ·rw[if_neg (by simp)]
  walk_at "eh"
 ·by_cases z:w=h
  ·rw[if_neg (by simp[z])]
   walk_at "eh"
  ·rw[if_pos ⟨rfl,z⟩]
   walk_at "eh"
theorem a31(q:Wr):x9 [wD q]=some (.own ((y1 q).map D.bl)):=by
 obtain⟨w,h,t⟩:=q
 unfold x9 a3Y wD y1
 cases t
 ·rw[if_neg (by simp)]
  walk_at "eh"
 ·by_cases z:w=h
  ·rw[if_neg (by simp[z])]
   walk_at "eh"
  ·rw[if_pos ⟨rfl,z⟩]
   walk_at "eh"
def spP(q:Wr)(p:Pl):Sp4:=⟨p.1,p.2.1,p.1+(D0 q p.2.2).1,p.2.1+(D0 q p.2.2).2⟩
def pD3(p:Pl):D:=.tup [.int p.1,.int p.2.1,.bl p.2.2]
def o3:Option Pl→D
 | none=>.non
 | some p=>pD3 p
theorem a1j(q:Wr)(p:Pl):j3 [wD q,pD3 p]=some (.ret (sD (spP q p))):=by
 obtain⟨w,h,t⟩:=q
 obtain⟨x,y,l⟩:=p
 unfold j3 a3Z wD pD3 sD spP D0
 cases l<;>walk_at "eh"
theorem a8y(SI:List D→Option R1)(q:D)(x y w h:Int)(l:Bool)(hs:SI [q,.bl l]=some (.ret (.tup [.int w,.int h]))):fD 7 2 (d4 (M7 (eV 1) (K8 [(c6 2),(c6 3),(c6 4)])) (d4 (M7 (G1 SI (aC (eV 0) (aC (eV 4) aN))) (K8 [(c6 5),(c6 6)])) (h9 (eT (aC (eV 2) (aC (eV 3) (aC (eB n8 (eV 2) (eV 5)) (aC (eB n8 (eV 3) (eV 6)) aN)))))))) [q,.tup [.int x,.int y,.bl l]]=some (.ret (.tup [.int x,.int y,.int (x+w),.int (y+h)])):=by
 walk_at "eh"
theorem a68(q:Wr)(p:Pl)(hl:p.2.2∈y1 q):y3 [wD q,pD3 p]=some (.ret (sD (spP q p))) :=
 a8y m9 (wD q) p.1 p.2.1 _ _ p.2.2 (a30 q p.2.2 hl)
abbrev frC:SF:=(m7 (K7 (bZ (eB S6 (eB d7 (eV 2) (eC (.int 0))) (eB d7 (eV 3) (eC (.int 2))))) (K7 (bZ (eB S6 (eB d7 (eV 3) (eC (.int 0))) (eB d7 (eV 2) (eC (.int 2))))) (K7 (bZ (eB S6 (eB d7 (eV 2) (eC (.int 1))) (eB d7 (eV 3) (eC (.int 3))))) (bZ (eB S6 (eB d7 (eV 3) (eC (.int 1))) (eB d7 (eV 2) (eC (.int 3)))))))) (h9 (eC (.bl false))) m5)
theorem b2J(B A:D)(x y u v a b c d:Int):frC [.fz B,.fz A,.fz (.tup [.int x,.int y,.int u,.int v]),.fz (.tup [.int a,.int b,.int c,.int d])]=if u≤a∨c≤x∨v≤b∨d≤y then some (.nx [.fz B,.fz A,.fz (.tup [.int x,.int y,.int u,.int v]),.fz (.tup [.int a,.int b,.int c,.int d])])else some (.rt (.bl false)):=by
 unfold frC
 by_cases h1:x<c
 ·by_cases h2:a<u
  ·by_cases h3:y<d
   ·by_cases h4:b<v
    ·rw[if_neg (by omega)];walk_at "eh"
    ·rw[if_pos (by omega)];walk_at "eh"
   ·rw[if_pos (by omega)];walk_at "eh"
  ·rw[if_pos (by omega)];walk_at "eh"
 ·rw[if_pos (by omega)];walk_at "eh"
theorem a32(LP:SF)(W H x y u v:Int)(A:D)(r:Bool)(o6:Option D)(hr:(¬(0≤x∧0≤y∧u≤W∧v≤H)∧r=false)∨((0≤x∧0≤y∧u≤W∧v≤H)∧((LP [.fz (.tup [.int W,.int H]),.fz A,.fz (.tup [.int x,.int y,.int u,.int v]),.no]=some (.rt (.bl false))∧r=false)∨(LP [.fz (.tup [.int W,.int H]),.fz A,.fz (.tup [.int x,.int y,.int u,.int v]),.no]=some (.nx [.fz (.tup [.int W,.int H]),.fz A,.fz (.tup [.int x,.int y,.int u,.int v]),un o6])∧r=true)))) :
  fD 4 3 (d4 (m7 (C5 (bZ (eB S6 (eB d7 (eV 2) (eC (.int 0))) (eC (.int 0)))) (C5 (bZ (eB S6 (eB d7 (eV 2) (eC (.int 1))) (eC (.int 0)))) (C5 (bZ (eB gGt (eB d7 (eV 2) (eC (.int 2))) (eB d7 (eV 0) (eC (.int 0))))) (bZ (eB gGt (eB d7 (eV 2) (eC (.int 3))) (eB d7 (eV 0) (eC (.int 1)))))))) (h9 (eC (.bl false))) m5) (d4 LP (h9 (eC (.bl true))))) [.tup [.int W,.int H],A,.tup [.int x,.int y,.int u,.int v]]=some (.ret (.bl r)):=by
 rcases hr with⟨z,rfl⟩ | ⟨⟨z1,z2,z3,z4⟩,⟨hl,rfl⟩ | ⟨hl,rfl⟩⟩
 ·by_cases c1:x<0
  ·clear z;walk_at "eh"
  ·by_cases c2:y<0
   ·clear z;walk_at "eh"
   ·by_cases c3:W<u
    ·clear z;walk_at "eh"
    ·have c4:H<v:=by omega
     clear z
     walk_at "eh"
 ·have c1:¬x<0:=by omega
  have c2:¬y<0:=by omega
  have c3:¬W<u:=by omega
  have c4:¬H<v:=by omega
  clear z1 z2 z3 z4
  walk_at "eh"
 ·have c1:¬x<0:=by omega
  have c2:¬y<0:=by omega
  have c3:¬W<u:=by omega
  have c4:¬H<v:=by omega
  clear z1 z2 z3 z4
  walk_at "eh"
theorem a41(W H w h x y:Int)(L:List Sp4):z8 [.tup [.int W,.int H],.lst (L.map sD),.tup [.int x,.int y,.int (x+w),.int (y+h)]]=some (.ret (.bl (u5 W H w h L x y))):=by
 by_cases hin:0≤x∧0≤y∧x+w≤W∧y+h≤H
 ·have lp:=a8p (b:=c6 3) (body:=frC) (r:=.rt (.bl false)) rfl sD (fun pre e=>∃o6,e=[.fz (.tup [.int W,.int H]),.fz (.lst (L.map sD)),.fz (.tup [.int x,.int y,.int (x+w),.int (y+h)]),un o6]) (fun q=>!N7 w h x y q) L [.fz (.tup [.int W,.int H]),.fz (.lst (L.map sD)),.fz (.tup [.int x,.int y,.int (x+w),.int (y+h)]),.no] ⟨none,rfl⟩ (by
   rintro pre q post e hq ⟨o6,rfl⟩
   have hb:c6 3 (sD q) [.fz (.tup [.int W,.int H]),.fz (.lst (L.map sD)),.fz (.tup [.int x,.int y,.int (x+w),.int (y+h)]),un o6]=some [.fz (.tup [.int W,.int H]),.fz (.lst (L.map sD)),.fz (.tup [.int x,.int y,.int (x+w),.int (y+h)]),.fz (sD q)]:=by cases o6<;>rfl
   have hf:=b2J (.tup [.int W,.int H]) (.lst (L.map sD)) x y (x+w) (y+h) q.a q.b q.c q.d
   rw[hb,n5]
   by_cases z:x+w≤q.a∨q.c≤x∨y+h≤q.b∨q.d≤y
   ·rw[if_neg (by unfold N7;rw[decide_eq_true z];decide)]
    rw[if_pos z]at hf
    exact⟨_,(congrArg l3 hf).trans rfl,some (sD q),rfl⟩
   ·rw[if_pos (by unfold N7;rw[decide_eq_false z];rfl)]
    rw[if_neg z]at hf
    exact(congrArg l3 hf).trans rfl)
  have e0:u5 W H w h L x y = !(L.any fun q=>!N7 w h x y q):=by
   unfold u5 a0u
   rw[decide_eq_true hin,Bool.true_and,List.not_any_eq_all_not]
   simp
  by_cases ha:(L.any fun q=>!N7 w h x y q)=true
  ·rw[if_pos ha]at lp
   rw[e0,ha]
   exact a32 _ W H x y _ _ _ false none (.inr ⟨hin,.inl ⟨lp,rfl⟩⟩)
  ·rw[if_neg ha]at lp
   obtain⟨e',lp,o6,rfl⟩:=lp
   rw[e0,Bool.eq_false_iff.mpr ha]
   exact a32 _ W H x y _ _ _ true o6 (.inr ⟨hin,.inr ⟨lp,rfl⟩⟩)
 ·have e0:u5 W H w h L x y=false:=by
   unfold u5 a0u
   rw[decide_eq_false hin]
   rfl
  rw[e0]
  exact a32 _ W H x y _ _ _ false none (.inl ⟨hin,rfl⟩)
abbrev FrP(W H:Int)(S:List Sp4)(q:Wr)(l:Bool)(x y:Int):Prop:=Fr4 W H (D0 q l).1 (D0 q l).2 S x y
def V4(W H:Int)(S:List Sp4)(q:Wr)(ls:List Bool):Option Pl→Prop
 | none=>∀l∈ls,∀x y,¬FrP W H S q l x y
 | some (x,y,l)=>l∈ls∧FrP W H S q l x y∧∀l'∈ls,∀x' y',FrP W H S q l' x' y'→y<y'∨(y=y'∧(x<x'∨(x=x'∧(l=false∨l'=true))))
abbrev cbR(GT:D→D→Option D):SF:=(d4 (m7 (bZ (eB (F5 false) (eV 7) (eC .non))) sCt m5) (d4 (M7 (eV 7) (K8 [(c6 8),(c6 9)])) (m7 (C5 (bZ (eB (F5 false) (eV 3) (eC .non))) (bZ (eB GT (eT (aC (eV 9) (aC (eV 8) aN))) (eT (aC (eB d7 (eV 3) (eC (.int 1))) (aC (eB d7 (eV 3) (eC (.int 0))) aN)))))) (v8 3 (eT (aC (eV 8) (aC (eV 9) (aC (eV 4) aN))))) m5)))
abbrev cbB(SI LE:List D→Option R1)(R:SF):SF:=(d4 (M7 (G1 SI (aC (eV 2) (aC (eV 4) aN))) (K8 [(c6 5),(c6 6)])) (d4 (a1N 7 LE (aC (eV 0) (aC (eV 1) (aC (eV 5) (aC (eV 6) aN))))) R))
theorem b2K(SI LE:List D→Option R1)(R:SF)(B A q b:D)(l:Bool)(w h:Int)(o:D)(o5 o6 o7:Option D)(s8 s9:Sl)(h1:SI [q,.bl l]=some (.ret (.tup [.int w,.int h])))(h2:LE [B,A,.int w,.int h]=some (.ret o)) :
  cbB SI LE R [.fz B,.fz A,.fz q,.fz b,.fz (.bl l),un o5,un o6,un o7,s8,s9]=R [.fz B,.fz A,.fz q,.fz b,.fz (.bl l),.fz (.int w),.fz (.int h),.fz o,s8,s9]:=by
 unfold cbB
 cases o5<;>cases o6<;>cases o7<;>simp only[un]<;>walk_at "eh"
theorem b2L(GT:D→D→Option D)(B A q b:D)(l w h:D)(s8 s9:Sl) :
  cbR GT [.fz B,.fz A,.fz q,.fz b,.fz l,.fz w,.fz h,.fz .non,s8,s9]=some (.ct [.fz B,.fz A,.fz q,.fz b,.fz l,.fz w,.fz h,.fz .non,s8,s9]):=by
 unfold cbR
 walk_at "eh"
theorem b2M(GT:D→D→Option D)(B A q:D)(l:Bool)(w h:D)(x y:Int)(o8 o9:Option D) :
  cbR GT [.fz B,.fz A,.fz q,.fz .non,.fz (.bl l),.fz w,.fz h,.fz (.tup [.int x,.int y]),un o8,un o9]=some (.nx [.fz B,.fz A,.fz q,.fz (.tup [.int x,.int y,.bl l]),.fz (.bl l),.fz w,.fz h,.fz (.tup [.int x,.int y]),.fz (.int x),.fz (.int y)]):=by
 unfold cbR
 cases o8<;>cases o9<;>simp only[un]<;>walk_at "eh"
theorem b1S(GT:D→D→Option D)(B A q:D)(l m r:Bool)(w h:D)(x y u v:Int)(b':D)(hg:GT (.tup [.int y,.int x]) (.tup [.int v,.int u])=some (.bl r))(hb:(r=true∧b'=.tup [.int x,.int y,.bl l])∨(r=false∧b'=.tup [.int u,.int v,.bl m]))(o8 o9:Option D) :
  cbR GT [.fz B,.fz A,.fz q,.fz (.tup [.int u,.int v,.bl m]),.fz (.bl l),.fz w,.fz h,.fz (.tup [.int x,.int y]),un o8,un o9]=some (.nx [.fz B,.fz A,.fz q,.fz b',.fz (.bl l),.fz w,.fz h,.fz (.tup [.int x,.int y]),.fz (.int x),.fz (.int y)]):=by
 unfold cbR
 rcases hb with⟨rfl,rfl⟩ | ⟨rfl,rfl⟩<;>cases o8<;>cases o9<;>simp only[un]<;>walk_at "eh"
theorem b1T{a b c d:Int}:HT.lexLt [a,b] [c,d]=decide (a<c∨(a=c∧b<d)):=by
 rw[HT.lexLt_cons,HT.lexLt_cons]
 by_cases e:a=c
 ·rw[if_pos e]
  by_cases f:b=d
  ·rw[if_pos f];rw[HT.lexLt_nil_nil];exact(decide_eq_false (by omega)).symm
  ·rw[if_neg f];exact decide_eq_decide.mpr (by omega)
 ·rw[if_neg e];exact decide_eq_decide.mpr (by omega)
theorem b2N(LP:SF)(B A q r:D)(o4 o5 o6 o7 o8 o9:Option D)(h:LP [.fz B,.fz A,.fz q,.fz .non,.no,.no,.no,.no,.no,.no]=some (.nx [.fz B,.fz A,.fz q,.fz r,un o4,un o5,un o6,un o7,un o8,un o9])):fD 10 3 (d4 (v8 3 (eC .non)) (d4 LP (Y9 3))) [B,A,q]=some (.ret r):=by
 walk_at "eh"
abbrev cpE(W H:Int)(S:List Sp4)(q:Wr)(o:Option Pl)(o4 o5 o6 o7 o8 o9:Option D):DE:=[.fz (.tup [.int W,.int H]),.fz (.lst (S.map sD)),.fz (wD q),.fz (o3 o),un o4,un o5,un o6,un o7,un o8,un o9]
theorem b1U{q:Wr}{pre post:List Bool}{l:Bool}(h:y1 q=pre++l::post):∀b∈pre,b=false:=by
 unfold y1 at h
 split at h
 ·match pre,h with
  | [],_=>intro b m;cases m
  | [a],h=>injection h with h1 h2;subst h1;intro b m;exact List.mem_singleton.mp m
  | a::b::pre,h=>injection h with h1 h2;injection h2 with h2 h3;cases pre<;>cases h3
 ·match pre,h with
  | [],_=>intro b m;cases m
  | a::pre,h=>injection h with h1 h2;cases pre<;>cases h2
theorem a85(W H:Int)(S:List Sp4)(hl:S.length≤60)(q:Wr):∃o:Option Pl,j1 [.tup [.int W,.int H],.lst (S.map sD),wD q]=some (.ret (o3 o))∧V4 W H S q (y1 q) o:=by
 obtain⟨e',lp,o,hB,o4,o5,o6,o7,o8,o9,rfl⟩:=R6 (b:=c6 4) (body:=cbB m9 p9 (cbR P7)) D.bl (fun pre e=>∃o,V4 W H S q pre o∧∃o4 o5 o6 o7 o8 o9,e=cpE W H S q o o4 o5 o6 o7 o8 o9) (y1 q) (cpE W H S q none none none none none none none) ⟨none,fun l m=>absurd m List.not_mem_nil,none,none,none,none,none,none,rfl⟩ (by
  rintro pre l post e hq ⟨o,hB,o4,o5,o6,o7,o8,o9,rfl⟩
  have hm:l∈y1 q:=by rw[hq];simp
  have hb:c6 4 (.bl l) (cpE W H S q o o4 o5 o6 o7 o8 o9)=some (cpE W H S q o (some (.bl l)) o5 o6 o7 o8 o9):=by cases o4<;>rfl
  obtain⟨c,hc,hL⟩:=a8w W H (D0 q l).1 (D0 q l).2 S hl
  have hd:=b2K m9 p9 (cbR P7) (.tup [.int W,.int H]) (.lst (S.map sD)) (wD q) (o3 o) l _ _ (oP c) o5 o6 o7 (un o8) (un o9) (a30 q l hm) hc
  rw[hb,n5]
  have hd':cbB m9 p9 (cbR P7) (cpE W H S q o (some (.bl l)) o5 o6 o7 o8 o9)=_:=hd
  rw[hd']
  have pf:=b1U hq
  cases c with
  | none =>
   refine⟨_,(congrArg l3 (b2L P7 (.tup [.int W,.int H]) (.lst (S.map sD)) (wD q) (o3 o) (.bl l) _ _ (un o8) (un o9))).trans rfl,o,?_,some (.bl l),some (.int (D0 q l).1),some (.int (D0 q l).2),some .non,o8,o9,rfl⟩
   cases o with
   | none =>
    intro l' m x y
    rcases List.mem_append.mp m with m | m
    ·exact hB l' m x y
    ·rw[List.mem_singleton.mp m];exact hL x y
   | some p =>
    obtain⟨x,y,b⟩:=p
    obtain⟨b1,b2,b3⟩:=hB
    refine⟨List.mem_append_left _ b1,b2,fun l' m x' y' f=>?_⟩
    rcases List.mem_append.mp m with m | m
    ·exact b3 l' m x' y' f
    ·rw[List.mem_singleton.mp m]at f;exact absurd f (hL x' y')
  | some c =>
   obtain⟨x,y⟩:=c
   obtain⟨l1,l2⟩:=hL
   cases o with
   | none =>
    refine⟨_,(congrArg l3 (b2M P7 (.tup [.int W,.int H]) (.lst (S.map sD)) (wD q) l _ _ x y o8 o9)).trans rfl,some (x,y,l),⟨List.mem_append_right _ List.mem_cons_self,l1,fun l' m x' y' f=>?_⟩,some (.bl l),some (.int (D0 q l).1),some (.int (D0 q l).2),some (.tup [.int x,.int y]),some (.int x),some (.int y),rfl⟩
    rcases List.mem_append.mp m with m | m
    ·exact absurd f (hB l' m x' y')
    ·have e:=List.mem_singleton.mp m
     subst e
     rcases l2 x' y' f with z | ⟨z1,z2⟩
     ·exact .inl z
     ·cases l' <;>simp<;>omega
   | some p =>
    obtain⟨u,v,b⟩:=p
    obtain⟨b1,b2,b3⟩:=hB
    have bf:=pf b b1
    subst bf
    have hg:P7 (.tup [.int y,.int x]) (.tup [.int v,.int u])=some (.bl (decide (y<v∨(y=v∧x<u)))):=by
     rw[← b1T];rfl
    by_cases z:y<v∨(y=v∧x<u)
    ·refine⟨_,(congrArg l3 (b1S P7 (.tup [.int W,.int H]) (.lst (S.map sD)) (wD q) l false _ _ _ x y u v _ hg (.inl ⟨decide_eq_true z,rfl⟩) o8 o9)).trans rfl,some (x,y,l),⟨List.mem_append_right _ List.mem_cons_self,l1,fun l' m x' y' f=>?_⟩,some (.bl l),some (.int (D0 q l).1),some (.int (D0 q l).2),some (.tup [.int x,.int y]),some (.int x),some (.int y),rfl⟩
     rcases List.mem_append.mp m with m | m
     ·have:=b3 l' m x' y' f
      omega
     ·have e:=List.mem_singleton.mp m
      subst e
      rcases l2 x' y' f with z | ⟨z1,z2⟩
      ·exact .inl z
      ·cases l' <;>simp<;>omega
    ·refine⟨_,(congrArg l3 (b1S P7 (.tup [.int W,.int H]) (.lst (S.map sD)) (wD q) l false _ _ _ x y u v _ hg (.inr ⟨decide_eq_false z,rfl⟩) o8 o9)).trans rfl,some (u,v,false),⟨List.mem_append_left _ b1,b2,fun l' m x' y' f=>?_⟩,some (.bl l),some (.int (D0 q l).1),some (.int (D0 q l).2),some (.tup [.int x,.int y]),some (.int x),some (.int y),rfl⟩
     rcases List.mem_append.mp m with m | m
     ·exact b3 l' m x' y' f
     ·have e:=List.mem_singleton.mp m
      subst e
      have:=l2 x' y' f
      simp
      omega)
 refine⟨o,b2N _ _ _ _ (o3 o) o4 o5 o6 o7 o8 o9 ?_,hB⟩
 have e:e6 A7 (aC (eV 2) aN) (cpE W H S q none none none none none none none)=some (.ok (.lst ((y1 q).map D.bl)) (cpE W H S q none none none none none none none)):=by
  show bnd _ _=_
  show S8 (A7 [wD q]) _=_
  rw[b0s]
  rfl
 show x8 (e6 A7 (aC (eV 2) aN)) (c6 4) (cbB m9 p9 (cbR P7)) (cpE W H S q none none none none none none none)=_
 unfold x8
 rw[e,S4]
 exact lp
noncomputable def cp(W H:Int)(S:List Sp4)(q:Wr):Option Pl:=if h:S.length≤60 then(a85 W H S h q).choose else none
theorem a86(W H:Int)(S:List Sp4)(h:S.length≤60)(q:Wr):j1 [.tup [.int W,.int H],.lst (S.map sD),wD q]=some (.ret (o3 (cp W H S q)))∧V4 W H S q (y1 q) (cp W H S q):=by
 unfold cp
 rw[dif_pos h]
 exact(a85 W H S h q).choose_spec
abbrev Stt:=List Sp4×List (Option Pl)
noncomputable def D6(W H:Int)(L:List Wr)(s:Stt)(k:Nat):Stt:=match cp W H s.1 (gq L k)with
 | none=>s
 | some p=>(s.1++[spP (gq L k) p],s.2.set k (some p))
noncomputable def n9(W H:Int)(L:List Wr)(σ:List Nat):Stt:=σ.foldl (D6 W H L) ([],List.replicate L.length none)
theorem a34(W H:Int)(L:List Wr)(pre:List Nat)(k:Nat):n9 W H L (pre++[k])=D6 W H L (n9 W H L pre) k:=by
 unfold n9
 rw[List.foldl_append]
 rfl
theorem a6_(W H:Int)(L:List Wr)(s:Stt)(k:Nat):(D6 W H L s k).1.length≤s.1.length+1∧(D6 W H L s k).2.length=s.2.length:=by
 unfold D6
 split
 ·exact⟨by omega,rfl⟩
 ·exact⟨by simp,by simp⟩
theorem a35(W H:Int)(L:List Wr):∀(σ:List Nat) (s:Stt),(σ.foldl (D6 W H L) s).1.length≤s.1.length+σ.length∧(σ.foldl (D6 W H L) s).2.length=s.2.length
 | [],s=>⟨Nat.le_refl _,rfl⟩
 | k::σ,s=>by
  have h1:=a6_ W H L s k
  have h2:=a35 W H L σ (D6 W H L s k)
  rw[List.foldl_cons,List.length_cons]
  omega
theorem a0b(W H:Int)(L:List Wr)(σ:List Nat):(n9 W H L σ).1.length≤σ.length∧(n9 W H L σ).2.length=L.length:=by
 have:=a35 W H L σ ([],List.replicate L.length none)
 unfold n9
 simp only[List.length_nil,List.length_replicate]at this
 omega
theorem a0w(W H:Int)(L:List Wr)(k:Nat):∀(σ:List Nat) (s:Stt),k ∉ σ→(σ.foldl (D6 W H L) s).2[k]? = s.2[k]?
 | [],s,_=>rfl
 | j::σ,s,h=>by
  rw[List.foldl_cons,a0w W H L k σ _ (fun m=>h (List.mem_cons_of_mem _ m))]
  unfold D6
  split
  ·rfl
  ·exact List.getElem?_set_ne (fun e=>h (by rw[e];exact List.mem_cons_self))
theorem b0t(W H:Int)(L:List Wr)(σ pre post:List Nat)(k:Nat)(e:σ=pre++k::post)(nd:σ.Nodup)(hk:k<L.length):(n9 W H L σ).2[k]? = some (cp W H (n9 W H L pre).1 (gq L k)):=by
 subst e
 have n1:=(List.nodup_append.mp nd)
 have kp:k ∉ pre:=fun m=>n1.2.2 k m k List.mem_cons_self rfl
 have kq:k ∉ post:=(List.nodup_cons.mp n1.2.1).1
 have e1:n9 W H L (pre++k::post)=post.foldl (D6 W H L) (D6 W H L (n9 W H L pre) k):=by
  unfold n9
  rw[List.foldl_append,List.foldl_cons]
 rw[e1,a0w W H L k post _ kq]
 have e2:(n9 W H L pre).2[k]? = some none:=by
  unfold n9
  rw[a0w W H L k pre _ kp]
  simp[hk]
 have hl:=(a0b W H L pre).2
 unfold D6
 split
 ·rename_i z;rw[z];exact e2
 ·rename_i p z
  rw[z]
  exact List.getElem?_set_self (by omega)
theorem b2d{P:List (Option Pl)}{k:Nat}{o:Option Pl}(h:P[k]? = some o):atI (P.map o3) (k:Int)=some (o3 o):=by
 apply a4z
 rw[List.getElem?_map,h]
 rfl
abbrev crB(CP SO:List D→Option R1):SF:=(d4 (v8 5 (a1Q (G1 CP (aC (eV 0) (aC (eV 2) (aC (A1 t6 1 (eV 4)) aN)))))) (m7 (bZ (eB (F5 true) (eV 5) (eC .non))) (d4 (a5s 3 (eV 4) (eV 5)) (a09 2 (G1 SO (aC (A1 t6 1 (eV 4)) (aC (eV 5) aN))))) m5))
theorem b2O(CP SO:List D→Option R1)(B q:D)(Ws Sd Pd:List D)(k:Int)(o5:Option D)(a0:atI Ws k=some q)(h:CP [B,.lst Sd,q]=some (.ret .non)) :
  crB CP SO [.fz B,.fz (.lst Ws),.ow Sd,.ow Pd,.fz (.int k),un o5]=some (.nx [.fz B,.fz (.lst Ws),.ow Sd,.ow Pd,.fz (.int k),.fz .non]):=by
 unfold crB
 cases o5<;>simp only[un]<;>walk_at "eh"
theorem b2P(CP SO:List D→Option R1)(B q p:D)(x y:Int)(l:Bool)(Ws Sd Pd:List D)(k:Int)(kn:Nat)(s:D)(o5:Option D)(a0:atI Ws k=some q)(hp:p=.tup [.int x,.int y,.bl l])(h:CP [B,.lst Sd,q]=some (.ret p))(h2:SO [q,p]=some (.ret s))(x1:L9 Pd.length k=some kn)(hs:Sd.length<sizeLine) :
  crB CP SO [.fz B,.fz (.lst Ws),.ow Sd,.ow Pd,.fz (.int k),un o5]=some (.nx [.fz B,.fz (.lst Ws),.ow (Sd++[s]),.ow (Pd.set kn p),.fz (.int k),.fz p]):=by
 subst hp
 unfold crB
 cases o5<;>simp only[un]<;>walk_at "eh"
abbrev crE(W H:Int)(L:List Wr)(s:Stt)(o4 o5:Option D):DE:=[.fz (.tup [.int W,.int H]),.fz (.lst (L.map wD)),.ow (s.1.map sD),.ow (s.2.map o3),un o4,un o5]
theorem b0u{W H:Int}{S:List Sp4}{q:Wr}{p:Pl}(h:V4 W H S q (y1 q) (some p)):p.2.2∈y1 q:=by
 obtain⟨x,y,l⟩:=p
 exact h.1
theorem b2e(W H:Int)(L:List Wr)(σ:List Nat)(hσ:∀k∈σ,k<L.length)(hl:σ.length≤60):∃o4 o5,l7 (c6 4) (crB j1 y3) (oL σ) (crE W H L ([],List.replicate L.length none) none none)=some (.nx (crE W H L (n9 W H L σ) o4 o5)):=by
 obtain⟨e',h1,o4,o5,rfl⟩:=R6 (b:=c6 4) (body:=crB j1 y3) (fun(k:Nat)=>D.int (k:Int)) (fun pre e=>∃o4 o5,e=crE W H L (n9 W H L pre) o4 o5) σ (crE W H L ([],List.replicate L.length none) none none) ⟨none,none,rfl⟩ (by
  rintro pre k post e hq ⟨o4,o5,rfl⟩
  have hk:k<L.length:=hσ k (by rw[hq];simp)
  have hpre:pre.length≤60:=by have:=congrArg List.length hq;rw[List.length_append,List.length_cons]at this;omega
  have g:=a0b W H L pre
  rw[a34]
  unfold D6
  generalize n9 W H L pre=s at g
  obtain⟨hp,hB⟩:=a86 W H s.1 (by omega) (gq L k)
  have hb:c6 4 (.int (k:Int)) (crE W H L s o4 o5)=some (crE W H L s (some (.int (k:Int))) o5):=by cases o4<;>rfl
  have a0:=a5Q hk
  have x1:L9 (s.2.map o3).length (k:Int)=some k:=ixn (by rw[List.length_map];omega)
  rw[hb,n5]
  generalize cp W H s.1 (gq L k)=o at *
  cases o with
  | none=>exact⟨_,(congrArg l3 (b2O j1 y3 (.tup [.int W,.int H]) (wD (gq L k)) (L.map wD) (s.1.map sD) (s.2.map o3) (k:Int) o5 a0 hp)).trans rfl,some (.int (k:Int)),some .non,rfl⟩
  | some p =>
   refine⟨_,?_,some (.int (k:Int)),some (pD3 p),rfl⟩
   refine(congrArg l3 (b2P j1 y3 (.tup [.int W,.int H]) (wD (gq L k)) (pD3 p) p.1 p.2.1 p.2.2 (L.map wD) (s.1.map sD) (s.2.map o3) (k:Int) k (sD (spP (gq L k) p)) o5 a0 rfl hp (a68 _ p (b0u hB)) x1 (by rw[List.length_map];show _<2 ^ 24;omega))).trans ?_
   show some (RS.nx [_,_,Sl.ow (s.1.map sD++[sD (spP (gq L k) p)]),Sl.ow ((s.2.map o3).set k (o3 (some p))),_,_])=_
   rw[← List.map_set]
   rw[show s.1.map sD++[sD (spP (gq L k) p)]=(s.1++[spP (gq L k) p]).map sD by rw[List.map_append];rfl]
   rfl)
 exact⟨o4,o5,h1⟩
def Sz(L:List Wr):Prop:=∀q∈L,Fits q.1∧Fits q.2.1
theorem a1U{L:List Wr}{k:Nat}(hk:k<L.length):gq L k∈L:=by
 unfold gq
 rw[List.getD_eq_getElem?_getD,List.getElem?_eq_getElem hk]
 exact List.getElem_mem hk
theorem Fits.neg{i:Int}(h:Fits i):Fits (-i):=h.le (by omega)
theorem b1V(GM:D→D→Option D)(w h:Int)(t:Bool)(m:GM (.int w) (.int h)=some (.int (w*h))):fD 1 1 (h9 (W7 (g1 a1b) (aC (zN (A5 0 1 [] (c6 0) l6 (eB GM (eB d7 (eV 0) (eC (.int 0))) (eB d7 (eV 0) (eC (.int 1)))))) aN))) [.lst [.tup [.int w,.int h,.bl t]]]=some (.ret (.int (w*h))):=by
 have e:A5 0 1 [] (c6 0) l6 (eB GM (eB d7 (eV 0) (eC (.int 0))) (eB d7 (eV 0) (eC (.int 1)))) [.fz (.lst [.tup [.int w,.int h,.bl t]])]=some (.ok [.int (w*h)] [.fz (.lst [.tup [.int w,.int h,.bl t]])]):=by
  show j6 (c6 0) l6 (eB GM (eB d7 (eV 0) (eC (.int 0))) (eB d7 (eV 0) (eC (.int 1)))) [.no] [.fz (.lst [.tup [.int w,.int h,.bl t]])] ([((w,h,t):Wr)].map wD) []=_
  rw[F6 wD (fun _=>D.int (w*h)) (fun _=>true) [((w,h,t):Wr)] [] (by show 0+1≤2 ^ 24;omega) (fun q mm=>⟨[.fz (wD q)],[.fz (wD q)],rfl,rfl,fun _=>⟨[.fz (wD q)],by
   have z:=List.mem_singleton.mp mm
   subst z
   show P8 (GM (.int w) (.int h)) _=_
   rw[m]
   rfl⟩⟩)]
  rfl
 generalize A5 0 1 [] (c6 0) l6 (eB GM (eB d7 (eV 0) (eC (.int 0))) (eB d7 (eV 0) (eC (.int 1))))=CO at *
 have s1:a1b (.lst [.int (w*h)])=some (.int (w*h)):=by
  show some (D.int _)=_
  simp
 generalize a1b=GS at *
 clear m
 walk_at "eh"
abbrev elA(AR:List D→Option R1):ZF:=(eT (aC (eU a08 (e6 AR (aC (zN (eL (aC (A1 t6 1 (eV 0)) aN))) aN))) (aC (eV 0) aN)))
theorem a8z(AR:List D→Option R1)(B:List D)(k a:Int)(q:D)(a1:atI B k=some q)(h:AR [.lst [q]]=some (.ret (.int a))):elA AR [.fz (.int k),.fz (.lst B)]=some (.ok (.tup [.int (-a),.int k]) [.fz (.int k),.fz (.lst B)]):=by
 unfold elA
 walk_at "eh"
abbrev elL(GM:D→D→Option D):ZF:=(eT (aC (eB GM (eU a08 (eB d7 (A1 t6 1 (eV 0)) (eC (.int 0)))) (eB d7 (A1 t6 1 (eV 0)) (eC (.int 1)))) (aC (eV 0) aN)))
theorem a8A(GM:D→D→Option D)(B:List D)(k w h a:Int)(t:Bool)(a1:atI B k=some (.tup [.int w,.int h,.bl t]))(m:GM (.int (-w)) (.int h)=some (.int a)):elL GM [.fz (.int k),.hd B]=some (.ok (.tup [.int a,.int k]) [.fz (.int k),.hd B]):=by
 unfold elL
 walk_at "eh"
def Q2(L:List Wr)(n:Nat):List (List Int):=(List.range n).map fun(k:Nat)=>[-((gq L k).1*(gq L k).2.1),(k:Int)]
theorem a7a(el:ZF)(L:List Wr)(sl:Sl)(st:∀k,k<L.length→el [.fz (.int (k:Int)),sl]=some (.ok (.tup [.int (-((gq L k).1*(gq L k).2.1)),.int (k:Int)]) [.fz (.int (k:Int)),sl]))(n:Nat)(hn:n≤L.length):V3 el [.no,sl] n=some (Q2 L n):=by
 induction n with
 | zero=>rfl
 | succ n ih =>
  unfold V3
  rw[ih (by omega)]
  have st:el (List.set [.no,sl] 0 (.fz (.int (n:Int))))=_:=st n (by omega)
  rw[st]
  unfold Q2
  rw[List.range_succ,List.map_append]
  rfl
theorem a7b(L:List Wr)(n:Nat):okK (Q2 L n)=true:=by
 unfold okK
 rw[Bool.and_eq_true]
 constructor
 ·refine decide_eq_true ?_
  unfold Q2
  rw[List.nodup_iff_pairwise_ne,List.pairwise_map]
  refine List.Pairwise.imp ?_ (List.nodup_range (n:=n))
  intro i j h e
  injection e with _ e
  injection e with e
  omega
 ·rw[List.all_eq_true]
  intro k m
  obtain⟨i,hi,rfl⟩:=List.mem_map.mp m
  have hn:=List.mem_range.mp hi
  unfold Q2
  cases n with
  | zero=>omega
  | succ n=>rw[List.range_succ_eq_map,List.map_cons];rfl
theorem b1W(L:List Wr):∃σ:List Nat,σ.Perm (List.range L.length)∧((L4 (L5 (Q2 L L.length))).map fun q=>q.2.headD .non)=oL σ:=by
 have hl:(Q2 L L.length).length=L.length:=by unfold Q2;rw[List.length_map,List.length_range]
 have hr:L5 (Q2 L L.length)=(List.range L.length).map fun(k:Nat)=>(([-((gq L k).1*(gq L k).2.1),(k:Int)],[D.int (k:Int)]):Q0):=by
  unfold L5
  rw[hl]
  refine List.map_congr_left fun k m=>?_
  have hk:=List.mem_range.mp m
  have:(Q2 L L.length).getD k []=[-((gq L k).1*(gq L k).2.1),(k:Int)]:=by
   unfold Q2
   rw[List.getD_eq_getElem?_getD,List.getElem?_map,List.getElem?_range hk]
   rfl
  rw[this]
 obtain⟨σ,h1,h2⟩:=a8x (fun(k:Nat)=>(([-((gq L k).1*(gq L k).2.1),(k:Int)],[D.int (k:Int)]):Q0)) (Z6 (L5 (Q2 L L.length))) (List.range L.length) hr
 exact⟨σ,h1,by rw[h2,List.map_map];rfl⟩
theorem b1X(el:ZF)(sl:Sl)(js:List Nat)(i:Nat)(e:DE)(B R:List D)(ks:List (List Int))(n:Nat)(h0:(aC (J0 A2 i) aN) e=some (.ok [.int (B.length:Int)] e))(hc:i7 1 js e=[.no,sl])(hB:B.length=n)(h64:n<64)(hk:V3 el [.no,sl] n=some ks)(ok:okK ks=true)(hR:((L4 (L5 ks)).map fun q=>q.2.headD .non)=R):L6 js (aC (J0 A2 i) aN) el e=some (.ok R e):=by
 unfold L6
 rw[h0,W6]
 show(if 0≤(B.length:Int)∧(B.length:Int)<64 then(match V3 el (i7 1 js e) (B.length:Int).toNat with
   | some ks=>if okK ks=true then some (L2.R.ok ((L4 (L5 ks)).map fun q=>q.2.headD .non) e)else none
   | none=>none)else none)=_
 rw[if_pos ⟨by omega,by omega⟩,Int.toNat_natCast,hB,hc,hk]
 show(if okK ks=true then _ else _)=_
 rw[if_pos ok,hR]
theorem a7c(L:List Wr)(hz:Sz L)(hl:L.length<64)(σ:List Nat)(h:((L4 (L5 (Q2 L L.length))).map fun q=>q.2.headD .non)=oL σ):A8 [.lst (L.map wD)]=some (.own (oL σ)):=by
 have e:=b1X (elA F7) (.fz (.lst (L.map wD))) [0] 0 [.fz (.lst (L.map wD))] (L.map wD) (oL σ) (Q2 L L.length) L.length rfl rfl (by rw[List.length_map]) hl (a7a _ L _ (fun k hk=>a8z F7 (L.map wD) k _ _ (a5Q hk) (b1V x6 _ _ _ (a2j ((hz _ (a1U hk)).1.mul (hz _ (a1U hk)).2)))) _ (Nat.le_refl _)) (a7b L _) h
 have:A8 [.lst (L.map wD)]=J6 (I0 ((L6 [0] (aC (J0 A2 0) aN) (elA F7)) [.fz (.lst (L.map wD))]) fun ds _=>some (.ro ds)):=rfl
 rw[this,e]
 rfl
theorem a5R(LP:SF)(GR:D→D→Option (List D))(B:D)(Ws P0 Sd Pd:List D)(o4 o5:Option D)(n:Nat)(hn:Ws.length=n)(h3:GR (.lst [.non]) (.int (n:Int))=some P0)
  (h4:LP [.fz B,.fz (.lst Ws),.ow [],.ow P0,.no,.no]=some (.nx [.fz B,.fz (.lst Ws),.ow Sd,.ow Pd,un o4,un o5])) :
  fD 6 2 (d4 (u3 2 (eL aN)) (d4 (u3 3 (nB GR (zN (eL (aC (eC .non) aN))) (J0 A2 1))) (d4 LP (Y9 3)))) [B,.lst Ws]=some (.own Pd):=by
 walk_at "eh"
theorem a4r(W H:Int)(L:List Wr)(hz:Sz L)(hl:L.length≤60)(σ:List Nat)(hp:σ.Perm (List.range L.length))(h:((L4 (L5 (Q2 L L.length))).map fun q=>q.2.headD .non)=oL σ):u9 [.tup [.int W,.int H],.lst (L.map wD)]=some (.own ((n9 W H L σ).2.map o3)):=by
 have hσ:∀k∈σ,k<L.length:=fun k m=>List.mem_range.mp (hp.mem_iff.mp m)
 have hn:σ.length=L.length:=by rw[hp.length_eq,List.length_range]
 obtain⟨o4,o5,lp⟩:=b2e W H L σ hσ (by omega)
 refine a5R _ a2b _ (L.map wD) (List.replicate L.length .non) ((n9 W H L σ).1.map sD) _ o4 o5 L.length (by rw[List.length_map]) (b1P _ (by omega)) ?_
 have e0:List.replicate L.length D.non=(List.replicate L.length (none:Option Pl)).map o3:=by rw[List.map_replicate];rfl
 rw[e0]
 have e:e6 A8 (aC (eV 1) aN) (crE W H L ([],List.replicate L.length none) none none)=some (.ok (.lst (oL σ)) (crE W H L ([],List.replicate L.length none) none none)):=by
  show bnd _ _=_
  show S8 (A8 [.lst (L.map wD)]) _=_
  rw[a7c L hz (by omega) σ h]
  rfl
 show x8 (e6 A8 (aC (eV 1) aN)) (c6 4) (crB j1 y3) (crE W H L ([],List.replicate L.length none) none none)=_
 unfold x8
 rw[e,S4]
 exact lp
theorem b2Q{a b c d e f:Int}:HT.lexLt [a,b,c] [d,e,f]=decide (a<d∨(a=d∧(b<e∨(b=e∧c<f)))):=by
 rw[HT.lexLt_cons,b1T]
 by_cases z:a=d
 ·rw[if_pos z];exact decide_eq_decide.mpr (by omega)
 ·rw[if_neg z];exact decide_eq_decide.mpr (by omega)
abbrev nlI(GL:D→D→Option D)(FR SP:List D→Option R1):SF:=(m7 (C5 (bZ (eB (F5 false) (eV 3) (eC .non))) (bZ (eB GL (eT (aC (eV 5) (aC (eV 6) (aC (eV 4) aN)))) (eT (aC (eB d7 (eV 3) (eC (.int 1))) (aC (eB d7 (eV 3) (eC (.int 0))) (aC (eB d7 (eV 3) (eC (.int 2))) aN))))))) (m7 (bZ (e6 FR (aC (eV 0) (aC (eV 1) (aC (e6 SP (aC (eV 2) (aC (eT (aC (eV 6) (aC (eV 5) (aC (eV 4) aN)))) aN))) aN))))) (h9 (eC (.bl false))) m5) m5)
theorem b2R(GL:D→D→Option D)(FR SP:List D→Option R1)(B A q s:D)(l:Bool)(x y:Int)(h1:SP [q,.tup [.int x,.int y,.bl l]]=some (.ret s))(h2:FR [B,A,s]=some (.ret (.bl false))) :
  nlI GL FR SP [.fz B,.fz A,.fz q,.fz .non,.fz (.bl l),.fz (.int y),.fz (.int x)]=some (.nx [.fz B,.fz A,.fz q,.fz .non,.fz (.bl l),.fz (.int y),.fz (.int x)]):=by
 unfold nlI
 walk_at "eh"
theorem b2S(GL:D→D→Option D)(FR SP:List D→Option R1)(B A q s:D)(l m:Bool)(x y u v:Int)(r:Bool)(hg:GL (.tup [.int y,.int x,.bl l]) (.tup [.int v,.int u,.bl m])=some (.bl r))(h1:SP [q,.tup [.int x,.int y,.bl l]]=some (.ret s))(h2:r=true→FR [B,A,s]=some (.ret (.bl false))) :
  nlI GL FR SP [.fz B,.fz A,.fz q,.fz (.tup [.int u,.int v,.bl m]),.fz (.bl l),.fz (.int y),.fz (.int x)]=some (.nx [.fz B,.fz A,.fz q,.fz (.tup [.int u,.int v,.bl m]),.fz (.bl l),.fz (.int y),.fz (.int x)]):=by
 unfold nlI
 cases r with
 | false=>clear h2;walk_at "eh"
 | true=>have h2:=h2 rfl;walk_at "eh"
abbrev D1(W H:Int)(S:List Sp4)(q:Wr)(o:Option Pl)(s4 s5 s6:Sl):DE:=[.fz (.tup [.int W,.int H]),.fz (.lst (S.map sD)),.fz (wD q),.fz (o3 o),s4,s5,s6]
abbrev nlB:SF:=nlI a0a z8 j3
theorem b2f(W H:Int)(S:List Sp4)(q:Wr)(o:Option Pl)(hB:V4 W H S q (y1 q) o)(l:Bool)(hl:l∈y1 q)(x y:Int):nlB (D1 W H S q o (.fz (.bl l)) (.fz (.int y)) (.fz (.int x)))=some (.nx (D1 W H S q o (.fz (.bl l)) (.fz (.int y)) (.fz (.int x)))):=by
 have h1:=a1j q (x,y,l)
 have h2:=a41 W H (D0 q l).1 (D0 q l).2 x y S
 cases o with
 | none =>
  have nf:u5 W H (D0 q l).1 (D0 q l).2 S x y=false:=Bool.eq_false_iff.mpr fun z=>hB l hl x y (N8.mp z)
  rw[nf]at h2
  exact b2R a0a z8 j3 _ _ _ _ l x y h1 h2
 | some p =>
  obtain⟨u,v,m⟩:=p
  obtain⟨b1,b2,b3⟩:=hB
  have hg:a0a (.tup [.int y,.int x,.bl l]) (.tup [.int v,.int u,.bl m])=some (.bl (HT.lexLt [y,x,b2i l] [v,u,b2i m])):=rfl
  refine b2S a0a z8 j3 _ _ _ _ l m x y u v _ hg h1 fun z=>?_
  rw[b2Q]at z
  have z:=of_decide_eq_true z
  have nf:u5 W H (D0 q l).1 (D0 q l).2 S x y=false:=Bool.eq_false_iff.mpr fun f=>by
   have:=b3 l hl x y (N8.mp f)
   cases l<;>cases m<;>simp[b2i]at z this<;>omega
  rw[nf]at h2
  exact h2
theorem nl3(W H:Int)(S:List Sp4)(q:Wr)(o:Option Pl)(hB:V4 W H S q (y1 q) o)(l:Bool)(hl:l∈y1 q)(y:Int)(X:List Int)(o6:Option D):∃p6,l7 (c6 6) nlB (X.map D.int) (D1 W H S q o (.fz (.bl l)) (.fz (.int y)) (un o6))=some (.nx (D1 W H S q o (.fz (.bl l)) (.fz (.int y)) (un p6))):=by
 obtain⟨e',lp,p6,rfl⟩:=R6 (b:=c6 6) (body:=nlB) D.int (fun pre e=>∃p6,e=D1 W H S q o (.fz (.bl l)) (.fz (.int y)) (un p6)) X (D1 W H S q o (.fz (.bl l)) (.fz (.int y)) (un o6)) ⟨o6,rfl⟩ (by
  rintro pre x post e hq ⟨p6,rfl⟩
  have hb:c6 6 (.int x) (D1 W H S q o (.fz (.bl l)) (.fz (.int y)) (un p6))=some (D1 W H S q o (.fz (.bl l)) (.fz (.int y)) (.fz (.int x))):=by cases p6<;>rfl
  rw[hb,n5]
  exact⟨_,(congrArg l3 (b2f W H S q o hB l hl x y)).trans rfl,some (.int x),rfl⟩)
 exact⟨p6,lp⟩
theorem b2g(f:Sp4→Int)(k:Int)(hk:∀q,atI [D.int q.a,D.int q.b,D.int q.c,D.int q.d] k=some (.int (f q)))(L:List Sp4)(hl:L.length≤1000)(B:D)(r:DE):coV k (.fz B :: .fz (.lst (L.map sD))::r)=some (.ok ((L.map f).map D.int) (.fz B :: .fz (.lst (L.map sD))::r)):=by
 show j6 (c6 0) l6 (eB d7 (eV 0) (eC (.int k))) [.no] (.fz B :: .fz (.lst (L.map sD))::r) (L.map sD) []=_
 rw[F6 sD (fun q=>D.int (f q)) (fun _=>true) L [] (by show 0+_≤2 ^ 24;omega) (fun q _=>⟨[.fz (sD q)],[.fz (sD q)],rfl,rfl,fun _=>⟨[.fz (sD q)],by
  show P8 (atI [D.int q.a,D.int q.b,D.int q.c,D.int q.d] k) _=_
  rw[hk q]
  rfl⟩⟩)]
 rw[List.filter_eq_self.mpr (fun _ _=>rfl),List.map_map]
 rfl
theorem zns(f:Sp4→Int)(k:Int)(hk:∀q,atI [D.int q.a,D.int q.b,D.int q.c,D.int q.d] k=some (.int (f q)))(W H:Int)(S:List Sp4)(hS:S.length≤60)(q:Wr)(o:Option Pl)(s4 s5 s6:Sl):zN (nsV (coV k)) (D1 W H S q o s4 s5 s6)=some (.ok (.lst ((A0 (0::S.map f)).map D.int)) (D1 W H S q o s4 s5 s6)):=by
 have e:=a8v (coV k) (D1 W H S q o s4 s5 s6) (S.map f) (b2g f k hk S (by omega) _ _) (by rw[List.length_map];omega)
 unfold zN
 rw[e]
 rfl
theorem nl2(W H:Int)(S:List Sp4)(hS:S.length≤60)(q:Wr)(o:Option Pl)(hB:V4 W H S q (y1 q) o)(l:Bool)(hl:l∈y1 q)(Y:List Int)(o5 o6:Option D):∃p5 p6,l7 (c6 5) (x8 (zN (nsV (coV 2))) (c6 6) nlB) (Y.map D.int) (D1 W H S q o (.fz (.bl l)) (un o5) (un o6))=some (.nx (D1 W H S q o (.fz (.bl l)) (un p5) (un p6))):=by
 obtain⟨e',lp,p5,p6,rfl⟩:=R6 (b:=c6 5) (body:=x8 (zN (nsV (coV 2))) (c6 6) nlB) D.int (fun pre e=>∃p5 p6,e=D1 W H S q o (.fz (.bl l)) (un p5) (un p6)) Y (D1 W H S q o (.fz (.bl l)) (un o5) (un o6)) ⟨o5,o6,rfl⟩ (by
  rintro pre y post e hq ⟨p5,p6,rfl⟩
  have hb:c6 5 (.int y) (D1 W H S q o (.fz (.bl l)) (un p5) (un p6))=some (D1 W H S q o (.fz (.bl l)) (.fz (.int y)) (un p6)):=by cases p5<;>rfl
  obtain⟨r6,h3⟩:=nl3 W H S q o hB l hl y (A0 (0::S.map Sp4.c)) p6
  rw[hb,n5]
  refine⟨_,?_,some (.int y),r6,rfl⟩
  unfold x8
  rw[zns Sp4.c 2 (fun q=>a3b) W H S hS q o,S4]
  exact(congrArg l3 h3).trans rfl)
 exact⟨p5,p6,lp⟩
theorem nl1(W H:Int)(S:List Sp4)(hS:S.length≤60)(q:Wr)(o:Option Pl)(hB:V4 W H S q (y1 q) o):∃p4 p5 p6,l7 (c6 4) (x8 (zN (nsV (coV 3))) (c6 5) (x8 (zN (nsV (coV 2))) (c6 6) nlB)) ((y1 q).map D.bl) (D1 W H S q o .no .no .no)=some (.nx (D1 W H S q o (un p4) (un p5) (un p6))):=by
 obtain⟨e',lp,p4,p5,p6,rfl⟩:=R6 (b:=c6 4) (body:=x8 (zN (nsV (coV 3))) (c6 5) (x8 (zN (nsV (coV 2))) (c6 6) nlB)) D.bl (fun pre e=>∃p4 p5 p6,e=D1 W H S q o (un p4) (un p5) (un p6)) (y1 q) (D1 W H S q o .no .no .no) ⟨none,none,none,rfl⟩ (by
  rintro pre l post e hq ⟨p4,p5,p6,rfl⟩
  have hl:l∈y1 q:=by rw[hq];simp
  have hb:c6 4 (.bl l) (D1 W H S q o (un p4) (un p5) (un p6))=some (D1 W H S q o (.fz (.bl l)) (un p5) (un p6)):=by cases p4<;>rfl
  obtain⟨r5,r6,h3⟩:=nl2 W H S hS q o hB l hl (A0 (0::S.map Sp4.d)) p5 p6
  rw[hb,n5]
  refine⟨_,?_,some (.bl l),r5,r6,rfl⟩
  unfold x8
  rw[zns Sp4.d 3 (fun q=>a5C) W H S hS q o,S4]
  exact(congrArg l3 h3).trans rfl)
 exact⟨p4,p5,p6,lp⟩
theorem b1Y(LP:SF)(B A q p:D)(o4 o5 o6:Option D)(h:LP [.fz B,.fz A,.fz q,.fz p,.no,.no,.no]=some (.nx [.fz B,.fz A,.fz q,.fz p,un o4,un o5,un o6])):fD 7 4 (d4 LP (h9 (eC (.bl true)))) [B,A,q,p]=some (.ret (.bl true)):=by
 walk_at "eh"
theorem a43(W H:Int)(S:List Sp4)(hS:S.length≤60)(q:Wr)(o:Option Pl)(hB:V4 W H S q (y1 q) o):j9 [.tup [.int W,.int H],.lst (S.map sD),wD q,o3 o]=some (.ret (.bl true)):=by
 obtain⟨p4,p5,p6,lp⟩:=nl1 W H S hS q o hB
 refine b1Y _ _ _ _ _ p4 p5 p6 ?_
 have e:e6 x9 (aC (eV 2) aN) (D1 W H S q o .no .no .no)=some (.ok (.lst ((y1 q).map D.bl)) (D1 W H S q o .no .no .no)):=by
  show bnd _ _=_
  show S8 (x9 [wD q]) _=_
  rw[a31]
  rfl
 show x8 (e6 x9 (aC (eV 2) aN)) (c6 4) _ (D1 W H S q o .no .no .no)=_
 unfold x8
 rw[e,S4]
 exact lp
theorem a38(x:Int):C9 [.int x]=some (.ret (.bl true)):=by
 unfold C9 a2P
 walk_at "ev"
 rfl
theorem a8B(WH LI FR SP:List D→Option R1)(GI:Bool→D→D→Option D)(B A q s:D)(ls:List D)(x y:Int)(l:Bool)(h1:WH [.int x]=some (.ret (.bl true)))(h2:WH [.int y]=some (.ret (.bl true)))(h3:LI [q]=some (.own ls))(h4:GI true (.bl l) (.lst ls)=some (.bl false))(h5:SP [q,.tup [.int x,.int y,.bl l]]=some (.ret s))(h6:FR [B,A,s]=some (.ret (.bl true))) :
  fD 4 4 (d4 (m7 (C5 (D2 (bZ (O1 3 "tuple"))) (C5 (bZ (eB (C1 true) (J0 A2 3) (eC (.int 3)))) (D2 (bZ (W7 a2g (aC (eB d7 (eV 3) (eC (.int 2))) (aC (eC (.ty "bool")) aN))))))) (h9 (eC (.bl false))) m5) (d4 (m7 (C5 (D2 (bZ (e6 WH (aC (eB d7 (eV 3) (eC (.int 0))) aN)))) (C5 (D2 (bZ (e6 WH (aC (eB d7 (eV 3) (eC (.int 1))) aN)))) (bZ (eB (GI true) (eB d7 (eV 3) (eC (.int 2))) (e6 LI (aC (eV 2) aN)))))) (h9 (eC (.bl false))) m5) (a1O FR (aC (eV 0) (aC (eV 1) (aC (e6 SP (aC (eV 2) (aC (eV 3) aN))) aN)))))) [B,A,q,.tup [.int x,.int y,.bl l]]=some (.ret (.bl true)):=by
 walk_at "eh"
theorem b2h(q:Wr)(l:Bool)(hl:l∈y1 q):gIn true (.bl l) (.lst ((y1 q).map D.bl))=some (.bl false):=by
 unfold y1 at *
 split at hl
 ·rename_i z
  rw[if_pos z]
  cases l<;>rfl
 ·rename_i z
  rw[if_neg z]
  rw[List.mem_singleton.mp hl]
  rfl
theorem a7e(W H:Int)(S:List Sp4)(q:Wr)(p:Pl)(hB:V4 W H S q (y1 q) (some p)):r0 [.tup [.int W,.int H],.lst (S.map sD),wD q,pD3 p]=some (.ret (.bl true)):=by
 obtain⟨x,y,l⟩:=p
 obtain⟨b1,b2,_⟩:=hB
 have fr:=a41 W H (D0 q l).1 (D0 q l).2 x y S
 rw[N8.mpr b2]at fr
 exact a8B C9 x9 z8 j3 gIn _ _ _ _ _ x y l (a38 x) (a38 y) (a31 q) (b2h q l b1) (a1j q (x,y,l)) fr
abbrev lwB(PL NL SP:List D→Option R1):SF:=(d4 (m7 (Z5 (K7 (bZ (eB (F5 true) (A1 t6 7 (eV 9)) (eC .non))) (D2 (bZ (e6 PL (aC (eV 3) (aC (eV 8) (aC (A1 t6 4 (eV 9)) (aC (A1 t6 7 (eV 9)) aN))))))))) (h9 (eC (.bl false))) m5) (d4 (m7 (Z5 (D2 (bZ (e6 NL (aC (eV 3) (aC (eV 8) (aC (A1 t6 4 (eV 9)) (aC (A1 t6 7 (eV 9)) aN)))))))) (h9 (eC (.bl false))) m5) (m7 (bZ (eB (F5 true) (A1 t6 7 (eV 9)) (eC .non))) (a09 8 (e6 SP (aC (A1 t6 4 (eV 9)) (aC (A1 t6 7 (eV 9)) aN)))) m5)))
theorem b2T(PL NL SP:List D→Option R1)(c0 c1 c2 B c5 q:D)(Ws Fd Sd:List D)(k:Int)(a0:atI Ws k=some q)(a1:atI Fd k=some .non)(h:NL [B,.lst Sd,q,.non]=some (.ret (.bl true))) :
  lwB PL NL SP [.fz c0,.fz c1,.fz c2,.fz B,.ow Ws,.fz c5,.ow [],.ow Fd,.ow Sd,.fz (.int k)]=some (.nx [.fz c0,.fz c1,.fz c2,.fz B,.ow Ws,.fz c5,.ow [],.ow Fd,.ow Sd,.fz (.int k)]):=by
 unfold lwB
 walk_at "eh"
theorem b2U(PL NL SP:List D→Option R1)(c0 c1 c2 B c5 q p s:D)(x y:Int)(l:Bool)(Ws Fd Sd:List D)(k:Int)(hp:p=.tup [.int x,.int y,.bl l])(a0:atI Ws k=some q)(a1:atI Fd k=some p)(h0:PL [B,.lst Sd,q,p]=some (.ret (.bl true)))(h:NL [B,.lst Sd,q,p]=some (.ret (.bl true)))(h2:SP [q,p]=some (.ret s))(hs:Sd.length<sizeLine) :
  lwB PL NL SP [.fz c0,.fz c1,.fz c2,.fz B,.ow Ws,.fz c5,.ow [],.ow Fd,.ow Sd,.fz (.int k)]=some (.nx [.fz c0,.fz c1,.fz c2,.fz B,.ow Ws,.fz c5,.ow [],.ow Fd,.ow (Sd++[s]),.fz (.int k)]):=by
 subst hp
 unfold lwB
 walk_at "eh"
abbrev lwE(c0 c1 c2 c5:D)(W H:Int)(L:List Wr)(P:List (Option Pl))(S:List Sp4)(o9:Option D):DE:=[.fz c0,.fz c1,.fz c2,.fz (.tup [.int W,.int H]),.ow (L.map wD),.fz c5,.ow [],.ow (P.map o3),.ow (S.map sD),un o9]
theorem b2j(c0 c1 c2 c5:D)(W H:Int)(L:List Wr)(σ:List Nat)(hp:σ.Perm (List.range L.length))(hl:L.length≤60):∃o9,l7 (c6 9) (lwB r0 j9 j3) (oL σ) (lwE c0 c1 c2 c5 W H L (n9 W H L σ).2 [] none)=some (.nx (lwE c0 c1 c2 c5 W H L (n9 W H L σ).2 (n9 W H L σ).1 o9)):=by
 have hσ:∀k∈σ,k<L.length:=fun k m=>List.mem_range.mp (hp.mem_iff.mp m)
 have hn:σ.length=L.length:=by rw[hp.length_eq,List.length_range]
 have nd:σ.Nodup:=hp.nodup_iff.mpr List.nodup_range
 obtain⟨e',h1,o9,rfl⟩:=R6 (b:=c6 9) (body:=lwB r0 j9 j3) (fun(k:Nat)=>D.int (k:Int)) (fun pre e=>∃o9,e=lwE c0 c1 c2 c5 W H L (n9 W H L σ).2 (n9 W H L pre).1 o9) σ (lwE c0 c1 c2 c5 W H L (n9 W H L σ).2 [] none) ⟨none,rfl⟩ (by
  rintro pre k post e hq ⟨o9,rfl⟩
  have hk:k<L.length:=hσ k (by rw[hq];simp)
  have hpre:pre.length≤60:=by have:=congrArg List.length hq;rw[List.length_append,List.length_cons]at this;omega
  have g:=a0b W H L pre
  have a1:=b2d (b0t W H L σ pre post k hq nd hk)
  rw[a34]
  unfold D6
  generalize n9 W H L pre=s at g a1
  generalize (n9 W H L σ).2=P at a1
  obtain⟨_,hB⟩:=a86 W H s.1 (by omega) (gq L k)
  have hb:c6 9 (.int (k:Int)) (lwE c0 c1 c2 c5 W H L P s.1 o9)=some (lwE c0 c1 c2 c5 W H L P s.1 (some (.int (k:Int)))):=by cases o9<;>rfl
  have a0:=a5Q hk
  rw[hb,n5]
  generalize cp W H s.1 (gq L k)=o at *
  cases o with
  | none=>exact⟨_,(congrArg l3 (b2T r0 j9 j3 c0 c1 c2 (.tup [.int W,.int H]) c5 (wD (gq L k)) (L.map wD) (P.map o3) (s.1.map sD) (k:Int) a0 a1 (a43 W H s.1 (by omega) _ none hB))).trans rfl,some (.int (k:Int)),rfl⟩
  | some p =>
   refine⟨_,?_,some (.int (k:Int)),rfl⟩
   refine(congrArg l3 (b2U r0 j9 j3 c0 c1 c2 (.tup [.int W,.int H]) c5 (wD (gq L k)) (pD3 p) (sD (spP (gq L k) p)) p.1 p.2.1 p.2.2 (L.map wD) (P.map o3) (s.1.map sD) (k:Int) rfl a0 a1 (a7e W H s.1 _ p hB) (a43 W H s.1 (by omega) _ (some p) hB) (a1j _ p) (by rw[List.length_map];show _<2 ^ 24;omega))).trans ?_
   rw[show s.1.map sD++[sD (spP (gq L k) p)]=(s.1++[spP (gq L k) p]).map sD by rw[List.map_append];rfl]
   rfl)
 exact⟨o9,h1⟩
theorem a2t{i:Int}(h1:0≤i)(h2:i≤10 ^ 41):Fits i:=by
 have e:(10 ^ 41:Int).natAbs=10 ^ 41:=by decide +kernel
 exact(a8a (i:=10 ^ 41)).le (by rw[e];omega)
theorem a0L(c u:Int):D5 [.int c,.int u]=some (.ret (.int (u*(1+c%6)+c/6%3))):=by
 have m1:x6 (.int u) (.int (1+c%6))=some (.int (u*(1+c%6))):=X2 (by omega)
 unfold D5 a3W
 walk_at "eh"
theorem a7f(SI:List D→Option R1)(c u a b:Int)(o:D)(h1:SI [.int (c/5),.int u]=some (.ret (.int a)))(h2:SI [.int (c/90),.int u]=some (.ret (.int b)))(m1:x6 (.int u) (.int 2)=some (.int (u*2)))(m2:x6 (.int u) (.int 3)=some (.int (u*3)))(ho:(c%5=4∧o=.tup [.int (u*2),.int (u*3),.bl (decide (c/5%2=0))])∨(¬c%5=4∧o=.tup [.int a,.int b,.bl (decide (c/1620%2=0))])) :
  fD 2 2 (d4 (m7 (bZ (eB (C1 false) (eB n4 (eV 0) (eC (.int 5))) (eC (.int 4)))) (h9 (eT (aC (eB x6 (eV 1) (eC (.int 2))) (aC (eB x6 (eV 1) (eC (.int 3))) (aC (eB (C1 false) (eB n4 (eB v5 (eV 0) (eC (.int 5))) (eC (.int 2))) (eC (.int 0))) aN))))) m5) (h9 (eT (aC (e6 SI (aC (eB v5 (eV 0) (eC (.int 5))) (aC (eV 1) aN))) (aC (e6 SI (aC (eB v5 (eV 0) (eC (.int 90))) (aC (eV 1) aN))) (aC (eB (C1 false) (eB n4 (eB v5 (eV 0) (eC (.int 1620))) (eC (.int 2))) (eC (.int 0))) aN)))))) [.int c,.int u]=some (.ret o):=by
 rcases ho with⟨z,rfl⟩ | ⟨z,rfl⟩<;>walk_at "eh"
theorem a88{u k:Int}(h1:1≤u)(h2:u≤10 ^ 38)(k1:0≤k)(k2:k≤6):0≤u*k∧u*k≤10 ^ 39:=by
 have h:k=0∨k=1∨k=2∨k=3∨k=4∨k=5∨k=6:=by omega
 rcases h with h | h | h | h | h | h | h<;>subst h<;>omega
theorem b0v(c u:Int)(h1:1≤u)(h2:u≤10 ^ 38):∃q:Wr,(Fits q.1∧Fits q.2.1)∧B4 [.int c,.int u]=some (.ret (wD q)):=by
 have m1:x6 (.int u) (.int 2)=some (.int (u*2)):=X2 (by decide)
 have m2:x6 (.int u) (.int 3)=some (.int (u*3)):=X2 (by decide)
 have b1:=a88 h1 h2 (k:=1+c/5%6) (by omega) (by omega)
 have b2:=a88 h1 h2 (k:=1+c/90%6) (by omega) (by omega)
 by_cases z:c%5=4
 ·exact⟨(u*2,u*3,_),⟨a2t (i:=u*2) (by omega) (by omega),a2t (i:=u*3) (by omega) (by omega)⟩,a7f D5 c u _ _ _ (a0L _ _) (a0L _ _) m1 m2 (.inl ⟨z,rfl⟩)⟩
 ·exact⟨(_,_,_),⟨a2t (i:=u*(1+c/5%6)+c/5/6%3) (by omega) (by omega),a2t (i:=u*(1+c/90%6)+c/90/6%3) (by omega) (by omega)⟩,a7f D5 c u _ _ _ (a0L _ _) (a0L _ _) m1 m2 (.inr ⟨z,rfl⟩)⟩
theorem b2k(GP GD GM:D→D→Option D)(c B r a b t:Int)(hp:GP (.int 10) (.int 40)=some (.int B))(d1:GD (.int c) (.int B)=some (.int r))(d2:GD (.int r) (.int B)=some (.int t))(e1:GM (.int c) (.int B)=some (.int a))(e2:GM (.int r) (.int B)=some (.int b))(e3:GM (.int t) (.int 2)=some (.int (t%2))) :
  fD 2 1 (d4 (v8 1 (eB GD (eV 0) (eB GP (eC (.int 10)) (eC (.int 40))))) (h9 (eT (aC (eB n8 (eC (.int 1)) (eB GM (eV 0) (eB GP (eC (.int 10)) (eC (.int 40))))) (aC (eB n8 (eC (.int 1)) (eB GM (eV 1) (eB GP (eC (.int 10)) (eC (.int 40))))) (aC (eB (C1 false) (eB GM (eB GD (eV 1) (eB GP (eC (.int 10)) (eC (.int 40)))) (eC (.int 2))) (eC (.int 1))) aN)))))) [.int c]=some (.ret (.tup [.int (1+a),.int (1+b),.bl (decide (t%2=1))])):=by
 walk_at "eh"
theorem a7g(c:Int):∃q:Wr,(Fits q.1∧Fits q.2.1)∧u4 [.int c]=some (.ret (wD q)):=by
 obtain⟨B,hB,eB⟩:=big
 have hb:0<B:=by omega
 have lb:B.natAbs.log2<9000:=by rw[eB];decide +kernel
 have p1:=Int.emod_nonneg c (show B≠0 by omega)
 have p2:=Int.emod_lt_of_pos c hb
 have p3:=Int.emod_nonneg (c/B) (show B≠0 by omega)
 have p4:=Int.emod_lt_of_pos (c/B) hb
 exact⟨(1+c%B,1+c/B%B,decide (c/B/B%2=1)),⟨a2t (i:=1+c%B) (by omega) (by omega),a2t (i:=1+c/B%B) (by omega) (by omega)⟩,b2k J1 v5 n4 c B (c/B) (c%B) (c/B%B) (c/B/B) hB (a2k ⟨hb,lb⟩) (a2k ⟨hb,lb⟩) (N0 hb) (N0 hb) (N0 (by omega))⟩
theorem a39(ns:List Int)(m:Nat)(hm:m≤20)(e:DE)(js:List Nat)(ce:DE)(EL:ZF)(hce:i7 1 js e=.no::ce)(f:Int→Wr)(hf:∀c,∃e3,EL (.fz (.int c)::ce)=some (.ok (wD (f c)) e3))(hs:(zN (a1a 0 (oS (eC (.int 3))) (oS (eB n8 (eC (.int 3)) (eV 2))))) e=some (.ok (.lst (a0_ (ns.map D.int) (some 3) (some (3+(m:Int))))) e)) :
  a0E 1 js (zN (a1a 0 (oS (eC (.int 3))) (oS (eB n8 (eC (.int 3)) (eV 2))))) (c6 0) l6 EL e=some (.ok ((((ns.drop 3).take m).map f).map wD) e):=by
 have hc:a0_ (ns.map D.int) (some 3) (some (3+(m:Int)))=((ns.drop 3).take m).map D.int:=by
  rw[b0l (by omega) (by omega),show(3:Int).toNat=3 by omega,show((3+(m:Int))-3).toNat=m by omega,List.map_take,List.map_drop]
 unfold a0E
 rw[hs,hc,W6,hce]
 show j6 (c6 0) l6 EL (.no::ce) e (((ns.drop 3).take m).map D.int) []=_
 rw[F6 D.int (fun c=>wD (f c)) (fun _=>true) ((ns.drop 3).take m) [] (by rw[List.length_take];show 0+_≤2 ^ 24;omega) (fun c _=>⟨.fz (.int c)::ce,.fz (.int c)::ce,rfl,rfl,fun _=>hf c⟩)]
 rw[List.filter_eq_self.mpr (fun _ _=>rfl),List.map_map]
 rfl
theorem a7h(js:List Nat)(e ce:DE)(EL:ZF)(a b:Int)(e1 e2:DE)(hce:i7 1 js e=.no::ce)(h1:EL (.fz (.int 1)::ce)=some (.ok (.int a) e1))(h2:EL (.fz (.int 2)::ce)=some (.ok (.int b) e2)) :
  (W7 (g1 Z9) (aC (zN (K9 1 js (eT (aC (eC (.int 1)) (aC (eC (.int 2)) aN))) (c6 0) l6 EL)) aN)) e=some (.ok (.tup [.int a,.int b]) e):=by
 have hc:K9 1 js (eT (aC (eC (.int 1)) (aC (eC (.int 2)) aN))) (c6 0) l6 EL e=some (.ok [.int a,.int b] e):=by
  show j6 (c6 0) l6 EL (i7 1 js e) e ([(1:Int),2].map D.int) []=_
  rw[hce,F6 D.int (fun c=>D.int (if c=1 then a else b)) (fun _=>true) [(1:Int),2] [] (by show 0+2≤2 ^ 24;omega) (fun c m=>⟨.fz (.int c)::ce,.fz (.int c)::ce,rfl,rfl,fun _=>by
   rcases List.mem_cons.mp m with rfl | m
   ·exact⟨e1,h1⟩
   ·have z:=List.mem_singleton.mp m
    subst z
    exact⟨e2,h2⟩⟩)]
  rfl
 generalize K9 1 js (eT (aC (eC (.int 1)) (aC (eC (.int 2)) aN))) (c6 0) l6 EL=CO at *
 clear hce h1 h2
 walk_at "eh"
 rfl
theorem b2V(CE:List D→Option R1)(GP:D→D→Option D)(R:SF)(s:D)(c B u m:Int)(hc:CE [s,.int 0]=some (.ret (.int c)))(hp:GP (.int 10) (.int 38)=some (.int B))(hm:n4 (.int (c/6)) (.int B)=some (.int (c/6%B)))(hu:(c/2%3=1∧u=1+c/6%B)∨(¬c/2%3=1∧u=1))(hk:(c/6%8=7∧m=20)∨(¬c/6%8=7∧m=8)) :
  (d4 (v8 1 (eC (.int 1))) (d4 (m7 (bZ (eB (C1 false) (eB n4 (eB v5 (e6 CE (aC (eV 0) (aC (eC (.int 0)) aN))) (eC (.int 2))) (eC (.int 3))) (eC (.int 1)))) (v8 1 (eB n8 (eC (.int 1)) (eB n4 (eB v5 (e6 CE (aC (eV 0) (aC (eC (.int 0)) aN))) (eC (.int 6))) (eB GP (eC (.int 10)) (eC (.int 38)))))) m5) (d4 (v8 2 (eC (.int 8))) (d4 (m7 (bZ (eB (C1 false) (eB n4 (eB v5 (e6 CE (aC (eV 0) (aC (eC (.int 0)) aN))) (eC (.int 6))) (eC (.int 8))) (eC (.int 7)))) (v8 2 (eC (.int 20))) m5) R)))) [.fz s,.no,.no,.no,.no,.no,.no,.no,.no,.no]=R [.fz s,.fz (.int u),.fz (.int m),.no,.no,.no,.no,.no,.no,.no]:=by
 rcases hu with⟨z,rfl⟩ | ⟨z,rfl⟩<;>rcases hk with⟨y,rfl⟩ | ⟨y,rfl⟩<;>walk_at "eh"
theorem a89(CE:List D→Option R1)(BX1 BX2:ZF)(WS1 WS2:NF)(R:SF)(s:D)(c u m:Int)(B1 B2 B:D)(L1 L2 L:List D)(hc:CE [s,.int 0]=some (.ret (.int c)))(h1:BX1 [.fz s,.fz (.int u),.fz (.int m),.no,.no,.no,.no,.no,.no,.no]=some (.ok B1 [.fz s,.fz (.int u),.fz (.int m),.no,.no,.no,.no,.no,.no,.no]))(h2:WS1 [.fz s,.fz (.int u),.fz (.int m),.fz B1,.no,.no,.no,.no,.no,.no]=some (.ok L1 [.fz s,.fz (.int u),.fz (.int m),.fz B1,.no,.no,.no,.no,.no,.no]))
  (h3:BX2 [.fz s,.fz (.int u),.fz (.int m),.fz B1,.ow L1,.no,.no,.no,.no,.no]=some (.ok B2 [.fz s,.fz (.int u),.fz (.int m),.fz B1,.ow L1,.no,.no,.no,.no,.no])) (h4:WS2 [.fz s,.fz (.int u),.fz (.int m),.fz B2,.ow L1,.no,.no,.no,.no,.no]=some (.ok L2 [.fz s,.fz (.int u),.fz (.int m),.fz B2,.ow L1,.no,.no,.no,.no,.no])) (hk:(c%2=1∧B=B2∧L=L2)∨(¬c%2=1∧B=B1∧L=L1)) :
  (d4 (v8 3 BX1) (d4 (u3 4 WS1) (d4 (m7 (bZ (eB (C1 false) (eB n4 (e6 CE (aC (eV 0) (aC (eC (.int 0)) aN))) (eC (.int 2))) (eC (.int 1)))) (d4 (v8 3 BX2) (u3 4 WS2)) m5) R))) [.fz s,.fz (.int u),.fz (.int m),.no,.no,.no,.no,.no,.no,.no]=R [.fz s,.fz (.int u),.fz (.int m),.fz B,.ow L,.no,.no,.no,.no,.no]:=by
 rcases hk with⟨z,rfl,rfl⟩ | ⟨z,rfl,rfl⟩<;>walk_at "eh"
theorem b2W(CO:List D→Option R1)(GE:D→D→Option D)(LP:SF)(s u m B:D)(L P Sd:List D)(n:Nat)(o9:Option D)(hL:L.length=n)(hP:P.length=n)(hs:L.length≤sizeLine)(hs2:P.length≤sizeLine)(h1:CO [B,.lst L]=some (.own P))(h2:GE (.lst L) (.lst L)=some (.bl false))(h3:GE (.lst P) (.lst P)=some (.bl false))
  (h4:LP [.fz s,.fz u,.fz m,.fz B,.ow L,.fz (.lst L),.ow [],.ow P,.ow [],.no]=some (.nx [.fz s,.fz u,.fz m,.fz B,.ow L,.fz (.lst L),.ow [],.ow P,.ow Sd,un o9])) :
  J6 ((d4 (u3 5 (nCV Q5 4)) (d4 (a1M 6 CO (aC (eV 3) (aC (eV 5) aN))) (d4 (m7 (C5 (D2 (bZ (O1 6 "list"))) (C5 (bZ (eB (C1 true) (J0 A2 6) (J0 A2 4))) (bZ (a19 GE 5 4)))) (h9 (eC (.bl false))) m5) (d4 (u3 7 (nCV Q5 6)) (d4 (X3 6 fun _=>[]) (d4 (m7 (bZ (eBW GE (G1 CO (aC (eV 3) (aC (eV 5) aN))) 7)) (h9 (eC (.bl false))) m5) (d4 (u3 8 (eL aN)) (d4 LP (h9 (eC (.bl true))))))))))) [.fz s,.fz u,.fz m,.fz B,.ow L,.no,.no,.no,.no,.no])=some (.ret (.bl true)):=by
 walk_at "eh"
abbrev EL1:ZF:=(eB n8 (eB x6 (eV 1) (eB n4 (eB v5 (e6 i8 (aC (eV 2) (aC (eV 0) aN))) (eC (.int 4))) (eC (.int 13)))) (eB n4 (eB v5 (e6 i8 (aC (eV 2) (aC (eV 0) aN))) (eC (.int 52))) (eC (.int 3))))
theorem a8_(CE:List D→Option R1)(s:D)(k u c:Int)(hc:CE [s,.int k]=some (.ret (.int c)))(m1:x6 (.int u) (.int (c/4%13))=some (.int (u*(c/4%13)))):(eB n8 (eB x6 (eV 1) (eB n4 (eB v5 (e6 CE (aC (eV 2) (aC (eV 0) aN))) (eC (.int 4))) (eC (.int 13)))) (eB n4 (eB v5 (e6 CE (aC (eV 2) (aC (eV 0) aN))) (eC (.int 52))) (eC (.int 3)))) [.fz (.int k),.fz (.int u),.fz s]=some (.ok (.int (u*(c/4%13)+c/52%3)) [.fz (.int k),.fz (.int u),.fz s]):=by
 walk_at "eh"
theorem a9a(CE:List D→Option R1)(GP GM:D→D→Option D)(s:D)(k c B r:Int)(hc:CE [s,.int k]=some (.ret (.int c)))(hp:GP (.int 10) (.int 42)=some (.int B))(m1:GM (.int c) (.int (B+1))=some (.int r)):(eB GM (e6 CE (aC (eV 1) (aC (eV 0) aN))) (eB n8 (eB GP (eC (.int 10)) (eC (.int 42))) (eC (.int 1)))) [.fz (.int k),.fz s]=some (.ok (.int r) [.fz (.int k),.fz s]):=by
 walk_at "eh"
theorem b2X(WA:List D→Option R1)(c u:Int)(q:D)(h:WA [.int c,.int u]=some (.ret q)):(e6 WA (aC (eV 0) (aC (eV 1) aN))) [.fz (.int c),.fz (.int u)]=some (.ok q [.fz (.int c),.fz (.int u)]):=by
 walk_at "eh"
theorem b2Y(WA:List D→Option R1)(c:Int)(q:D)(h:WA [.int c]=some (.ret q)):(e6 WA (aC (eV 0) aN)) [.fz (.int c)]=some (.ok q [.fz (.int c)]):=by
 walk_at "eh"
theorem plO(o:Option Pl):g4 (o3 o)=true:=by cases o<;>rfl
theorem dpO(o:Option Pl):E5 (o3 o)≤2:=by
 cases o with
 | none=>simp[o3,E5]
 | some p=>simp[o3,pD3,E5,A6]
theorem eqO(P:List (Option Pl)):P5 true (.lst (P.map o3)) (.lst (P.map o3))=some (.bl false):=a2K true (by simp only[g4];exact a0U fun a _=>plO a) (by
 have:A6 (P.map o3)≤2:=a2L fun a _=>dpO a
 simp only[E5]
 omega) rfl
theorem eqW(L:List Wr):P5 true (.lst (L.map wD)) (.lst (L.map wD))=some (.bl false):=a2K true (by simp only[g4];exact a0U fun a _=>rfl) (by
 have:A6 (L.map wD)≤2:=a2L fun a _=>by simp[wD,E5,A6]
 simp only[E5]
 omega) rfl
theorem a44(s u m:D)(W H:Int)(L:List Wr)(hz:Sz L)(hl:L.length≤60):J6 ((d4 (u3 5 (nCV Q5 4)) (d4 (a1M 6 u9 (aC (eV 3) (aC (eV 5) aN))) (d4 (m7 (C5 (D2 (bZ (O1 6 "list"))) (C5 (bZ (eB (C1 true) (J0 A2 6) (J0 A2 4))) (bZ (a19 (P5 true) 5 4)))) (h9 (eC (.bl false))) m5) (d4 (u3 7 (nCV Q5 6)) (d4 (X3 6 fun _=>[]) (d4 (m7 (bZ (eBW (P5 true) (G1 u9 (aC (eV 3) (aC (eV 5) aN))) 7)) (h9 (eC (.bl false))) m5) (d4 (u3 8 (eL aN)) (d4 (x8 (zN (L6 [4] (aC (J0 A2 4) aN) (elL x6))) (c6 9) (lwB r0 j9 j3)) (h9 (eC (.bl true))))))))))) [.fz s,.fz u,.fz m,.fz (.tup [.int W,.int H]),.ow (L.map wD),.no,.no,.no,.no,.no])=some (.ret (.bl true)):=by
 obtain⟨σ,hp,hσ⟩:=b1W L
 obtain⟨o9,lp⟩:=b2j s u m (.lst (L.map wD)) W H L σ hp hl
 have pl:=(a0b W H L σ).2
 refine b2W u9 (P5 true) _ s u m (.tup [.int W,.int H]) (L.map wD) ((n9 W H L σ).2.map o3) ((n9 W H L σ).1.map sD) L.length o9 (by rw[List.length_map]) (by rw[List.length_map,pl]) (by rw[List.length_map];show _≤2 ^ 24;omega) (by rw[List.length_map,pl];show _≤2 ^ 24;omega) (a4r W H L hz hl σ hp hσ) (eqW L) (eqO _) ?_
 have e1:=b1X (elL x6) (.hd (L.map wD)) [4] 4 (lwE s u m (.lst (L.map wD)) W H L (n9 W H L σ).2 [] none) (L.map wD) (oL σ) (Q2 L L.length) L.length rfl rfl (by rw[List.length_map]) (by omega) (a7a _ L _ (fun k hk=>a8A x6 (L.map wD) k _ _ _ _ (a5Q hk) (by rw[a2j (Fits.mul (Fits.neg (hz _ (a1U hk)).1) (hz _ (a1U hk)).2),Int.neg_mul])) _ (Nat.le_refl _)) (a7b L _) hσ
 have e:zN (L6 [4] (aC (J0 A2 4) aN) (elL x6)) (lwE s u m (.lst (L.map wD)) W H L (n9 W H L σ).2 [] none)=some (.ok (.lst (oL σ)) (lwE s u m (.lst (L.map wD)) W H L (n9 W H L σ).2 [] none)):=by
  unfold zN
  rw[e1]
  rfl
 show x8 (zN (L6 [4] (aC (J0 A2 4) aN) (elL x6))) (c6 9) (lwB r0 j9 j3) (lwE s u m (.lst (L.map wD)) W H L (n9 W H L σ).2 [] none)=_
 unfold x8
 rw[e,S4]
 exact lp
theorem main(ns:List Int)(hl:ns.length≤63)(hb:∀m∈ns,Builtin.Int.intBits m≤2 ^ 20):a84 [.scr ns]=some (.ret (.bl true)):=by
 have big38:∃B:Int,J1 (.int 10) (.int 38)=some (.int B)∧B=10 ^ 38:=⟨_,a0I (by decide +kernel),rfl⟩
 have big42:∃B:Int,J1 (.int 10) (.int 42)=some (.int B)∧B=10 ^ 42:=⟨_,a0I (by decide +kernel),rfl⟩
 obtain⟨B,hB,e38⟩:=big38
 obtain⟨C,hC,e42⟩:=big42
 have hc0:i8 [.scr ns,.int 0]=some (.ret (.int (v9 ns 0))):=X5 (by omega)
 have p1:=Int.emod_nonneg (v9 ns 0/6) (show B≠0 by omega)
 have p2:=Int.emod_lt_of_pos (v9 ns 0/6) (show 0<B by omega)
 obtain⟨u,hu,u1,u2⟩:∃u:Int,((v9 ns 0/2%3=1∧u=1+v9 ns 0/6%B)∨(¬v9 ns 0/2%3=1∧u=1))∧1≤u∧u≤10 ^ 38:=by
  by_cases z:v9 ns 0/2%3=1
  ·exact⟨_,.inl ⟨z,rfl⟩,by omega,by omega⟩
  ·exact⟨_,.inr ⟨z,rfl⟩,by omega,by omega⟩
 obtain⟨m,hm,m1⟩:∃m:Nat,((v9 ns 0/6%8=7∧(m:Int)=20)∨(¬v9 ns 0/6%8=7∧(m:Int)=8))∧m≤20:=by
  by_cases z:v9 ns 0/6%8=7
  ·exact⟨20,.inl ⟨z,rfl⟩,by omega⟩
  ·exact⟨8,.inr ⟨z,rfl⟩,by omega⟩
 have f1:∀c:Int,∃q:Wr,(Fits q.1∧Fits q.2.1)∧B4 [.int c,.int u]=some (.ret (wD q)):=fun c=>b0v c u u1 u2
 have ex1:∃f:Int→Wr,∀c,(Fits (f c).1∧Fits (f c).2.1)∧B4 [.int c,.int u]=some (.ret (wD (f c))):=⟨fun c=>(f1 c).choose,fun c=>(f1 c).choose_spec⟩
 have ex2:∃f:Int→Wr,∀c,(Fits (f c).1∧Fits (f c).2.1)∧u4 [.int c]=some (.ret (wD (f c))):=⟨fun c=>(a7g c).choose,fun c=>(a7g c).choose_spec⟩
 obtain⟨f,hf⟩:=ex1
 obtain⟨g,hg⟩:=ex2
 have s1:Sz (((ns.drop 3).take m).map f):=fun q mm=>by
  obtain⟨c,_,rfl⟩:=List.mem_map.mp mm
  exact(hf c).1
 have s2:Sz (((ns.drop 3).take m).map g):=fun q mm=>by
  obtain⟨c,_,rfl⟩:=List.mem_map.mp mm
  exact(hg c).1
 have l1:(((ns.drop 3).take m).map f).length≤60:=by rw[List.length_map,List.length_take];omega
 have l2:(((ns.drop 3).take m).map g).length≤60:=by rw[List.length_map,List.length_take];omega
 obtain⟨W1,H1,hx1⟩:∃W1 H1:Int,(W7 (g1 Z9) (aC (zN (K9 1 [1,0] (eT (aC (eC (.int 1)) (aC (eC (.int 2)) aN))) (c6 0) l6 EL1)) aN)) [.fz (.scr ns),.fz (.int u),.fz (.int (m:Int)),.no,.no,.no,.no,.no,.no,.no]=some (.ok (.tup [.int W1,.int H1]) [.fz (.scr ns),.fz (.int u),.fz (.int (m:Int)),.no,.no,.no,.no,.no,.no,.no]) :=
  ⟨_,_,a7h [1,0] _ _ EL1 _ _ _ _ rfl (a8_ i8 (.scr ns) 1 u _ (X5 (by omega)) (X2 (by omega))) (a8_ i8 (.scr ns) 2 u _ (X5 (by omega)) (X2 (by omega)))⟩
 have hw1:=a39 ns m m1 [.fz (.scr ns),.fz (.int u),.fz (.int (m:Int)),.fz (.tup [.int W1,.int H1]),.no,.no,.no,.no,.no,.no] [1] [.fz (.int u)] (e6 B4 (aC (eV 0) (aC (eV 1) aN))) rfl f (fun c=>⟨_,b2X B4 c u _ (hf c).2⟩) rfl
 obtain⟨W2,H2,hx2⟩:∃W2 H2:Int,(W7 (g1 Z9) (aC (zN (K9 1 [0] (eT (aC (eC (.int 1)) (aC (eC (.int 2)) aN))) (c6 0) l6 (eB n4 (e6 i8 (aC (eV 1) (aC (eV 0) aN))) (eB n8 (eB J1 (eC (.int 10)) (eC (.int 42))) (eC (.int 1)))))) aN)) [.fz (.scr ns),.fz (.int u),.fz (.int (m:Int)),.fz (.tup [.int W1,.int H1]),.ow ((((ns.drop 3).take m).map f).map wD),.no,.no,.no,.no,.no]=some (.ok (.tup [.int W2,.int H2]) [.fz (.scr ns),.fz (.int u),.fz (.int (m:Int)),.fz (.tup [.int W1,.int H1]),.ow ((((ns.drop 3).take m).map f).map wD),.no,.no,.no,.no,.no]) :=
  ⟨_,_,a7h [0] _ _ _ _ _ _ _ rfl (a9a i8 J1 n4 (.scr ns) 1 _ C _ (X5 (by omega)) hC (N0 (by omega))) (a9a i8 J1 n4 (.scr ns) 2 _ C _ (X5 (by omega)) hC (N0 (by omega)))⟩
 have hw2:=a39 ns m m1 [.fz (.scr ns),.fz (.int u),.fz (.int (m:Int)),.fz (.tup [.int W2,.int H2]),.ow ((((ns.drop 3).take m).map f).map wD),.no,.no,.no,.no,.no] [] [] (e6 u4 (aC (eV 0) aN)) rfl g (fun c=>⟨_,b2Y u4 c _ (hg c).2⟩) rfl
 have hd:=fun R=>b2V i8 J1 R (.scr ns) (v9 ns 0) B u (m:Int) hc0 hB (N0 (by omega)) hu hm
 show J6 (a5P [.fz (.scr ns),.no,.no,.no,.no,.no,.no,.no,.no,.no])=_
 unfold a5P
 rw[hd]
 by_cases z:v9 ns 0%2=1
 ·have md:=fun R=>a89 i8 _ _ _ _ R (.scr ns) (v9 ns 0) u (m:Int) _ _ _ _ _ _ hc0 hx1 hw1 hx2 hw2 (.inl ⟨z,rfl,rfl⟩)
  refine Eq.trans (congrArg J6 (md _)) ?_
  exact a44 _ _ _ W2 H2 _ s2 l2
 ·have md:=fun R=>a89 i8 _ _ _ _ R (.scr ns) (v9 ns 0) u (m:Int) _ _ _ _ _ _ hc0 hx1 hw1 hx2 hw2 (.inr ⟨z,rfl,rfl⟩)
  refine Eq.trans (congrArg J6 (md _)) ?_
  exact a44 _ _ _ W1 H1 _ s1 l1
def a1V(K:PySem.W.Frag)(c:Str→Addr):Sp:=fun vs H Q _=>∃a,∃ns:List Int,vs=[.ref a]∧Scr K H a (ns.map V.int)∧(∀m∈ns,Builtin.Int.intBits m≤2 ^ 20)∧ns.length≤63∧∀H',Q (.bl true) H'
theorem b1Z{TB:List (Addr×Str)}{f:Addr}{fd:FuncData}(F:Fun K "law" "law" w8 f fd)(T:Txt K mg c)(G_l_cell:Own P w K mg base 3 "_law_cell" ["_law_script","_law_k"] (g6 K c i8))(G_l_ware:Own P w K mg base 5 "_law_ware" ["_law_cell_here","_law_unit"] (g6 K c B4))(G_l_any_ware:Own P w K mg base 3 "_law_any_ware" ["_law_cell_here"] (g6 K c u4))(G_cornered:Own P w K mg base 10 "cornered" ["box","wares"] (S2 TB (g6 K c u9)))(G_l_placed:Own P w K mg base 5 "_law_placed" ["_law_box","_law_spots","_law_ware_here","_law_place"] (g6 K c r0))(G_l_none_less:Own P w K mg base 5 "_law_none_less" ["_law_box","_law_spots","_law_ware_here","_law_place"] (g6 K c j9))(G_l_spot:Own P w K mg base 3 "_law_spot" ["_law_ware_here","_law_place"] (g6 K c j3)){cc Pt:Addr}(hcode:fd.code=.ref cc)(hC:PySem.W.CodeHd base cc Pt)(hB:base.BuiltinsAt mg Pt)(hL:TB.lookup Pt=some "law.<locals>.<lambda>"):FnOk P w K mg base (m4 P w) 12 f fd ["_law_script"] (S2 TB (a1V K c)) :=
 (b0p F T G_l_cell G_l_ware G_l_any_ware G_cornered G_l_placed G_l_none_less G_l_spot hcode hC hB hL).imp fun vs H Q E ⟨hT,a,ns,e,h,hb,hl,q⟩=>⟨hT,a9C e h q (main ns hl hb)⟩
def cOf(l:List (Str×Addr))(x:Str):Addr:=(l.lookup x).getD 0
abbrev cL(c0:Addr):=cOf [("BadTurn",c0)]
theorem all_mk{w:World}{K:PySem.W.Frag}{h:Heap}{mg:Str→Option Value}{fa:Addr}(X:K.In h)(G:h.Ns mainGlobals mg)(hfa:mg "law" = some (.ref fa)){q:Program}{loose:List Str}{mean:ExcName→Option Value}{mb:Str→Option Value}(Tp:PyProof.Rows.Top q loose mean mg mb h)
  {c0:Addr} {f_0:Addr} {oc_0 kV_0 dc_0 pm_0 cd_0 ct_0:Value} {od_0 an_0:Option Addr} {sl_0:Array (Option Value)} {f_1:Addr} {oc_1 kV_1 dc_1 pm_1 cd_1 ct_1:Value} {od_1 an_1:Option Addr} {sl_1:Array (Option Value)} {f_2:Addr} {oc_2 kV_2 dc_2 pm_2 cd_2 ct_2:Value} {od_2 an_2:Option Addr} {sl_2:Array (Option Value)} {f_3:Addr} {oc_3 kV_3 dc_3 pm_3 cd_3 ct_3:Value} {od_3 an_3:Option Addr} {sl_3:Array (Option Value)} {f_4:Addr} {oc_4 kV_4 dc_4 pm_4 cd_4 ct_4:Value} {od_4 an_4:Option Addr} {sl_4:Array (Option Value)} {f_5:Addr} {oc_5 kV_5 dc_5 pm_5 cd_5 ct_5:Value} {od_5 an_5:Option Addr} {sl_5:Array (Option Value)} {f_6:Addr} {oc_6 kV_6 dc_6 pm_6 cd_6 ct_6:Value} {od_6 an_6:Option Addr} {sl_6:Array (Option Value)} {f_7:Addr} {oc_7 kV_7 dc_7 pm_7 cd_7 ct_7:Value} {od_7 an_7:Option Addr} {sl_7:Array (Option Value)} {f_8:Addr} {oc_8 kV_8 dc_8 pm_8 cd_8 ct_8:Value} {od_8 an_8:Option Addr} {sl_8:Array (Option Value)} {f_9:Addr} {oc_9 kV_9 dc_9 pm_9 cd_9 ct_9:Value} {od_9 an_9:Option Addr} {sl_9:Array (Option Value)} {f_10:Addr} {oc_10 kV_10 dc_10 pm_10 cd_10 ct_10:Value} {od_10 an_10:Option Addr} {sl_10:Array (Option Value)} {f_11:Addr} {oc_11 kV_11 dc_11 pm_11 cd_11 ct_11:Value} {od_11 an_11:Option Addr} {sl_11:Array (Option Value)} {f_12:Addr} {oc_12 kV_12 dc_12 pm_12 cd_12 ct_12:Value} {od_12 an_12:Option Addr} {sl_12:Array (Option Value)} {f_13:Addr} {oc_13 kV_13 dc_13 pm_13 cd_13 ct_13:Value} {od_13 an_13:Option Addr} {sl_13:Array (Option Value)} {f_14:Addr} {oc_14 kV_14 dc_14 pm_14 cd_14 ct_14:Value} {od_14 an_14:Option Addr} {sl_14:Array (Option Value)} {f_15:Addr} {oc_15 kV_15 dc_15 pm_15 cd_15 ct_15:Value} {od_15 an_15:Option Addr} {sl_15:Array (Option Value)} {f_16:Addr} {oc_16 kV_16 dc_16 pm_16 cd_16 ct_16:Value} {od_16 an_16:Option Addr} {sl_16:Array (Option Value)} {f_17:Addr} {oc_17 kV_17 dc_17 pm_17 cd_17 ct_17:Value} {od_17 an_17:Option Addr} {sl_17:Array (Option Value)} {f_18:Addr} {oc_18 kV_18 dc_18 pm_18 cd_18 ct_18:Value} {od_18 an_18:Option Addr} {sl_18:Array (Option Value)} {f_19:Addr} {oc_19 kV_19 dc_19 pm_19 cd_19 ct_19:Value} {od_19 an_19:Option Addr} {sl_19:Array (Option Value)} {f_20:Addr} {oc_20 kV_20 dc_20 pm_20 cd_20 ct_20:Value} {od_20 an_20:Option Addr} {sl_20:Array (Option Value)} {cc_by_area Pt_by_area:Addr} {oq_by_area:Value} {oe_by_area:Option Addr} {vs_by_area:Array Value} {sm_by_area:Array (Option Value)} {cc_law Pt_law:Addr} {oq_law:Value} {oe_law:Option Addr} {vs_law:Array Value} {sm_law:Array (Option Value)}
  (a_0:PySem.W.nsIn K mainGlobals "sides_of" = some (some (.ref f_0)))
  (l_0:K.lookup f_0=some ⟨oc_0,od_0,.func (PySem.W.fnOf "sides_of" "sides_of" (i6 G4) (g7 G4) (a7 G4) .none kV_0 dc_0 pm_0 an_0 cd_0 ct_0),sl_0⟩)
  (c_0:PySem.W.codeIn K cd_0 "sides_of" = true)
  (k_0:PySem.W.keepIn K (.ref f_0)=true)
  (a_1:PySem.W.nsIn K mainGlobals "lies_of" = some (some (.ref f_1)))
  (l_1:K.lookup f_1=some ⟨oc_1,od_1,.func (PySem.W.fnOf "lies_of" "lies_of" (i6 J8) (g7 J8) (a7 J8) .none kV_1 dc_1 pm_1 an_1 cd_1 ct_1),sl_1⟩)
  (c_1:PySem.W.codeIn K cd_1 "lies_of" = true)
  (k_1:PySem.W.keepIn K (.ref f_1)=true)
  (a_2:PySem.W.nsIn K mainGlobals "area_of" = some (some (.ref f_2)))
  (l_2:K.lookup f_2=some ⟨oc_2,od_2,.func (PySem.W.fnOf "area_of" "area_of" (i6 C6) (g7 C6) (a7 C6) .none kV_2 dc_2 pm_2 an_2 cd_2 ct_2),sl_2⟩)
  (c_2:PySem.W.codeIn K cd_2 "area_of" = true)
  (k_2:PySem.W.keepIn K (.ref f_2)=true)
  (a_3:PySem.W.nsIn K mainGlobals "by_area" = some (some (.ref f_3)))
  (l_3:K.lookup f_3=some ⟨oc_3,od_3,.func (PySem.W.fnOf "by_area" "by_area" (i6 C7) (g7 C7) (a7 C7) .none kV_3 dc_3 pm_3 an_3 cd_3 ct_3),sl_3⟩)
  (c_3:PySem.W.codeIn K cd_3 "by_area" = true)
  (k_3:PySem.W.keepIn K (.ref f_3)=true)
  (a_4:PySem.W.nsIn K mainGlobals "spot_of" = some (some (.ref f_4)))
  (l_4:K.lookup f_4=some ⟨oc_4,od_4,.func (PySem.W.fnOf "spot_of" "spot_of" (i6 J9) (g7 J9) (a7 J9) .none kV_4 dc_4 pm_4 an_4 cd_4 ct_4),sl_4⟩)
  (c_4:PySem.W.codeIn K cd_4 "spot_of" = true)
  (k_4:PySem.W.keepIn K (.ref f_4)=true)
  (a_5:PySem.W.nsIn K mainGlobals "apart" = some (some (.ref f_5)))
  (l_5:K.lookup f_5=some ⟨oc_5,od_5,.func (PySem.W.fnOf "apart" "apart" (i6 R7) (g7 R7) (a7 R7) .none kV_5 dc_5 pm_5 an_5 cd_5 ct_5),sl_5⟩)
  (c_5:PySem.W.codeIn K cd_5 "apart" = true)
  (k_5:PySem.W.keepIn K (.ref f_5)=true)
  (a_6:PySem.W.nsIn K mainGlobals "lies_in" = some (some (.ref f_6)))
  (l_6:K.lookup f_6=some ⟨oc_6,od_6,.func (PySem.W.fnOf "lies_in" "lies_in" (i6 K0) (g7 K0) (a7 K0) .none kV_6 dc_6 pm_6 an_6 cd_6 ct_6),sl_6⟩)
  (c_6:PySem.W.codeIn K cd_6 "lies_in" = true)
  (k_6:PySem.W.keepIn K (.ref f_6)=true)
  (a_7:PySem.W.nsIn K mainGlobals "least_place" = some (some (.ref f_7)))
  (l_7:K.lookup f_7=some ⟨oc_7,od_7,.func (PySem.W.fnOf "least_place" "least_place" (i6 j8) (g7 j8) (a7 j8) .none kV_7 dc_7 pm_7 an_7 cd_7 ct_7),sl_7⟩)
  (c_7:PySem.W.codeIn K cd_7 "least_place" = true)
  (k_7:PySem.W.keepIn K (.ref f_7)=true)
  (a_8:PySem.W.nsIn K mainGlobals "cornered_place" = some (some (.ref f_8)))
  (l_8:K.lookup f_8=some ⟨oc_8,od_8,.func (PySem.W.fnOf "cornered_place" "cornered_place" (i6 u6) (g7 u6) (a7 u6) .none kV_8 dc_8 pm_8 an_8 cd_8 ct_8),sl_8⟩)
  (c_8:PySem.W.codeIn K cd_8 "cornered_place" = true)
  (k_8:PySem.W.keepIn K (.ref f_8)=true)
  (a_9:PySem.W.nsIn K mainGlobals "cornered" = some (some (.ref f_9)))
  (l_9:K.lookup f_9=some ⟨oc_9,od_9,.func (PySem.W.fnOf "cornered" "cornered" (i6 G5) (g7 G5) (a7 G5) .none kV_9 dc_9 pm_9 an_9 cd_9 ct_9),sl_9⟩)
  (c_9:PySem.W.codeIn K cd_9 "cornered" = true)
  (k_9:PySem.W.keepIn K (.ref f_9)=true)
  (a_10:PySem.W.nsIn K mainGlobals "_law_whole" = some (some (.ref f_10)))
  (l_10:K.lookup f_10=some ⟨oc_10,od_10,.func (PySem.W.fnOf "_law_whole" "_law_whole" (i6 K1) (g7 K1) (a7 K1) .none kV_10 dc_10 pm_10 an_10 cd_10 ct_10),sl_10⟩)
  (c_10:PySem.W.codeIn K cd_10 "_law_whole" = true)
  (k_10:PySem.W.keepIn K (.ref f_10)=true)
  (a_11:PySem.W.nsIn K mainGlobals "_law_cell" = some (some (.ref f_11)))
  (l_11:K.lookup f_11=some ⟨oc_11,od_11,.func (PySem.W.fnOf "_law_cell" "_law_cell" (i6 N1) (g7 N1) (a7 N1) .none kV_11 dc_11 pm_11 an_11 cd_11 ct_11),sl_11⟩)
  (c_11:PySem.W.codeIn K cd_11 "_law_cell" = true)
  (k_11:PySem.W.keepIn K (.ref f_11)=true)
  (a_12:PySem.W.nsIn K mainGlobals "_law_side" = some (some (.ref f_12)))
  (l_12:K.lookup f_12=some ⟨oc_12,od_12,.func (PySem.W.fnOf "_law_side" "_law_side" (i6 N2) (g7 N2) (a7 N2) .none kV_12 dc_12 pm_12 an_12 cd_12 ct_12),sl_12⟩)
  (c_12:PySem.W.codeIn K cd_12 "_law_side" = true)
  (k_12:PySem.W.keepIn K (.ref f_12)=true)
  (a_13:PySem.W.nsIn K mainGlobals "_law_ware" = some (some (.ref f_13)))
  (l_13:K.lookup f_13=some ⟨oc_13,od_13,.func (PySem.W.fnOf "_law_ware" "_law_ware" (i6 N3) (g7 N3) (a7 N3) .none kV_13 dc_13 pm_13 an_13 cd_13 ct_13),sl_13⟩)
  (c_13:PySem.W.codeIn K cd_13 "_law_ware" = true)
  (k_13:PySem.W.keepIn K (.ref f_13)=true)
  (a_14:PySem.W.nsIn K mainGlobals "_law_any_ware" = some (some (.ref f_14)))
  (l_14:K.lookup f_14=some ⟨oc_14,od_14,.func (PySem.W.fnOf "_law_any_ware" "_law_any_ware" (i6 C3) (g7 C3) (a7 C3) .none kV_14 dc_14 pm_14 an_14 cd_14 ct_14),sl_14⟩)
  (c_14:PySem.W.codeIn K cd_14 "_law_any_ware" = true)
  (k_14:PySem.W.keepIn K (.ref f_14)=true)
  (a_15:PySem.W.nsIn K mainGlobals "_law_lies" = some (some (.ref f_15)))
  (l_15:K.lookup f_15=some ⟨oc_15,od_15,.func (PySem.W.fnOf "_law_lies" "_law_lies" (i6 N4) (g7 N4) (a7 N4) .none kV_15 dc_15 pm_15 an_15 cd_15 ct_15),sl_15⟩)
  (c_15:PySem.W.codeIn K cd_15 "_law_lies" = true)
  (k_15:PySem.W.keepIn K (.ref f_15)=true)
  (a_16:PySem.W.nsIn K mainGlobals "_law_spot" = some (some (.ref f_16)))
  (l_16:K.lookup f_16=some ⟨oc_16,od_16,.func (PySem.W.fnOf "_law_spot" "_law_spot" (i6 N5) (g7 N5) (a7 N5) .none kV_16 dc_16 pm_16 an_16 cd_16 ct_16),sl_16⟩)
  (c_16:PySem.W.codeIn K cd_16 "_law_spot" = true)
  (k_16:PySem.W.keepIn K (.ref f_16)=true)
  (a_17:PySem.W.nsIn K mainGlobals "_law_free" = some (some (.ref f_17)))
  (l_17:K.lookup f_17=some ⟨oc_17,od_17,.func (PySem.W.fnOf "_law_free" "_law_free" (i6 N6) (g7 N6) (a7 N6) .none kV_17 dc_17 pm_17 an_17 cd_17 ct_17),sl_17⟩)
  (c_17:PySem.W.codeIn K cd_17 "_law_free" = true)
  (k_17:PySem.W.keepIn K (.ref f_17)=true)
  (a_18:PySem.W.nsIn K mainGlobals "_law_none_less" = some (some (.ref f_18)))
  (l_18:K.lookup f_18=some ⟨oc_18,od_18,.func (PySem.W.fnOf "_law_none_less" "_law_none_less" (i6 m8) (g7 m8) (a7 m8) .none kV_18 dc_18 pm_18 an_18 cd_18 ct_18),sl_18⟩)
  (c_18:PySem.W.codeIn K cd_18 "_law_none_less" = true)
  (k_18:PySem.W.keepIn K (.ref f_18)=true)
  (a_19:PySem.W.nsIn K mainGlobals "_law_placed" = some (some (.ref f_19)))
  (l_19:K.lookup f_19=some ⟨oc_19,od_19,.func (PySem.W.fnOf "_law_placed" "_law_placed" (i6 G6) (g7 G6) (a7 G6) .none kV_19 dc_19 pm_19 an_19 cd_19 ct_19),sl_19⟩)
  (c_19:PySem.W.codeIn K cd_19 "_law_placed" = true)
  (k_19:PySem.W.keepIn K (.ref f_19)=true)
  (a_20:PySem.W.nsIn K mainGlobals "law" = some (some (.ref f_20)))
  (l_20:K.lookup f_20=some ⟨oc_20,od_20,.func (PySem.W.fnOf "law" "law" (i6 w8) (g7 w8) (a7 w8) .none kV_20 dc_20 pm_20 an_20 cd_20 ct_20),sl_20⟩)
  (c_20:PySem.W.codeIn K cd_20 "law" = true)
  (k_20:PySem.W.keepIn K (.ref f_20)=true)
  (tc_by_area:cd_3=.ref cc_by_area)
  (tk_by_area:K.lookup cc_by_area=some ⟨oq_by_area,oe_by_area,.fields vs_by_area,sm_by_area⟩)
  (tp_by_area:vs_by_area.getD 11 .none=.ref Pt_by_area)
  (tn_by_area:K.lookup Pt_by_area=none)
  (tr_by_area:(PyProof.Rows.recsOf q).any (fun d=>d.name == "by_area")=true)
  (tc_law:cd_20=.ref cc_law)
  (tk_law:K.lookup cc_law=some ⟨oq_law,oe_law,.fields vs_law,sm_law⟩)
  (tp_law:vs_law.getD 11 .none=.ref Pt_law)
  (tn_law:K.lookup Pt_law=none)
  (tr_law:(PyProof.Rows.recsOf q).any (fun d=>d.name == "law")=true)
  (ne_law_by_area:Pt_law≠Pt_by_area)
  (z_all:PySem.W.nsIn K mainGlobals "all" = some none)
  (z_bool:PySem.W.nsIn K mainGlobals "bool" = some none)
  (z_int:PySem.W.nsIn K mainGlobals "int" = some none)
  (z_isinstance:PySem.W.nsIn K mainGlobals "isinstance" = some none)
  (z_len:PySem.W.nsIn K mainGlobals "len" = some none)
  (z_list:PySem.W.nsIn K mainGlobals "list" = some none)
  (z_range:PySem.W.nsIn K mainGlobals "range" = some none)
  (z_set:PySem.W.nsIn K mainGlobals "set" = some none)
  (z_sorted:PySem.W.nsIn K mainGlobals "sorted" = some none)
  (z_sum:PySem.W.nsIn K mainGlobals "sum" = some none)
  (z_tuple:PySem.W.nsIn K mainGlobals "tuple" = some none)
  (m_BadTurn:PySem.W.nsIn K mainGlobals "BadTurn" = some (some (.ref c0)))
  (x_BadTurn:PySem.W.excIn K c0 a3r "ValueError.__new__" = true)
  : ∃(fd:FuncData) (TB:List (Addr×Str)),(∀(s:Shared) (v:Value),BindsTo s fd ⟨[v],[]⟩ [("_law_script",v)])∧(∀Pa qq,TB.lookup Pa=some qq→(∃c,h.TableAt c Pa #[])∧K.lookup Pa=none)∧∃c:Str→Addr,∀base:Heap,K.In base→base.Ns mainGlobals mg→(∀b o,h.get? b=some o→o.cls≠.none→o.cls≠.type "list"→base.get? b=some o)→FnOk (PySem.Challenge.rw_cratefit_k56_whole_corners).prog w K mg base (m4 (PySem.Challenge.rw_cratefit_k56_whole_corners).prog w) 12 fa fd ["_law_script"] (S2 TB (a1V K c)):=by
 have e:=hfa.symm.trans (PySem.W.mg_of X G a_20)
 cases e
 have T:Txt K mg (cL c0):=⟨PySem.W.mg_none_of X G z_all,PySem.W.mg_none_of X G z_bool,PySem.W.mg_none_of X G z_int,PySem.W.mg_none_of X G z_isinstance,PySem.W.mg_none_of X G z_len,PySem.W.mg_none_of X G z_list,PySem.W.mg_none_of X G z_range,PySem.W.mg_none_of X G z_set,PySem.W.mg_none_of X G z_sorted,PySem.W.mg_none_of X G z_sum,PySem.W.mg_none_of X G z_tuple,PySem.W.mg_of X G m_BadTurn,x_BadTurn⟩
 have TT_by_area:=a6k Tp X tr_by_area (PySem.W.mg_of X G a_3) l_3 tc_by_area tk_by_area tp_by_area
 have TT_law:=a6k Tp X tr_law (PySem.W.mg_of X G a_20) l_20 tc_law tk_law tp_law
 refine⟨PySem.W.fnOf "law" "law" (i6 w8) (g7 w8) (a7 w8) .none kV_20 dc_20 pm_20 an_20 cd_20 ct_20,[(Pt_by_area,("by_area.<locals>.<lambda>" : Str)),(Pt_law,("law.<locals>.<lambda>" : Str))],fun s v=>.of_eq rfl,fun Pa qq e=>?_,cOf [("BadTurn",c0)],fun base _ _ kp=>?_⟩
 ·simp only[List.lookup]at e
  split at e
  ·rename_i z;have z:=beq_iff_eq.mp z;subst z;exact⟨⟨_,TT_by_area.1⟩,tn_by_area⟩
  split at e
  ·rename_i z;have z:=beq_iff_eq.mp z;subst z;exact⟨⟨_,TT_law.1⟩,tn_law⟩
  ·cases e
 have hL_by_area:List.lookup Pt_by_area [(Pt_by_area,("by_area.<locals>.<lambda>" : Str)),(Pt_law,("law.<locals>.<lambda>" : Str))]=some "by_area.<locals>.<lambda>" := by simp[List.lookup,beq_false_of_ne ne_law_by_area]
 have hL_law:List.lookup Pt_law [(Pt_by_area,("by_area.<locals>.<lambda>" : Str)),(Pt_law,("law.<locals>.<lambda>" : Str))]=some "law.<locals>.<lambda>" := by simp[List.lookup,beq_false_of_ne ne_law_by_area]
 have F_0:=n6 (st:=G4) l_0 c_0 k_0
 have B_0:=F_0.binds (ps:=["ware","lie"]) fun _ _ _ _ _ _ us hl=>match us,hl with | [_,_],_=>rfl
 have O_0:Own (PySem.Challenge.rw_cratefit_k56_whole_corners).prog w K mg base 3 "sides_of" ["ware","lie"] (g6 K (cL c0) m9):=⟨_,_,a4n F_0 T ,B_0,k_0,PySem.W.mg_of X G a_0⟩
 have F_1:=n6 (st:=J8) l_1 c_1 k_1
 have B_1:=F_1.binds (ps:=["ware"]) fun _ _ _ _ _ _ us hl=>match us,hl with | [_],_=>rfl
 have O_1:Own (PySem.Challenge.rw_cratefit_k56_whole_corners).prog w K mg base 3 "lies_of" ["ware"] (g6 K (cL c0) A7):=⟨_,_,a5E F_1 T ,B_1,k_1,PySem.W.mg_of X G a_1⟩
 have F_2:=n6 (st:=C6) l_2 c_2 k_2
 have B_2:=F_2.binds (ps:=["wares"]) fun _ _ _ _ _ _ us hl=>match us,hl with | [_],_=>rfl
 have O_2:Own (PySem.Challenge.rw_cratefit_k56_whole_corners).prog w K mg base 3 "area_of" ["wares"] (g6 K (cL c0) F7):=⟨_,_,a5G F_2 T ,B_2,k_2,PySem.W.mg_of X G a_2⟩
 have F_3:=n6 (st:=C7) l_3 c_3 k_3
 have B_3:=F_3.binds (ps:=["wares"]) fun _ _ _ _ _ _ us hl=>match us,hl with | [_],_=>rfl
 have O_3:Own (PySem.Challenge.rw_cratefit_k56_whole_corners).prog w K mg base 8 "by_area" ["wares"] (S2 [(Pt_by_area,("by_area.<locals>.<lambda>" : Str)),(Pt_law,("law.<locals>.<lambda>" : Str))] (g6 K (cL c0) A8)):=⟨_,_,a5I F_3 T O_2 (tc_by_area) (TT_by_area.2 base kp).1 (TT_by_area.2 base kp).2 hL_by_area,B_3,k_3,PySem.W.mg_of X G a_3⟩
 have F_4:=n6 (st:=J9) l_4 c_4 k_4
 have B_4:=F_4.binds (ps:=["ware","place"]) fun _ _ _ _ _ _ us hl=>match us,hl with | [_,_],_=>rfl
 have O_4:Own (PySem.Challenge.rw_cratefit_k56_whole_corners).prog w K mg base 5 "spot_of" ["ware","place"] (g6 K (cL c0) y3):=⟨_,_,a5J F_4 T O_0,B_4,k_4,PySem.W.mg_of X G a_4⟩
 have F_5:=n6 (st:=R7) l_5 c_5 k_5
 have B_5:=F_5.binds (ps:=["one","other"]) fun _ _ _ _ _ _ us hl=>match us,hl with | [_,_],_=>rfl
 have O_5:Own (PySem.Challenge.rw_cratefit_k56_whole_corners).prog w K mg base 3 "apart" ["one","other"] (g6 K (cL c0) G8):=⟨_,_,a8r F_5 T ,B_5,k_5,PySem.W.mg_of X G a_5⟩
 have F_6:=n6 (st:=K0) l_6 c_6 k_6
 have B_6:=F_6.binds (ps:=["box","spot"]) fun _ _ _ _ _ _ us hl=>match us,hl with | [_,_],_=>rfl
 have O_6:Own (PySem.Challenge.rw_cratefit_k56_whole_corners).prog w K mg base 3 "lies_in" ["box","spot"] (g6 K (cL c0) C8):=⟨_,_,a5K F_6 T ,B_6,k_6,PySem.W.mg_of X G a_6⟩
 have F_7:=n6 (st:=j8) l_7 c_7 k_7
 have B_7:=F_7.binds (ps:=["box","spots","w","h"]) fun _ _ _ _ _ _ us hl=>match us,hl with | [_,_,_,_],_=>rfl
 have O_7:Own (PySem.Challenge.rw_cratefit_k56_whole_corners).prog w K mg base 5 "least_place" ["box","spots","w","h"] (g6 K (cL c0) p9):=⟨_,_,a2r F_7 T O_5 O_6,B_7,k_7,PySem.W.mg_of X G a_7⟩
 have F_8:=n6 (st:=u6) l_8 c_8 k_8
 have B_8:=F_8.binds (ps:=["box","spots","ware"]) fun _ _ _ _ _ _ us hl=>match us,hl with | [_,_,_],_=>rfl
 have O_8:Own (PySem.Challenge.rw_cratefit_k56_whole_corners).prog w K mg base 7 "cornered_place" ["box","spots","ware"] (g6 K (cL c0) j1):=⟨_,_,a0M F_8 T O_1 O_0 O_7,B_8,k_8,PySem.W.mg_of X G a_8⟩
 have F_9:=n6 (st:=G5) l_9 c_9 k_9
 have B_9:=F_9.binds (ps:=["box","wares"]) fun _ _ _ _ _ _ us hl=>match us,hl with | [_,_],_=>rfl
 have O_9:Own (PySem.Challenge.rw_cratefit_k56_whole_corners).prog w K mg base 10 "cornered" ["box","wares"] (S2 [(Pt_by_area,("by_area.<locals>.<lambda>" : Str)),(Pt_law,("law.<locals>.<lambda>" : Str))] (g6 K (cL c0) u9)):=⟨_,_,a4o F_9 T O_3 O_8 O_4,B_9,k_9,PySem.W.mg_of X G a_9⟩
 have F_10:=n6 (st:=K1) l_10 c_10 k_10
 have B_10:=F_10.binds (ps:=["_law_found"]) fun _ _ _ _ _ _ us hl=>match us,hl with | [_],_=>rfl
 have O_10:Own (PySem.Challenge.rw_cratefit_k56_whole_corners).prog w K mg base 3 "_law_whole" ["_law_found"] (g6 K (cL c0) C9):=⟨_,_,a5N F_10 T ,B_10,k_10,PySem.W.mg_of X G a_10⟩
 have F_11:=n6 (st:=N1) l_11 c_11 k_11
 have B_11:=F_11.binds (ps:=["_law_script","_law_k"]) fun _ _ _ _ _ _ us hl=>match us,hl with | [_,_],_=>rfl
 have O_11:Own (PySem.Challenge.rw_cratefit_k56_whole_corners).prog w K mg base 3 "_law_cell" ["_law_script","_law_k"] (g6 K (cL c0) i8):=⟨_,_,a6U F_11 T ,B_11,k_11,PySem.W.mg_of X G a_11⟩
 have F_12:=n6 (st:=N2) l_12 c_12 k_12
 have B_12:=F_12.binds (ps:=["_law_cell_here","_law_unit"]) fun _ _ _ _ _ _ us hl=>match us,hl with | [_,_],_=>rfl
 have O_12:Own (PySem.Challenge.rw_cratefit_k56_whole_corners).prog w K mg base 3 "_law_side" ["_law_cell_here","_law_unit"] (g6 K (cL c0) D5):=⟨_,_,a6W F_12 T ,B_12,k_12,PySem.W.mg_of X G a_12⟩
 have F_13:=n6 (st:=N3) l_13 c_13 k_13
 have B_13:=F_13.binds (ps:=["_law_cell_here","_law_unit"]) fun _ _ _ _ _ _ us hl=>match us,hl with | [_,_],_=>rfl
 have O_13:Own (PySem.Challenge.rw_cratefit_k56_whole_corners).prog w K mg base 5 "_law_ware" ["_law_cell_here","_law_unit"] (g6 K (cL c0) B4):=⟨_,_,a6Y F_13 T O_12,B_13,k_13,PySem.W.mg_of X G a_13⟩
 have F_14:=n6 (st:=C3) l_14 c_14 k_14
 have B_14:=F_14.binds (ps:=["_law_cell_here"]) fun _ _ _ _ _ _ us hl=>match us,hl with | [_],_=>rfl
 have O_14:Own (PySem.Challenge.rw_cratefit_k56_whole_corners).prog w K mg base 3 "_law_any_ware" ["_law_cell_here"] (g6 K (cL c0) u4):=⟨_,_,a23 F_14 T ,B_14,k_14,PySem.W.mg_of X G a_14⟩
 have F_15:=n6 (st:=N4) l_15 c_15 k_15
 have B_15:=F_15.binds (ps:=["_law_ware_here"]) fun _ _ _ _ _ _ us hl=>match us,hl with | [_],_=>rfl
 have O_15:Own (PySem.Challenge.rw_cratefit_k56_whole_corners).prog w K mg base 3 "_law_lies" ["_law_ware_here"] (g6 K (cL c0) x9):=⟨_,_,a60 F_15 T ,B_15,k_15,PySem.W.mg_of X G a_15⟩
 have F_16:=n6 (st:=N5) l_16 c_16 k_16
 have B_16:=F_16.binds (ps:=["_law_ware_here","_law_place"]) fun _ _ _ _ _ _ us hl=>match us,hl with | [_,_],_=>rfl
 have O_16:Own (PySem.Challenge.rw_cratefit_k56_whole_corners).prog w K mg base 3 "_law_spot" ["_law_ware_here","_law_place"] (g6 K (cL c0) j3):=⟨_,_,a62 F_16 T ,B_16,k_16,PySem.W.mg_of X G a_16⟩
 have F_17:=n6 (st:=N6) l_17 c_17 k_17
 have B_17:=F_17.binds (ps:=["_law_box","_law_spots","_law_spot_here"]) fun _ _ _ _ _ _ us hl=>match us,hl with | [_,_,_],_=>rfl
 have O_17:Own (PySem.Challenge.rw_cratefit_k56_whole_corners).prog w K mg base 3 "_law_free" ["_law_box","_law_spots","_law_spot_here"] (g6 K (cL c0) z8):=⟨_,_,a63 F_17 T ,B_17,k_17,PySem.W.mg_of X G a_17⟩
 have F_18:=n6 (st:=m8) l_18 c_18 k_18
 have B_18:=F_18.binds (ps:=["_law_box","_law_spots","_law_ware_here","_law_place"]) fun _ _ _ _ _ _ us hl=>match us,hl with | [_,_,_,_],_=>rfl
 have O_18:Own (PySem.Challenge.rw_cratefit_k56_whole_corners).prog w K mg base 5 "_law_none_less" ["_law_box","_law_spots","_law_ware_here","_law_place"] (g6 K (cL c0) j9):=⟨_,_,a2s F_18 T O_15 O_17 O_16,B_18,k_18,PySem.W.mg_of X G a_18⟩
 have F_19:=n6 (st:=G6) l_19 c_19 k_19
 have B_19:=F_19.binds (ps:=["_law_box","_law_spots","_law_ware_here","_law_place"]) fun _ _ _ _ _ _ us hl=>match us,hl with | [_,_,_,_],_=>rfl
 have O_19:Own (PySem.Challenge.rw_cratefit_k56_whole_corners).prog w K mg base 5 "_law_placed" ["_law_box","_law_spots","_law_ware_here","_law_place"] (g6 K (cL c0) r0):=⟨_,_,a4q F_19 T O_15 O_10 O_17 O_16,B_19,k_19,PySem.W.mg_of X G a_19⟩
 have F_20:=n6 (st:=w8) l_20 c_20 k_20
 exact b1Z F_20 T O_11 O_13 O_14 O_9 O_19 O_18 O_16 (tc_law) (TT_law.2 base kp).1 (TT_law.2 base kp).2 hL_law
end Law
namespace Law
open PySem L2 PyProof.Rows
theorem walk{q:Program}{loose:List Str}{XP:(Str→Option Value)→Heap→Prop}{YP:World→Heap→Prop}{d:DefRec}{K:Params→PySem.W.Frag}(hdf:d.params.defaults=[])(hY:∀(w:World) (h:Heap),YP w h→(K w.params).In h)
  (F:∀(w:World) (mg mb:Str→Option Value) (fa:Addr) (h:Heap) (mean:ExcName→Option Value),(K w.params).In h→h.Ns mainGlobals mg→mg d.name=some (.ref fa)→PyProof.Rows.Top q (PySem.W.looseW q loose) mean mg mb h →
   ∃(fd:FuncData) (TB:List (Addr×Str)),(∀(s:Shared) (u:Value),BindsTo s fd ⟨[u],[]⟩ [("_law_script",u)])∧(∀Pa qq,TB.lookup Pa=some qq→(∃c,h.TableAt c Pa #[])∧(K w.params).lookup Pa=none)∧∃c:Str→Addr,∀base:Heap,(K w.params).In base→base.Ns mainGlobals mg→(∀b o,h.get? b=some o→o.cls≠.none→o.cls≠.type "list"→base.get? b=some o)→FnOk (PySem.Challenge.rw_cratefit_k56_whole_corners).prog w (K w.params) mg base (m4 (PySem.Challenge.rw_cratefit_k56_whole_corners).prog w) 12 fa fd ["_law_script"] (S2 TB (a1V (K w.params) c))) :
  PySem.W.WalkO q loose XP YP (PySem.Challenge.rw_cratefit_k56_whole_corners).row.toRowW d [] (fun f vs=>PySem.call f vs):=by
 refine L2.walk_ofT (l:=PySem.Challenge.rw_cratefit_k56_whole_corners) (n:=63) (k:=12) (x := "_law_script") (K:=K) (CX:=fun w=>m4 (PySem.Challenge.rw_cratefit_k56_whole_corners).prog w) (sp:=fun w vs H Q E=>∀c,a1V (K w.params) c vs H Q E) rfl (by decide) hdf ⟨rfl,by decide,by decide⟩ hY (fun w mg mb fa h mean KX G hm Tp=>?_) (fun w H a ns h1 h2 h3 c=>⟨a,ns,rfl,h3,h2,h1,fun _=>rfl⟩) fun w H s e s' z=>b13 H s e s' z
 obtain⟨fd,TB,hb,hTb,c,hF⟩:=F w mg mb fa h mean KX G hm Tp
 exact⟨fd,TB,hb,hTb,fun base kb nb kp=>(hF base kb nb kp).imp fun vs H Q E z=>⟨z.1,z.2 c⟩⟩
end Law
local macro_rules|`(#check 0)=>do
 let g:=fun(n:Lean.Name)=>do
  let y:=Lean.mkIdent (.str `PySem.W.Fast s!"tw{n.hash}")
  `(theorem $y:ident : True:=trivial)
 let mut r:=#[←g `PySem.Challenge.pw_cratefit_k56_whole_corners]
 for x in ["heap_39","heap_46","heap_222","tree_47","tree_63","tree_111","tree_195","tree_221","sts_49","sts_64","sts_112","sts_196","view_39","env_41"]++(List.range 179).map (s!"o_{·+43}") do r:=r.push (←g (.str `PySem.Challenge.cw_cratefit_k56_whole_corners_holds x))
 return Lean.mkNullNode r
#check 0
open PySem.W
set_option maxRecDepth 100000 in
set_option maxHeartbeats 0 in
theorem PySem.Challenge.cw_cratefit_k56_whole_corners_holds : PySem.Challenge.rw_cratefit_k56_whole_corners.Holds := by
 w_on;o_law;k_head; (case hw=>w_witness2)
 k_fill
 refine Law.walk rfl (fun w h Y=>PySem.W.km_in_of Y) ?F
 case F =>
  intro w mg mb fa h mean KX G hmg Tp
  refine' Law.all_mk KX G hmg Tp ?a_sides_of ?l_sides_of ?c_sides_of ?k_sides_of ?a_lies_of ?l_lies_of ?c_lies_of ?k_lies_of ?a_area_of ?l_area_of ?c_area_of ?k_area_of ?a_by_area ?l_by_area ?c_by_area ?k_by_area ?a_spot_of ?l_spot_of ?c_spot_of ?k_spot_of ?a_apart ?l_apart ?c_apart ?k_apart ?a_lies_in ?l_lies_in ?c_lies_in ?k_lies_in ?a_least_place ?l_least_place ?c_least_place ?k_least_place ?a_cornered_place ?l_cornered_place ?c_cornered_place ?k_cornered_place ?a_cornered ?l_cornered ?c_cornered ?k_cornered ?a_l_whole ?l_l_whole ?c_l_whole ?k_l_whole ?a_l_cell ?l_l_cell ?c_l_cell ?k_l_cell ?a_l_side ?l_l_side ?c_l_side ?k_l_side ?a_l_ware ?l_l_ware ?c_l_ware ?k_l_ware ?a_l_any_ware ?l_l_any_ware ?c_l_any_ware ?k_l_any_ware ?a_l_lies ?l_l_lies ?c_l_lies ?k_l_lies ?a_l_spot ?l_l_spot ?c_l_spot ?k_l_spot ?a_l_free ?l_l_free ?c_l_free ?k_l_free ?a_l_none_less ?l_l_none_less ?c_l_none_less ?k_l_none_less ?a_l_placed ?l_l_placed ?c_l_placed ?k_l_placed ?a_law ?l_law ?c_law ?k_law ?tc_by_area ?tk_by_area ?tp_by_area ?tn_by_area ?tr_by_area ?tc_law ?tk_law ?tp_law ?tn_law ?tr_law ?ne_law_by_area ?z_all ?z_bool ?z_int ?z_isinstance ?z_len ?z_list ?z_range ?z_set ?z_sorted ?z_sum ?z_tuple ?m_BadTurn ?x_BadTurn
  (case a_sides_of=>k_is)
  (case l_sides_of=>k_is)
  (case c_sides_of=>k_is)
  (case k_sides_of=>k_is)
  (case a_lies_of=>k_is)
  (case l_lies_of=>k_is)
  (case c_lies_of=>k_is)
  (case k_lies_of=>k_is)
  (case a_area_of=>k_is)
  (case l_area_of=>k_is)
  (case c_area_of=>k_is)
  (case k_area_of=>k_is)
  (case a_by_area=>k_is)
  (case l_by_area=>k_is)
  (case c_by_area=>k_is)
  (case k_by_area=>k_is)
  (case a_spot_of=>k_is)
  (case l_spot_of=>k_is)
  (case c_spot_of=>k_is)
  (case k_spot_of=>k_is)
  (case a_apart=>k_is)
  (case l_apart=>k_is)
  (case c_apart=>k_is)
  (case k_apart=>k_is)
  (case a_lies_in=>k_is)
  (case l_lies_in=>k_is)
  (case c_lies_in=>k_is)
  (case k_lies_in=>k_is)
  (case a_least_place=>k_is)
  (case l_least_place=>k_is)
  (case c_least_place=>k_is)
  (case k_least_place=>k_is)
  (case a_cornered_place=>k_is)
  (case l_cornered_place=>k_is)
  (case c_cornered_place=>k_is)
  (case k_cornered_place=>k_is)
  (case a_cornered=>k_is)
  (case l_cornered=>k_is)
  (case c_cornered=>k_is)
  (case k_cornered=>k_is)
  (case a_l_whole=>k_is)
  (case l_l_whole=>k_is)
  (case c_l_whole=>k_is)
  (case k_l_whole=>k_is)
  (case a_l_cell=>k_is)
  (case l_l_cell=>k_is)
  (case c_l_cell=>k_is)
  (case k_l_cell=>k_is)
  (case a_l_side=>k_is)
  (case l_l_side=>k_is)
  (case c_l_side=>k_is)
  (case k_l_side=>k_is)
  (case a_l_ware=>k_is)
  (case l_l_ware=>k_is)
  (case c_l_ware=>k_is)
  (case k_l_ware=>k_is)
  (case a_l_any_ware=>k_is)
  (case l_l_any_ware=>k_is)
  (case c_l_any_ware=>k_is)
  (case k_l_any_ware=>k_is)
  (case a_l_lies=>k_is)
  (case l_l_lies=>k_is)
  (case c_l_lies=>k_is)
  (case k_l_lies=>k_is)
  (case a_l_spot=>k_is)
  (case l_l_spot=>k_is)
  (case c_l_spot=>k_is)
  (case k_l_spot=>k_is)
  (case a_l_free=>k_is)
  (case l_l_free=>k_is)
  (case c_l_free=>k_is)
  (case k_l_free=>k_is)
  (case a_l_none_less=>k_is)
  (case l_l_none_less=>k_is)
  (case c_l_none_less=>k_is)
  (case k_l_none_less=>k_is)
  (case a_l_placed=>k_is)
  (case l_l_placed=>k_is)
  (case c_l_placed=>k_is)
  (case k_l_placed=>k_is)
  (case a_law=>k_is)
  (case l_law=>k_is)
  (case c_law=>k_is)
  (case k_law=>k_is)
  (case tc_by_area=>exact rfl)
  (case tk_by_area=>k_is)
  (case tp_by_area=>exact rfl)
  (case tn_by_area=>first | k_is | rfl | decide +kernel)
  (case tr_by_area=>first | rfl | decide +kernel)
  (case tc_law=>exact rfl)
  (case tk_law=>k_is)
  (case tp_law=>exact rfl)
  (case tn_law=>first | k_is | rfl | decide +kernel)
  (case tr_law=>first | rfl | decide +kernel)
  (case ne_law_by_area=>first | decide +kernel | simp)
  (case z_all=>k_is)
  (case z_bool=>k_is)
  (case z_int=>k_is)
  (case z_isinstance=>k_is)
  (case z_len=>k_is)
  (case z_list=>k_is)
  (case z_range=>k_is)
  (case z_set=>k_is)
  (case z_sorted=>k_is)
  (case z_sum=>k_is)
  (case z_tuple=>k_is)
  (case m_BadTurn=>k_is)
  (case x_BadTurn=>kernel_rfl)
