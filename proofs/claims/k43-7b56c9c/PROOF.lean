import PyProof.Rows.All
import Wide.All
import OpenK.AllK
import Wide.FinOn
import Lean
import PyProof.EqAt
import PyProof.EqKinds
import PyProof.TupleCall
import KE.KLam
import KE.KSortKey
import PyProof.ListRange
import PyProof.CollectIter
import PyProof.Rows.RuleB_bool
import PySem.Challenge.RW_cratefit_k43_too_many_too_wide
set_option Elab.async false
set_option linter.all false
set_option maxRecDepth 100000
set_option hygiene false
namespace L2
open PySem PySem.Spec PyProof.Rows
abbrev j4:=Sum Int Str
def a7w:j4→Value→Bool
 | .inl k,v=>Value.isInt k v
 | .inr x,v=>Value.isStrOf x v
def b14(w:World):j4→Int
 | .inl k=>hashInt k
 | .inr x=>hashStr w x
theorem p7:∀{k:j4} {v:Value},a7w k v=true→(∃i t,k=Sum.inl i∧v=Value.int i t)∨(∃x t,k=Sum.inr x∧v=Value.str x t)
 | .inl i,v,h=>by
  obtain⟨t,e⟩:=Value.isInt_shape (k:=i) (v:=v) h
  exact .inl ⟨i,t,rfl,e⟩
 | .inr x,v,h=>by
  obtain⟨t,e⟩:=Value.isStrOf_shape (x:=x) (v:=v) h
  exact .inr ⟨x,t,rfl,e⟩
theorem a9O(a b:Int):decide ((Sum.inl a:j4)=Sum.inl b)=(a == b):=by
 by_cases e:a=b
 ·subst e;simp
 ·have h:¬(Sum.inl a:j4)=Sum.inl b:=fun q=>e (Sum.inl.inj q)
  rw[decide_eq_false h]
  exact(beq_eq_false_iff_ne.mpr e).symm
theorem a9P(a b:Str):decide ((Sum.inr a:j4)=Sum.inr b)=decide (a=b):=by
 by_cases e:a=b
 ·subst e;simp
 ·have h:¬(Sum.inr a:j4)=Sum.inr b:=fun q=>e (Sum.inr.inj q)
  rw[decide_eq_false h,decide_eq_false e]
theorem a9Q(a:Int)(b:Str):decide ((Sum.inl a:j4)=Sum.inr b)=false:=decide_eq_false (fun q=>nomatch q)
theorem a9R(a:Str)(b:Int):decide ((Sum.inr a:j4)=Sum.inl b)=false:=decide_eq_false (fun q=>nomatch q)
def a3C(prog:Program)(w:World):PySem.KeyKind prog w j4 where
 is:=a7w
 hash:=b14 w
 inj:=fun v a b ha hb=>by
  rcases p7 ha with⟨i,t,rfl,rfl⟩ | ⟨x,t,rfl,rfl⟩
  ·rcases p7 hb with⟨j,u,rfl,e⟩ | ⟨y,u,rfl,e⟩
   ·injection e with e1 _;rw[e1]
   ·exact nomatch e
  ·rcases p7 hb with⟨j,u,rfl,e⟩ | ⟨y,u,rfl,e⟩
   ·exact nomatch e
   ·injection e with e1 _;rw[e1]
 byValue:=fun k v h=>by
  rcases p7 h with⟨i,t,rfl,rfl⟩ | ⟨x,t,rfl,rfl⟩<;>rfl
 pyHash:=fun hv h=>by
  rcases p7 hv with⟨i,t,rfl,rfl⟩ | ⟨x,t,rfl,rfl⟩
  ·exact wpAny_pyHash_int h
  ·exact wpAny_pyHash_str h
 eqBool:=fun hu hv h=>by
  rcases p7 hu with⟨i,t,rfl,rfl⟩ | ⟨x,t,rfl,rfl⟩
  ·rcases p7 hv with⟨j,u,rfl,rfl⟩ | ⟨y,u,rfl,rfl⟩
   ·rw[a9O]at h;exact wpAny_eqBool_int h
   ·rw[a9Q]at h;exact SeqAt.EqAt.int_str i t y u _ _ _ _ h
  ·rcases p7 hv with⟨j,u,rfl,rfl⟩ | ⟨y,u,rfl,rfl⟩
   ·rw[a9R]at h;exact SeqAt.EqAt.str_int x t j u _ _ _ _ h
   ·rw[a9P]at h;exact wpAny_eqBool_str h
 «strs» := fun k x t v h=>by
  rcases p7 h with⟨i,u,rfl,e⟩ | ⟨y,u,rfl,e⟩
  ·exact nomatch e
  ·injection e with e1 _
   subst e1
   cases v<;>rfl
inductive V where
 | non | bl (b:Bool) | int (i:Int) | str (x:Str) | byt (b:Array UInt8) | flt (b:UInt64) | ref (a:Addr) | ty (n:String)
 deriving DecidableEq
def RelV:V→Value→Prop
 | .non,u=>u=Value.none
 | .bl b,u=>u=Value.bool b
 | .int i,u=>∃t,u=Value.int i t
 | .str x,u=>∃t,u=Value.str x t
 | .byt b,u=>∃t,u=Value.bytes b t
 | .flt b,u=>∃t,u=Value.float b t
 | .ref a,u=>u=Value.ref a
 | .ty n,u=>u=Value.type n
abbrev Vals:List V→List Value→Prop:=Paired RelV
theorem Vals.length{xs:List V}{us:List Value}(r:Vals xs us):xs.length=us.length:=Paired.length r
theorem Vals.get:∀{xs:List V} {us:List Value} {i:Nat} {x:V},Vals xs us→xs[i]? = some x→∃u,us[i]? = some u∧RelV x u
 | _,_,_,_,.nil,e=>by simp at e
 | _,_,0,_,.cons r _,e=>by simp at e;subst e;exact⟨_,rfl,r⟩
 | _,_,i+1,x,.cons _ t,e=>by
  obtain⟨u,h1,h2⟩:=Vals.get (i:=i) (x:=x) t (by simpa using e)
  exact⟨u,by simpa using h1,h2⟩
theorem Vals.set{x:V}{u:Value}(r:RelV x u):∀{xs:List V} {us:List Value} (i:Nat),Vals xs us→Vals (xs.set i x) (us.set i u)
 | _,_,_,.nil=>.nil
 | _,_,0,.cons _ t=>.cons r t
 | _,_,i+1,.cons q t=>.cons q (Vals.set r i t)
theorem Vals.append:∀{xs ys:List V} {us ws:List Value},Vals xs us→Vals ys ws→Vals (xs++ys) (us++ws)
 | _,_,_,_,.nil,s=>s
 | _,_,_,_,.cons r t,s=>.cons r (Vals.append t s)
theorem Vals.take:∀{xs:List V} {us:List Value} (n:Nat),Vals xs us→Vals (xs.take n) (us.take n)
 | _,_,0,_=>.nil
 | _,_,_+1,.nil=>.nil
 | _,_,n+1,.cons r t=>.cons r (Vals.take n t)
theorem Vals.drop:∀{xs:List V} {us:List Value} (n:Nat),Vals xs us→Vals (xs.drop n) (us.drop n)
 | _,_,0,r=>r
 | _,_,_+1,.nil=>.nil
 | _,_,n+1,.cons _ t=>Vals.drop n t
def RelO:Option V→Option Value→Prop
 | some v,some u=>RelV v u
 | none,none=>True
 | _,_=>False
def KV{κ:Type}:List (κ×V)→List (κ×Value)→Prop:=Paired fun(p:κ×V) (q:κ×Value)=>p.1=q.1∧RelV p.2 q.2
def kV:j4→V
 | .inl i=>.int i
 | .inr x=>.str x
inductive HO where
 /-- a list -/
 | lst (xs:List V)
 /-- a tuple (never changes) -/
 | tup (xs:List V)
 /-- a dict whose keys are ints and texts; one whose keys are tuples of ints and texts (the empty one is both) -/
 | dK (kvs:List (j4×V)) | dT (kvs:List (List j4×V))
 /-- a set of ints: its members, its size -/
 | set (S:Int→Bool) (n:Nat)
 /-- an instance of the class at C, its dict at dx, its attributes -/
 | ins (C dx:Addr) (fs:List (Str×V))
 /-- the dict of the instance at x -/
 | own (x:Addr)
 /-- the dict of an exception -/
 | xd (fs:List (Str×V))
 /-- a bound method, f of x -/
 | met (f x:Addr)
 /-- a range object lo, lo + 1, .. below hi -/
 | rng (lo hi:Int)
 /-- a thing that is known to the object (the script; a dict while a loop walks it): read, never written while it is so -/
 | frz (o:Obj) (u:HO)
 /-- a code object's table -/
 | tbl (ps:Array Value)
 /-- any other thing, by what is true of its one object (a def of one's own: SetO a S n := HO.ext fun h => ..) -/
 | ext (φ:Heap→Prop)
abbrev Hp:=Addr→Option HO
def upd(H:Hp)(a:Addr)(o:HO):Hp:=fun b=>if b=a then some o else H b
theorem c8{H:Hp}{a:Addr}{o:HO}:upd H a o a=some o:=by unfold upd;rw[if_pos rfl]
theorem a7{H:Hp}{a b:Addr}{o:HO}(h:b≠a):upd H a o b=H b:=by unfold upd;rw[if_neg h]
theorem b1m{H:Hp}{a b:Addr}{o u:HO}(h:H a=some o)(h':H b=some u)(d:o≠u):a≠b:=by
 intro e;subst e;rw[h]at h';exact d (Option.some.inj h')
theorem d5{H:Hp}{a b:Addr}{o:HO}(h:H a=some o)(h':H b=none):a≠b:=by
 intro e;subst e;rw[h]at h';cases h'
section
variable (P:Program)(w:World)
def ObjOk(H:Hp)(h:Heap)(a:Addr):HO→Prop
 | .lst xs=>xs.length≤sizeLine∧∃(its:List Value) (n:Nat),Vals xs its∧h.get? a=some { cls:=.type "list",data:=.seq its.toArray n }
 | .tup xs=>xs.length≤sizeLine∧∃its:List Value,Vals xs its∧IsTup h a its.toArray
 | .dK kvs=>kvs.length≤sizeLine∧(a == sysModules)=false∧∃vs,KV kvs vs∧h.DictOf (a3C P w) a vs
 | .dT kvs=>kvs.length≤sizeLine∧(a == sysModules)=false∧∃xs:List (List j4×Addr×Value),
   Paired (fun(p:List j4×V) (q:List j4×Addr×Value)=>p.1=q.1∧H q.2.1=some (.tup (p.1.map kV))∧RelV p.2 q.2.2) kvs xs ∧
   ∃o es ep,h.get? a=some o∧o.ExactDict∧o.data=.dict es ep∧es.toList=xs.map (entryOfKey (tupleKind (a3C P w)))∧(xs.map (·.1)).Nodup
 | .set S n=>h.SetOf (intKind P w) a S n
 | .ins C dx fs=>H dx=some (.own a)∧fs.length≤1000∧dx≠a∧h.get? a=some (W.instObj C dx) ∧
   ∃mA,h.Ns1 dx mA∧(∀f,RelO (fs.lookup f) (mA f))∧PySem.Within mA (fs.map (·.1))
 | .own _=>∃o,h.get? a=some o
 | .xd fs=>∃mA,h.Ns1 a mA∧∀f,RelO (fs.lookup f) (mA f)
 | .rng lo hi=>∃t u v,h.get? a=some { cls:=.type "range",data:=.fields #[.int lo t,.int hi u,.int 1 v] }
 | .frz o u=>h.get? a=some o∧ObjOk H h a u
 | .tbl qs=>∃ps:Array Value,h.get? a=some { cls:=.none,data:=.fields ps }∧TriplesOk ps.toList∧∀pos cv,codeAmong pos ps.toList=some cv→∃c oc u,cv=Value.ref c∧H c=some (.frz oc u)∧∃vs q t t2,oc.data=.fields vs∧vs[1]? = some (Value.str q t2)∧qs[0]? = some (Value.str q t)
 | .met f x=>h.get? a=some (W.methodObj (.ref f) (.ref x))
 | .ext φ=>φ h∧(∃o,h.get? a=some o)∧∀h1 h2:Heap,φ h1→(∀o,h1.get? a=some o→h2.get? a=some o)→φ h2
def HOk(H:Hp)(h:Heap):Prop:=∀a o,H a=some o→ObjOk P w H h a o
end
section
variable {P:Program}{w:World}{H H':Hp}{h h':Heap}{a:Addr}{o:HO}
theorem ObjOk.lt(x:ObjOk P w H h a o):a<h.objs.size:=by
 cases o with
 | lst xs=>obtain⟨_,_,_,_,e⟩:=x;exact Heap.lt_size e
 | tup xs=>obtain⟨_,_,_,p⟩:=x;exact p.lt
 | dK kvs=>obtain⟨_,_,_,_,o,_,_,e,_⟩:=x;exact Heap.lt_size e
 | dT kvs=>obtain⟨_,_,_,_,o,_,_,e,_⟩:=x;exact Heap.lt_size e
 | set S n=>obtain⟨o,_,_,_,e,_⟩:=x;exact Heap.lt_size e
 | ins C dx fs=>obtain⟨_,_,_,e,_⟩:=x;exact Heap.lt_size e
 | own y=>obtain⟨_,e⟩:=x;exact Heap.lt_size e
 | xd fs=>obtain⟨_,⟨_,_,_,e,_⟩,_⟩:=x;exact Heap.lt_size e
 | rng lo hi=>obtain⟨_,_,_,e⟩:=x;exact Heap.lt_size e
 | frz ob u=>obtain⟨e,_⟩:=x;exact Heap.lt_size e
 | tbl ps=>obtain⟨_,e,_⟩:=x;exact Heap.lt_size e
 | met f y=>exact Heap.lt_size (show h.get? a=some _ from x)
 | ext φ=>obtain⟨_,⟨_,e⟩,_⟩:=x;exact Heap.lt_size e
theorem Paired.mapP{α β:Type}{F G:α→β→Prop}:∀{l₁:List α} {l₂:List β},Paired F l₁ l₂→(∀a b,F a b→G a b)→Paired G l₁ l₂
 | _,_,.nil,_=>.nil
 | _,_,.cons r t,f=>.cons (f _ _ r) (Paired.mapP t f)
theorem ObjOk.stay(x:ObjOk P w H h a o)(k:∀b u,(b=a∨H b=some (.own a))→h.get? b=some u→h'.get? b=some u)
  (ho:∀b,H b=some (.own a)→H' b=some (.own a)) (ht:∀b xs,H b=some (.tup xs)→H' b=some (.tup xs)) (hz:∀b ob u,H b=some (.frz ob u)→H' b=some (.frz ob u)):ObjOk P w H' h' a o:=by
 induction o with
 | lst xs=>obtain⟨z,its,n,r,e⟩:=x;exact⟨z,its,n,r,k _ _ (.inl rfl) e⟩
 | tup xs=>obtain⟨z,its,r,ob,e,c⟩:=x;exact⟨z,its,r,ob,k _ _ (.inl rfl) e,c⟩
 | dK kvs=>obtain⟨z,y,vs,r,ob,es,ep,e,c⟩:=x;exact⟨z,y,vs,r,ob,es,ep,k _ _ (.inl rfl) e,c⟩
 | dT kvs =>
  obtain⟨z,y,xs,r,ob,es,ep,e,c⟩:=x
  exact⟨z,y,xs,Paired.mapP r fun p q z=>⟨z.1,ht _ _ z.2.1,z.2.2⟩,ob,es,ep,k _ _ (.inl rfl) e,c⟩
 | set S n=>obtain⟨ob,es,ep,t,e,c⟩:=x;exact⟨ob,es,ep,t,k _ _ (.inl rfl) e,c⟩
 | ins C dx fs =>
  obtain⟨d,z,ne,e,mA,⟨od,es,ep,e2,c⟩,r⟩:=x
  exact⟨ho _ d,z,ne,k _ _ (.inl rfl) e,mA,⟨od,es,ep,k _ _ (.inr d) e2,c⟩,r⟩
 | own y=>obtain⟨ob,e⟩:=x;exact⟨ob,k _ _ (.inl rfl) e⟩
 | xd fs=>obtain⟨mA,⟨od,es,ep,e,c⟩,r⟩:=x;exact⟨mA,⟨od,es,ep,k _ _ (.inl rfl) e,c⟩,r⟩
 | rng lo hi=>obtain⟨t,u,v,e⟩:=x;exact⟨t,u,v,k _ _ (.inl rfl) e⟩
 | frz ob u ih=>obtain⟨e,q⟩:=x;exact⟨k _ _ (.inl rfl) e,ih q⟩
 | tbl qs =>
  obtain⟨ps,e,tr,al⟩:=x
  refine⟨ps,k a _ (.inl rfl) e,tr,fun pos cv q=>?_⟩
  obtain⟨c,oc,u,e1,e3,r⟩:=al pos cv q
  exact⟨c,oc,u,e1,hz _ _ _ e3,r⟩
 | met f y =>
  have e:h.get? a=some (W.methodObj (.ref f) (.ref y)):=x
  show h'.get? a=some (W.methodObj (.ref f) (.ref y))
  exact k a _ (.inl rfl) e
 | ext φ=>obtain⟨p,⟨o,e⟩,st⟩:=x;exact⟨st _ _ p fun o q=>k _ _ (.inl rfl) q,⟨o,k _ _ (.inl rfl) e⟩,st⟩
theorem HOk.lt(x:HOk P w H h)(e:H a=some o):a<h.objs.size:=(x a o e).lt
theorem HOk.fresh(x:HOk P w H h)(e:h.objs.size≤a):H a=none:=by
 cases q:H a with
 | none=>rfl
 | some u=>exact absurd (Nat.lt_of_lt_of_le (x.lt q) e) (Nat.lt_irrefl _)
theorem HOk.kept(x:HOk P w H h)(k:∀b u,h.get? b=some u→h'.get? b=some u):HOk P w H h':=fun a o e =>
 (x a o e).stay (fun b u _ q=>k b u q) (fun _ q=>q) (fun _ _ q=>q) fun _ _ _ q=>q
theorem HOk.laid(x:HOk P w H h)(k:∀b u,h.get? b=some u→h'.get? b=some u)(hp:h.objs.size≤a)(new:ObjOk P w (upd H a o) h' a o):HOk P w (upd H a o) h':=fun b u e=>by
 have hn:=x.fresh hp
 by_cases hb:b=a
 ·subst hb;rw[c8]at e;cases e;exact new
 ·rw[a7 hb]at e
  exact(x b u e).stay (fun c v _ q=>k c v q) (fun c q=>by rw[a7 (d5 q hn)];exact q) (fun c xs q=>by rw[a7 (d5 q hn)];exact q) fun c ob u q=>by rw[a7 (d5 q hn)];exact q
end
def Rd(H:Hp)(a:Addr)(u:HO):Prop:=H a=some u∨∃o,H a=some (.frz o u)
theorem Rd.of{H:Hp}{a:Addr}{u:HO}(h:H a=some u):Rd H a u:=.inl h
theorem Rd.ok{P:Program}{w:World}{H:Hp}{h:Heap}{a:Addr}{u:HO}(r:Rd H a u)(x:HOk P w H h):ObjOk P w H h a u:=by
 rcases r with r | ⟨o,r⟩
 ·exact x a u r
 ·obtain⟨_,q⟩:=x a _ r
  exact q
def Mut:Option HO→Prop
 | some (.lst _)=>True
 | some (.dK _)=>True
 | some (.dT _)=>True
 | some (.set _ _)=>True
 | some (.ins _ _ _)=>True
 | some (.ext _)=>True
 | _=>False
section
variable {P:Program}{w:World}{H:Hp}{h h':Heap}{x e:Addr}{o':HO}
theorem HOk.write(ok:HOk P w H h)(mu:Mut (H x))(he:e=x∨H e=some (.own x))(k:∀b u,b≠e→h.get? b=some u→h'.get? b=some u)(heo:∃u,h'.get? e=some u)
  (new:ObjOk P w (upd H x o') h' x o'):HOk P w (upd H x o') h':=fun b u q=>by
 have nown:∀c y,H c=some (.own y)→c≠x:=fun c y r z=>by subst z;rw[r]at mu;exact mu
 have ntup:∀c xs,H c=some (.tup xs)→c≠x:=fun c xs r z=>by subst z;rw[r]at mu;exact mu
 by_cases hb:b=x
 ·subst hb;rw[c8]at q;cases q;exact new
 ·rw[a7 hb]at q
  by_cases hbe:b=e
  ·have q':H b=some (.own x):=by
    rcases he with z | z
    ·exact absurd (hbe.trans z) hb
    ·rw[hbe];exact z
   rw[q]at q';cases q'
   obtain⟨v,hv⟩:=heo
   exact⟨v,by rw[hbe];exact hv⟩
  ·refine(ok b u q).stay (fun c v hc r=>k c v ?_ r) (fun c r=>by rw[a7 (nown c b r)];exact r) (fun c xs r=>by rw[a7 (ntup c xs r)];exact r) fun c ob u r=>by rw[a7 (fun z=>by subst z;rw[r]at mu;exact mu)];exact r
   rcases hc with rfl | hc
   ·exact hbe
   ·rintro rfl
    rcases he with z | z
    ·exact nown c b hc z
    ·rw[hc]at z;cases z;exact hb rfl
end
structure Un(fs ex:List Addr)(H H':Hp)(h h':Heap):Prop where
 keep:∀b o,h.get? b=some o→H b=none→b ∉ fs→b ∉ ex→h'.get? b=some o
 slot:∀b o,h.get? b=some o→H b=none→b∈fs→b ∉ ex→∃sl,h'.get? b=some { o with slots:=sl }
 free:∀b o,h.get? b=some o→H b=none→b ∉ ex→H' b=none
 there:∀b o,h.get? b=some o→b ∉ ex→∃o',h'.get? b=some o'
 tups:∀b xs,H b=some (.tup xs)→H' b=some (.tup xs)
 frzs:∀b o u,H b=some (.frz o u)→H' b=some (.frz o u)
 tbls:∀b ps,H b=some (.tbl ps)→∃more,H' b=some (.tbl (ps++more))
section
variable {fs fs' ex ex':List Addr}{H H1 H2:Hp}{h h1 h2 h':Heap}{a x e:Addr}{o:HO}
theorem Un.any(u:Un fs ex H H1 h h1){b:Addr}{ob:Obj}(q:h.get? b=some ob)(n:H b=none)(hx:b ∉ ex):∃sl,h1.get? b=some { ob with slots:=sl }:=by
 by_cases hb:b∈fs
 ·exact u.slot b ob q n hb hx
 ·exact⟨ob.slots,u.keep b ob q n hb hx⟩
theorem Un.trans(a:Un fs ex H H1 h h1)(b:Un fs ex H1 H2 h1 h2):Un fs ex H H2 h h2 where
 keep:=fun c ob q n hc hx=>b.keep c ob (a.keep c ob q n hc hx) (a.free c ob q n hx) hc hx
 slot:=fun c ob q n hc hx=>by
  obtain⟨sl,e1⟩:=a.slot c ob q n hc hx
  obtain⟨sl',e2⟩:=b.slot c _ e1 (a.free c ob q n hx) hc hx
  exact⟨sl',e2⟩
 free:=fun c ob q n hx=>by
  obtain⟨o',e1⟩:=a.there c ob q hx
  exact b.free c o' e1 (a.free c ob q n hx) hx
 there:=fun c ob q hx=>by
  obtain⟨o',e1⟩:=a.there c ob q hx
  exact b.there c o' e1 hx
 tups:=fun c xs q=>b.tups c xs (a.tups c xs q)
 frzs:=fun c ob xs q=>b.frzs c ob xs (a.frzs c ob xs q)
 tbls:=fun c ps q=>by
  obtain⟨m1,e1⟩:=a.tbls c ps q
  obtain⟨m2,e2⟩:=b.tbls c _ e1
  exact⟨m1++m2,by rw[e2,Array.append_assoc]⟩
theorem Un.kept(k:∀b u,h.get? b=some u→h'.get? b=some u):Un fs ex H H h h' :=
 ⟨fun b ob q _ _ _=>k b ob q,fun b ob q _ _ _=>⟨ob.slots,k b ob q⟩,fun _ _ _ n _=>n,fun b ob q _=>⟨ob,k b ob q⟩,fun _ _ q=>q,fun _ _ _ q=>q,fun _ ps q=>⟨#[],by rw[q];simp⟩⟩
theorem Un.refl:Un fs ex H H h h:=Un.kept fun _ _ q=>q
theorem Un.laid(k:∀b u,h.get? b=some u→h'.get? b=some u)(hp:h.objs.size≤a)(hn:H a=none):Un fs ex H (upd H a o) h h' where
 keep:=fun b u q _ _ _=>k b u q
 slot:=fun b u q _ _ _=>⟨u.slots,k b u q⟩
 free:=fun b u q n _=>by rw[a7 (Nat.ne_of_lt (Nat.lt_of_lt_of_le (Heap.lt_size q) hp))];exact n
 there:=fun b u q _=>⟨u,k b u q⟩
 tups:=fun b xs q=>by rw[a7 (d5 q hn)];exact q
 frzs:=fun b u xs q=>by rw[a7 (d5 q hn)];exact q
 tbls:=fun b ps q=>⟨#[],by rw[a7 (d5 q hn),q];simp⟩
theorem Un.write(mu:Mut (H x))(he:e=x∨H e=some (.own x))(k:∀b u,b≠e→h.get? b=some u→h'.get? b=some u)(heo:∃u,h'.get? e=some u):Un fs ex H (upd H x o) h h':=by
 have hx:∀b,H b=none→b≠x:=fun b n z=>by subst z;rw[n]at mu;exact mu
 have hb:∀b,H b=none→b≠e:=fun b n z=>by
  subst z
  rcases he with r | r
  ·exact hx b n r
  ·rw[n]at r;cases r
 have hm:∀b u,H b=some u→¬Mut (some u)→b≠x:=fun b u q nm z=>by subst z;rw[q]at mu;exact nm mu
 refine⟨fun b u q n _ _=>k b u (hb b n) q,fun b u q n _ _=>⟨u.slots,k b u (hb b n) q⟩,fun b u q n _=>by rw[a7 (hx b n)];exact n,fun b u q _=>?_,
  fun b xs q=>by rw[a7 (hm b _ q fun z=>z)];exact q,fun b u xs q=>by rw[a7 (hm b _ q fun z=>z)];exact q,fun b ps q=>⟨#[],by rw[a7 (hm b _ q fun z=>z),q];simp⟩⟩
 by_cases hbe:b=e
 ·subst hbe;exact heo
 ·exact⟨u,k b u hbe q⟩
theorem Un.mono(u:Un fs ex H H1 h h1)(hs:∀b∈fs,b∈fs')(hx:∀b∈ex,b∈ex'):Un fs' ex' H H1 h h1 :=
 ⟨fun b ob q n hb he=>u.keep b ob q n (fun z=>hb (hs b z)) fun z=>he (hx b z),fun _ _ q n _ he=>u.any q n fun z=>he (hx _ z),fun b ob q n he=>u.free b ob q n fun z=>he (hx b z),fun b ob q he=>u.there b ob q fun z=>he (hx b z),u.tups,u.frzs,u.tbls⟩
end
def trk(h:Heap)(H:Hp):List Addr:=(List.range h.objs.size).filter fun a=>(H a).isSome
def S9(h:Heap)(H:Hp):Heap:=W.hideAll h (trk h H)
theorem a45(h:Heap)(H:Hp):(S9 h H).objs.size=h.objs.size:=W.hideAll_size _ _
theorem a6e{h:Heap}{H:Hp}{b:Addr}{o:Obj}(e:h.get? b=some o)(n:H b=none):(S9 h H).get? b=some o :=
 W.hideAll_get _ e fun hm=>by
  have q:(H b).isSome=true:=(List.mem_filter.mp hm).2
  rw[n]at q;simp at q
theorem a8c{h:Heap}{H:Hp}{b:Addr}{o:Obj}(e:(S9 h H).get? b=some o):h.get? b=some o∧H b=none:=by
 have e':h.get? b=some o:=W.of_hideAll (trk h H) e
 refine⟨e',?_⟩
 cases q:H b with
 | none=>rfl
 | some x =>
  have hm:b∈trk h H:=List.mem_filter.mpr ⟨List.mem_range.mpr (Heap.lt_size e'),by simp[q]⟩
  have z:(S9 h H).get? b=none:=W.hideAll_none (trk h H) hm
  rw[z]at e;cases e
def a8d(g h:Heap)(L:Addr):List (Addr×Obj):=(List.range h.objs.size).filterMap fun a=>if a=L∨(g.get? a).isSome=true then none else(h.get? a).map fun o=>(a,o)
def b7(g h:Heap)(L d:Addr):List (Addr×Obj):=(a8d g h L).filter fun p=>decide (p.1≠d)
structure Mod(K:W.Frag)(mg:Str→Option Value)(base:Heap):Prop where
 kin:K.In base
 glob:base.Ns mainGlobals mg
 blt:∃mb,base.Ns builtinsNs mb∧∀x:Str,x≠"__name__"→mb x=bootBuiltins x
 nolimit:base.NoLimit
structure Cx where
 prog:Program
 w:World
 K:W.Frag
 mg:Str→Option Value
 base:Heap
 A:Around
 N:List Str
 s₀:Shared
 H₀:Hp
 env:Env
 outer:List Env
 stack:List Env
 ex:List Addr
 fn:Str→Bool
 calm:Bool
 pn:List (Addr×Obj)
 xe:Value→Shared→Prop
def x8(l:List Env):List Addr:=l.filterMap (·.frame)
abbrev Cx.fs(X:Cx):List Addr:=x8 X.outer
def Vis(sc:Scope)(x:Str):Prop:=sc.names.lookup x=some .local∨sc.names.lookup x=some .cell∨sc.names.lookup x=some .free
def Loc(sc:Scope)(x:Str):Prop:=sc.names.lookup x=some .local∨sc.names.lookup x=some .cell
def b15(env:Env)(h:Heap)(m:Str→Option Value)(x:Str)(u:Value):Prop :=
 (env.kindOf x=some .local∧m x=some u)∨((env.kindOf x=some .cell∨env.kindOf x=some .free)∧∃c,env.cells.lookup x=some c∧h.IsCell c (some u))
structure Cx.Ok(X:Cx):Prop where
 mod:Mod X.K X.mg X.base
 kind:X.env.scope.kind=.function
 glob:X.env.globals=mainGlobals
 blt:X.env.builtins=builtinsNs
 above:X.s₀.heap.objs.size≤X.env.locals
 inj:∀x y c,X.env.cells.lookup x=some c→X.env.cells.lookup y=some c→x=y
 has:∀x,(X.env.kindOf x=some .cell∨X.env.kindOf x=some .free)→∃c,X.env.cells.lookup x=some c
 cab:∀x c,X.fn x=true→X.env.cells.lookup x=some c→X.s₀.heap.objs.size≤c
 hd:X.calm=true→X.A.handled=none
 frames:X.A.frames=some X.stack
 stk:X.stack=X.outer∨(X.stack=X.env::X.outer∧X.env.frame=some X.env.locals)
 exf:∀b∈X.ex,b≠X.env.locals∧∀x c,X.env.cells.lookup x=some c→c≠b
 bs:∀b o,X.base.get? b=some o→X.s₀.heap.get? b=some o∧X.H₀ b=none
 bsz:X.base.objs.size≤X.s₀.heap.objs.size
 noex:∀b o,X.base.get? b=some o→b ∉ X.ex
 exfs:∀b∈X.ex,b ∉ X.fs
 funs:X.s₀.heap.FunFrames X.base X.outer
 frf:∀b∈X.fs,X.H₀ b=none
structure Inv(X:Cx)(pins:List (Addr×Obj))(σ:List (Option V))(H:Hp)(s:Shared):Prop where
 ok:X.Ok
 os:s.os=X.s₀.os
 bare:AllBare s.gens
 base:Un X.fs X.ex X.H₀ H X.s₀.heap s.heap
 loc:∃m,s.heap.Ns X.env.locals m∧∀(i:Nat) (x:Str) (v:V),X.N[i]? = some x→σ[i]? = some (some v)→Vis X.env.scope x→∃u,RelV v u∧b15 X.env s.heap m x u
 cell:∀x c,X.env.cells.lookup x=some c→∃v,s.heap.IsCell c v
 free:H X.env.locals=none
 freeC:∀x c,X.env.cells.lookup x=some c→H c=none
 pin:∀p∈X.pn++pins,s.heap.get? p.1=some p.2∧H p.1=none∧p.1≠X.env.locals∧p.1 ∉ X.fs∧∀v,p.2.data≠.cell v
 hok:HOk X.prog X.w H s.heap
 len:σ.length=X.N.length
section
variable {X:Cx}{pins:List (Addr×Obj)}{σ:List (Option V)}{H H':Hp}{s:Shared}{h':Heap}
theorem Cx.Ok.nofr(ok:X.Ok){b:Addr}{o:Obj}(e:X.base.get? b=some o):b ∉ X.fs:=fun hb=>by
 have:=(ok.funs.mem hb).1
 rw[e]at this;cases this
theorem Inv.bs(I:Inv X pins σ H s):∀b o,X.base.get? b=some o→s.heap.get? b=some o∧H b=none:=fun b o e =>
 ⟨I.base.keep b o (I.ok.bs b o e).1 (I.ok.bs b o e).2 (I.ok.nofr e) (I.ok.noex b o e),I.base.free b o (I.ok.bs b o e).1 (I.ok.bs b o e).2 (I.ok.noex b o e)⟩
theorem Inv.bk(I:Inv X pins σ H s):∀b o,X.base.get? b=some o→s.heap.get? b=some o:=fun b o e=>(I.bs b o e).1
theorem Inv.mod(I:Inv X pins σ H s):Mod X.K X.mg X.base:=I.ok.mod
theorem Inv.kIn(I:Inv X pins σ H s):X.K.In s.heap:=I.ok.mod.kin.keeps I.bk
theorem Inv.nolimit(I:Inv X pins σ H s):s.heap.NoLimit:=I.ok.mod.nolimit.keeps I.bk
theorem Inv.fr(I:Inv X pins σ H s):∃m,Fr X.base X.env.locals s.heap m :=
 let ⟨m,hn,_⟩:=I.loc
 ⟨m,hn,I.bk,Nat.le_trans I.ok.bsz I.ok.above⟩
theorem Inv.lt(I:Inv X pins σ H s):X.env.locals<s.heap.objs.size:=let ⟨_,hn,_⟩:=I.loc;hn.lt
theorem Inv.sz(I:Inv X pins σ H s):X.s₀.heap.objs.size≤s.heap.objs.size:=Nat.le_trans I.ok.above (Nat.le_of_lt I.lt)
theorem Inv.nofs(I:Inv X pins σ H s){a:Addr}(h:s.heap.objs.size≤a):a ∉ X.fs:=fun hb=>by
 obtain⟨_,o,ho,_⟩:=I.ok.funs.mem hb
 exact absurd (Nat.lt_of_lt_of_le (Heap.lt_size ho) (Nat.le_trans I.sz h)) (Nat.lt_irrefl _)
theorem Inv.cne(I:Inv X pins σ H s):∀x c,X.env.cells.lookup x=some c→c≠X.env.locals:=fun x c e z=>by
 obtain⟨v,o,ho,hd⟩:=I.cell x c e
 obtain⟨m,⟨o',es,ep,ho',hd',_⟩,_⟩:=I.loc
 rw[z,ho']at ho;cases ho;rw[hd']at hd;cases hd
theorem Inv.funs(I:Inv X pins σ H s):s.heap.FunFrames X.base X.outer:=by
 have all:∀(l:List Env),(∀b∈x8 l,b∈X.fs)→X.s₀.heap.FunFrames X.base l→s.heap.FunFrames X.base l:=by
  intro l
  induction l with
  | nil=>intro _ _;trivial
  | cons env r ih =>
   intro hs hl
   obtain⟨hk,⟨L,o,hf,hn,ho,hd⟩,hr⟩:=hl
   have hL:L∈X.fs:=hs L (by unfold x8;rw[List.filterMap_cons,hf];exact List.mem_cons_self)
   obtain⟨sl,e⟩:=I.base.slot L o ho (I.ok.frf L hL) hL fun z=>I.ok.exfs L z hL
   exact⟨hk,⟨L,_,hf,hn,e,hd⟩,ih (fun b hb=>hs b (by unfold x8;rw[List.filterMap_cons,hf];exact List.mem_cons_of_mem _ hb)) hr⟩
 exact all X.outer (fun _ hb=>hb) I.ok.funs
theorem Inv.stack(I:Inv X pins σ H s):s.heap.FunFrames X.base X.stack:=by
 rcases I.ok.stk with e | ⟨e,hf⟩
 ·rw[e];exact I.funs
 ·rw[e]
  obtain⟨m,hn,_⟩:=I.loc
  refine .cons (by rw[I.ok.kind];decide) hf hn ?_ I.funs
  exact Heap.get?_none_of_le (Nat.le_trans I.ok.bsz I.ok.above)
theorem Inv.stkSub(I:Inv X pins σ H s):∀b∈x8 X.stack,b∈X.env.locals::X.fs:=fun b hb=>by
 rcases I.ok.stk with e | ⟨e,hf⟩
 ·rw[e]at hb;exact List.mem_cons_of_mem _ hb
 ·rw[e]at hb
  unfold x8 at hb
  rw[List.filterMap_cons,hf]at hb
  exact hb
theorem Inv.stkFree(I:Inv X pins σ H s):∀b∈x8 X.stack,H b=none:=fun b hb=>by
 rcases List.mem_cons.mp (I.stkSub b hb)with e | hb
 ·rw[e];exact I.free
 ·obtain⟨_,o,ho,_⟩:=I.ok.funs.mem hb
  exact I.base.free b o ho (I.ok.frf b hb) fun z=>I.ok.exfs b z hb
theorem Inv.step{g':Array GenState}{t':Nat}{d':Drawn}{ch:List Addr}(I:Inv X pins σ H s)
  (hch:∀b∈ch,(b∈X.ex∨X.s₀.heap.objs.size≤b)∧b≠X.env.locals∧(∀x c,X.env.cells.lookup x=some c→c≠b)∧∀p∈X.pn++pins,p.1≠b)
  (keep:∀b o,b≠X.env.locals→b ∉ X.fs→b ∉ ch→s.heap.get? b=some o→H b=none→h'.get? b=some o)
  (slot:∀b o,b≠X.env.locals→b∈X.fs→b ∉ ch→s.heap.get? b=some o→H b=none→∃sl,h'.get? b=some { o with slots:=sl }) (free:∀b o,b ∉ ch→s.heap.get? b=some o→H b=none→H' b=none)
  (there:∀b o,b ∉ ch→s.heap.get? b=some o→∃o',h'.get? b=some o')
  (tups:∀b xs,H b=some (.tup xs)→H' b=some (.tup xs)) (frzs:∀b o u,H b=some (.frz o u)→H' b=some (.frz o u)) (tbls:∀b ps,H b=some (.tbl ps)→∃more,H' b=some (.tbl (ps++more)))
  (ns:∀m,s.heap.Ns X.env.locals m→h'.Ns X.env.locals m) (hok:HOk X.prog X.w H' h') (hg:AllBare g') :
  Inv X pins σ H' { s with heap:=h',gens:=g',drawn:=d',toks:=t' }:=by
 have neL:∀b o,X.s₀.heap.get? b=some o→b≠X.env.locals:=fun b o e=>Nat.ne_of_lt (Nat.lt_of_lt_of_le (Heap.lt_size e) I.ok.above)
 have neC:∀b o,X.s₀.heap.get? b=some o→b ∉ X.ex→b ∉ ch:=fun b o e hx hb=>by
  rcases(hch b hb).1 with z | z
  ·exact hx z
  ·exact absurd (Nat.lt_of_lt_of_le (Heap.lt_size e) z) (Nat.lt_irrefl _)
 have cellK:∀x c,X.env.cells.lookup x=some c→∀v,s.heap.IsCell c v→h'.IsCell c v:=fun x c e v ⟨o,ho,hd⟩=>by
  have nch:c ∉ ch:=fun z=>(hch c z).2.2.1 x c e rfl
  by_cases hc:c∈X.fs
  ·obtain⟨sl,q⟩:=slot c o (I.cne x c e) hc nch ho (I.freeC x c e)
   exact⟨_,q,hd⟩
  ·exact⟨o,keep c o (I.cne x c e) hc nch ho (I.freeC x c e),hd⟩
 refine⟨I.ok,I.os,hg,⟨fun b o e n hb hx=>?_,fun b o e n hb hx=>?_,fun b o e n hx=>?_,fun b o e hx=>?_,fun b xs e=>tups b xs (I.base.tups b xs e),fun b o xs e=>frzs b o xs (I.base.frzs b o xs e),fun b ps e=>?_⟩,?_,fun x c e=>?_,?_,fun x c e=>?_,fun p hp=>?_,hok,I.len⟩
 ·exact keep b o (neL b o e) hb (neC b o e hx) (I.base.keep b o e n hb hx) (I.base.free b o e n hx)
 ·obtain⟨sl,e1⟩:=I.base.slot b o e n hb hx
  obtain⟨sl',e2⟩:=slot b _ (neL b o e) hb (neC b o e hx) e1 (I.base.free b o e n hx)
  exact⟨sl',e2⟩
 ·obtain⟨o',e1⟩:=I.base.there b o e hx
  exact free b o' (neC b o e hx) e1 (I.base.free b o e n hx)
 ·obtain⟨o',e1⟩:=I.base.there b o e hx
  exact there b o' (neC b o e hx) e1
 ·obtain⟨m1,e1⟩:=I.base.tbls b ps e
  obtain⟨m2,e2⟩:=tbls b _ e1
  exact⟨m1++m2,by rw[e2,Array.append_assoc]⟩
 ·obtain⟨m,hn,hl⟩:=I.loc
  refine⟨m,ns m hn,fun i x v e1 e2 e3=>?_⟩
  obtain⟨u,r,l⟩:=hl i x v e1 e2 e3
  refine⟨u,r,?_⟩
  rcases l with l | ⟨k,c,e,z⟩
  ·exact .inl l
  ·exact .inr ⟨k,c,e,cellK x c e _ z⟩
 ·obtain⟨v,z⟩:=I.cell x c e
  exact⟨v,cellK x c e v z⟩
 ·obtain⟨m,⟨o,_,_,ho,_⟩,_⟩:=I.loc
  exact free _ o (fun z=>(hch _ z).2.1 rfl) ho I.free
 ·obtain⟨v,o,ho,hd⟩:=I.cell x c e
  exact free c o (fun z=>(hch c z).2.2.1 x c e rfl) ho (I.freeC x c e)
 ·obtain⟨e,n,ne,nf,d⟩:=I.pin p hp
  have nch:p.1 ∉ ch:=fun z=>(hch p.1 z).2.2.2 p hp rfl
  exact⟨keep p.1 p.2 ne nf nch e n,free p.1 p.2 nch e n,ne,nf,d⟩
theorem Inv.un{t':Nat}(I:Inv X pins σ H s)(u:Un X.fs [] H H' s.heap h')(hok:HOk X.prog X.w H' h'):Inv X pins σ H' { s with heap:=h',toks:=t' }:=by
 obtain⟨m,⟨o,es,ep,ho,r⟩,_⟩:=id I.loc
 obtain⟨sl,hL⟩:=u.any ho I.free (by simp)
 exact I.step (g':=s.gens) (d':=s.drawn) (ch:=[]) (fun _ z=>nomatch z) (fun b o _ hb _ e n=>u.keep b o e n hb (by simp)) (fun b o _ hb _ e n=>u.slot b o e n hb (by simp)) (fun b o _ e n=>u.free b o e n (by simp)) (fun b o _ e=>u.there b o e (by simp)) u.tups u.frzs u.tbls (fun m' hm=>by
  obtain⟨o',es',ep',ho',r'⟩:=hm
  rw[ho]at ho';cases ho'
  exact⟨_,es',ep',hL,r'⟩) hok I.bare
theorem Inv.call{g':Array GenState}{t':Nat}{d':Drawn}{ch:List Addr}(I:Inv X pins σ H s)(u:Un (x8 X.stack) ch H H' s.heap h')(hok:HOk X.prog X.w H' h')(hg:AllBare g')
  (hch:∀b∈ch,(b∈X.ex∨X.s₀.heap.objs.size≤b)∧b≠X.env.locals∧(∀x c,X.env.cells.lookup x=some c→c≠b)∧∀p∈X.pn++pins,p.1≠b) :
  Inv X pins σ H' { s with heap:=h',gens:=g',drawn:=d',toks:=t' }:=by
 obtain⟨m,⟨o,es,ep,ho,r⟩,_⟩:=id I.loc
 obtain⟨sl,hL⟩:=u.any ho I.free fun z=>(hch _ z).2.1 rfl
 exact I.step (ch:=ch) hch (fun b o hL hb hc e n=>u.keep b o e n (fun z=>(List.mem_cons.mp (I.stkSub b z)).elim hL hb) hc) (fun b o _ _ hc e n=>u.any e n hc) (fun b o hc e n=>u.free b o e n hc) (fun b o hc e=>u.there b o e hc) u.tups u.frzs u.tbls (fun m' hm=>by
  obtain⟨o',es',ep',ho',r'⟩:=hm
  rw[ho]at ho';cases ho'
  exact⟨_,es',ep',hL,r'⟩) hok hg
theorem Inv.turned{t':Nat}{it:Addr}(I:Inv X pins σ H s)(k:∀b o,b≠it→s.heap.get? b=some o→h'.get? b=some o)(hn:H it=none)(hL:it≠X.env.locals)
  (h1:it∈X.ex∨X.s₀.heap.objs.size≤it) (h2:∀x c,X.env.cells.lookup x=some c→c≠it) (h3:∀p∈X.pn++pins,p.1≠it):Inv X pins σ H { s with heap:=h',toks:=t' }:=by
 have nit:∀b u,H b=some u→b≠it:=fun b u e z=>by rw[z,hn]at e;cases e
 refine I.step (g':=s.gens) (d':=s.drawn) (ch:=[it]) (fun b hb=>?_) (fun b o _ _ hc e _=>k b o (fun z=>hc (by simp[z])) e) (fun b o _ _ hc e _=>⟨o.slots,k b o (fun z=>hc (by simp[z])) e⟩) (fun _ _ _ _ n=>n)
  (fun b o hc e=>⟨o,k b o (fun z=>hc (by simp[z])) e⟩) (fun _ _ e=>e) (fun _ _ _ e=>e) (fun b ps e=>⟨#[],by rw[e];simp⟩) (fun m hm=>?_) (fun b u e=>?_) I.bare
 ·have e:b=it:=by simpa using hb
  subst e
  exact⟨h1,hL,h2,h3⟩
 ·obtain⟨o,es,ep,ho,r⟩:=hm
  exact⟨o,es,ep,k _ o (Ne.symm hL) ho,r⟩
 ·refine(I.hok b u e).stay (fun c v hc q=>k c v ?_ q) (fun _ q=>q) (fun _ _ q=>q) fun _ _ _ q=>q
  rcases hc with z | z
  ·rw[z];exact nit b u e
  ·exact nit c _ z
theorem Inv.tok(I:Inv X pins σ H s)(t:Nat):Inv X pins σ H { s with toks:=t }:=I.un (h':=s.heap) (t':=t) Un.refl I.hok
theorem Inv.kept{t':Nat}(I:Inv X pins σ H s)(k:∀b u,s.heap.get? b=some u→h'.get? b=some u):Inv X pins σ H { s with heap:=h',toks:=t' }:=I.un (Un.kept k) (I.hok.kept k)
theorem Inv.laid{a:Addr}{o:HO}{t':Nat}(I:Inv X pins σ H s)(k:∀b u,s.heap.get? b=some u→h'.get? b=some u)(hp:s.heap.objs.size≤a)(new:ObjOk X.prog X.w (upd H a o) h' a o) :
  Inv X pins σ (upd H a o) { s with heap:=h',toks:=t' }:=I.un (Un.laid k hp (I.hok.fresh hp)) (I.hok.laid k hp new)
theorem Inv.write{x e:Addr}{o:HO}{t':Nat}(I:Inv X pins σ H s)(mu:Mut (H x))(he:e=x∨H e=some (.own x))(k:∀b u,b≠e→s.heap.get? b=some u→h'.get? b=some u)(heo:∃u,h'.get? e=some u)
  (new:ObjOk X.prog X.w (upd H x o) h' x o):Inv X pins σ (upd H x o) { s with heap:=h',toks:=t' }:=I.un (Un.write mu he k heo) (I.hok.write mu he k heo new)
theorem Inv.weak{σ':List (Option V)}(I:Inv X pins σ H s)(hl:σ'.length=σ.length)(w:∀(i:Nat) v,σ'[i]? = some (some v)→σ[i]? = some (some v)):Inv X pins σ' H s :=
 ⟨I.ok,I.os,I.bare,I.base,let ⟨m,hn,hl'⟩:=I.loc; ⟨m,hn,fun i x v e1 e2 e3=>hl' i x v e1 (w i v e2) e3⟩,I.cell,I.free,I.freeC,I.pin,I.hok,hl.trans I.len⟩
theorem Inv.pins_of{pins':List (Addr×Obj)}(I:Inv X pins σ H s)(h:∀p∈pins',s.heap.get? p.1=some p.2∧H p.1=none∧p.1≠X.env.locals∧p.1 ∉ X.fs∧∀v,p.2.data≠.cell v):Inv X pins' σ H s :=
 ⟨I.ok,I.os,I.bare,I.base,I.loc,I.cell,I.free,I.freeC,fun p hp=>(List.mem_append.mp hp).elim (fun z=>I.pin p (List.mem_append_left _ z)) (h p),I.hok,I.len⟩
theorem a0s{N:List Str}(hN:N.Nodup){i j:Nat}{x:Str}(a:N[i]? = some x)(b:N[j]? = some x):i=j:=by
 obtain⟨h1,e1⟩:=List.getElem?_eq_some_iff.mp a
 obtain⟨h2,e2⟩:=List.getElem?_eq_some_iff.mp b
 exact(List.getElem_inj hN).mp (e1.trans e2.symm)
theorem a47{M:Model}{A:Around}{E:Value→Shared→Prop}{i:Nat}{x:Str}{v:V}{u:Value}{Q:Unit→Shared→Prop}(I:Inv X pins σ H s)(hN:X.N.Nodup)(hi:X.N[i]? = some x)(hx:Loc X.env.scope x)(r:RelV v u)
  (h:∀s',Inv X pins (σ.set i (some v)) H s'→(∃a,Heap.SameBut a s.heap s'.heap∧(a=X.env.locals∨X.env.cells.lookup x=some a))→Q () s') (hf:X.fn x=true∨X.env.scope.names.lookup x=some .local:=by first | exact .inl rfl | exact .inr rfl | assumption):wpAny M A (storeName X.env x u) Q E s:=by
 obtain⟨m,hn,hl⟩:=id I.loc
 have hcls:(X.env.scope.kind == .class || (X.env.scope.kind == .module && X.env.locals != X.env.globals))=false:=by rw[I.ok.kind];rfl
 have hiσ:i<σ.length:=by rw[I.len];exact(List.getElem?_eq_some_iff.mp hi).1
 have cne:=I.cne
 have tracked:∀{a:Addr} {h':Heap},(∃o,s.heap.get? a=some o∧H a=none)→Heap.SameBut a s.heap h'→HOk X.prog X.w H h':=fun{a h'} ha hs b ob e=>by
  obtain⟨_,_,hfree⟩:=ha
  refine(I.hok b ob e).stay (fun c w' hc q=>(hs.2 c ?_).trans q) (fun _ q=>q) (fun _ _ q=>q) fun _ _ _ q=>q
  rintro rfl
  rcases hc with rfl | hc
  ·rw[hfree]at e;cases e
  ·rw[hfree]at hc;cases hc
 rcases hx with hk | hk
 ·refine wpAny_storeName_local hk hn (fun h' hn' hs=>?_) hcls
  obtain⟨oL,_,_,hoL,_⟩:=id hn
  refine h _ ⟨I.ok,I.os,I.bare,⟨fun b o e n hb hx=>?_,fun b o e n hb hx=>?_,I.base.free,fun b o e hx=>?_,I.base.tups,I.base.frzs,I.base.tbls⟩,⟨_,hn',fun j y v' e1 e2 e3=>?_⟩,fun y c e=>?_,I.free,I.freeC,fun p hp=>?_,tracked ⟨oL,hoL,I.free⟩ hs,by simpa using I.len⟩ ⟨_,hs,.inl rfl⟩
  ·exact(hs.2 b (Nat.ne_of_lt (Nat.lt_of_lt_of_le (Heap.lt_size e) I.ok.above))).trans (I.base.keep b o e n hb hx)
  ·obtain⟨sl,e1⟩:=I.base.slot b o e n hb hx
   exact⟨sl,(hs.2 b (Nat.ne_of_lt (Nat.lt_of_lt_of_le (Heap.lt_size e) I.ok.above))).trans e1⟩
  ·obtain⟨o',e1⟩:=I.base.there b o e hx
   exact⟨o',(hs.2 b (Nat.ne_of_lt (Nat.lt_of_lt_of_le (Heap.lt_size e) I.ok.above))).trans e1⟩
  ·by_cases hj:j=i
   ·subst hj
    rw[hi]at e1;cases e1
    rw[List.getElem?_set_self hiσ]at e2
    cases e2
    exact⟨u,r,.inl ⟨hk,by simp⟩⟩
   ·rw[List.getElem?_set_ne (Ne.symm hj)]at e2
    obtain⟨u',r',q⟩:=hl j y v' e1 e2 e3
    refine⟨u',r',?_⟩
    rcases q with⟨k,e⟩ | ⟨k,c,e,z⟩
    ·refine .inl ⟨k,?_⟩
     have:y≠x:=fun e=>hj (a0s hN e1 (e▸hi))
     simp[this,e]
    ·exact .inr ⟨k,c,e,z.sameBut hs (cne y c e)⟩
  ·obtain⟨w',z⟩:=I.cell y c e
   exact⟨w',z.sameBut hs (cne y c e)⟩
  ·obtain⟨e,n,ne,nf,d⟩:=I.pin p hp
   exact⟨(hs.2 p.1 ne).trans e,n,ne,nf,d⟩
 ·have hfn:X.fn x=true:=by
   rcases hf with z | z
   ·exact z
   ·rw[z]at hk;cases hk
  obtain⟨c,hc⟩:=I.ok.has x (.inl hk)
  obtain⟨w',z⟩:=I.cell x c hc
  refine wpAny_storeName_cell I.ok.kind hk hc z (fun h' hc' hs=>?_)
  obtain⟨oc,hoc,hocd⟩:=id z
  refine h { s with heap:=h' } ⟨I.ok,I.os,I.bare,⟨fun b o e n hb hx=>?_,fun b o e n hb hx=>?_,I.base.free,fun b o e hx=>?_,I.base.tups,I.base.frzs,I.base.tbls⟩,⟨m,hn.sameBut hs (Ne.symm (cne x c hc)),fun j y v' e1 e2 e3=>?_⟩,fun y c' e=>?_,I.free,I.freeC,fun p hp=>?_,tracked ⟨oc,hoc,I.freeC x c hc⟩ hs,by simpa using I.len⟩ ⟨c,hs,.inr hc⟩
  ·exact(hs.2 b (Nat.ne_of_lt (Nat.lt_of_lt_of_le (Heap.lt_size e) (I.ok.cab x c hfn hc)))).trans (I.base.keep b o e n hb hx)
  ·obtain⟨sl,e1⟩:=I.base.slot b o e n hb hx
   exact⟨sl,(hs.2 b (Nat.ne_of_lt (Nat.lt_of_lt_of_le (Heap.lt_size e) (I.ok.cab x c hfn hc)))).trans e1⟩
  ·obtain⟨o',e1⟩:=I.base.there b o e hx
   exact⟨o',(hs.2 b (Nat.ne_of_lt (Nat.lt_of_lt_of_le (Heap.lt_size e) (I.ok.cab x c hfn hc)))).trans e1⟩
  ·by_cases hj:j=i
   ·subst hj
    rw[hi]at e1;cases e1
    rw[List.getElem?_set_self hiσ]at e2
    cases e2
    exact⟨u,r,.inr ⟨.inl hk,c,hc,hc'⟩⟩
   ·rw[List.getElem?_set_ne (Ne.symm hj)]at e2
    obtain⟨u',r',q⟩:=hl j y v' e1 e2 e3
    refine⟨u',r',?_⟩
    rcases q with q | ⟨k,c',e,z'⟩
    ·exact .inl q
    ·refine .inr ⟨k,c',e,z'.sameBut hs ?_⟩
     rintro rfl
     exact hj (a0s hN e1 (I.ok.inj _ _ _ e hc▸hi))
  ·by_cases hcc:c'=c
   ·subst hcc;exact⟨_,hc'⟩
   ·obtain⟨w2,z2⟩:=I.cell y c' e
    exact⟨w2,z2.sameBut hs hcc⟩
  ·obtain⟨e,n,ne,nf,d⟩:=I.pin p hp
   refine⟨(hs.2 p.1 ?_).trans e,n,ne,nf,d⟩
   intro q
   rw[q,hoc]at e
   have q':oc=p.2:=Option.some.inj e
   exact d w' (by rw[← q'];exact hocd)
theorem T3{M:Model}{A:Around}{E:Value→Shared→Prop}{i:Nat}{x:Str}{v:V}{u:Value}{Q:Unit→Shared→Prop}(I:Inv X pins σ H s)(hN:X.N.Nodup)(hi:X.N[i]? = some x)(hx:Loc X.env.scope x)(r:RelV v u)
  (h:∀s',Inv X pins (σ.set i (some v)) H s'→Q () s') (hf:X.fn x=true∨X.env.scope.names.lookup x=some .local:=by first | exact .inl rfl | exact .inr rfl | assumption):wpAny M A (storeName X.env x u) Q E s :=
 a47 I hN hi hx r (fun s' I' _=>h s' I') hf
theorem Inv.call'{s':Shared}{ch:List Addr}(I:Inv X pins σ H s)(ho:s'.os=s.os)(u:Un (x8 X.stack) ch H H' s.heap s'.heap)(hok:HOk X.prog X.w H' s'.heap)(hg:AllBare s'.gens)
  (hch:∀b∈ch,(b∈X.ex∨X.s₀.heap.objs.size≤b)∧b≠X.env.locals∧(∀x c,X.env.cells.lookup x=some c→c≠b)∧∀p∈X.pn++pins,p.1≠b):Inv X pins σ H' s':=by
 obtain⟨h',g',d',t',o'⟩:=s'
 have e:o'=s.os:=ho
 subst e
 exact I.call (g':=g') (t':=t') (d':=d') u hok hg hch
end
abbrev XK:=Value→Option Addr→Hp→Prop
abbrev St:=List (Option V)
abbrev VK:=V→Hp→Prop
abbrev TE:=St→Hp→VK→Prop
abbrev TT:=St→Hp→(Bool→Hp→Prop)→Prop
abbrev TA:=St→Hp→(List V→Hp→Prop)→Prop
structure Ends where
 nx:St→Hp→Prop
 rt:VK
 bk:St→Hp→Prop:=fun _ _=>False
 ct:St→Hp→Prop:=fun _ _=>False
abbrev TS:=Ends→St→Hp→Prop
def EP(X:Cx)(pins:List (Addr×Obj))(σ:St)(Q:VK)(u:Value)(s':Shared):Prop:=∃v H',Inv X pins σ H' s'∧RelV v u∧Q v H'
def TP(X:Cx)(pins:List (Addr×Obj))(σ:St)(Q:Bool→Hp→Prop)(b:Bool)(s':Shared):Prop:=∃H',Inv X pins σ H' s'∧Q b H'
def AP(X:Cx)(pins:List (Addr×Obj))(σ:St)(Q:List V→Hp→Prop)(us:List Value)(s':Shared):Prop:=∃vs H',Inv X pins σ H' s'∧Vals vs us∧Q vs H'
def SP(X:Cx)(pins:List (Addr×Obj))(D:Ends)(f:Flow)(s':Shared):Prop :=
 match f with
 | .next=>∃σ' H',Inv X pins σ' H' s'∧D.nx σ' H'
 | .brk=>∃σ' H',Inv X pins σ' H' s'∧D.bk σ' H'
 | .cont=>∃σ' H',Inv X pins σ' H' s'∧D.ct σ' H'
 | .ret u=>∃v σ' H',Inv X pins σ' H' s'∧RelV v u∧D.rt v H'
def PE(X:Cx)(e:Expr)(t:TE):Prop :=
 ∀(pins:List (Addr×Obj)) (s:Shared) (σ:St) (H:Hp) (Q:VK),Inv X pins σ H s→t σ H Q→wpAny (model X.prog X.w) X.A (eval e X.env) (EP X pins σ Q) X.xe s
def PT(X:Cx)(e:Expr)(t:TT):Prop :=
 ∀(pins:List (Addr×Obj)) (s:Shared) (σ:St) (H:Hp) (Q:Bool→Hp→Prop),Inv X pins σ H s→t σ H Q→wpAny (model X.prog X.w) X.A (isTrue e X.env (eval e X.env)) (TP X pins σ Q) X.xe s
def PW(X:Cx)(e:Expr)(t:TT):Prop :=
 ∀(whole:Sem Value) (pins:List (Addr×Obj)) (s:Shared) (σ:St) (H:Hp) (Q:Bool→Hp→Prop),Inv X pins σ H s→t σ H Q→wpAny (model X.prog X.w) X.A (isTrue e X.env whole) (TP X pins σ Q) X.xe s
theorem PW.pt{X:Cx}{e:Expr}{t:TT}(h:PW X e t):PT X e t:=h _
def PA(X:Cx)(es:List Expr)(t:TA):Prop :=
 ∀(pos:Pos) (pins:List (Addr×Obj)) (s:Shared) (σ:St) (H:Hp) (Q:List V→Hp→Prop),Inv X pins σ H s→t σ H Q→wpAny (model X.prog X.w) X.A (spliced (backTo pos (starEach es X.env))) (AP X pins σ Q) X.xe s
def PS(X:Cx)(st:Stmt)(t:TS):Prop :=
 ∀(pins:List (Addr×Obj)) (s:Shared) (σ:St) (H:Hp) (D:Ends),Inv X pins σ H s→t D σ H→wpAny (model X.prog X.w) X.A (exec st X.env) (SP X pins D) X.xe s
def PSs(X:Cx)(st:List Stmt)(t:TS):Prop :=
 ∀(pins:List (Addr×Obj)) (s:Shared) (σ:St) (H:Hp) (D:Ends),Inv X pins σ H s→t D σ H→wpAny (model X.prog X.w) X.A (execs st X.env) (SP X pins D) X.xe s
theorem h7{α:Type}{t:Sem α}{Q Q':α→Shared→Prop}{M:Model}{A:Around}{E:Value→Shared→Prop}{s:Shared}(h:wpAny M A t Q E s)(hQ:∀a s,Q a s→Q' a s):wpAny M A t Q' E s:=wpAny_mono h hQ fun _ _ x=>x
section
variable {X:Cx}
def D0(i:Nat):TE:=fun σ H Q=>∃v,σ[i]? = some (some v)∧Q v H
def tC(v:V):TE:=fun _ H Q=>Q v H
theorem a9T{i:Nat}{x:Str}{pos:Pos}(hN:X.N[i]? = some x)(hv:Vis X.env.scope x)(hd:(x == ("__debug__" : Str))=false:=by decide)(hcd:(x == ("__classdict__" : Str))=false:=by decide):PE X (.Name x pos) (D0 i):=by
 intro pins s σ H Q I h
 obtain⟨v,e,h⟩:=h
 obtain⟨m,hn,hl⟩:=I.loc
 obtain⟨u,r,l⟩:=hl i x v hN e hv
 have fin:EP X pins σ Q u s:=⟨v,H,I,r,h⟩
 rcases l with⟨hk,hm⟩ | ⟨hk,c,hc,hcell⟩
 ·exact wpAny_Name (wpAny_loadName_local I.ok.kind hk hn hm fin) hd
 ·rcases hk with hk | hk
  ·exact wpAny_Name (wpAny_loadName_cell I.ok.kind hk hc hcell fin) hd
  ·exact wpAny_Name (wpAny_loadName_free I.ok.kind hk hc hcell fin hcd) hd
theorem c9{i j pos}:PE X (.Constant (.int i) j pos) (tC (.int i)):=fun _ _ _ H _ I h=>wpAny_Constant_int ⟨.int i,H,I.tok _,⟨_,rfl⟩,h⟩
theorem D2{b j pos}:PE X (.Constant (.bool b) j pos) (tC (.bl b)):=fun _ _ _ H _ I h=>Constant_bool ⟨.bl b,H,I,rfl,h⟩
theorem a0R{j pos}:PE X (.Constant .none j pos) (tC .non):=fun _ _ _ H _ I h=>Constant_none ⟨.non,H,I,rfl,h⟩
theorem a0S{x j pos}:PE X (.Constant (.str x) j pos) (tC (.str x)):=fun _ _ _ H _ I h=>Calls.Constant_str ⟨.str x,H,I.tok _,⟨_,rfl⟩,h⟩
def Gl(X:Cx)(x:Str):Prop:=X.env.kindOf x=some .globalImplicit
theorem N5{E:Value→Shared→Prop}{pins:List (Addr×Obj)}{s:Shared}{σ:St}{H:Hp}{x:Str}{u:Value}{pos:Pos}{Q:Value→Shared→Prop}(I:Inv X pins σ H s)(hg:Gl X x)(hm:X.mg x=some u)(h:Q u s)
  (hd:(x == ("__debug__" : Str))=false:=by decide):wpAny (model X.prog X.w) X.A (eval (.Name x pos) X.env) Q E s :=
 Calls.Name_function_global I.ok.kind hg (Calls.loadGlobal_global (by rw[I.ok.glob];exact I.mod.glob.keeps I.bk) hm h) hd
theorem O1{E:Value→Shared→Prop}{pins:List (Addr×Obj)}{s:Shared}{σ:St}{H:Hp}{x:Str}{u:Value}{pos:Pos}{Q:Value→Shared→Prop}(I:Inv X pins σ H s)(hg:Gl X x)(hm:X.mg x=none)(hv:bootBuiltins x=some u)(h:Q u s)
  (hn:x≠"__name__" := by decide) (hd:(x == ("__debug__" : Str))=false:=by decide):wpAny (model X.prog X.w) X.A (eval (.Name x pos) X.env) Q E s:=by
 obtain⟨mb,h1,h2⟩:=I.mod.blt
 exact Calls.Name_function_global I.ok.kind hg (Calls.loadGlobal_builtin (by rw[I.ok.glob];exact I.mod.glob.keeps I.bk) hm (by rw[I.ok.blt];exact h1.keeps I.bk) ((h2 x hn).trans hv) h) hd
theorem D8{x:Str}{v:V}{u:Value}{pos:Pos}(hg:Gl X x)(hm:X.mg x=some u)(r:RelV v u)(hd:(x == ("__debug__" : Str))=false:=by decide):PE X (.Name x pos) (tC v) :=
 fun _ _ _ H _ I h=>N5 I hg hm ⟨v,H,I,r,h⟩ hd
theorem a1r{x:Str}{v:V}{u:Value}{pos:Pos}(hg:Gl X x)(hm:X.mg x=none)(hv:bootBuiltins x=some u)(r:RelV v u)(hn:x≠"__name__" := by decide)(hd:(x == ("__debug__" : Str))=false:=by decide):PE X (.Name x pos) (tC v) :=
 fun _ _ _ H _ I h=>O1 I hg hm hv ⟨v,H,I,r,h⟩ hn hd
variable {a b:Expr}{ta tb:TE}{pos:Pos}
def tB(t:TE):TT:=fun σ H Q=>t σ H fun x H1=>∃c,x=.bl c∧Q c H1
theorem W5{e:Expr}{t:TE}(h:PE X e t)(he:∀whole,isTrue e X.env whole=(do let v ← whole;standAt e.pos;holding [v] (truthy v)):=by intro _;rfl):PT X e (tB t):=by
 intro pins s σ H Q I hw
 refine isTrue_plain (h7 (h pins s σ H _ I hw) fun v s1 ⟨x,H1,I1,r1,q1⟩=>?_) (he _)
 obtain⟨d,rfl,q⟩:=q1
 cases r1
 exact wpAny_truthy_bool ⟨H1,I1,q⟩
variable {tA tB':TT}{b7:List Expr}
def a9U(t u:TT):TT:=fun σ H Q=>t σ H fun c H1=>if c=true then u σ H1 Q else Q false H1
def a9V(t:TT):TT:=fun σ H Q=>t σ H fun c H1=>Q (!c) H1
theorem a8e(ha:PT X a tA):PW X (.BoolOp .And [a] pos) tA:=by
 intro wh pins s σ H Q I h
 refine isTrue_and (h7 (ha pins s σ H Q I h) fun c s1 e=>?_)
 cases c with
 | true=>exact isTrue_and_nil e
 | false=>exact e
theorem a9W(ha:PT X a tA)(hb:PW X (.BoolOp .And (b::b7) pos) tB'):PW X (.BoolOp .And (a::b::b7) pos) (a9U tA tB'):=by
 intro wh pins s σ H Q I h
 refine isTrue_and (h7 (ha pins s σ H _ I h) fun c s1 ⟨H1,I1,q1⟩=>?_)
 cases c with
 | true=>exact hb wh pins s1 σ H1 Q I1 q1
 | false=>exact⟨H1,I1,q1⟩
theorem a2C(ha:PT X a tA):PT X (.UnaryOp .Not a pos) (a9V tA):=by
 intro pins s σ H Q I h
 exact isTrue_not (ha pins s σ H (fun c H1=>Q (!c) H1) I h)
def a7z(ta tb:TE):TE:=fun σ H Q=>ta σ H fun x H1=>∃c,x=.bl c∧if c=true then tb σ H1 Q else Q (.bl false) H1
def a7A(ta:TE):TE:=fun σ H Q=>ta σ H fun x H1=>∃c,x=.bl c∧Q (.bl (!c)) H1
theorem a2D{op}{t:TE}(h:PE X a t):PE X (.BoolOp op [a] pos) t:=fun pins s σ H Q I hw=>BoolOp_one (h pins s σ H Q I hw)
theorem a0T(ha:PE X a ta)(hb:PE X (.BoolOp .And (b::b7) pos) tb):PE X (.BoolOp .And (a::b::b7) pos) (a7z ta tb):=by
 intro pins s σ H Q I h
 refine BoolOp_and (h7 (ha pins s σ H _ I h) fun v s1 ⟨x,H1,I1,r1,q1⟩=>?_)
 obtain⟨c,rfl,q1⟩:=q1
 cases r1
 refine wpAny_truthy_bool ?_
 cases c with
 | true=>exact hb pins s1 σ H1 Q I1 q1
 | false=>exact⟨.bl false,H1,I1,rfl,q1⟩
theorem a9X(ha:PE X a ta):PE X (.UnaryOp .Not a pos) (a7A ta):=by
 intro pins s σ H Q I h
 refine UnaryOp_ (h7 (ha pins s σ H _ I h) fun v s1 ⟨x,H1,I1,r1,q1⟩=>?_)
 obtain⟨c,rfl,q1⟩:=q1
 cases r1
 exact not_of (wpAny_truthy_bool ⟨.bl (!c),H1,I1,rfl,q1⟩)
def tIf(t:TT)(ta tb:TE):TE:=fun σ H Q=>t σ H fun c H1=>if c=true then ta σ H1 Q else tb σ H1 Q
theorem a6f{c:Expr}(hc:PT X c tA)(ha:PE X a ta)(hb:PE X b tb):PE X (.IfExp c a b pos) (tIf tA ta tb):=by
 intro pins s σ H Q I h
 refine wpAny_IfExp (h7 (hc pins s σ H _ I h) fun d s1 ⟨H1,I1,q1⟩=>?_)
 cases d with
 | true=>exact ha pins s1 σ H1 Q I1 q1
 | false=>exact hb pins s1 σ H1 Q I1 q1
end
def SqL(K:W.Frag)(H:Hp)(a:Addr)(xs:List V):Prop :=
 Rd H a (.lst xs) ∨
  ∃(o:Obj) (its:Array Value) (n:Nat),K.lookup a=some o∧o.cls=.type "list"∧o.dict=none∧o.data=.seq its n∧its.size≤sizeLine∧Vals xs its.toList
def SqT(K:W.Frag)(H:Hp)(a:Addr)(xs:List V):Prop :=
 Rd H a (.tup xs) ∨
  ∃(o:Obj) (its:Array Value) (n:Nat),K.lookup a=some o∧o.cls=.type "tuple"∧o.data=.seq its n∧its.size≤sizeLine∧Vals xs its.toList
def b16:Value→Option V
 | .none=>some .non
 | .bool b=>some (.bl b)
 | .int i _=>some (.int i)
 | .str x _=>some (.str x)
 | .bytes b _=>some (.byt b)
 | .float b _=>some (.flt b)
 | .ref a=>some (.ref a)
 | .type n=>some (.ty n)
 | _=>none
theorem RelV.abs{x:V}{u:Value}(r:RelV x u):b16 u=some x:=by
 cases x with
 | non=>cases r;rfl
 | bl _=>cases r;rfl
 | int _=>obtain⟨t,rfl⟩:=r;rfl
 | str _=>obtain⟨t,rfl⟩:=r;rfl
 | byt _=>obtain⟨t,rfl⟩:=r;rfl
 | flt _=>obtain⟨t,rfl⟩:=r;rfl
 | ref _=>cases r;rfl
 | ty _=>cases r;rfl
theorem RelV.inj{x y:V}{u:Value}(r:RelV x u)(q:RelV y u):x=y:=Option.some.inj (r.abs.symm.trans q.abs)
theorem Vals.inj:∀{xs ys:List V} {us:List Value},Vals xs us→Vals ys us→xs=ys
 | _,_,_,.nil,.nil=>rfl
 | _,_,_,.cons r t,.cons r' t'=>by rw[r.inj r',Vals.inj t t']
section
variable {X:Cx}{pins:List (Addr×Obj)}{σ:St}{H:Hp}{s:Shared}{a:Addr}{xs ys:List V}
theorem SqL.of{K:W.Frag}(h:H a=some (.lst xs)):SqL K H a xs:=.inl (.inl h)
theorem SqT.of{K:W.Frag}(h:H a=some (.tup xs)):SqT K H a xs:=.inl (.inl h)
theorem Inv.list(I:Inv X pins σ H s)(h:SqL X.K H a xs):∃its:List Value,Vals xs its∧PlainL s.heap a its.toArray∧xs.length≤sizeLine:=by
 rcases h with h | ⟨o,its,n,hk,hc,hd,hs,hz,r⟩
 ·obtain⟨z,its,n,r,e⟩:=h.ok I.hok
  exact⟨its,r,⟨_,n,e,rfl,rfl,rfl⟩,z⟩
 ·refine⟨its.toList,r,⟨o,n,I.kIn a o hk,hc,hd,by simpa using hs⟩,?_⟩
  have e:=r.length
  simp only[Array.length_toList]at e
  omega
theorem Inv.tuple(I:Inv X pins σ H s)(h:SqT X.K H a xs):∃its:List Value,Vals xs its∧IsTup s.heap a its.toArray∧xs.length≤sizeLine:=by
 rcases h with h | ⟨o,its,n,hk,hc,hs,hz,r⟩
 ·obtain⟨z,its,r,p⟩:=h.ok I.hok
  exact⟨its,r,p,z⟩
 ·refine⟨its.toList,r,⟨o,I.kIn a o hk,hc,n,by simpa using hs⟩,?_⟩
  have e:=r.length
  simp only[Array.length_toList]at e
  omega
theorem Inv.list_inj(I:Inv X pins σ H s)(h:SqL X.K H a xs)(h':SqL X.K H a ys):xs=ys:=by
 obtain⟨its,r,⟨o,n,e,_,_,d⟩,_⟩:=I.list h
 obtain⟨its',r',⟨o',n',e',_,_,d'⟩,_⟩:=I.list h'
 rw[e]at e';cases e'
 rw[d]at d'
 injection d' with d1 _
 have:its=its':=by simpa using congrArg Array.toList d1
 subst this
 exact r.inj r'
end
abbrev Cx.wish(X:Cx)(E:Value→Shared→Prop):Cx:={ X with xe:=E }
abbrev Cx.nox(X:Cx):Cx:=X.wish fun _ _=>False
theorem Cx.Ok.wish{X:Cx}(ok:X.Ok)(E:Value→Shared→Prop):(X.wish E).Ok :=
 ⟨ok.mod,ok.kind,ok.glob,ok.blt,ok.above,ok.inj,ok.has,ok.cab,ok.hd,ok.frames,ok.stk,ok.exf,ok.bs,ok.bsz,ok.noex,ok.exfs,ok.funs,ok.frf⟩
theorem Cx.Ok.unwish{X:Cx}{E:Value→Shared→Prop}(ok:(X.wish E).Ok):X.Ok :=
 ⟨ok.mod,ok.kind,ok.glob,ok.blt,ok.above,ok.inj,ok.has,ok.cab,ok.hd,ok.frames,ok.stk,ok.exf,ok.bs,ok.bsz,ok.noex,ok.exfs,ok.funs,ok.frf⟩
section
variable {X:Cx}{pins:List (Addr×Obj)}{σ:St}{H:Hp}{s:Shared}{E:Value→Shared→Prop}
theorem Inv.wish(I:Inv X pins σ H s)(E:Value→Shared→Prop):Inv (X.wish E) pins σ H s:=⟨I.ok.wish E,I.os,I.bare,I.base,I.loc,I.cell,I.free,I.freeC,I.pin,I.hok,I.len⟩
theorem Inv.unwish(I:Inv (X.wish E) pins σ H s):Inv X pins σ H s:=⟨I.ok.unwish,I.os,I.bare,I.base,I.loc,I.cell,I.free,I.freeC,I.pin,I.hok,I.len⟩
theorem SP.unwish{D:Ends}{f:Flow}{s':Shared}(h:SP (X.wish E) pins D f s'):SP X pins D f s':=by
 cases f with
 | next=>obtain⟨σ',H',I,q⟩:=h;exact⟨σ',H',I.unwish,q⟩
 | brk=>obtain⟨σ',H',I,q⟩:=h;exact⟨σ',H',I.unwish,q⟩
 | cont=>obtain⟨σ',H',I,q⟩:=h;exact⟨σ',H',I.unwish,q⟩
 | ret u=>obtain⟨v,σ',H',I,r,q⟩:=h;exact⟨v,σ',H',I.unwish,r,q⟩
theorem PE.nox{e:Expr}{t:TE}(h:PE X.nox e t):PE X e t:=fun pins s σ H Q I hw =>
 wpAny_mono (h pins s σ H Q (I.wish _) hw) (fun _ _ ⟨v,H',I',r,q⟩=>⟨v,H',I'.unwish,r,q⟩) fun _ _ z=>False.elim z
theorem PT.nox{e:Expr}{t:TT}(h:PT X.nox e t):PT X e t:=fun pins s σ H Q I hw =>
 wpAny_mono (h pins s σ H Q (I.wish _) hw) (fun _ _ ⟨H',I',q⟩=>⟨H',I'.unwish,q⟩) fun _ _ z=>False.elim z
theorem PSs.nox{st:List Stmt}{t:TS}(h:PSs X.nox st t):PSs X st t:=fun pins s σ H D I hw =>
 wpAny_mono (h pins s σ H D (I.wish _) hw) (fun _ _ q=>q.unwish) fun _ _ z=>False.elim z
end
section
variable {X:Cx}{st:Stmt}{b7:List Stmt}{t u:TS}{e:Expr}{te:TE}{pos:Pos}
def a7B:TS:=fun D σ H=>D.nx σ H
def a9Y(t u:TS):TS:=fun D σ H=>t { D with nx:=u D } σ H
theorem v3:PSs X [] a7B:=fun _ _ σ H _ I h=>wpAny_execs_nil ⟨σ,H,I,h⟩
theorem c5(h1:PS X st t)(h2:PSs X b7 u):PSs X (st::b7) (a9Y t u):=by
 intro pins s σ H D I h
 refine wpAny_execs_cons (h7 (h1 pins s σ H { D with nx:=u D } I h) fun f s1 q=>?_)
 cases f with
 | next =>
  obtain⟨σ',H',I',q⟩:=q
  exact h2 pins s1 σ' H' D I' q
 | ret v=>exact q
 | brk=>exact q
 | cont=>exact q
theorem d6(h1:PS X st t):PSs X [st] t:=by
 intro pins s σ H D I h
 refine wpAny_execs_cons (h7 (h1 pins s σ H D I h) fun f s1 q=>?_)
 cases f with
 | next=>exact wpAny_execs_nil q
 | ret v=>exact q
 | brk=>exact q
 | cont=>exact q
theorem Inv.quiet{pins:List (Addr×Obj)}{σ:St}{H:Hp}{s:Shared}(I:Inv X pins σ H s):interactive X.env=false:=by simp[interactive,I.ok.kind]
def a2t(te:TE):TS:=fun D σ H=>te σ H fun _ H1=>D.nx σ H1
theorem G4(he:PE X e te)(hs:swapsWith e none pos.line X.env=pure false:=by rfl):PS X (.Expr e pos) (a2t te):=by
 intro pins s σ H D I h
 exact wpAny_Expr_any (h7 (he pins s σ H _ I h) fun v s1 ⟨x,H1,I1,r1,q1⟩=>⟨σ,H1,I1,q1⟩) I.quiet hs
def a1s(te:TE):TS:=fun D σ H=>te σ H D.rt
theorem k9(he:PE X e te):PS X (.Return (some e) pos) (a1s te):=by
 intro pins s σ H D I h
 exact wpAny_Return_some (h7 (he pins s σ H _ I h) fun v s1 ⟨x,H1,I1,r1,q1⟩=>⟨x,σ,H1,I1,r1,q1⟩)
def a9Z(c:TT)(t u:TS):TS:=fun D σ H=>c σ H fun b H1=>if b=true then t D σ H1 else u D σ H1
theorem C1{c:Expr}{a b:List Stmt}{tc:TT}(hc:PT X c tc)(ha:PSs X a t)(hb:PSs X b u):PS X (.If c a b pos) (a9Z tc t u):=by
 intro pins s σ H D I h
 refine wpAny_If (h7 (hc pins s σ H _ I h) fun d s1 ⟨H1,I1,q1⟩=>?_)
 cases d with
 | true=>exact ha pins s1 σ H1 D I1 q1
 | false=>exact hb pins s1 σ H1 D I1 q1
end
abbrev TG:=V→St→Hp→(St→Hp→Prop)→Prop
abbrev W6:=List V→St→Hp→(St→Hp→Prop)→Prop
def PG(X:Cx)(target:Expr)(t:TG):Prop :=
 ∀(pins:List (Addr×Obj)) (s:Shared) (σ:St) (H:Hp) (v:V) (u:Value) (Q:St→Hp→Prop),Inv X pins σ H s→RelV v u→t v σ H Q →
  wpAny (model X.prog X.w) X.A (assign target X.env u) (fun _ s'=>∃σ' H',Inv X pins σ' H' s'∧Q σ' H') X.xe s
def PGs(X:Cx)(ts:List Expr)(t:W6):Prop :=
 ∀(pins:List (Addr×Obj)) (s:Shared) (σ:St) (H:Hp) (vs:List V) (us:List Value) (Q:St→Hp→Prop),Inv X pins σ H s→Vals vs us→t vs σ H Q →
  wpAny (model X.prog X.w) X.A (assignInOrder ((assignEach ts X.env).map (·.2)) us) (fun _ s'=>∃σ' H',Inv X pins σ' H' s'∧Q σ' H') X.xe s
section
variable {X:Cx}{pos:Pos}
def Z6(i:Nat):TG:=fun v σ H Q=>Q (σ.set i (some v)) H
theorem n8{i:Nat}{x:Str}(hN:X.N.Nodup)(hi:X.N[i]? = some x)(hx:Loc X.env.scope x)(hf:X.fn x=true∨X.env.scope.names.lookup x=some .local:=by first | exact .inl rfl | exact .inr rfl | assumption):PG X (.Name x pos) (Z6 i):=by
 intro pins s σ H v u Q I r h
 exact wpAny_assign_Name (T3 I hN hi hx r (fun s' I'=>⟨_,H,I',h⟩) hf)
def a90:W6:=fun vs σ H Q=>vs=[]∧Q σ H
def a7C(t:TG)(u:W6):W6:=fun vs σ H Q=>∃v r,vs=v::r∧t v σ H fun σ' H'=>u r σ' H' Q
theorem a1t:PGs X [] a90:=by
 intro pins s σ H vs us Q I r h
 obtain⟨e,h⟩:=h
 subst e
 cases r
 exact assignInOrder_nil ⟨σ,H,I,h⟩
theorem B1{e:Expr}{es:List Expr}{t:TG}{u:W6}(h1:PG X e t)(h2:PGs X es u)
  (hs:(assignEach (e::es) X.env).map (·.2)=assign e X.env::(assignEach es X.env).map (·.2):=by rfl):PGs X (e::es) (a7C t u):=by
 intro pins s σ H vs us Q I r h
 obtain⟨v,vr,e1,h⟩:=h
 subst e1
 cases r with
 | cons r rr =>
  rw[hs]
  refine assignInOrder_cons (h7 (h1 pins s σ H _ _ _ I r h) fun _ s1 ⟨σ1,H1,I1,q1⟩=>?_)
  exact h2 pins s1 σ1 H1 _ _ Q I1 rr q1
def a6g(K:W.Frag)(n:Nat)(t:W6):TG:=fun v σ H Q=>∃a xs,v=.ref a∧SqT K H a xs∧xs.length=n∧t xs σ H Q
theorem a91{es:List Expr}{k:Nat}{t:W6}{n:Nat}(hc:X.calm=true)(h:PGs X es t)
  (hn:(assignEach es X.env).length=n:=by rfl) (hst:(assignEach es X.env).findIdx? (·.1)=none:=by rfl):PG X (.Tuple es k pos) (a6g X.K n t):=by
 intro pins s σ H v u Q I r hw
 obtain⟨a,xs,e1,hq,hl,hw⟩:=hw
 subst e1
 cases r
 obtain⟨its,rv,ht,hz⟩:=I.tuple hq
 refine assign_Tuple_tuple (I.ok.hd hc) ht (by simp[hn,← hl,rv.length]) hst fun h' hx=>?_
 have I1:Inv X pins σ H { s with heap:=h' }:=I.kept (t':=s.toks) fun b o e=>hx b o (Nat.ne_of_lt (Heap.lt_size e)) e
 exact h pins _ σ H xs _ Q I1 (by simpa using rv) hw
def a1u(te:TE)(g:TG):TS:=fun D σ H=>te σ H fun x H1=>g x σ H1 D.nx
theorem a49{tg e:Expr}{te:TE}{g:TG}(he:PE X e te)(hg:PG X tg g)(hs:swapsWithSole [tg] e pos.line X.env=pure false:=by rfl)(hw:swappedStores [tg] e X.env=pure none:=by rfl)
  (h1:(assignEach [tg] X.env).map (·.2)=[assign tg X.env]:=by rfl):PS X (.Assign [tg] e pos) (a1u te g):=by
 intro pins s σ H D I h
 refine wpAny_Assign_stores (h7 (he pins s σ H _ I h) fun v s1 ⟨x,H1,I1,r1,q1⟩=>?_) hs hw
 rw[h1]
 exact h7 (hg pins s1 σ H1 x v _ I1 r1 q1) fun _ s2 q=>q
theorem n5{i:Nat}{x:Str}{e:Expr}{te:TE}{pos':Pos}(hN:X.N.Nodup)(hi:X.N[i]? = some x)(hx:Loc X.env.scope x)(he:PE X e te)(hs:swapsWith e (some (.Name x pos')) pos.line X.env=pure false:=by rfl)(hf:X.fn x=true∨X.env.scope.names.lookup x=some .local:=by first | exact .inl rfl | exact .inr rfl | assumption) :
  PS X (.Assign [.Name x pos'] e pos) (a1u te (Z6 i)):=by
 intro pins s σ H D I h
 refine wpAny_Assign_Name (h7 (he pins s σ H _ I h) fun v s1 ⟨y,H1,I1,r1,q1⟩=>?_) hs
 exact T3 I1 hN hi hx r1 (fun s2 I2=>⟨_,H1,I2,q1⟩) hf
end
structure It where
 go:Nat→Hp→Prop
 yld:Nat→Hp→V→Hp→Prop
 stop:Nat→Hp→Prop
def FpOk(X:Cx)(pins:List (Addr×Obj))(H:Hp)(b:Addr):Prop :=
 H b=none∧b≠X.env.locals∧b ∉ X.fs∧(b∈X.ex∨X.s₀.heap.objs.size≤b)∧(∀x c,X.env.cells.lookup x=some c→c≠b)∧∀p∈X.pn++pins,p.1≠b
theorem Inv.fpOk{X:Cx}{pins:List (Addr×Obj)}{σ:St}{H H':Hp}{s:Shared}{b:Addr}(I:Inv X pins σ H s)(hb:s.heap.objs.size≤b)(hn:H' b=none):FpOk X pins H' b:=by
 refine⟨hn,Nat.ne_of_gt (Nat.lt_of_lt_of_le I.lt hb),I.nofs hb,.inr (Nat.le_trans I.sz hb),fun x c e z=>?_,fun p hp z=>?_⟩
 ·obtain⟨v,q⟩:=I.cell x c e
  exact absurd (Nat.lt_of_lt_of_le q.lt (by rw[z];exact hb)) (Nat.lt_irrefl _)
 ·exact absurd (Nat.lt_of_lt_of_le (Heap.lt_size (I.pin p hp).1) (by rw[z];exact hb)) (Nat.lt_irrefl _)
structure Turn(P:Program)(w:World)(K:W.Frag)(tg:Expr)(J:It)(fp:List Addr)(it:Addr)(tn:Nat→Heap→Prop):Prop where
 mem:it∈fp
 obj:∀i h,tn i h→∀b∈fp,∃o,h.get? b=some o∧∀v,o.data≠.cell v
 keep:∀i h h',tn i h→(∀b∈fp,∀o,h.get? b=some o→h'.get? b=some o)→tn i h'
 item:∀(X:Cx),X.prog=P→X.w=w→X.K=K→X.calm=true→∀(i:Nat) (pins:List (Addr×Obj)) (s:Shared) (σ:St) (H:Hp) (E:Value→Shared→Prop),Inv X pins σ H s→(∀b∈fp,FpOk X pins H b)→tn i s.heap→J.go i H →
  wpAny (model P w) X.A (pyNext (.ref it)) (fun r s1=>∃u,r=some u ∧
   wpAny (model P w) X.A (letOwnedTupleGo tg (.ref it) u) (fun _ s2=>∃x H',Inv X pins σ H' s2∧RelV x u∧J.yld i H x H'∧tn (i+1) s2.heap∧∀b∈fp,H' b=none) E s1) E s
 done:∀(X:Cx),X.prog=P→X.w=w→X.K=K→X.calm=true→∀(i:Nat) (pins:List (Addr×Obj)) (s:Shared) (σ:St) (H:Hp) (E:Value→Shared→Prop),Inv X pins σ H s→(∀b∈fp,FpOk X pins H b)→tn i s.heap→J.stop i H →
  wpAny (model P w) X.A (pyNext (.ref it)) (fun r s1=>r=none∧Inv X pins σ H s1) E s
 self:∀(A:Around) (i:Nat) (s:Shared) (Q:Value→Shared→Prop) (E:Value→Shared→Prop),tn i s.heap→Q (.ref it) s→wpAny (model P w) A (pyIter (.ref it)) Q E s
abbrev TI:=St→Hp→(It→Hp→Prop)→Prop
def PIE(X:Cx)(pins:List (Addr×Obj))(σ:St)(tg:Expr)(R:It→Hp→Prop)(itv:Value)(s2:Shared):Prop :=
 ∃(it:Addr) (fp:List Addr) (tn:Nat→Heap→Prop) (J:It) (H':Hp),itv=.ref it∧Inv X pins σ H' s2∧Turn X.prog X.w X.K tg J fp it tn∧tn 0 s2.heap∧(∀b∈fp,FpOk X pins H' b)∧R J H'
def PI(X:Cx)(tg iter:Expr)(wi:TI):Prop :=
 ∀(pins:List (Addr×Obj)) (s:Shared) (σ:St) (H:Hp) (R:It→Hp→Prop),Inv X pins σ H s→wi σ H R →
  wpAny (model X.prog X.w) X.A (eval iter X.env) (fun v s1=>wpAny (model X.prog X.w) X.A (pyIter v) (PIE X pins σ tg R) X.xe s1) X.xe s
theorem a7D{M:Model}{A:Around}{E:Value→Shared→Prop}{s:Shared}{tg:Expr}{it:Addr}{u:Value}{o:Obj}{n:String}{vs:Array Value}{Q:Unit→Shared→Prop}(ho:s.heap.get? it=some o)(hc:o.cls=.type n)(hd:o.data=.fields vs)
  (hn:["enumerate","zip","dict_itemiterator","dict_reverseitemiterator","odict_iterator","itertools.zip_longest","itertools.pairwise"].contains n=false) (hQ:Q () s):wpAny M A (letOwnedTupleGo tg (.ref it) u) Q E s:=by
 unfold letOwnedTupleGo
 cases tg<;>first
  | exact wpAny_pure hQ
  | (cases u<;>first
    | exact wpAny_pure hQ
    | (refine wpAny_bind (wpAny_load ho ?_)
       rw[hc,hd]
       show wpAny M A (if(["enumerate","zip","dict_itemiterator","dict_reverseitemiterator","odict_iterator","itertools.zip_longest","itertools.pairwise"].contains n && vs[0]? == some (rawInt _))=true then _ else _) Q E s
       rw[if_neg (by intro h;rw[hn,Bool.false_and]at h;cases h)]
       exact wpAny_pure hQ))
def Itl(K:W.Frag)(a:Addr):It :=
 ⟨fun i H=>∃xs x,SqL K H a xs∧xs[i]? = some x,fun i H x H'=>H'=H∧∀xs,SqL K H a xs→xs[i]? = some x,fun i H=>∃xs,SqL K H a xs∧xs.length≤i⟩
def W7(lo:Int)(n:Nat):It:=⟨fun i _=>i<n,fun i H x H'=>H'=H∧x=.int (lo+i),fun i _=>n≤i⟩
theorem a4_{P:Program}{w:World}{K:W.Frag}{tg:Expr}(a it:Addr):Turn P w K tg (Itl K a) [it] it (fun i h=>h.IsListIter it a i) where
 mem:=by simp
 obj:=fun i h st b hb=>by
  have e:b=it:=by simpa using hb
  subst e
  obtain⟨o,e,c,d⟩:=st
  exact⟨o,e,fun v z=>by rw[d]at z;cases z⟩
 keep:=fun i h h' st k=>st.at fun o e=>k it (by simp) o e
 item:=by
  intro X hP hw hK hc i pins s σ H E I hf st hg
  subst hP hw hK
  obtain⟨xs,x,hq,hx⟩:=hg
  obtain⟨its,rv,p,hz⟩:=I.list hq
  obtain⟨u,hu,ru⟩:=rv.get hx
  obtain⟨f0,f1,f2,f3,f4,f5⟩:=hf it (by simp)
  refine wpAny_pyNext_list_item st p.isList (x:=u) (by simpa using hu) fun h' st' sb=>?_
  have I1:Inv X pins σ H { s with heap:=h' }:=I.turned (t':=s.toks) (fun b o hb e=>(sb.2 b hb).trans e) f0 f1 f3 f4 f5
  obtain⟨o,e,c,d⟩:=id st'
  exact⟨u,rfl,a7D (s:={ s with heap:=h' }) e c d (by decide) ⟨x,H,I1,ru,⟨rfl,fun ys hy=>by rw[I.list_inj hy hq];exact hx⟩,st',fun b hb=>(hf b hb).1⟩⟩
 done:=by
  intro X hP hw hK hc i pins s σ H E I hf st hg
  subst hP hw hK
  obtain⟨xs,hq,hx⟩:=hg
  obtain⟨its,rv,p,hz⟩:=I.list hq
  obtain⟨f0,f1,f2,f3,f4,f5⟩:=hf it (by simp)
  have hl:=rv.length
  exact wpAny_pyNext_list_end (I.ok.hd hc) st p.isList (by simp;omega) fun h' eb=>⟨rfl,I.turned (t':=s.toks) (fun b o hb e=>eb b o hb e) f0 f1 f3 f4 f5⟩
 self:=fun _ _ _ _ _ st h=>wpAny_pyIter_listiter st h
theorem a4i{P:Program}{w:World}{K:PySem.W.Frag}{tg:Expr}(it:Addr)(lo:Int)(n:Nat):Turn P w K tg (W7 lo n) [it] it (fun i h=>IsRangeIter h it (lo+(i:Nat)*1) ((n:Int)-(i:Nat)) 1) where
 mem:=by simp
 obj:=fun i h st b hb=>by
  have e:b=it:=by simpa using hb
  subst e
  exact⟨_,st,fun v z=>by
   have z':Data.fields _=Data.cell v:=z
   cases z'⟩
 keep:=fun i h h' st k=>k it (by simp) _ st
 item:=by
  intro X hP hw hK hc i pins s σ H E I hf st hg
  subst hP hw hK
  obtain⟨f0,f1,f2,f3,f4,f5⟩:=hf it (by simp)
  have W:=Walks.range (prog:=X.prog) (w:=X.w) (I.ok.hd hc) it lo 1 n
  refine W.item i s _ _ hg st fun v h' tk hv st' kk=>?_
  obtain⟨t,rfl⟩:=hv
  have I1:Inv X pins σ H { s with heap:=h',toks:=tk }:=I.turned (fun b o hb e=>kk b o (by simpa using hb) e) f0 f1 f3 f4 f5
  refine⟨_,rfl,a7D (s:={ s with heap:=h',toks:=tk }) (n := "range_iterator") st' rfl rfl (by decide) ⟨.int (lo+i),H,I1,⟨t,?_⟩,⟨rfl,rfl⟩,st',fun b hb=>(hf b hb).1⟩⟩
  rw[Int.mul_one]
 done:=by
  intro X hP hw hK hc i pins s σ H E I hf st hg
  subst hP hw hK
  obtain⟨f0,f1,f2,f3,f4,f5⟩:=hf it (by simp)
  exact wpAny_pyNext_range_end (I.ok.hd hc) st (by have:n≤i:=hg;omega) fun h' eb=>⟨rfl,I.turned (t':=s.toks) (fun b o hb e=>eb b o hb e) f0 f1 f3 f4 f5⟩
 self:=fun _ _ _ _ _ st h=>wpAny_pyIter_rangeiter st h
section
variable {X:Cx}{tg:Expr}
def a0U(K:W.Frag)(tl:TE):TI:=fun σ H R=>tl σ H fun x H1=>∃a,x=.ref a∧(∃xs,SqL K H1 a xs)∧R (Itl K a) H1
theorem Z7{l:Expr}{tl:TE}(hl:PE X l tl):PI X tg l (a0U X.K tl):=by
 intro pins s σ H R I h
 refine h7 (hl pins s σ H _ I h) fun v s1 ⟨x,H1,I1,r1,q1⟩=>?_
 obtain⟨a,e,⟨xs,hq⟩,q⟩:=q1
 subst e
 cases r1
 obtain⟨its,rv,p,hz⟩:=I1.list hq
 refine wpAny_pyIter_list p.isList ?_
 refine⟨s1.heap.objs.size,[s1.heap.objs.size],_,_,H1,rfl,I1.kept (t':=s1.toks) fun b o e=>Heap.get?_push_of_some _ e,a4_ a _,⟨_,Heap.get?_push_size _ rfl,rfl,rfl⟩,fun b hb=>?_,q⟩
 have e:b=s1.heap.objs.size:=by simpa using hb
 subst e
 exact I1.fpOk (Nat.le_refl _) (I1.hok.fresh (Nat.le_refl _))
theorem a6h{pins:List (Addr×Obj)}{σ:St}{H:Hp}{s:Shared}{R:It→Hp→Prop}{E:Value→Shared→Prop}{lo hi:Int}{t u v:Tok}{tk:Nat}(I:Inv X pins σ H s)(h1 : -(2 ^ 62)≤lo)(h2:lo<2 ^ 62)(h3 : -(2 ^ 62)≤hi)(h4:hi<2 ^ 62)
  (q:R (W7 lo (hi-lo).toNat) H):wpAny (model X.prog X.w) X.A (pyIter (.ref s.heap.objs.size)) (PIE X pins σ tg R) E { s with heap:=s.heap.push { cls:=.type "range",data:=.fields #[.int lo t,.int hi u,.int 1 v] },toks:=tk }:=by
 refine wpAny_pyIter_range (IsRange.new ..) (small_one h1 h2 h3 h4) ?_
 have I1:Inv X pins σ H { s with heap:=s.heap.push { cls:=.type "range",data:=.fields #[.int lo t,.int hi u,.int 1 v] },toks:=tk }:=I.kept fun b o e=>Heap.get?_push_of_some _ e
 refine⟨(s.heap.push { cls:=.type "range",data:=.fields #[.int lo t,.int hi u,.int 1 v] }).objs.size,[(s.heap.push { cls:=.type "range",data:=.fields #[.int lo t,.int hi u,.int 1 v] }).objs.size],_,_,H,rfl,
  I1.kept (t':=tk) fun b o e=>Heap.get?_push_of_some _ e,a4i _ lo (hi-lo).toNat,?_,fun b hb=>?_,q⟩
 ·have e1:lo+((0:Nat):Int)*1=lo:=by simp
  have e2:(((hi-lo).toNat:Nat):Int)-((0:Nat):Int)=Builtin.Range.rangeSize lo hi 1:=by rw[rangeSize_one];split<;>omega
  show IsRangeIter _ _ (lo+((0:Nat):Int)*1) ((((hi-lo).toNat:Nat):Int)-((0:Nat):Int)) 1
  rw[e1,e2]
  exact Heap.get?_push_size _ rfl
 ·have e:b=(s.heap.push { cls:=.type "range",data:=.fields #[.int lo t,.int hi u,.int 1 v] }).objs.size:=by simpa using hb
  subst e
  exact I1.fpOk (Nat.le_refl _) (I1.hok.fresh (Nat.le_refl _))
def a4j(ta:TA):TI:=fun σ H R=>ta σ H fun vs H1=>∃j:Int,vs=[.int j]∧-(2 ^ 62)≤j∧j<2 ^ 62∧R (W7 0 j.toNat) H1
theorem W8{a:Expr}{ta:TA}{p pos:Pos}(hg:Gl X "range")(hm:X.mg "range" = none)(ha:PA X [a] ta)(hs:starEach [a] X.env=[(false,eval a X.env)]:=by rfl):PI X tg (.Call (.Name "range" p) [a] [] pos) (a4j ta):=by
 intro pins s σ H R I h
 refine Call_ (O1 I hg hm boot_range (PyProof.Rows.callWith_type1 (h7 (ha pos pins s σ H _ I h) fun us s1 ⟨vs,H1,I1,r1,q1⟩=>?_) hs rfl))
 obtain⟨j,e,q1,q2,q⟩:=q1
 subst e
 cases r1 with
 | cons r rr =>
  cases rr
  obtain⟨t,rfl⟩:=r
  exact call_range_1 (a6h I1 (by omega) (by omega) q1 q2 (by simpa using q))
def a2E(wi:TI)(g:TG)(tb:TS):TS:=fun D σ H=>wi σ H fun J H1=>∃W:Nat→Nat→St→Hp→Prop,(∃m,W 0 m σ H1)∧∀i m σ H,W i m σ H →
 (J.stop i H∧D.nx σ H)∨(J.go i H∧∃N:St→Hp→Prop,(∀σ' H',N σ' H'→∃m',m'<m∧W (i+1) m' σ' H')∧∀x H',J.yld i H x H'→g x σ H' fun σ2 H2=>tb { D with nx:=N,ct:=N,bk:=D.nx } σ2 H2)
def W9(fp:List Addr)(h:Heap):List (Addr×Obj):=fp.filterMap fun b=>(h.get? b).map fun o=>(b,o)
theorem M7{fp:List Addr}{h:Heap}{b:Addr}{o:Obj}(hb:b∈fp)(e:h.get? b=some o):(b,o)∈W9 fp h:=List.mem_filterMap.mpr ⟨b,hb,by rw[e];rfl⟩
theorem a5a{fp:List Addr}{h:Heap}{p:Addr×Obj}(hp:p∈W9 fp h):p.1∈fp∧h.get? p.1=some p.2:=by
 obtain⟨b,hb,e⟩:=List.mem_filterMap.mp hp
 cases q:h.get? b with
 | none=>rw[q]at e;cases e
 | some o =>
  rw[q]at e
  have e':(b,o)=p:=Option.some.inj e
  subst e'
  exact⟨hb,q⟩
theorem Inv.pinned{pins:List (Addr×Obj)}{σ:St}{H:Hp}{s:Shared}{fp:List Addr}(I:Inv X pins σ H s)(hf:∀b∈fp,FpOk X pins H b)(ho:∀b∈fp,∃o,s.heap.get? b=some o∧∀v,o.data≠.cell v):Inv X (pins++W9 fp s.heap) σ H s :=
 I.pins_of fun p hp=>(List.mem_append.mp hp).elim (fun z=>I.pin p (List.mem_append_right _ z)) fun z=>by
  obtain⟨hb,e⟩:=a5a z
  obtain⟨f0,f1,f2,_⟩:=hf p.1 hb
  obtain⟨o,e',d⟩:=ho p.1 hb
  rw[e]at e';cases e'
  exact⟨e,f0,f1,f2,d⟩
theorem Inv.unpinned{pins pl:List (Addr×Obj)}{σ:St}{H:Hp}{s:Shared}(I:Inv X (pins++pl) σ H s):Inv X pins σ H s:=I.pins_of fun p hp=>I.pin p (List.mem_append_right _ (List.mem_append_left _ hp))
theorem X0{iter:Expr}{body:List Stmt}{wi:TI}{g:TG}{tb:TS}{pos:Pos}(hp:PassesOwn (model X.prog X.w) X.A X.env X.xe)(hc:X.calm=true)(hi:PI X tg iter wi)(hg:PG X tg g)(hb:PSs X body tb)
  (hs:∀x,foldedSetIterable iter X.env x=pure x:=by intro _;rfl):PS X (.For tg iter body [] pos) (a2E wi g tb):=by
 intro pins s σ H D I h
 refine wpAny_For (h7 (hi pins s σ H _ I h) fun v s1 h1=>h7 h1 fun itv s2 h2=>?_) hs
 obtain⟨it,fp,tn,J,H2,e,I2,T,st2,f2,W,⟨m0,w0⟩,turn⟩:=h2
 subst e
 -- what stays true of the iterator's objects through the loop
 have stat:∀{H':Hp},(∀b∈fp,H' b=none)→∀b∈fp,FpOk X pins H' b:=fun hn b hb=>⟨hn b hb,(f2 b hb).2⟩
 refine codeAny_forLoop_any (fun n s'=>∃i σ' H',Inv X pins σ' H' s'∧tn i s'.heap∧(∀b∈fp,H' b=none)∧W i n σ' H') ?_ m0 ⟨0,σ,H2,I2,st2,fun b hb=>(f2 b hb).1,w0⟩
 rintro n s3 ⟨i,σ3,H3,I3,st3,fr3,w3⟩
 rcases turn i n σ3 H3 w3 with⟨stop,qn⟩ | ⟨go,N,hN,step⟩
 ·refine wpAny_passesOwn hp (h7 (T.done X rfl rfl rfl hc i pins s3 σ3 H3 X.xe I3 (stat fr3) st3 stop) fun r s4 ⟨hr,I4⟩=>?_)
  subst hr
  exact wpAny_execs_nil ⟨σ3,H3,I4,qn⟩
 ·refine wpAny_passesOwn hp (h7 (T.item X rfl rfl rfl hc i pins s3 σ3 H3 X.xe I3 (stat fr3) st3 go) fun r s4 ⟨u,hr,h4⟩=>?_)
  subst hr
  refine wpAny_passesOwn hp (h7 h4 fun _ s5 ⟨x,H5,I5,r5,y5,st5,fr5⟩=>?_)
  have I5':=I5.pinned (stat fr5) (T.obj _ _ st5)
  refine wpAny_passesOwn hp (h7 (hg _ s5 σ3 H5 x u _ I5' r5 (step x H5 y5)) fun _ s6 ⟨σ6,H6,I6,q6⟩=>?_)
  refine wpAny_passesOwn hp (h7 (hb _ s6 σ6 H6 _ I6 q6) fun f s7 q7=>?_)
  have again:∀{σ7:St} {H7:Hp},Inv X (pins++W9 fp s5.heap) σ7 H7 s7→N σ7 H7→∃m,m<n∧∃i σ' H',Inv X pins σ' H' s7∧tn i s7.heap∧(∀b∈fp,H' b=none)∧W i m σ' H':=fun{σ7 H7} I7 n7=>by
   obtain⟨m',hm,w7⟩:=hN σ7 H7 n7
   refine⟨m',hm,i+1,σ7,H7,I7.unpinned,T.keep _ _ _ st5 fun b hb o e=>(I7.pin (b,o) (List.mem_append_right _ (List.mem_append_right _ (M7 hb e)))).1,fun b hb=>?_,w7⟩
   obtain⟨o,e,d⟩:=T.obj _ _ st5 b hb
   exact(I7.pin (b,o) (List.mem_append_right _ (List.mem_append_right _ (M7 hb e)))).2.1
  cases f with
  | next=>obtain⟨σ7,H7,I7,n7⟩:=q7;exact again I7 n7
  | cont=>obtain⟨σ7,H7,I7,n7⟩:=q7;exact again I7 n7
  | brk=>obtain⟨σ7,H7,I7,q7⟩:=q7;exact⟨σ7,H7,I7.unpinned,q7⟩
  | ret v=>obtain⟨x7,σ7,H7,I7,r7,q7⟩:=q7;exact⟨x7,σ7,H7,I7.unpinned,r7,q7⟩
end
theorem a6i{K:PySem.W.Frag}{a:Addr}{xs:List V}{g:TG}{tb:TS}{D:Ends}{σ:St}{H:Hp}(Pv:Nat→St→Hp→Prop)(h0:Pv 0 σ H)(hl:∀i σ H,i≤xs.length→Pv i σ H→SqL K H a xs)
  (hs:∀i x σ H,xs[i]? = some x→Pv i σ H→g x σ H fun σ2 H2=>tb { D with nx:=Pv (i+1),ct:=Pv (i+1),bk:=D.nx } σ2 H2) (hd:∀σ H,Pv xs.length σ H→D.nx σ H) :
  ∃W:Nat→Nat→St→Hp→Prop,(∃m,W 0 m σ H)∧∀i m σ H,W i m σ H →
   ((Itl K a).stop i H∧D.nx σ H)∨((Itl K a).go i H∧∃N:St→Hp→Prop,(∀σ' H',N σ' H'→∃m',m'<m∧W (i+1) m' σ' H')∧∀x H',(Itl K a).yld i H x H'→g x σ H' fun σ2 H2=>tb { D with nx:=N,ct:=N,bk:=D.nx } σ2 H2):=by
 refine⟨fun i m σ H=>m=xs.length-i∧i≤xs.length∧Pv i σ H,⟨xs.length,by simp,Nat.zero_le _,h0⟩,?_⟩
 rintro i m σ H ⟨rfl,hi,p⟩
 have q:=hl i σ H hi p
 by_cases hlt:i<xs.length
 ·refine .inr ⟨⟨xs,xs[i],q,by simp[hlt]⟩,Pv (i+1),fun σ' H' p'=>⟨xs.length-(i+1),by omega,rfl,hlt,p'⟩,fun x H' y=>?_⟩
  obtain⟨e,y⟩:=y
  subst e
  exact hs i x σ _ (y xs q) p
 ·have e:i=xs.length:=by omega
  subst e
  exact .inl ⟨⟨xs,q,Nat.le_refl _⟩,hd σ H p⟩
theorem a5b{lo:Int}{n:Nat}{g:TG}{tb:TS}{D:Ends}{σ:St}{H:Hp}(Pv:Nat→St→Hp→Prop)(h0:Pv 0 σ H)
  (hs:∀i σ H,i<n→Pv i σ H→g (.int (lo+i)) σ H fun σ2 H2=>tb { D with nx:=Pv (i+1),ct:=Pv (i+1),bk:=D.nx } σ2 H2) (hd:∀σ H,Pv n σ H→D.nx σ H) :
  ∃W:Nat→Nat→St→Hp→Prop,(∃m,W 0 m σ H)∧∀i m σ H,W i m σ H →
   ((W7 lo n).stop i H∧D.nx σ H)∨((W7 lo n).go i H∧∃N:St→Hp→Prop,(∀σ' H',N σ' H'→∃m',m'<m∧W (i+1) m' σ' H')∧∀x H',(W7 lo n).yld i H x H'→g x σ H' fun σ2 H2=>tb { D with nx:=N,ct:=N,bk:=D.nx } σ2 H2):=by
 refine⟨fun i m σ H=>m=n-i∧i≤n∧Pv i σ H,⟨n,by simp,Nat.zero_le _,h0⟩,?_⟩
 rintro i m σ H ⟨rfl,hi,p⟩
 by_cases hlt:i<n
 ·refine .inr ⟨hlt,Pv (i+1),fun σ' H' p'=>⟨n-(i+1),by omega,rfl,hlt,p'⟩,fun x H' y=>?_⟩
  obtain⟨e,y⟩:=y
  subst e y
  exact hs i σ _ hlt p
 ·have e:i=n:=by omega
  subst e
  exact .inl ⟨Nat.le_refl _,hd σ H p⟩
abbrev R2:=V→V→Hp→VK→Prop
def G1(X:Cx)(f:Value→Value→Sem Value)(r:R2):Prop :=
 ∀(pins:List (Addr×Obj)) (s:Shared) (σ:St) (H:Hp) (x y:V) (v u:Value) (Q:VK),Inv X pins σ H s→RelV x v→RelV y u→r x y H Q →
  wpAny (model X.prog X.w) X.A (f v u) (EP X pins σ Q) X.xe s
def J4(X:Cx)(f:Value)(r:List V→Hp→VK→Prop):Prop :=
 ∀(pins:List (Addr×Obj)) (s:Shared) (σ:St) (H:Hp) (xs:List V) (us:List Value) (Q:VK),Inv X pins σ H s→Vals xs us→r xs H Q →
  wpAny (model X.prog X.w) X.A (call f us) (EP X pins σ Q) X.xe s
def tOp(r:R2)(ta tb:TE):TE:=fun σ H Q=>ta σ H fun x H1=>tb σ H1 fun y H2=>r x y H2 Q
def tUn(r:V→Hp→VK→Prop)(ta:TE):TE:=fun σ H Q=>ta σ H fun x H1=>r x H1 Q
def rI(C:Int→Int→Prop)(g:Int→Int→V):R2:=fun x y H Q=>∃i j,x=.int i∧y=.int j∧C i j∧Q (g i j) H
def X1(g:Int→Int→V):R2:=fun x y H Q=>∃i j,x=.int i∧y=.int j∧Q (g i j) H
section
variable {X:Cx}{a b c:Expr}{ta tb tc:TE}{pos:Pos}
theorem a6j(ha:PE X a ta)(hb:PE X b tb){pins:List (Addr×Obj)}{s:Shared}{σ:St}{H:Hp}{R:V→V→Hp→Prop}(I:Inv X pins σ H s)
  (h:ta σ H fun x H1=>tb σ H1 fun y H2=>R x y H2) {Q:Value→Shared→Prop} {f:Value→Value→Sem Value}
  (hf:∀v u s2 x y H2,Inv X pins σ H2 s2→RelV x v→RelV y u→R x y H2→wpAny (model X.prog X.w) X.A (f v u) Q X.xe s2) :
  wpAny (model X.prog X.w) X.A (eval a X.env) (fun v s₁=>wpAny (model X.prog X.w) X.A (eval b X.env) (fun u s₂=>wpAny (model X.prog X.w) X.A (f v u) Q X.xe s₂) X.xe s₁) X.xe s:=by
 refine h7 (ha pins s σ H _ I h) fun v s1 ⟨x,H1,I1,r1,q1⟩=>?_
 refine h7 (hb pins s1 σ H1 _ I1 q1) fun u s2 ⟨y,H2,I2,r2,q2⟩=>?_
 exact hf v u s2 x y H2 I2 r1 r2 q2
theorem j9{op:Operator}{r:R2}(ho:G1 X (binaryOp op) r)(ha:PE X a ta)(hb:PE X b tb):PE X (.BinOp a op b pos) (tOp r ta tb):=by
 intro pins s σ H Q I h
 exact wpAny_BinOp (a6j ha hb I h fun v u s2 x y H2 I2 rx ry q=>ho pins s2 σ H2 x y v u Q I2 rx ry q)
theorem opI{f:Value→Value→Sem Value}{C:Int→Int→Prop}{g:Int→Int→Int}
  (rule:∀(i j:Int) (t u:Tok) (s:Shared) (Q:Value→Shared→Prop) (E:Value→Shared→Prop),C i j→Q (.int (g i j) s.toks) { s with toks:=s.toks+1 }→wpAny (model X.prog X.w) X.A (f (.int i t) (.int j u)) Q E s) :
  G1 X f (rI C fun i j=>.int (g i j)):=by
 intro pins s σ H x y v u Q I rx ry h
 obtain⟨i,j,rfl,rfl,hc,q⟩:=h
 obtain⟨t,rfl⟩:=rx
 obtain⟨t',rfl⟩:=ry
 exact rule i j t t' s _ _ hc ⟨.int (g i j),H,I.tok _,⟨_,rfl⟩,q⟩
theorem b17{f:Value→Value→Sem Value}{g:Int→Int→Int}
  (rule:∀(i j:Int) (t u:Tok) (s:Shared) (Q:Value→Shared→Prop) (E:Value→Shared→Prop),Q (.int (g i j) s.toks) { s with toks:=s.toks+1 }→wpAny (model X.prog X.w) X.A (f (.int i t) (.int j u)) Q E s) :
  G1 X f (X1 fun i j=>.int (g i j)):=by
 intro pins s σ H x y v u Q I rx ry h
 obtain⟨i,j,rfl,rfl,q⟩:=h
 obtain⟨t,rfl⟩:=rx
 obtain⟨t',rfl⟩:=ry
 exact rule i j t t' s _ _ ⟨.int (g i j),H,I.tok _,⟨_,rfl⟩,q⟩
theorem a6k{f:Value→Value→Sem Value}{g:Int→Int→Bool}
  (rule:∀(i j:Int) (t u:Tok) (s:Shared) (Q:Value→Shared→Prop) (E:Value→Shared→Prop),Q (.bool (g i j)) s→wpAny (model X.prog X.w) X.A (f (.int i t) (.int j u)) Q E s) :
  G1 X f (X1 fun i j=>.bl (g i j)):=by
 intro pins s σ H x y v u Q I rx ry h
 obtain⟨i,j,rfl,rfl,q⟩:=h
 obtain⟨t,rfl⟩:=rx
 obtain⟨t',rfl⟩:=ry
 exact rule i j t t' s _ _ ⟨.bl (g i j),H,I,rfl,q⟩
def a1v(i j:Int):Prop:=0≤j∧j≤1000000∧i.natAbs<2 ^ 64
def CMul(i j:Int):Prop:=(-(2 ^ 64)<i∧i<2 ^ 64)∨(-(2 ^ 64)<j∧j<2 ^ 64)
theorem CMul.ok{i j:Int}(h:CMul i j):IntMulOk i j:=by
 rcases h with⟨h1,h2⟩ | ⟨h1,h2⟩
 ·exact .of_left (intBits_le_64 h1 h2)
 ·exact .of_right (intBits_le_64 h1 h2)
theorem B2:G1 X (binaryOp .Add) (X1 fun i j=>.int (i+j)):=b17 fun _ _ _ _ _ _ _ q=>add_int q
theorem K4:G1 X (binaryOp .Mod) (rI (fun _ j=>0<j) fun i j=>.int (i%j)):=opI fun i j _ _ _ _ _ hc q=>by
 have h1:(0:Int)<j:=hc
 exact mod_int' (by omega) (by rw[Int.fmod_eq_emod_of_nonneg i (by omega)];exact q)
theorem a5c:G1 X (binaryOp .Pow) (rI a1v fun i j=>.int (i ^ j.toNat)):=opI fun _ _ _ _ _ _ _ hc q=>pow_int_small hc.1 hc.2.1 hc.2.2 q
end
def a4k:V→V→Bool
 | .non,.non=>true | .non,.int _=>true | .int _,.non=>true | .non,.bl _=>true | .bl _,.non=>true | .non,.str _=>true | .str _,.non=>true
 | .int _,.int _=>true | .bl _,.bl _=>true | .str _,.str _=>true | .byt _,.byt _=>true
 | .int _,.str _=>true | .str _,.int _=>true | .bl _,.str _=>true | .str _,.bl _=>true
 | _,_=>false
def rEq:R2:=fun x y H Q=>a4k x y=true∧Q (.bl (decide (x=y))) H
def rNe:R2:=fun x y H Q=>a4k x y=true∧Q (.bl (!decide (x=y))) H
theorem a3E{i j:Int}:decide (V.int i=V.int j)=(i == j):=by
 rw[Bool.eq_iff_iff]
 simp
theorem a5d{i j:Bool}:decide (V.bl i=V.bl j)=(i == j):=by
 rw[Bool.eq_iff_iff]
 simp
theorem a3F{i j:Str}:decide (V.str i=V.str j)=(i == j):=by
 rw[Bool.eq_iff_iff]
 simp
theorem a3G{i j:Array UInt8}:decide (V.byt i=V.byt j)=(i.toList == j.toList):=by
 rw[Bool.eq_iff_iff]
 cases i
 cases j
 simp
section
variable {X:Cx}{a b c:Expr}{ta tb tc:TE}{pos:Pos}
theorem h9{pins:List (Addr×Obj)}{σ:St}{H:Hp}{s:Shared}{Q:VK}{k k':Bool}(I:Inv X pins σ H s)(q:Q (.bl k) H)(e:k=k'):EP X pins σ Q (.bool k') s:=by
 subst e
 exact⟨.bl k,H,I,rfl,q⟩
theorem T4:G1 X (compareOp .Eq) rEq:=by
 intro pins s σ H x y v u Q I rx ry h
 obtain⟨hs,q⟩:=h
 cases x with
 | non =>
  cases rx
  cases y with
  | non=>cases ry;exact PySem.EqNone.eq_none_none (h9 I q (by simp))
  | bl j=>cases ry;exact PySem.EqNone.eq_none_bool (h9 I q (by simp))
  | int j=>obtain⟨t',rfl⟩:=ry;exact PySem.EqNone.eq_none_int (h9 I q (by simp))
  | str j=>obtain⟨t',rfl⟩:=ry;exact PySem.EqNone.eq_none_str (h9 I q (by simp))
  | _=>exact absurd (show false=true from hs) Bool.false_ne_true
 | bl i =>
  cases rx
  cases y with
  | non=>cases ry;exact PySem.EqNone.eq_bool_none (h9 I q (by simp))
  | bl j=>cases ry;exact eq_bool (h9 I q a5d)
  | str j=>obtain⟨t',rfl⟩:=ry;exact PySem.EqMixed.eq_bool_str (h9 I q (by simp))
  | _=>exact absurd (show false=true from hs) Bool.false_ne_true
 | int i =>
  obtain⟨t,rfl⟩:=rx
  cases y with
  | non=>cases ry;exact PySem.EqNone.eq_int_none (h9 I q (by simp))
  | int j=>obtain⟨t',rfl⟩:=ry;exact eq_int (h9 I q a3E)
  | str j=>obtain⟨t',rfl⟩:=ry;exact PySem.EqMixed.eq_int_str (h9 I q (by simp))
  | _=>exact absurd (show false=true from hs) Bool.false_ne_true
 | str i =>
  obtain⟨t,rfl⟩:=rx
  cases y with
  | non=>cases ry;exact PySem.EqNone.eq_str_none (h9 I q (by simp))
  | bl j=>cases ry;exact PySem.EqMixed.eq_str_bool (h9 I q (by simp))
  | int j=>obtain⟨t',rfl⟩:=ry;exact PySem.EqMixed.eq_str_int (h9 I q (by simp))
  | str j=>obtain⟨t',rfl⟩:=ry;exact eq_str (h9 I q a3F)
  | _=>exact absurd (show false=true from hs) Bool.false_ne_true
 | byt i =>
  obtain⟨t,rfl⟩:=rx
  cases y with
  | byt j=>obtain⟨t',rfl⟩:=ry;exact W.eq_bytes (h9 I q a3G)
  | _=>exact absurd (show false=true from hs) Bool.false_ne_true
 | _=>cases y<;>exact absurd (show false=true from hs) Bool.false_ne_true
theorem a7F:G1 X (compareOp .NotEq) rNe:=by
 intro pins s σ H x y v u Q I rx ry h
 obtain⟨hs,q⟩:=h
 cases x with
 | non =>
  cases rx
  cases y with
  | non=>cases ry;exact PySem.EqNone.ne_none_none (h9 I q (by simp))
  | bl j=>cases ry;exact PySem.EqNone.ne_none_bool (h9 I q (by simp))
  | int j=>obtain⟨t',rfl⟩:=ry;exact PySem.EqNone.ne_none_int (h9 I q (by simp))
  | str j=>obtain⟨t',rfl⟩:=ry;exact PySem.EqNone.ne_none_str (h9 I q (by simp))
  | _=>exact absurd (show false=true from hs) Bool.false_ne_true
 | bl i =>
  cases rx
  cases y with
  | non=>cases ry;exact PySem.EqNone.ne_bool_none (h9 I q (by simp))
  | bl j=>cases ry;exact ne_bool (h9 I q (congrArg not a5d))
  | str j=>obtain⟨t',rfl⟩:=ry;exact PySem.EqMixed.ne_bool_str (h9 I q (by simp))
  | _=>exact absurd (show false=true from hs) Bool.false_ne_true
 | int i =>
  obtain⟨t,rfl⟩:=rx
  cases y with
  | non=>cases ry;exact PySem.EqNone.ne_int_none (h9 I q (by simp))
  | int j=>obtain⟨t',rfl⟩:=ry;exact ne_int (h9 I q (congrArg not a3E))
  | str j=>obtain⟨t',rfl⟩:=ry;exact PySem.EqMixed.ne_int_str (h9 I q (by simp))
  | _=>exact absurd (show false=true from hs) Bool.false_ne_true
 | str i =>
  obtain⟨t,rfl⟩:=rx
  cases y with
  | non=>cases ry;exact PySem.EqNone.ne_str_none (h9 I q (by simp))
  | bl j=>cases ry;exact PySem.EqMixed.ne_str_bool (h9 I q (by simp))
  | int j=>obtain⟨t',rfl⟩:=ry;exact PySem.EqMixed.ne_str_int (h9 I q (by simp))
  | str j=>obtain⟨t',rfl⟩:=ry;exact ne_str (h9 I q (congrArg not a3F))
  | _=>exact absurd (show false=true from hs) Bool.false_ne_true
 | byt i =>
  obtain⟨t,rfl⟩:=rx
  cases y with
  | byt j=>obtain⟨t',rfl⟩:=ry;exact W.ne_bytes (h9 I q (congrArg not a3G))
  | _=>exact absurd (show false=true from hs) Bool.false_ne_true
 | _=>cases y<;>exact absurd (show false=true from hs) Bool.false_ne_true
theorem b1n:G1 X (compareOp .Lt) (X1 fun i j=>.bl (decide (i<j))):=a6k fun _ _ _ _ _ _ _ q=>lt_int q
theorem b1o:G1 X (compareOp .LtE) (X1 fun i j=>.bl (decide (i≤j))):=a6k fun _ _ _ _ _ _ _ q=>le_int q
theorem a2u:G1 X (compareOp .Gt) (X1 fun i j=>.bl (decide (j<i))):=a6k fun _ _ _ _ _ _ _ q=>gt_int q
theorem a8f:G1 X (compareOp .IsNot) (fun x y H Q=>y=.non∧Q (.bl (!decide (x=.non))) H):=by
 intro pins s σ H x y v u Q I rx ry h
 obtain⟨rfl,q⟩:=h
 cases ry
 refine isnot_none_gen (h9 I q ?_)
 cases x<;>first
  | (cases rx;rfl)
  | (obtain⟨t,rfl⟩:=rx;rfl)
theorem n6(b:Expr){op:CmpOp}(h:op≠.In:=by decide)(h2:op≠.NotIn:=by decide):behindInMarks op b=false:=by
 have e1:(op == CmpOp.In)=false:=by cases op<;>first | rfl | exact absurd rfl h
 have e2:(op == CmpOp.NotIn)=false:=by cases op<;>first | rfl | exact absurd rfl h2
 cases b<;>simp[behindInMarks,e1,e2]
theorem G5{op:CmpOp}{r:R2}(ho:G1 X (compareOp op) r)(ha:PE X a ta)(hb:PE X b tb)(hm:behindInMarks op b=false):PE X (.Compare a [op] [b] pos) (tOp r ta tb):=by
 intro pins s σ H Q I h
 exact wpAny_Compare1 (a6j ha hb I h fun v u s2 x y H2 I2 rx ry q=>ho pins s2 σ H2 x y v u Q I2 rx ry q) hm
def a7G(t:TE):TT:=fun σ H Q=>t σ H fun x H'=>∃k,x=.bl k∧Q k H'
theorem y4{op:CmpOp}{r:R2}(ho:G1 X (compareOp op) r)(ha:PE X a ta)(hb:PE X b tb)(hm:behindInMarks op b=false):PT X (.Compare a [op] [b] pos) (a7G (tOp r ta tb)):=by
 intro pins s σ H Q I h
 refine wpAny_isTrue_Compare1 (h7 (ha pins s σ H _ I h) fun v s1 ⟨x,H1,I1,r1,q1⟩=>h7 (hb pins s1 σ H1 _ I1 q1) fun u s2 ⟨y,H2,I2,r2,q2⟩ =>
  h7 (ho pins s2 σ H2 x y v u _ I2 r1 r2 q2) fun c s3 ⟨z,H3,I3,r3,k,e,q3⟩=>?_) hm
 subst e
 cases r3
 exact wpAny_truthy_bool ⟨H3,I3,q3⟩
theorem a2F:(sizeLine:Nat)<2 ^ 63:=by rw[sizeLine_eq];decide
theorem a7H{x:V}{us:List Value}(r:Vals [x] us):∃u,us=[u]∧RelV x u:=by
 cases r with
 | cons r1 r2=>cases r2;exact⟨_,rfl,r1⟩
theorem a7I{x y:V}{us:List Value}(r:Vals [x,y] us):∃u w',us=[u,w']∧RelV x u∧RelV y w':=by
 cases r with
 | cons r1 r2 =>
  cases r2 with
  | cons r3 r4=>cases r4;exact⟨_,_,rfl,r1,r3⟩
theorem a5e(hc:X.calm=true):J4 X (.builtin "min") (fun xs H Q=>∃i j,xs=[.int i,.int j]∧Q (.int (if j<i then j else i)) H):=by
 intro pins s σ H xs us Q I r h
 obtain⟨i,j,rfl,q⟩:=h
 obtain⟨u,w',rfl,⟨t,rfl⟩,⟨t',rfl⟩⟩:=a7I r
 refine min_two_ints (I.ok.hd hc) fun h' tk k=>⟨_,H,I.kept k,?_,q⟩
 by_cases hj:j<i
 ·rw[if_pos hj,if_pos hj];exact⟨_,rfl⟩
 ·rw[if_neg hj,if_neg hj];exact⟨_,rfl⟩
end
structure ObjM(h:Heap)(x dx C:Addr)(mA:Str→Option Value):Prop where
 obj:h.get? x=some (W.instObj C dx)
 ns:h.Ns1 dx mA
 ne:dx≠x
theorem a1Z{h:Heap}{dx:Addr}{mA:Str→Option Value}(n:h.Ns1 dx mA):∃od,h.get? dx=some od∧∀name,W.lookIn name od=some (mA name):=by
 obtain⟨o,es,ep,ho,hd,hk,_,hm⟩:=n
 refine⟨o,ho,fun name=>?_⟩
 have e:=hm name
 unfold nsFind findBy at e
 rw[← Array.find?_toList]at e
 unfold W.lookIn
 rw[hd]
 dsimp only
 split
 ·rename_i y q
  rw[q]at e
  exact congrArg some e
 ·rename_i q
  rw[q]at e
  have a:es.toList.any (·.refKey)=false:=by
   rw[List.any_eq_false]
   intro y hy
   obtain⟨z,t,hkey⟩:=hk y (Array.mem_toList_iff.mp hy)
   simp[DictEntry.refKey,hkey]
  have a':¬es.toList.any (·.refKey)=true:=by rw[a];exact Bool.false_ne_true
  rw[if_neg a']
  exact congrArg some e
theorem ObjM.look{h:Heap}{x dx C:Addr}{mA:Str→Option Value}(I:ObjM h x dx C mA):∃od,W.InstAt h x (W.instObj C dx) C (some od)∧∀name,W.lookIn name od=some (mA name) :=
 let ⟨od,ho,hl⟩:=a1Z I.ns
 ⟨od,⟨I.obj,rfl,rfl,ho⟩,hl⟩
theorem RelO.some_of{v:V}{o:Option Value}(r:RelO (some v) o):∃u,o=some u∧RelV v u:=by
 cases o with
 | none=>exact(show False from r).elim
 | some u=>exact⟨u,rfl,r⟩
theorem a5f{v:V}{u:Value}(r:RelV v u):W.handedIn u=true:=by
 cases v with
 | non=>cases (show u=Value.none from r);rfl
 | bl b=>cases (show u=Value.bool b from r);rfl
 | int i=>obtain⟨t,e⟩:=(show ∃t,u=Value.int i t from r);cases e;rfl
 | str x=>obtain⟨t,e⟩:=(show ∃t,u=Value.str x t from r);cases e;rfl
 | byt b=>obtain⟨t,e⟩:=(show ∃t,u=Value.bytes b t from r);cases e;rfl
 | flt b=>obtain⟨t,e⟩:=(show ∃t,u=Value.float b t from r);cases e;rfl
 | ref a=>cases (show u=Value.ref a from r);rfl
 | ty n=>cases (show u=Value.type n from r);rfl
section
variable {P:Program}{w:World}{H H':Hp}{h h':Heap}{a C dx:Addr}{fs fs':List (Str×V)}
theorem a8g(hok:HOk P w H h)(e:H a=some (.ins C dx fs)):∃mA,ObjM h a dx C mA∧(∀f,RelO (fs.lookup f) (mA f))∧PySem.Within mA (fs.map (·.1))∧fs.length≤1000∧H dx=some (.own a):=by
 obtain⟨d,z,ne,ob,mA,n,r,q⟩:=(show ObjOk P w H h a (.ins C dx fs)from hok a _ e)
 exact⟨mA,⟨ob,n,ne⟩,r,q,z,d⟩
end
structure Cls(K:W.Frag)(C:Addr):Prop where
 pg:W.plainGet K C Str.empty=true
 hd:W.hasDictIn K C=true
 po:W.plainOver K C=true
 sa:W.findIn K (.ref C) "__setattr__" = some (some (.builtin "object.__setattr__"))
theorem Cls.get{K:W.Frag}{C:Addr}(c:Cls K C)(f:Str):W.plainGet K C f=true:=c.pg
section
variable {X:Cx}{pins:List (Addr×Obj)}{σ:St}{H:Hp}{s:Shared}{a C dx:Addr}{fs:List (Str×V)}{f:Str}{v:V}{A:Around}{E:Value→Shared→Prop}
theorem Inv.made(I:Inv X pins σ H s):Inv X pins σ (upd (upd H s.heap.objs.size (.own (s.heap.objs.size+1))) (s.heap.objs.size+1) (.ins C s.heap.objs.size []))
  { s with heap:=(s.heap.push W.emptyDict).push (W.instObj C s.heap.objs.size) }:=by
 have e1:(s.heap.push W.emptyDict).get? s.heap.objs.size=some W.emptyDict:=Heap.get?_push_size s.heap rfl
 have e2:((s.heap.push W.emptyDict).push (W.instObj C s.heap.objs.size)).get? (s.heap.objs.size+1)=some (W.instObj C s.heap.objs.size):=by
  have:=Heap.get?_push_size (s.heap.push W.emptyDict) (o:=W.instObj C s.heap.objs.size) rfl
  rwa [Heap.size_push]at this
 have e3:(s.heap.push W.emptyDict).Ns s.heap.objs.size (fun _=>none):=⟨W.emptyDict,#[],_,e1,rfl,(fun e he=>absurd he (by simp)),fun _=>rfl⟩
 have I1:=I.laid (a:=s.heap.objs.size) (o:=.own (s.heap.objs.size+1)) (h':=s.heap.push W.emptyDict) (t':=s.toks) (fun b u q=>Heap.get?_push_of_some _ q) (Nat.le_refl _) ⟨_,e1⟩
 refine I1.laid (a:=s.heap.objs.size+1) (o:=.ins C s.heap.objs.size []) (t':=s.toks) (fun b u q=>Heap.get?_push_of_some _ q) (Nat.le_of_eq (Heap.size_push _ _)) ?_
 have ne:s.heap.objs.size≠s.heap.objs.size+1:=Nat.ne_of_lt (Nat.lt_succ_self _)
 refine⟨by rw[a7 ne,c8],Nat.zero_le _,ne,e2,fun _=>none,(Heap.Ns1.of_empty e3).at fun o q=>Heap.get?_push_of_some _ q,fun _=>True.intro,fun y hy=>absurd rfl hy⟩
theorem a8h{prog:Program}{w:World}{env:Env}{e:Expr}{f:Str}{pos:Pos}{s:Shared}{Q:Value→Shared→Prop}(hb:attributeBase e f env (eval e env)=eval e env)
  (h:wpAny (model prog w) A (eval e env) (fun o s₁=>wpAny (model prog w) A (getAttr o f true) Q E s₁) E s):wpAny (model prog w) A (eval (.Attribute e f pos) env) Q E s :=
 Attribute_any_ h (by rw[arm_eval_Attribute,hb])
end
section
variable {X:Cx}{pins:List (Addr×Obj)}{σ:St}{H:Hp}{s:Shared}{A:Around}{E:Value→Shared→Prop}{Q:Value→Shared→Prop}{c:Value}{b:Bool}
inductive TyOf(K:W.Frag)(H:Hp):V→Value→Prop where
 | non:TyOf K H .non (.type "NoneType")
 | bl (x:Bool):TyOf K H (.bl x) (.type "bool")
 | int (i:Int):TyOf K H (.int i) (.type "int")
 | str (x:Str):TyOf K H (.str x) (.type "str")
 | flt (x:UInt64):TyOf K H (.flt x) (.type "float")
 | lst {a:Addr} {xs:List V} (e:H a=some (.lst xs)):TyOf K H (.ref a) (.type "list")
 | frz {a:Addr} {o:Obj} {xs:List V} (e:H a=some (.frz o (.lst xs))):TyOf K H (.ref a) (.type "list")
 | tup {a:Addr} {xs:List V} (e:H a=some (.tup xs)):TyOf K H (.ref a) (.type "tuple")
 | dK {a:Addr} {kvs:List (j4×V)} (e:H a=some (.dK kvs)):TyOf K H (.ref a) (.type "dict")
 | dT {a:Addr} {kvs:List (List j4×V)} (e:H a=some (.dT kvs)):TyOf K H (.ref a) (.type "dict")
 | ins {a C dx:Addr} {fs:List (Str×V)} (e:H a=some (.ins C dx fs)) (cl:Cls K C) (ha:W.findIn K (.ref C) "__class__" = some (some (.builtin "object.__class__")))
   (hn:W.specialIn K (.builtin "object.__class__") "__get__" = some (some (.builtin "getset_descriptor.__get__"))) (htk:W.takesIn K (.builtin "object.__class__")=some true)
   (hm:W.mroIn K C (.type "object")=some true):TyOf K H (.ref a) (.ref C)
end
structure Room(k:Nat)(A:Around):Prop where
 hd:A.handled=none
 dp:A.depth+3*k+5<recursionLimit
 un:A.units+16*k+200<cLine
theorem Room.mono{j k:Nat}{A:Around}(r:Room k A)(h:j≤k):Room j A:=⟨r.hd,by have:=r.dp;omega,by have:=r.un;omega⟩
theorem Room.deeper{k:Nat}{A:Around}(r:Room (k+1) A)(env:Env):Room k (A.deeper env) :=
 ⟨r.hd,by have:=r.dp;show A.depth+1+3*k+5<_;omega,by have:=r.un;show A.units+3+16*k+200<_;omega⟩
theorem Room.in1{k:Nat}{A:Around}(r:Room (k+1) A):Room k A.in1 :=
 ⟨r.hd,by have:=r.dp;show A.depth+3*k+5<_;omega,by have:=r.un;show A.units+1+16*k+200<_;omega⟩
theorem a4l{A:Around}{C:Addr}{us:List Value}{kw:List (Str×Value)}:(A.under (.builtin "type.__call__" ⟨.ref C::us,kw⟩)).depth=A.depth+1:=by
 first | rfl | simp[Around.under,Code.weight,Code.isCreation,Code.isGuard,Code.isCaller,Code.frames,Code.isFrame,guardIds]
theorem a4m{A:Around}{C:Addr}{us:List Value}{kw:List (Str×Value)}:(A.under (.builtin "type.__call__" ⟨.ref C::us,kw⟩)).units=A.units+1:=by
 first | rfl | simp[Around.under,Code.cUnits,Code.frames,Code.isFrame]
theorem Room.make{k:Nat}{A:Around}(r:Room (k+1) A)(C:Addr)(us:List Value)(kw:List (Str×Value)):Room k (A.under (.builtin "type.__call__" ⟨.ref C::us,kw⟩)) :=
 ⟨r.hd,by have:=r.dp;rw[a4l];omega,by have:=r.un;rw[a4m];omega⟩
theorem Room.depth{k:Nat}{A:Around}(r:Room k A):A.depth<recursionLimit:=by have:=r.dp;omega
theorem Room.units{k:Nat}{A:Around}(r:Room k A):A.units+64<cLine:=by have:=r.un;omega
def X2:TA:=fun _ H Q=>Q [] H
def M8(ta:TE)(tr:TA):TA:=fun σ H Q=>ta σ H fun x H1=>tr σ H1 fun xs H2=>Q (x::xs) H2
section
variable {X:Cx}{e:Expr}{es:List Expr}{te:TE}{t:TA}{pos:Pos}
theorem b0:PA X [] X2:=fun _ _ _ _ H Q I h=>Calls.spliced_nil ⟨[],H,I,.nil,h⟩
theorem a6(ha:PE X e te)(hr:PA X es t)(hs:starEach (e::es) X.env=(false,eval e X.env)::starEach es X.env:=by rfl):PA X (e::es) (M8 te t):=by
 intro pos pins s σ H Q I h
 rw[hs]
 show wpAny _ _ (spliced ((false,eval e X.env)::backTo pos (starEach es X.env))) _ _ s
 refine Calls.spliced_cons (h7 (ha pins s σ H _ I h) fun u s1 ⟨x,H1,I1,r1,q1⟩=>?_)
 exact h7 (hr pos pins s1 σ H1 _ I1 q1) fun us s2 ⟨xs,H2,I2,r2,q2⟩=>⟨x::xs,H2,I2,.cons r1 r2,q2⟩
def a92(t:TA):TE:=fun σ H Q=>t σ H fun xs H1=>xs.length≤sizeLine∧∀p,H1 p=none→Q (.ref p) (upd H1 p (.tup xs))
def a93(t:TA):TE:=fun σ H Q=>t σ H fun xs H1=>xs.length≤sizeLine∧∀p,H1 p=none→Q (.ref p) (upd H1 p (.lst xs))
theorem R9{x1}(h:PA X es t):PE X (.Tuple es x1 pos) (a92 t):=by
 intro pins s σ H Q I hq
 refine wpAny_Tuple_spliced (h7 (h pos pins s σ H _ I hq) fun us s1 ⟨xs,H1,I1,r,z,q⟩=>⟨by rw[← r.length];exact z,?_⟩)
 have hf:H1 s1.heap.objs.size=none:=I1.hok.fresh (Nat.le_refl _)
 refine⟨.ref s1.heap.objs.size,upd H1 s1.heap.objs.size (.tup xs),I1.laid (t':=s1.toks) (fun b u e=>Heap.get?_push_of_some _ e) (Nat.le_refl _) ?_,rfl,q _ hf⟩
 exact⟨z,us,r,⟨_,Heap.get?_push_size _ rfl,rfl,_,rfl⟩⟩
theorem D1(h:PA X es t):PE X (.List es pos) (a93 t):=by
 intro pins s σ H Q I hq
 refine wpAny_List_spliced (h7 (h pos pins s σ H _ I hq) fun us s1 ⟨xs,H1,I1,r,z,q⟩=>⟨by rw[← r.length];exact z,?_⟩)
 have hf:H1 s1.heap.objs.size=none:=I1.hok.fresh (Nat.le_refl _)
 refine⟨.ref s1.heap.objs.size,upd H1 s1.heap.objs.size (.lst xs),I1.laid (t':=s1.toks) (fun b u e=>Heap.get?_push_of_some _ e) (Nat.le_refl _) ?_,rfl,q _ hf⟩
 exact⟨z,us,0,r,Heap.get?_push_size _ rfl⟩
end
abbrev Sp:=List V→Hp→VK→XK→Prop
abbrev S0:=List Env→Hp→Shared→XK→Value→Shared→Prop
structure Env0(P:Program)(w:World)(K:W.Frag)(mg:Str→Option Value)(base:Heap)(A:Around)(outer:List Env)(s:Shared)(H:Hp):Prop where
 frames:A.frames=some outer
 mod:Mod K mg base
 bs:∀b o,base.get? b=some o→s.heap.get? b=some o∧H b=none
 bsz:base.objs.size≤s.heap.objs.size
 funs:s.heap.FunFrames base outer
 frf:∀b∈x8 outer,H b=none
 hok:HOk P w H s.heap
 bare:AllBare s.gens
def CE(outer:List Env)(P:Program)(w:World)(H:Hp)(s:Shared)(Q:VK)(u:Value)(s':Shared):Prop :=
 ∃v H',s'.os=s.os∧AllBare s'.gens∧Un (x8 outer) [] H H' s.heap s'.heap∧HOk P w H' s'.heap∧RelV v u∧Q v H'
def CR(CX:S0)(outer:List Env)(P:Program)(w:World)(H:Hp)(s:Shared)(Q:VK)(E:XK)(r:Result)(s':Shared):Prop :=
 match r with
 | .ok (.ret u)=>CE outer P w H s Q u s'
 | .ok _=>False
 | .error e=>CX outer H s E e s'
structure FnOk(P:Program)(w:World)(K:W.Frag)(mg:Str→Option Value)(base:Heap)(CX:S0)(k:Nat)(f:Addr)(fd:FuncData)(ps:List Str)(sp:Sp):Prop where
 len:∀vs H Q E,sp vs H Q E→vs.length=ps.length
 run:∀(A:Around) (outer:List Env) (s:Shared) (H:Hp) (args:Args) (us:List Value) (vs:List V) (Q:VK) (E:XK),Room k A→Env0 P w K mg base A outer s H→BindsTo s fd args (ps.zip us)→Vals vs us→sp vs H Q E →
  codeAny (model P w) A (.call (.ref f) args) (CR CX outer P w H s Q E) s
theorem FnOk.mono{P:Program}{w:World}{K:W.Frag}{mg:Str→Option Value}{base:Heap}{CX:S0}{j k:Nat}{f:Addr}{fd:FuncData}{ps:List Str}{sp:Sp}(F:FnOk P w K mg base CX j f fd ps sp)(h:j≤k) :
  FnOk P w K mg base CX k f fd ps sp:=⟨F.len,fun A outer s H args us vs Q E hr=>F.run A outer s H args us vs Q E (hr.mono h)⟩
theorem FnOk.imp{P:Program}{w:World}{K:W.Frag}{mg:Str→Option Value}{base:Heap}{CX:S0}{k:Nat}{f:Addr}{fd:FuncData}{ps:List Str}{sp sp':Sp}(F:FnOk P w K mg base CX k f fd ps sp)
  (h:∀vs H Q E,sp' vs H Q E→sp vs H Q E):FnOk P w K mg base CX k f fd ps sp' :=
 ⟨fun vs H Q E q=>F.len vs H Q E (h _ _ _ _ q),fun A outer s H args us vs Q E hr he hb hv hs=>F.run A outer s H args us vs Q E hr he hb hv (h _ _ _ _ hs)⟩
theorem Env0.make{P:Program}{w:World}{K:W.Frag}{mg:Str→Option Value}{base:Heap}{A:Around}{outer:List Env}{s:Shared}{H:Hp}(e:Env0 P w K mg base A outer s H)(C:Addr)(us:List Value)(kw:List (Str×Value)) :
  Env0 P w K mg base (A.under (.builtin "type.__call__" ⟨.ref C::us,kw⟩)) outer s H:=⟨by first | exact e.frames | (simpa [Around.under,Code.envs,Code.isFrame,pushEnvs]using e.frames),e.mod,e.bs,e.bsz,e.funs,e.frf,e.hok,e.bare⟩
theorem Env0.in1{P:Program}{w:World}{K:W.Frag}{mg:Str→Option Value}{base:Heap}{A:Around}{outer:List Env}{s:Shared}{H:Hp}(e:Env0 P w K mg base A outer s H) :
  Env0 P w K mg base A.in1 outer s H:=⟨e.frames,e.mod,e.bs,e.bsz,e.funs,e.frf,e.hok,e.bare⟩
section
variable {X:Cx}{pins:List (Addr×Obj)}{σ:St}{H:Hp}{s s':Shared}
theorem Inv.env0(I:Inv X pins σ H s):Env0 X.prog X.w X.K X.mg X.base X.A X.stack s H :=
 ⟨I.ok.frames,I.ok.mod,I.bs,Nat.le_trans I.ok.bsz I.sz,I.stack,I.stkFree,I.hok,I.bare⟩
theorem Inv.after{Q:VK}{u:Value}(I:Inv X pins σ H s)(h:CE X.stack X.prog X.w H s Q u s'):EP X pins σ Q u s':=by
 obtain⟨v,H',os,bare,un,hok,r,q⟩:=h
 obtain⟨hh,g,d,t,os'⟩:=s'
 obtain rfl:os'=s.os:=os
 exact⟨v,H',I.call (h':=hh) (g':=g) (d':=d) (t':=t) (ch:=[]) un hok bare (fun b z=>absurd z (by simp)),r,q⟩
end
def M9(sp:Sp)(dvs:List V)(E:XK)(t:TA):TE:=fun σ H Q=>t σ H fun vs H1=>sp (vs++dvs) H1 Q E
def Binds(K:W.Frag)(fd:FuncData)(ps:List Str)(ds:List Value):Prop :=
 ∀(s:Shared) (us:List Value),K.In s.heap→(us++ds).length=ps.length→BindsTo s fd ⟨us,[]⟩ (ps.zip (us++ds))
theorem Binds.all{K:W.Frag}{fd:FuncData}{ps:List Str}(h:∀us:List Value,us.length=ps.length→bindArgs fd ⟨us,[]⟩=pure (ps.zip us)):Binds K fd ps []:=fun s us _ hl=>by
 rw[List.append_nil]at hl ⊢
 exact .of_eq (h us hl)
def X3(CX:S0)(X:Cx)(E:XK):Prop:=∀(pins:List (Addr×Obj)) (σ:St) (H:Hp) (s:Shared) (e:Value) (s':Shared),Inv X pins σ H s→CX X.stack H s E e s'→X.xe e s'
section
variable {X:Cx}{CX:S0}{k:Nat}{f C:Addr}{fd:FuncData}{ps:List Str}{sp:Sp}{dvs:List V}{ds:List Value}{E:XK}{x m:Str}{p pos apos:Pos}{e o:Expr}{es:List Expr}{ta:TE}{t:TA}
theorem a94{pins:List (Addr×Obj)}{σ:St}{H:Hp}{s:Shared}{Q:VK}{us:List Value}{vs:List V}(F:FnOk X.prog X.w X.K X.mg X.base CX k f fd ps sp)(hr:Room k X.A)(hb:Binds X.K fd ps ds)(hd:Vals dvs ds)(hx:X3 CX X E)
  (I:Inv X pins σ H s) (r:Vals vs us) (h:sp (vs++dvs) H Q E):wpAny (model X.prog X.w) X.A (call (.ref f) us) (EP X pins σ Q) X.xe s:=by
 have r2:Vals (vs++dvs) (us++ds):=r.append hd
 have hl:(us++ds).length=ps.length:=by rw[← r2.length];exact F.len _ _ _ _ h
 refine wpAny_call (codeAny_mono (F.run X.A X.stack s H ⟨us,[]⟩ (us++ds) (vs++dvs) Q E hr I.env0 (hb s us I.kIn hl) r2 h) fun r s' hq=>?_)
 cases r with
 | error e=>exact hx pins σ H s e s' I hq
 | ok fl =>
  cases fl with
  | ret u=>exact I.after hq
  | next=>exact False.elim hq
  | brk=>exact False.elim hq
  | cont=>exact False.elim hq
theorem a8i(F:FnOk X.prog X.w X.K X.mg X.base CX k f fd ps sp)(hr:Room k X.A)(hg:Gl X x)(hm:X.mg x=some (.ref f))(hk:W.keepIn X.K (.ref f)=true)(hb:Binds X.K fd ps ds)(hd:Vals dvs ds)(hx:X3 CX X E)
  (ha:PA X (e::es) t) (hdb:(x == ("__debug__" : Str))=false:=by decide) (he:starEach (e::es) X.env=(false,eval e X.env)::starEach es X.env:=by rfl) (hpl:(backTo pos (starEach es X.env)).any (·.1)=false:=by rfl) :
  PE X (.Call (.Name x p) (e::es) [] pos) (M9 sp dvs E t):=by
 intro pins s σ H Q I h
 refine wpAny_Call_Name_kw (N5 I hg hm ?_ hdb)
 refine W.callWith_K (h₀:=X.base) I.ok.mod.kin hk (h7 (ha pos pins s σ H _ I h) fun us s1 ⟨vs,H1,I1,r,q⟩=>⟨I1.kIn,?_⟩) he hpl
 exact a94 F hr hb hd hx I1 r q
end
structure FnScope(N P:List Str)(sc:Scope):Prop where
 kind:sc.kind=.function
 co:sc.isCoroutine=false
 gen:sc.isGenerator=false
 nd:N.Nodup
 pre:N.take P.length=P
 par:∀x∈P,sc.names.lookup x=some .local∨sc.names.lookup x=some .cell
 nofree:∀y∈sc.names,y.2≠.free
theorem a10{kindOf:Str→Option NameKind}{x:Str}:∀{binds:List (Str×Value)} {m:Str→Option Value},(∀v,(x,v) ∉ binds)→bindL kindOf binds m x=m x
 | [],_,_=>rfl
 | (n,v)::r,m,h=>by
  unfold bindL
  rw[a10 fun w hw=>h w (List.mem_cons_of_mem _ hw)]
  split
  ·have:x≠n:=by rintro rfl;exact h v List.mem_cons_self
   simp[this]
  ·rfl
theorem a11{kindOf:Str→Option NameKind}{x:Str}:∀{binds:List (Str×Value)} {m:Str→Option Value},(∀v,(x,v) ∉ binds)→bindC kindOf binds m x=m x
 | [],_,_=>rfl
 | (n,v)::r,m,h=>by
  unfold bindC
  rw[a11 fun w hw=>h w (List.mem_cons_of_mem _ hw)]
  split
  ·rfl
  ·have:x≠n:=by rintro rfl;exact h v List.mem_cons_self
   simp[this]
theorem a12{kindOf:Str→Option NameKind}{x:Str}{v:Value}:∀{P:List Str} {vs:List Value} {i:Nat} {m:Str→Option Value},P.Nodup→P[i]? = some x→vs[i]? = some v→kindOf x=some .local →
  bindL kindOf (P.zip vs) m x=some v
 | [],_,_,_,_,h,_,_=>by simp at h
 | _::_,[],_,_,_,_,h,_=>by simp at h
 | p::P,w::vs,0,m,nd,h1,h2,hk=>by
  simp at h1 h2;subst h1;subst h2
  show bindL kindOf ((p,w)::P.zip vs) m p=_
  unfold bindL
  rw[a10 fun v hv=>(List.nodup_cons.mp nd).1 (List.of_mem_zip hv).1,if_pos hk]
  simp
 | p::P,w::vs,i+1,m,nd,h1,h2,hk=>by
  show bindL kindOf ((p,w)::P.zip vs) m x=_
  unfold bindL
  exact a12 (i:=i) (List.nodup_cons.mp nd).2 (by simpa using h1) (by simpa using h2) hk
theorem a13{kindOf:Str→Option NameKind}{x:Str}{v:Value}:∀{P:List Str} {vs:List Value} {i:Nat} {m:Str→Option Value},P.Nodup→P[i]? = some x→vs[i]? = some v→kindOf x≠some .local →
  bindC kindOf (P.zip vs) m x=some v
 | [],_,_,_,_,h,_,_=>by simp at h
 | _::_,[],_,_,_,_,h,_=>by simp at h
 | p::P,w::vs,0,m,nd,h1,h2,hk=>by
  simp at h1 h2;subst h1;subst h2
  show bindC kindOf ((p,w)::P.zip vs) m p=_
  unfold bindC
  rw[a11 fun v hv=>(List.nodup_cons.mp nd).1 (List.of_mem_zip hv).1,if_neg hk]
  simp
 | p::P,w::vs,i+1,m,nd,h1,h2,hk=>by
  show bindC kindOf ((p,w)::P.zip vs) m x=_
  unfold bindC
  exact a13 (i:=i) (List.nodup_cons.mp nd).2 (by simpa using h1) (by simpa using h2) hk
def start(N:List Str)(vs:List V):St:=vs.map some++List.replicate (N.length-vs.length) none
def L6(CX:S0)(P:Program)(w:World)(K:W.Frag)(mg:Str→Option Value)(base:Heap)(N:List Str)(qual:Str)(scope:Scope)(f:Addr)(cd:Value)(A:Around)(outer:List Env)(s:Shared)(H:Hp)(E:XK):Cx where
 prog:=P
 w:=w
 K:=K
 mg:=mg
 base:=base
 A:=A.deeper (envOfC qual scope s.heap.objs.size f cd)
 N:=N
 s₀:=s
 H₀:=H
 env:=envOfC qual scope s.heap.objs.size f cd
 outer:=outer
 stack:=envOfC qual scope s.heap.objs.size f cd::outer
 ex:=[]
 calm:=true
 fn:=fun _=>true
 pn:=[]
 xe:=fun e s'=>wpAny (model P w) (A.deeper (envOfC qual scope s.heap.objs.size f cd)) (leaving (envOfC qual scope s.heap.objs.size f cd) e) (fun _ s''=>CX outer H s E e s'') (fun e' s''=>CX outer H s E e' s'') s'
theorem a2G{sc:Scope}{n:Nat}{x:Str}(h:sc.names.lookup x=some .cell):∃c,(cellsFrom n sc.names []).lookup x=some c:=by
 have q:=W.cellsFrom_some sc.names n [] (.inl h)
 exact Option.isSome_iff_exists.mp q
theorem a5g{CX:S0}{P:Program}{w:World}{K:W.Frag}{mg:Str→Option Value}{base:Heap}{N ps:List Str}{qual:Str}{scope:Scope}{f:Addr}{cd:Value}{A:Around}{outer:List Env}{s s1:Shared}{H:Hp}{E:XK}{us:List Value}{vs:List V}
  (S:FnScope N ps scope) (hd:A.handled=none) (e0:Env0 P w K mg base A outer s H) (hl:vs.length=ps.length) (r:Vals vs us)
  (x:InCallC s s.heap.objs.size (bindL (envOfC qual scope s.heap.objs.size f cd).kindOf (ps.zip us) fun _=>none) (cellsFrom (s.heap.objs.size+1) scope.names []) (bindC (envOfC qual scope s.heap.objs.size f cd).kindOf (ps.zip us) fun _=>none) s1) :
  Inv (L6 CX P w K mg base N qual scope f cd A outer s H E) [] (start N vs) H s1:=by
 have hpl:ps.length≤N.length:=by have:=congrArg List.length S.pre;rw[List.length_take]at this;omega
 obtain⟨h1,tk,rfl,hk⟩:=x.done
 have noA:∀b:Addr,b ∉ (L6 CX P w K mg base N qual scope f cd A outer s H E).ex:=fun b z=>absurd (show b∈([]:List Addr)from z) (by simp)
 refine⟨⟨e0.mod,S.kind,rfl,rfl,Nat.le_refl _,fun y z c h1 h2=>?_,fun y hy=>?_,fun y c _ h=>?_,fun _=>hd,Around.frames_deeper e0.frames,.inr ⟨rfl,rfl⟩,fun b z=>absurd z (noA b),e0.bs,e0.bsz,fun b _ _=>noA b,fun b z=>absurd z (noA b),e0.funs,e0.frf⟩,
  rfl,e0.bare,Un.kept hk,⟨_,x.toInCall.ns,fun i y v h1 h2 h3=>?_⟩,fun y c h=>⟨_,x.cell y c h⟩,e0.hok.fresh (Nat.le_refl _),fun y c h=>?_,fun p hp=>absurd (show p∈([]:List (Addr×Obj))from hp) (by simp),e0.hok.kept hk,?_⟩
 ·exact name_of_addr x.apart (PySem.mem_of_lookup h1) (PySem.mem_of_lookup h2)
 ·have hy:scope.names.lookup y=some .cell∨scope.names.lookup y=some .free:=hy
  rcases hy with hy | hy
  ·exact a2G hy
  ·exact absurd rfl (S.nofree _ (PySem.mem_of_lookup hy))
 ·exact Nat.le_of_lt (x.above y c (PySem.mem_of_lookup h))
 ·have hi:i<vs.length:=by
   unfold start at h2
   by_cases hi:i<vs.length
   ·exact hi
   ·rw[List.getElem?_append_right (by simpa using hi)]at h2
    rw[List.getElem?_replicate]at h2
    split at h2<;>cases h2
  have ha:vs[i]? = some v:=by
   unfold start at h2
   rw[List.getElem?_append_left (by simpa using hi),List.getElem?_map]at h2
   cases e:vs[i]? with
   | none=>rw[e]at h2;cases h2
   | some a=>rw[e]at h2;cases h2;rfl
  obtain⟨u,hu,rv⟩:=r.get ha
  have hp:ps[i]? = some y:=by
   rw[← S.pre,List.getElem?_take_of_lt (by omega)];exact h1
  have ndP:ps.Nodup:=by rw[← S.pre];exact S.nd.sublist (List.take_sublist _ _)
  refine⟨u,rv,?_⟩
  rcases S.par y (List.mem_of_getElem? hp)with k | k
  ·exact .inl ⟨k,a12 ndP hp hu k⟩
  ·obtain⟨c,e⟩:=a2G (n:=s.heap.objs.size+1) k
   refine .inr ⟨.inl k,c,e,?_⟩
   have q:=x.cell y c e
   rw[a13 ndP hp hu (by show scope.names.lookup y≠_;rw[k];decide)]at q
   exact q
 ·exact e0.hok.fresh (Nat.le_of_lt (x.above y c (PySem.mem_of_lookup h)))
 ·unfold start
  show _=N.length
  rw[List.length_append,List.length_map,List.length_replicate]
  omega
theorem a4n{CX:S0}{P:Program}{w:World}{K:W.Frag}{mg:Str→Option Value}{base:Heap}{k:Nat}{f:Addr}{name qual:Str}{params:Arguments}{body:List Stmt}{scope:Scope}{dV kV doc pm cdv ct oc:Value}{an od:Option Addr}
  {osl:Array (Option Value)} {N ps:List Str} {sp:Sp} (lk:K.lookup f=some ⟨oc,od,.func (W.fnOf name qual params body scope dV kV doc pm an cdv ct),osl⟩) (hcd:W.codeIn K cdv qual=true) (S:FnScope N ps scope)
  (len:∀vs H Q E,sp vs H Q E→vs.length=ps.length)
  (hbody:∀(A:Around) (outer:List Env) (s:Shared) (H:Hp) (vs:List V) (Q:VK) (E:XK),Room k (A.deeper (envOfC qual scope s.heap.objs.size f cdv))→sp vs H Q E →
   ∃t,PSs (L6 CX P w K mg base N qual scope f cdv A outer s H E) body t∧t { nx:=fun _ H'=>Q .non H',rt:=Q } (start N vs) H) :
  FnOk P w K mg base CX (k+1) f (W.fnOf name qual params body scope dV kV doc pm an cdv ct) ps sp:=by
 refine⟨len,fun A outer s H args us vs Q E hr e0 hb r hsp=>?_⟩
 have hl:=len _ _ _ _ hsp
 have KX:K.In s.heap:=e0.mod.kin.keeps fun b o e=>(e0.bs b o e).1
 have lim:s.heap.NoLimit:=e0.mod.nolimit.keeps fun b o e=>(e0.bs b o e).1
 have hkind:∀y∈ps.zip us,scope.names.lookup y.1=some .local∨(scope.names.lookup y.1=some .cell∧((cellsFrom (s.heap.objs.size+1) scope.names []).lookup y.1).isSome=true):=fun⟨n,v⟩ hy=>by
  rcases S.par n (List.of_mem_zip hy).1 with q | q
  ·exact .inl q
  ·exact .inr ⟨q,W.cellsFrom_some _ _ _ (.inl q)⟩
 refine codeAny_call_function hr.depth (KX _ _ lk) rfl S.co S.gen rfl (W.codeRec_of KX hcd) (hb _ _ _ _ ?_)
 refine wpAny_newFunctionEnv_cells S.kind hkind fun env he s1 x=>?_
 subst he
 refine⟨lim.keeps x.toInCall.keep,codeAny_func ?_⟩
 obtain⟨t,ht,hq⟩:=hbody A outer s H vs Q E (hr.deeper _) hsp
 have I:Inv (L6 CX P w K mg base N qual scope f cdv A outer s H E) [] (start N vs) H s1:=a5g S hr.hd e0 hl r x
 refine wpAny_mono (ht [] s1 (start N vs) H _ I hq) (fun fl s' hs=>?_) fun e s' hs=>hs
 have fin:∀{σ':St} {H':Hp} {v:V} {u:Value},Inv (L6 CX P w K mg base N qual scope f cdv A outer s H E) [] σ' H' s'→RelV v u→Q v H'→CE outer P w H s Q u s' :=
  fun{σ' H' v u} J rv q=>⟨v,H',J.os,J.bare,J.base,J.hok,rv,q⟩
 cases fl with
 | ret u =>
  obtain⟨v,σ',H',J,rv,q⟩:=hs
  exact fin J rv q
 | next =>
  obtain⟨σ',H',J,q⟩:=hs
  exact fin (v:=V.non) (u:=Value.none) J rfl q
 | brk =>
  obtain⟨_,_,_,q⟩:=hs
  exact False.elim q
 | cont =>
  obtain⟨_,_,_,q⟩:=hs
  exact False.elim q
section
variable {X:Cx}{x:Str}{p pos:Pos}{e:Expr}{es:List Expr}{t:TA}{id T:String}{r:List V→Hp→VK→Prop}
def tCB(r:List V→Hp→VK→Prop)(t:TA):TE:=fun σ H Q=>t σ H fun vs H1=>r vs H1 Q
theorem k6(hc:J4 X (.builtin id) r)(hg:Gl X x)(hm:X.mg x=none)(hv:bootBuiltins x=some (.builtin id))(ha:PA X (e::es) t)(hn:x≠"__name__" := by decide)(hdb:(x == ("__debug__" : Str))=false:=by decide)
  (he:starEach (e::es) X.env=(false,eval e X.env)::starEach es X.env:=by rfl) (hpl:(backTo pos (starEach es X.env)).any (·.1)=false:=by rfl):PE X (.Call (.Name x p) (e::es) [] pos) (tCB r t):=by
 intro pins s σ H Q I h
 refine wpAny_Call_Name_kw (O1 I hg hm hv ?_ hn hdb)
 exact PyProof.Rows.callWith_builtin1 (h7 (ha pos pins s σ H _ I h) fun us s1 ⟨vs,H1,I1,r1,q1⟩=>hc pins s1 σ H1 vs us Q I1 r1 q1) he hpl
theorem X4(hc:J4 X (.type T) r)(hg:Gl X x)(hm:X.mg x=none)(hv:bootBuiltins x=some (.type T))(ha:PA X (e::es) t)(hn:x≠"__name__" := by decide)(hdb:(x == ("__debug__" : Str))=false:=by decide)
  (he:starEach (e::es) X.env=(false,eval e X.env)::starEach es X.env:=by rfl) (hpl:(backTo pos (starEach es X.env)).any (·.1)=false:=by rfl):PE X (.Call (.Name x p) (e::es) [] pos) (tCB r t):=by
 intro pins s σ H Q I h
 refine wpAny_Call_Name_kw (O1 I hg hm hv ?_ hn hdb)
 exact PyProof.Rows.callWith_type1 (h7 (ha pos pins s σ H _ I h) fun us s1 ⟨vs,H1,I1,r1,q1⟩=>hc pins s1 σ H1 vs us Q I1 r1 q1) he hpl
end
end L2
namespace HT
open PySem PyProof.Rows
def lexLt:List Int→List Int→Bool
 | [],[]=>false
 | [],_::_=>true
 | _::_,[]=>false
 | x::xs,y::ys=>if x=y then lexLt xs ys else decide (x<y)
theorem lexLt_cons(x y:Int)(xs ys:List Int):lexLt (x::xs) (y::ys)=if x=y then lexLt xs ys else decide (x<y):=rfl
section
variable {prog:Program}{w:World}{A:Around}{E:Value→Shared→Prop}{s:Shared}
def sIx(n d:Nat):Option Int→Nat
 | none=>d
 | some v=>if v<0 then(v+(n:Int)).toNat else min v.toNat n
theorem sIx_none(n d:Nat):sIx n d none=d:=rfl
theorem sIx_nat(n d k:Nat):sIx n d (some (k:Int))=min k n:=by
 show(if(k:Int)<0 then((k:Int)+(n:Int)).toNat else min (k:Int).toNat n)=min k n
 rw[if_neg (by omega),Int.toNat_natCast]
end
end HT
namespace L2
open PySem PySem.Spec PyProof.Rows
abbrev TO:=St→Hp→(Option Int→Hp→Prop)→Prop
def PO(X:Cx)(e:Option Expr)(t:TO):Prop :=
 ∀(pins:List (Addr×Obj)) (s:Shared) (σ:St) (H:Hp) (Q:Option Int→Hp→Prop),Inv X pins σ H s→t σ H Q →
  wpAny (model X.prog X.w) X.A (evalPart e X.env) (fun u s'=>∃o H',Inv X pins σ H' s'∧IsPart u o∧Q o H') X.xe s
def a3I:TO:=fun _ H Q=>Q none H
def a7J(t:TE):TO:=fun σ H Q=>t σ H fun x H1=>∃i,x=.int i∧Q (some i) H1
section
variable {X:Cx}{e:Expr}{te:TE}{lo hi:Option Expr}{tl th:TO}{pos p2:Pos}
theorem a8j:PO X none a3I:=by
 intro pins s σ H Q I h
 rw[evalPart_none]
 exact wpAny_pure ⟨none,H,I,.none,h⟩
theorem a8k(h:PE X e te):PO X (some e) (a7J te):=by
 intro pins s σ H Q I hw
 rw[evalPart_some]
 refine h7 (h pins s σ H _ I hw) fun u s1 ⟨x,H1,I1,r1,q1⟩=>?_
 obtain⟨i,rfl,q⟩:=q1
 obtain⟨t,rfl⟩:=r1
 exact⟨some i,H1,I1,.int i t,q⟩
def SlR(X:Cx)(r:V→Option Int→Option Int→Hp→VK→Prop):Prop :=
 ∀(pins:List (Addr×Obj)) (s:Shared) (σ:St) (H:Hp) (x:V) (v vl vu:Value) (lo hi:Option Int) (sl:Addr) (Q:VK),Inv X pins σ H s→RelV x v→s.heap.IsSliceOf sl vl vu .none→IsPart vl lo→IsPart vu hi→r x lo hi H Q →
  ∃T id,typeLookup (.type T) "__getitem__" = pure (some (.builtin id))∧s.TypeIs v T∧wpAny (model X.prog X.w) X.A (getItem v (.ref sl)) (EP X pins σ Q) X.xe s
def tSl(r:V→Option Int→Option Int→Hp→VK→Prop)(te:TE)(tl th:TO):TE:=fun σ H Q=>te σ H fun x H1=>tl σ H1 fun l H2=>th σ H2 fun u H3=>r x l u H3 Q
theorem a6l{r:V→Option Int→Option Int→Hp→VK→Prop}(hr:SlR X r)(he:PE X e te)(hl:PO X lo tl)(hu:PO X hi th):PE X (.Subscript e (.Slice lo hi none p2) pos) (tSl r te tl th):=by
 intro pins s σ H Q I h
 refine Subscript_ (h7 (he pins s σ H _ I h) fun v s1 ⟨x,H1,I1,r1,q1⟩=>?_)
 refine wpAny_Slice (h7 (hl pins s1 σ H1 _ I1 q1) fun vl s2 ⟨l,H2,I2,pl,q2⟩=>h7 (hu pins s2 σ H2 _ I2 q2) fun vu s3 ⟨u,H3,I3,pu,q3⟩=>?_)
 rw[evalPart_none]
 refine wpAny_pure ?_
 have I4:Inv X pins σ H3 { s3 with heap:=s3.heap.push { cls:=.type "slice",data:=.fields #[vl,vu,.none] } }:=I3.kept (t':=s3.toks) fun b ob q=>Heap.get?_push_of_some _ q
 obtain⟨T,id,hT,ht,hg⟩:=hr pins { s3 with heap:=s3.heap.push { cls:=.type "slice",data:=.fields #[vl,vu,.none] } } σ H3 x v vl vu l u s3.heap.objs.size Q I4 r1 (Heap.IsSliceOf.new ..) pl pu q3
 show wpAny (model X.prog X.w) X.A (subscriptTail e (.Slice lo hi none p2) v (.ref s3.heap.objs.size)) (EP X pins σ Q) X.xe { s3 with heap:=s3.heap.push { cls:=.type "slice",data:=.fields #[vl,vu,.none] } }
 exact tail_any (ops:=[.ref s3.heap.objs.size,v]) ht hT hg (by with_unfolding_all rfl)
def a1w(xs:List V)(lo hi:Option Int):List V:=(xs.drop (HT.sIx xs.length 0 lo)).take (HT.sIx xs.length xs.length hi-HT.sIx xs.length 0 lo)
theorem a3m(xs:List V)(lo hi:Option Int):(a1w xs lo hi).length≤xs.length:=by
 unfold a1w
 rw[List.length_take,List.length_drop]
 omega
end
def X5(n:Nat)(i:Int):Option Nat:=if 0≤i then(if i<n then some i.toNat else none)else if -(n:Int)≤i then some (i+n).toNat else none
def atI{α:Type}(xs:List α)(i:Int):Option α:=(X5 xs.length i).bind fun j=>xs[j]?
theorem a8l{n:Nat}{i:Int}{j:Nat}(h:X5 n i=some j):seqIndex? i n=some j∧j<n∧-(n:Int)≤i∧i<n:=by
 unfold X5 at h
 by_cases h0:0≤i
 ·rw[if_pos h0]at h
  by_cases h1:i<n
  ·rw[if_pos h1]at h
   have e:i.toNat=j:=Option.some.inj h
   exact⟨by rw[seqIndex_of h0 h1,e],by omega,by omega,h1⟩
  ·rw[if_neg h1]at h;cases h
 ·rw[if_neg h0]at h
  by_cases h1 : -(n:Int)≤i
  ·rw[if_pos h1]at h
   have e:(i+n).toNat=j:=Option.some.inj h
   exact⟨by rw[seqIndex_neg (by omega) h1,e],by omega,h1,by omega⟩
  ·rw[if_neg h1]at h;cases h
theorem a3J{α:Type}{xs:List α}{i:Int}{v:α}(h:atI xs i=some v):∃j,seqIndex? i xs.length=some j∧xs[j]? = some v∧j<xs.length∧-(xs.length:Int)≤i∧i<xs.length:=by
 unfold atI at h
 cases e:X5 xs.length i with
 | none=>rw[e]at h;cases h
 | some j =>
  rw[e]at h
  obtain⟨h1,h2,h3,h4⟩:=a8l e
  exact⟨j,h1,h,h2,h3,h4⟩
def a8m(b:Expr):Prop:=∀o i,subscripted b false o i=operate [o,i] (getItem o i)
def IxR(X:Cx)(r:R2):Prop :=
 ∀(value slice:Expr) (pins:List (Addr×Obj)) (s:Shared) (σ:St) (H:Hp) (x y:V) (v u:Value) (Q:VK),Inv X pins σ H s→RelV x v→RelV y u→r x y H Q →
  subscripted slice false v u=operate [v,u] (getItem v u)→wpAny (model X.prog X.w) X.A (subscriptTail value slice v u) (EP X pins σ Q) X.xe s
def MtR(X:Cx)(id:String)(r:V→List V→Hp→VK→Prop):Prop :=
 ∀(pins:List (Addr×Obj)) (s:Shared) (σ:St) (H:Hp) (x:V) (xs:List V) (v:Value) (us:List Value) (Q:VK),Inv X pins σ H s→RelV x v→Vals xs us→r x xs H Q →
  wpAny (model X.prog X.w) X.A (call (.builtin id) (v::us)) (EP X pins σ Q) X.xe s
section
variable {X:Cx}{a b:Expr}{ta tb:TE}{pos:Pos}
theorem C3{r:R2}(hr:IxR X r)(ha:PE X a ta)(hb:PE X b tb)(hs:a8m b):PE X (.Subscript a b pos) (tOp r ta tb):=by
 intro pins s σ H Q I h
 exact Subscript_ (a6j ha hb I h fun v u s2 x y H2 I2 rx ry q=>hr a b pins s2 σ H2 x y v u Q I2 rx ry q (hs _ _))
def a6m(K:W.Frag):R2:=fun x y H Q=>∃p xs i v,x=.ref p∧y=.int i∧SqL K H p xs∧atI xs i=some v∧Q v H
def a6n(K:W.Frag):R2:=fun x y H Q=>∃p xs i v,x=.ref p∧y=.int i∧SqT K H p xs∧atI xs i=some v∧Q v H
theorem a8n:IxR X (a6m X.K):=by
 intro value slice pins s σ H x y v u Q I rx ry h hs
 obtain⟨p,xs,i,z,rfl,rfl,hq,he,q⟩:=h
 cases rx
 obtain⟨t,rfl⟩:=ry
 obtain⟨its,r,pl,hz⟩:=I.list hq
 obtain⟨j,h1,h2,h3,h4,h5⟩:=a3J he
 obtain⟨w,ew,rw'⟩:=r.get h2
 have hl:=r.length
 have hn:=a2F
 have fin:EP X pins σ Q w s:=⟨z,H,I,rw',q⟩
 by_cases h0:0≤i
 ·have hj:i.toNat=j:=by
   rw[seqIndex_of h0 h5]at h1
   exact Option.some.inj h1
  exact item_listR pl.isList h0 (by omega) (by rw[hj];simpa using ew) fin hs
 ·have hj:(i+(its.toArray.size:Int)).toNat=j:=by
   rw[seqIndex_neg (by omega) h4]at h1
   rw[List.size_toArray,← hl]
   exact Option.some.inj h1
  exact subscriptTail_builtinR (x:=w) pl.isList.typeIs slot_list_getitem.lookup
   (wpAny_getItem_list_neg (Q:=fun r s'=>r=w∧EP X pins σ Q r s') pl.isList (by omega) (by rw[List.size_toArray]<;>omega) (by omega) (by rw[hj];simpa using ew) ⟨rfl,fin⟩) hs
theorem a96:IxR X (a6n X.K):=by
 intro value slice pins s σ H x y v u Q I rx ry h hs
 obtain⟨p,xs,i,z,rfl,rfl,hq,he,q⟩:=h
 cases rx
 obtain⟨t,rfl⟩:=ry
 obtain⟨its,r,pl,hz⟩:=I.tuple hq
 obtain⟨j,h1,h2,h3,h4,h5⟩:=a3J he
 obtain⟨w,ew,rw'⟩:=r.get h2
 have hl:=r.length
 have hn:=a2F
 have fin:EP X pins σ Q w s:=⟨z,H,I,rw',q⟩
 exact subscriptTail_builtinR (x:=w) pl.typeIs slot_tuple_getitem.lookup
  (getItem_tuple (j:=j) (Q:=fun r s'=>r=w∧EP X pins σ Q r s') pl (by omega) (by omega) (by rw[List.size_toArray,← hl];exact h1) (by simpa using ew) ⟨rfl,fin⟩) hs
theorem Inv.lst{pins:List (Addr×Obj)}{σ:St}{H:Hp}{s:Shared}{p:Addr}{xs:List V}(I:Inv X pins σ H s)(h:H p=some (.lst xs)) :
  ∃(its:List Value) (n:Nat),Vals xs its∧s.heap.get? p=some { cls:=.type "list",data:=.seq its.toArray n }∧xs.length≤sizeLine:=by
 obtain⟨z,its,n,r,e⟩:=I.hok p _ h
 exact⟨its,n,r,e,z⟩
theorem a2H(lo hi:Option Int)(n:Nat):(sliceBounds lo hi none n).1=((HT.sIx n 0 lo:Nat):Int)∧(sliceBounds lo hi none n).2.1=((HT.sIx n n hi:Nat):Int)∧(sliceBounds lo hi none n).2.2=1:=by
 refine⟨?_,?_,rfl⟩
 ·cases lo with
  | none=>simp[sliceBounds,HT.sIx]
  | some i =>
   simp only[sliceBounds,HT.sIx,Option.getD_none,show(1:Int) > 0 by decide,if_true]
   by_cases h:i<0
   ·simp only[h,if_true]<;>omega
   ·simp only[h,if_false]<;>omega
 ·cases hi with
  | none=>simp[sliceBounds,HT.sIx]
  | some i =>
   simp only[sliceBounds,HT.sIx,Option.getD_none,show(1:Int) > 0 by decide,if_true]
   by_cases h:i<0
   ·simp only[h,if_true]<;>omega
   ·simp only[h,if_false]<;>omega
theorem a2k(its:List Value)(lo hi:Option Int):slicePick its.toArray lo hi none=((its.drop (HT.sIx its.length 0 lo)).take (HT.sIx its.length its.length hi-HT.sIx its.length 0 lo)).toArray:=by
 obtain⟨h1,h2,h3⟩:=a2H lo hi its.toArray.size
 unfold slicePick
 rw[h1,h2,h3]
 simp only[sliceRange_one,pick_run,List.size_toArray]<;>rfl
def a6o(K:W.Frag):V→Option Int→Option Int→Hp→VK→Prop:=fun x lo hi H Q=>∃a xs,x=.ref a∧SqL K H a xs∧∀p,H p=none→Q (.ref p) (upd H p (.lst (a1w xs lo hi)))
theorem a8o:SlR X (a6o X.K):=by
 intro pins s σ H x v vl vu lo hi sl Q I rx hs pl pu h
 obtain⟨a,xs,rfl,hx,q⟩:=h
 cases rx
 obtain⟨its,r,ht,hz⟩:=I.list hx
 have hlen:=r.length
 refine⟨"list",_,slot_list_getitem.lookup,ht.isList.typeIs,?_⟩
 refine wpAny_getItem_list_slice ht.isList hs pl pu .none (by simp) ?_ (by rw[List.size_toArray]<;>omega)
 rw[a2k,← hlen]
 refine⟨.ref s.heap.objs.size,_,I.laid (t':=s.toks) (o:=.lst (a1w xs lo hi)) (fun b ob q=>Heap.get?_push_of_some _ q) (Nat.le_refl _) ?_,rfl,q _ (I.hok.fresh (Nat.le_refl _))⟩
 exact⟨Nat.le_trans (a3m xs lo hi) hz,_,0,(r.drop (HT.sIx xs.length 0 lo)).take (HT.sIx xs.length xs.length hi-HT.sIx xs.length 0 lo),Heap.get?_push_size _ rfl⟩
def a2v:V→Bool
 | .non=>true
 | .bl _=>true
 | .int _=>true
 | .str _=>true
 | _=>false
def eqV:V→V→Bool
 | .non,.non=>true
 | .bl a,.bl b=>a == b
 | .bl a,.int b=>(if a then 1 else 0) == b
 | .int a,.bl b=>a == (if b then 1 else 0)
 | .int a,.int b=>a == b
 | .str a,.str b=>a == b
 | _,_=>false
theorem a98{A:Around}{s:Shared}{y x:V}{u v:Value}(ry:RelV y u)(rx:RelV x v)(fy:a2v y=true)(fx:a2v x=true):SeqAt.EqAt A s u v (eqV y x):=by
 cases y with
 | non =>
  cases ry
  cases x with
  | non=>cases rx;exact SeqAt.EqAt.same _
  | bl b=>cases rx;exact SeqAt.EqAt.none_bool b
  | int b=>obtain⟨t,rfl⟩:=rx;exact SeqAt.EqAt.none_int b t
  | str b=>obtain⟨t,rfl⟩:=rx;exact SeqAt.EqAt.none_str b t
  | _=>exact absurd (show false=true from fx) Bool.false_ne_true
 | bl a =>
  cases ry
  cases x with
  | non=>cases rx;exact SeqAt.EqAt.bool_none a
  | bl b=>cases rx;exact SeqAt.EqAt.bool_bool a b
  | int b=>obtain⟨t,rfl⟩:=rx;exact SeqAt.EqAt.bool_int a b t
  | str b=>obtain⟨t,rfl⟩:=rx;exact SeqAt.EqAt.bool_str a b t
  | _=>exact absurd (show false=true from fx) Bool.false_ne_true
 | int a =>
  obtain⟨t',rfl⟩:=ry
  cases x with
  | non=>cases rx;exact SeqAt.EqAt.int_none a t'
  | bl b=>cases rx;exact SeqAt.EqAt.int_bool a t' b
  | int b=>obtain⟨t,rfl⟩:=rx;exact SeqAt.EqAt.int_int a t' b t
  | str b=>obtain⟨t,rfl⟩:=rx;exact SeqAt.EqAt.int_str a t' b t
  | _=>exact absurd (show false=true from fx) Bool.false_ne_true
 | str a =>
  obtain⟨t',rfl⟩:=ry
  cases x with
  | non=>cases rx;exact SeqAt.EqAt.str_none a t'
  | bl b=>cases rx;exact SeqAt.EqAt.str_bool a t' b
  | int b=>obtain⟨t,rfl⟩:=rx;exact SeqAt.EqAt.str_int a t' b t
  | str b=>obtain⟨t,rfl⟩:=rx;exact SeqAt.EqAt.str_str a t' b t
  | _=>exact absurd (show false=true from fx) Bool.false_ne_true
 | _=>exact absurd (show false=true from fy) Bool.false_ne_true
theorem a2I:J4 X (.builtin "len") (fun xs H Q=>∃p ys,xs=[.ref p]∧(SqL X.K H p ys∨SqT X.K H p ys)∧Q (.int ys.length) H):=by
 intro pins s σ H xs us Q I r h
 obtain⟨p,ys,rfl,hq,q⟩:=h
 obtain⟨u,rfl,rx⟩:=a7H r
 cases rx
 have hn:=a2F
 rcases hq with hq | hq
 ·obtain⟨its,r',pl,hz⟩:=I.list hq
  have hlen:=r'.length
  exact Calls.call_len_list pl.isList (by simp only[List.size_toArray]<;>omega) ⟨.int ys.length,H,I.tok _,⟨s.toks+1,by rw[List.size_toArray,hlen]⟩,q⟩
 ·obtain⟨its,r',pl,hz⟩:=I.tuple hq
  have hlen:=r'.length
  exact len_tuple pl (by simp only[List.size_toArray]<;>omega) ⟨.int ys.length,H,I.tok _,⟨s.toks+1,by rw[List.size_toArray,hlen]⟩,q⟩
theorem a2J:J4 X (.type "list") (fun xs H Q=>∃p ys,xs=[.ref p]∧(SqL X.K H p ys∨SqT X.K H p ys)∧∀l,H l=none→Q (.ref l) (upd H l (.lst ys))):=by
 intro pins s σ H xs us Q I r h
 obtain⟨p,ys,rfl,hq,q⟩:=h
 obtain⟨u,rfl,rx⟩:=a7H r
 cases rx
 have fin:∀(its:List Value),Vals ys its→ys.length≤sizeLine→∀(h':Heap) (c':Nat),(∀b o',s.heap.get? b=some o'→h'.get? b=some o') →
   h'.get? s.heap.objs.size=some { cls:=.type "list",dict:=none,data:=.seq its.toArray c',slots := #[] }→EP X pins σ Q (.ref s.heap.objs.size) { s with heap:=h' }:=fun its r' hz h' c' kp e =>
  ⟨.ref s.heap.objs.size,_,I.laid (t':=s.toks) kp (Nat.le_refl _) (show ObjOk X.prog X.w _ h' _ (.lst ys)from⟨hz,its,c',r',e⟩),rfl,q _ (I.hok.fresh (Nat.le_refl _))⟩
 rcases hq with hq | hq
 ·obtain⟨its,r',pl,hz⟩:=I.list hq
  have hlen:=r'.length
  obtain⟨o,ho,hc,n,hd⟩:=pl.isList
  exact call_list_seq p (.inl rfl) ho hc hd (fun h' c' kp e=>fin its r' hz h' c' kp e) (by simp only[List.size_toArray]<;>omega)
 ·obtain⟨its,r',pl,hz⟩:=I.tuple hq
  have hlen:=r'.length
  obtain⟨o,ho,hc,n,hd⟩:=pl
  exact call_list_seq p (.inr rfl) ho hc hd (fun h' c' kp e=>fin its r' hz h' c' kp e) (by simp only[List.size_toArray]<;>omega)
def tyV(K:W.Frag)(T:String)(x:V)(H:Hp):Prop:=match x with
 | .str _=>T = "str"
 | .int _=>T = "int"
 | .ref p=>(T = "list"∧∃xs,SqL K H p xs)∨(T = "tuple"∧∃o,K.lookup p=some o∧o.cls=.type "tuple"∧o.dict=none) ∨
   (T = "dict"∧((∃kvs,H p=some (.dK kvs))∨∃kvs,H p=some (.dT kvs)))∨(T = "set"∧∃S n,H p=some (.set S n))
 | _=>False
theorem a9_{pins:List (Addr×Obj)}{σ:St}{H:Hp}{s:Shared}{T:String}{x:V}{v:Value}(I:Inv X pins σ H s)(r:RelV x v)(ty:tyV X.K T x H) :
  s.TypeIs v T∧∀a,v=.ref a→∃ob,s.heap.get? a=some ob∧ob.dict=none:=by
 cases x with
 | str z =>
  obtain⟨t,rfl⟩:=r
  cases (show T = "str" from ty)
  exact⟨typeIs_str s z t,fun _ e=>nomatch e⟩
 | int i =>
  obtain⟨t,rfl⟩:=r
  cases (show T = "int" from ty)
  exact⟨typeIs_int s i t,fun _ e=>nomatch e⟩
 | ref p =>
  cases r
  rcases ty with⟨rfl,xs,hq⟩ | ⟨rfl,o,hk,hc,hd⟩ | ⟨rfl,hk⟩ | ⟨rfl,S,n,hk⟩
  ·obtain⟨its,_,pl,_⟩:=I.list hq
   refine⟨pl.isList.typeIs,fun a e=>?_⟩
   cases e
   obtain⟨o,n,e,c,hd,_⟩:=pl
   exact⟨o,e,hd⟩
  ·refine⟨⟨o,I.kIn p o hk,hc⟩,fun a e=>?_⟩
   cases e
   exact⟨o,I.kIn _ o hk,hd⟩
  ·have z:∃o,s.heap.get? p=some o∧o.ExactDict:=by
    rcases hk with⟨kvs,hk⟩ | ⟨kvs,hk⟩
    ·obtain⟨_,_,_,_,o,_,_,e,ex,_⟩:=I.hok p _ hk
     exact⟨o,e,ex⟩
    ·obtain⟨_,_,_,_,o,_,_,e,ex,_⟩:=I.hok p _ hk
     exact⟨o,e,ex⟩
   obtain⟨o,e,ex⟩:=z
   refine⟨⟨o,e,ex.1⟩,fun a e2=>?_⟩
   cases e2
   exact⟨o,e,ex.2.1⟩
  ·obtain⟨o,_,_,_,e,ex,_⟩:=I.hok p _ hk
   refine⟨⟨o,e,ex.1⟩,fun a e2=>?_⟩
   cases e2
   exact⟨o,e,ex.2.1⟩
 | _=>exact False.elim ty
def tBM(K:W.Frag)(T:String)(r:V→List V→Hp→VK→Prop)(to:TE)(t:TA):TE:=fun σ H Q=>to σ H fun x H1=>tyV K T x H1∧t σ H1 fun xs H2=>r x xs H2 Q
variable {o e:Expr}{es:List Expr}{to:TE}{t:TA}{name:Str}{apos cpos:Pos}{T id:String}{r:V→List V→Hp→VK→Prop}
theorem b1p(pa:PlainAttrs T)(slot:Slot T name id)(hty:typeOf (.builtin id)=pure (.type "method_descriptor"))(hm:MtR X id r)(ho:PE X o to)(ha:PA X (e::es) t)
  (hbase:attributeBase o name X.env (eval o X.env)=eval o X.env:=by rfl)
  (hfew:((backTo cpos (starEach (e::es) X.env)).all (fun x=>!x.1) && (backToKw cpos (keywordEach [] X.env)).all (fun x=>x.1.isSome)
   && decide ((e::es).length+([]:List Keyword).length+(if([]:List Keyword).isEmpty then 0 else 1)<30))=true:=by rfl)
  (hline:(apos.endLine == cpos.line)=true:=by rfl) (hs:starEach (e::es) X.env=(false,eval e X.env)::starEach es X.env:=by rfl) (hplain:(backTo cpos (starEach es X.env)).any (·.1)=false:=by rfl) :
  PE X (.Call (.Attribute o name apos) (e::es) [] cpos) (tBM X.K T r to t):=by
 intro pins s σ H Q I h
 refine wpAny_Call_method_late hbase hfew hline rfl (h7 (ho pins s σ H _ I h) fun v s1 ⟨x,H1,I1,r1,ty,q1⟩=>?_)
 obtain⟨h1,h2⟩:=a9_ I1 r1 ty
 refine⟨T,id,pa,slot,hty,h1,h2,?_⟩
 have hA:=ha cpos pins s1 σ H1 _ I1 q1
 rw[hs]at hA ⊢
 refine Calls.callWith_builtin (by show(false || (backTo cpos (starEach es X.env)).any (·.1))=false;rw[hplain]<;>rfl) (Calls.evalArgs_plain ?_)
 exact h7 hA fun us s2 ⟨vs,H2,I2,r2,q2⟩=>hm pins s2 σ H2 x vs v us Q I2 r1 r2 q2
end
def MtM(X:Cx)(id:String)(r:V→List V→Hp→VK→Prop):Prop :=
 ∀(pins:List (Addr×Obj)) (s:Shared) (σ:St) (H:Hp) (x:V) (xs:List V) (v:Value) (us:List Value) (Q:VK),Inv X pins σ H s→RelV x v→Vals xs us→r x xs H Q →
  wpAny (model X.prog X.w) X.A (call (.builtin id) (v::us)) (EP X pins σ Q) X.xe s
theorem Vals.one:∀{x:V} {us:List Value},Vals [x] us→∃u,us=[u]∧RelV x u
 | _,_,.cons r .nil=>⟨_,rfl,r⟩
theorem Vals.two:∀{x y:V} {us:List Value},Vals [x,y] us→∃u v,us=[u,v]∧RelV x u∧RelV y v
 | _,_,_,.cons r (.cons q .nil)=>⟨_,_,rfl,r,q⟩
theorem Vals.zero:∀{us:List Value},Vals [] us→us=[]
 | _,.nil=>rfl
theorem Vals.eraseIdx:∀{xs:List V} {us:List Value} (i:Nat),Vals xs us→Vals (xs.eraseIdx i) (us.eraseIdx i)
 | _,_,_,.nil=>.nil
 | _,_,0,.cons _ t=>t
 | _,_,i+1,.cons r t=>.cons r (Vals.eraseIdx i t)
theorem Vals.reverse{xs:List V}{us:List Value}(h:Vals xs us):Vals xs.reverse us.reverse:=by
 induction h with
 | nil=>exact .nil
 | cons r t ih=>rw[List.reverse_cons,List.reverse_cons];exact Vals.append ih (.cons r .nil)
section
variable {X:Cx}{pins:List (Addr×Obj)}{σ:St}{H:Hp}{s:Shared}{l b:Addr}{xs ys zs:List V}
theorem Inv.lset{its its':List Value}{n:Nat}{f:Array Value→Array Value}{t':Nat}(I:Inv X pins σ H s)(hH:H l=some (.lst xs))
  (e:s.heap.get? l=some { cls:=.type "list",data:=.seq its.toArray n }) (hf:f its.toArray=its'.toArray) (hv:Vals ys its') (hz:ys.length≤sizeLine) :
  Inv X pins σ (upd H l (.lst ys)) { s with heap:=s.heap.update l (Obj.mapSeq f),toks:=t' }:=by
 have q:=PySem.IsL.update e f
 rw[hf]at q
 refine I.write (x:=l) (e:=l) (by rw[hH];exact trivial) (.inl rfl) (fun b' u hb hu=>(Heap.get?_update_other s.heap (Obj.mapSeq f) (Ne.symm hb)).trans hu) ⟨_,q⟩ ?_
 exact⟨hz,its',_,hv,q⟩
theorem Inv.lnew{its:List Value}{t':Nat}(I:Inv X pins σ H s)(hv:Vals ys its)(hz:ys.length≤sizeLine) :
  Inv X pins σ (upd H s.heap.objs.size (.lst ys)) { s with heap:=s.heap.push { cls:=.type "list",data:=.seq its.toArray },toks:=t' } :=
 I.laid (fun _ _ q=>Heap.get?_push_of_some _ q) (Nat.le_refl _) ⟨hz,its,0,hv,Heap.get?_push_size _ rfl⟩
theorem Inv.fresh(I:Inv X pins σ H s):H s.heap.objs.size=none:=I.hok.fresh (Nat.le_refl _)
theorem Inv.lstM(I:Inv X pins σ H s)(hH:H l=some (.lst xs)):xs.length≤sizeLine∧∃(its:List Value) (n:Nat),Vals xs its∧xs.length=its.length∧s.heap.get? l=some { cls:=.type "list",data:=.seq its.toArray n }:=by
 obtain⟨z,its,n,r,e⟩:=I.hok l _ hH
 exact⟨z,its,n,r,r.length,e⟩
theorem a6p{n:Nat}(h:n≤sizeLine):Builtin.List.listTooLong n=false:=by
 unfold Builtin.List.listTooLong
 exact decide_eq_false (by omega)
end
section
variable {X:Cx}
def a3K:V→List V→Hp→VK→Prop:=fun x vs H Q=>∃l xs y,x=.ref l∧vs=[y]∧H l=some (.lst xs)∧xs.length<sizeLine∧Q .non (upd H l (.lst (xs++[y])))
theorem a14:MtM X "list.append" a3K:=by
 intro pins s σ H x vs v us Q I rx rv h
 obtain⟨l,xs,y,rfl,rfl,hH,hz,q⟩:=h
 cases rx
 obtain⟨u,rfl,ru⟩:=rv.one
 obtain⟨z,its,n,r,hl,e⟩:=I.lstM hH
 refine call_meets F.slot_list_append ⟨_,e,rfl⟩ F.entry_list_append (F.args_list_append_2 _ _) (PySem.list_append l its.toArray n u (by rw[List.size_toArray];omega)) ⟨e,?_⟩
 refine⟨.non,_,I.lset (its':=its++[u]) hH e (by simp) (r.append (.cons ru .nil)) ?_,rfl,q⟩
 rw[List.length_append,List.length_singleton]
 omega
def a3L:V→List V→Hp→VK→Prop:=fun x vs H Q=>∃l b xs zs,x=.ref l∧vs=[.ref b]∧H l=some (.lst xs)∧H b=some (.lst zs)∧xs.length+zs.length≤sizeLine∧Q .non (upd H l (.lst (xs++zs)))
theorem a15:MtM X "list.extend" a3L:=by
 intro pins s σ H x vs v us Q I rx rv h
 obtain⟨l,b,xs,zs,rfl,rfl,hH,hB,hz,q⟩:=h
 cases rx
 obtain⟨u,rfl,ru⟩:=rv.one
 cases ru
 obtain⟨z,its,n,r,hl,e⟩:=I.lstM hH
 obtain⟨z2,its2,n2,r2,hl2,e2⟩:=I.lstM hB
 have hsz:its.toArray.size+its2.toArray.size≤sizeLine:=by rw[List.size_toArray,List.size_toArray];omega
 have hlong:¬(!its.toArray.isEmpty && Builtin.List.listTooLong (its.toArray.size+its2.toArray.size))=true:=by
  rw[a6p hsz,Bool.and_false]
  exact Bool.false_ne_true
 refine call_meets F.slot_list_extend ⟨_,e,rfl⟩ F.entry_list_extend (F.args_list_extend_2 _ _)
  (AutoSeq1.list_extend_list_list_0 l its.toArray n b its2.toArray n2 hlong (by rw[List.size_toArray];omega) (by omega)) ⟨e,e2,?_⟩
 refine⟨.non,_,I.lset (its':=its++its2) hH e (by simp) (r.append r2) ?_,rfl,q⟩
 rw[List.length_append]
 omega
end
end L2
namespace Att
open PySem PySem.W PySem.Calls PyProof.Rows
theorem a0V{P:Params}{h:Heap}:∀(ns:List Int) (vs:List Value),WellAll P h vs (ns.map WData.int)→IntsAre vs ns:=by
 intro ns
 induction ns with
 | nil =>
  intro vs w
  rw[List.map_nil]at w
  cases w
  exact .nil
 | cons n ns ih =>
  intro vs w
  rw[List.map_cons]at w
  cases w with
  | cons a b =>
   cases a
   exact .cons _ _ (ih _ b)
theorem script_of{l:OpenLaw}{n:Nat}(hn:l.most=some n){P:Params}{h:Heap}{args:List WData}{vals:List Value}
  (hpre:l.row.toRowW.claim.pre args=true) (hwl:WellAll P h vals args) :
  ∃a vs ns,vals=[Value.ref a]∧args=[WData.list (ns.map WData.int)]∧h.get? a=some { cls:=.type "list",data:=.seq vs.toArray }∧IntsAre vs ns∧ns.length≤n:=by
 have hsh:WShape.hasAll [] args [.list .int]=true:=(pre_splitW hpre).1
 have hc:l.pre.holds [] { args:=args }=true:=(pre_splitW hpre).2
 obtain⟨d,r,rfl,h1,h2⟩:=hasAllW_cons hsh
 obtain rfl:=hasAllW_nil h2
 obtain⟨xs,rfl,h3⟩:=hasW_list h1
 obtain⟨ns,rfl⟩:=items_int h3
 have hlen:ns.length≤n:=by
  unfold OpenLaw.pre at hc
  have h4:(WTm.not (.lt (.lit (.int (n:Int))) (.len (.arg 0)))).holds [] { args:=[.list (ns.map .int)] }=true:=by
   have h4:=(holds_andW hc).1
   rw[hn]at h4
   exact h4
  have h5:=condW_of h4 (w_not (w_lt w_lit (w_len_list (w_arg rfl))))
  rw[List.length_map]at h5
  refine Nat.le_of_not_lt fun q=>?_
  have q':(n:Int)<((ns.length:Nat):Int):=by omega
  first
   | (rw[decide_eq_true q']at h5;exact absurd h5 (by decide))
   | (simp at h5;omega)
 cases hwl with
 | cons w1 w2 =>
  cases w2
  cases w1 with
  | list ho hall=>exact⟨_,_,ns,rfl,rfl,ho,a0V ns _ hall,hlen⟩
theorem post_true(l:OpenLaw)(args:List WData):l.row.toRowW.claim.post args (.bool true) args=true :=
 postW_of (r:=l.row.toRowW) (X:=(true == true))
  (show WShape.has [] (.bool true) .bool=true by first | rfl | decide | simp[WShape.has,WShape.arms,WShape.armsAll])
  (show(WTm.eq .res (.lit (.bool true))).value [] { args:=args,res:=some (.bool true),after:=args }=some (.bool (true == true))from w_eq_bool (w_res rfl) w_lit) rfl
end Att
namespace L2
open PySem PySem.Spec PyProof.Rows
theorem a16:∀{vs:List Value} {ns:List Int},IntsAre vs ns→Vals (ns.map V.int) vs
 | _,_,.nil=>.nil
 | _,_,.cons n t h=>.cons ⟨t,rfl⟩ (a16 h)
def a4o(H:Hp):Prop:=∀b,H b=none∨∃o xs,H b=some (.frz o (.lst xs))
theorem a6q{P:Program}{w:World}{K:W.Frag}{mg mb:Str→Option Value}{CX:S0}{k:Nat}{fa a:Addr}{fd:FuncData}{x:Str}{sp:Sp}{s₁:Shared}{vs:List Value}{ns:List Int}
  (KX:K.In s₁.heap) (hns:s₁.heap.Ns mainGlobals mg) (hb:s₁.heap.Ns builtinsNs mb) (hbb:∀x:Str,x≠"__name__"→mb x=bootBuiltins x) (hlim:s₁.heap.NoLimit) (hg:s₁.gens = #[])
  (ha:s₁.heap.get? a=some { cls:=.type "list",data:=.seq vs.toArray }) (hi:IntsAre vs ns) (hl:ns.length≤sizeLine) (hr:Room k callerA)
  (F:∀base:Heap,K.In base→base.Ns mainGlobals mg→FnOk P w K mg base CX k fa fd [x] sp) (hbind:∀(s:Shared) (u:Value),BindsTo s fd ⟨[u],[]⟩ [(x,u)])
  (hsp:∀H:Hp,a4o H→SqL K H a (ns.map V.int)→sp [.ref a] H (fun v _=>v=.bl true) fun _ _ _=>False)
  (hCX:∀H e s',CX [] H s₁ (fun _ _ _=>False) e s'→False) :
  codeAny (model P w) callerA (.call (.ref fa) ⟨[.ref a],[]⟩) (fun r s'=>r=.ok (.ret (.bool true))∧OldK s₁.heap s'.heap∧s'.os=s₁.os∧AllBare s'.gens) s₁:=by
 have rv:=a16 hi
 have lenV:=hi.length
 -- from an abstract heap in which nothing but the script may be tracked
 have core:∀H:Hp,a4o H→SqL K H a (ns.map V.int)→HOk P w H s₁.heap→(∀b,H b≠none→b=a)→(H a≠none→K.lookup a=none) →
   codeAny (model P w) callerA (.call (.ref fa) ⟨[.ref a],[]⟩) (fun r s'=>r=.ok (.ret (.bool true))∧OldK s₁.heap s'.heap∧s'.os=s₁.os∧AllBare s'.gens) s₁:=by
  intro H hO hS hok hA hK
  have base_of:∀{b:Addr} {o:Obj},s₁.heap.get? b=some o→H b=none→(S9 s₁.heap H).get? b=some o:=fun e n=>a6e e n
  have noA:∀{b:Addr} {o:Obj} {es:Array DictEntry} {ep:Nat},s₁.heap.get? b=some o→o.data=.dict es ep→H b=none:=fun{b o es ep} e d=>by
   cases q:H b with
   | none=>rfl
   | some u =>
    have e':b=a:=hA b (by rw[q];simp)
    subst e'
    rw[ha]at e;cases e
    have d':Data.seq vs.toArray _=Data.dict es ep:=d
    cases d'
  have nsK:∀{b:Addr} {m:Str→Option Value},s₁.heap.Ns b m→(S9 s₁.heap H).Ns b m:=fun{b m} ⟨o,es,ep,e,d,r⟩=>⟨o,es,ep,base_of e (noA e d),d,r⟩
  have hKb:K.In (S9 s₁.heap H):=fun b o e=>base_of (KX b o e) (by
   cases q:H b with
   | none=>rfl
   | some u =>
    have e':b=a:=hA b (by rw[q];simp)
    subst e'
    rw[hK (by rw[q];simp)]at e;cases e)
  have hM:Mod K mg (S9 s₁.heap H):=⟨hKb,nsK hns,⟨mb,nsK hb,hbb⟩,let ⟨mc,h1,h2⟩:=hlim; ⟨mc,nsK h1,h2⟩⟩
  have e0:Env0 P w K mg (S9 s₁.heap H) callerA [] s₁ H:=⟨rfl,hM,fun b o e=>a8c e,Nat.le_of_eq (a45 _ _),trivial,fun b hb=>absurd (show b∈([]:List Addr)from hb) (by simp),hok,.of_eq hg⟩
  refine codeAny_mono ((F _ hKb (nsK hns)).run callerA [] s₁ H ⟨[.ref a],[]⟩ [.ref a] [.ref a] _ _ hr e0 (hbind s₁ (.ref a)) (.cons rfl .nil) (hsp H hO hS)) fun r s' h=>?_
  cases r with
  | error e=>exact(hCX H e s' h).elim
  | ok fl =>
   cases fl with
   | next=>exact False.elim h
   | brk=>exact False.elim h
   | cont=>exact False.elim h
   | ret u =>
    obtain⟨v,H',os,bare,un,hok',r',q⟩:=h
    have q':v=.bl true:=q
    subst q'
    obtain rfl:u=Value.bool true:=r'
    refine⟨rfl,OldK.of_keep fun b o e=>?_,os,bare⟩
    cases q:H b with
    | none=>exact un.keep b o e q (by intro z;exact absurd (show b∈([]:List Addr)from z) (by simp)) (by simp)
    | some u =>
     rcases hO b with z | ⟨ob,xs,z⟩
     ·rw[q]at z;cases z
     ·have z2:=un.frzs b ob _ z
      obtain⟨e1,_⟩:=hok b _ z
      obtain⟨e2,_⟩:=hok' b _ z2
      rw[e]at e1;cases e1
      exact e2
 cases hk:K.lookup a with
 | some o =>
  -- the script is one of the module's own objects
  have e:=KX a o hk
  rw[ha]at e
  cases e
  refine core (fun _=>none) (fun _=>.inl rfl) (.inr ⟨_,vs.toArray,_,hk,rfl,rfl,rfl,by rw[List.size_toArray,lenV];exact hl,by simpa using rv⟩) (fun b u z=>by have z':(none:Option HO)=some u:=z;cases z') (fun b z=>absurd rfl z) fun z=>absurd rfl z
 | none =>
  refine core (fun b=>if b=a then some (.frz { cls:=.type "list",data:=.seq vs.toArray } (.lst (ns.map V.int)))else none) (fun b=>?_) (.inl (.inr ⟨{ cls:=.type "list",data:=.seq vs.toArray },if_pos rfl⟩)) (fun b u z=>?_) (fun b z=>?_) fun _=>hk
  ·by_cases hb:b=a
   ·exact .inr ⟨_,_,if_pos hb⟩
   ·exact .inl (if_neg hb)
  ·by_cases hb:b=a
   ·have z':=(if_pos hb).symm.trans z
    cases z'
    subst hb
    exact⟨ha,by rw[List.length_map];exact hl,vs,_,rv,ha⟩
   ·have z':=(if_neg hb).symm.trans z
    cases z'
  ·by_cases hb:b=a
   ·exact hb
   ·exact absurd (if_neg hb) z
def a8p(s:Stmt)(j:Nat):Stmt:=match s with
 | .ClassDef _ _ _ body _ _ _ _ _ _ _=>body.getD j (.Pass ⟨0,0,0,0⟩)
 | _=>.Pass ⟨0,0,0,0⟩
def i2(s:Stmt):Arguments:=match s with
 | .FunctionDef _ a _ _ _ _ _ _ _ _=>a
 | _=>{ posonlyargs:=[],args:=[],vararg:=none,kwonlyargs:=[],kw_defaults:=[],kwarg:=none,defaults:=[] }
def g8(s:Stmt):List Stmt:=match s with
 | .FunctionDef _ _ b _ _ _ _ _ _ _=>b
 | _=>[]
def a9(s:Stmt):Scope:=match s with
 | .FunctionDef _ _ _ _ _ _ sc _ _ _=>sc
 | _=>{ kind:=.function,names:=[],isGenerator:=false,isCoroutine:=false }
abbrev CX0:S0:=fun _ _ _ _ _ _=>False
abbrev E0:XK:=fun _ _ _=>False
structure Fun(K:W.Frag)(x qual:Str)(st:Stmt)(f:Addr)(fd:FuncData):Prop where
 ex:∃(oc:Value) (od:Option Addr) (kV doc pm:Value) (an:Option Addr) (cdv ct:Value) (osl:Array (Option Value)),
  fd=W.fnOf x qual (i2 st) (g8 st) (a9 st) .none kV doc pm an cdv ct∧K.lookup f=some ⟨oc,od,.func fd,osl⟩∧W.codeIn K cdv qual=true
 kp:W.keepIn K (.ref f)=true
section
variable {P:Program}{w:World}{K:W.Frag}{mg:Str→Option Value}{base:Heap}
theorem Fun.ok{x qual:Str}{st:Stmt}{f:Addr}{fd:FuncData}{N ps:List Str}{k:Nat}{sp:Sp}(F:Fun K x qual st f fd)(S:FnScope N ps (a9 st))(len:∀vs H Q E,sp vs H Q E→vs.length=ps.length)
  (hbody:∀(cdv:Value) (A:Around) (outer:List Env) (s:Shared) (H:Hp) (vs:List V) (Q:VK) (E:XK),Room k (A.deeper (envOfC qual (a9 st) s.heap.objs.size f cdv))→sp vs H Q E →
   ∃t,PSs (L6 CX0 P w K mg base N qual (a9 st) f cdv A outer s H E).nox (g8 st) t∧t { nx:=fun _ H'=>Q .non H',rt:=Q } (start N vs) H):FnOk P w K mg base CX0 (k+1) f fd ps sp:=by
 obtain⟨oc,od,kV,doc,pm,an,cdv,ct,osl,rfl,lk,hcd⟩:=F.ex
 refine a4n lk hcd S len fun A outer s H vs Q E hr hsp=>?_
 obtain⟨t,h,q⟩:=hbody cdv A outer s H vs Q E hr hsp
 exact⟨t,h.nox,q⟩
theorem Fun.binds{x qual:Str}{st:Stmt}{f:Addr}{fd:FuncData}{ps:List Str}(F:Fun K x qual st f fd)
  (h:∀(kV doc pm:Value) (an:Option Addr) (cdv ct:Value) (us:List Value),us.length=ps.length→bindArgs (W.fnOf x qual (i2 st) (g8 st) (a9 st) .none kV doc pm an cdv ct) ⟨us,[]⟩=pure (ps.zip us)):Binds K fd ps []:=by
 obtain⟨oc,od,kV,doc,pm,an,cdv,ct,osl,rfl,lk,hcd⟩:=F.ex
 exact .all (h kV doc pm an cdv ct)
theorem r9{x qual:Str}{st:Stmt}{f:Addr}{oc:Value}{od an:Option Addr}{osl:Array (Option Value)}{kV doc pm cdv ct:Value}(l:K.lookup f=some ⟨oc,od,.func (W.fnOf x qual (i2 st) (g8 st) (a9 st) .none kV doc pm an cdv ct),osl⟩)
  (c:W.codeIn K cdv qual=true) (k:W.keepIn K (.ref f)=true):Fun K x qual st f (W.fnOf x qual (i2 st) (g8 st) (a9 st) .none kV doc pm an cdv ct):=⟨⟨oc,od,kV,doc,pm,an,cdv,ct,osl,rfl,l,c⟩,k⟩
end
section
variable {X:Cx}
theorem pv(i:Nat){x:Str}{pos:Pos}(hN:X.N[i]? = some x:=by rfl)(hv:Vis X.env.scope x:=by first | exact Or.inl rfl | exact Or.inr (Or.inl rfl) | exact Or.inr (Or.inr rfl))(hd:(x == ("__debug__" : Str))=false:=by decide)
  (hcd:(x == ("__classdict__" : Str))=false:=by decide):PE X (.Name x pos) (D0 i):=a9T hN hv hd hcd
end
def Same(H H':Hp):Prop:=∀b o,H b=some o→H' b=some o
theorem Same.refl(H:Hp):Same H H:=fun _ _ h=>h
theorem Same.trans{H H1 H2:Hp}(a:Same H H1)(b:Same H1 H2):Same H H2:=fun c o h=>b c o (a c o h)
theorem Same.free{H H':Hp}(e:Same H H'){l:Addr}(h:H' l=Option.none):H l=Option.none:=by
 cases q:H l with
 | none=>rfl
 | some o =>
  rw[e l o q]at h
  cases h
theorem Same.seq{K:W.Frag}{H H':Hp}{a:Addr}{xs:List V}(e:Same H H')(h:SqL K H a xs):SqL K H' a xs:=by
 rcases h with(h | ⟨o,h⟩) | h
 ·exact .inl (.inl (e _ _ h))
 ·exact .inl (.inr ⟨o,e _ _ h⟩)
 ·exact .inr h
end L2
set_option maxHeartbeats 4000000
namespace L2
open PySem PySem.Spec PyProof.Rows
theorem ObjOk.there{P:Program}{w:World}{H:Hp}{h:Heap}{a:Addr}{o:HO}(x:ObjOk P w H h a o):∃ob,h.get? a=some ob:=by
 cases o with
 | lst xs=>obtain⟨_,_,_,_,e⟩:=x;exact⟨_,e⟩
 | tup xs=>obtain⟨_,_,_,p⟩:=x;obtain⟨o,e,_⟩:=p;exact⟨_,e⟩
 | dK kvs=>obtain⟨_,_,_,_,o,_,_,e,_⟩:=x;exact⟨_,e⟩
 | dT kvs=>obtain⟨_,_,_,_,o,_,_,e,_⟩:=x;exact⟨_,e⟩
 | set S n=>obtain⟨o,_,_,_,e,_⟩:=x;exact⟨_,e⟩
 | ins C dx fs=>obtain⟨_,_,_,e,_⟩:=x;exact⟨_,e⟩
 | own y=>obtain⟨_,e⟩:=x;exact⟨_,e⟩
 | xd fs=>obtain⟨_,⟨_,_,_,e,_⟩,_⟩:=x;exact⟨_,e⟩
 | rng lo hi=>obtain⟨_,_,_,e⟩:=x;exact⟨_,e⟩
 | frz ob u=>obtain⟨e,_⟩:=x;exact⟨_,e⟩
 | tbl ps=>obtain⟨_,e,_⟩:=x;exact⟨_,e⟩
 | met f y=>exact⟨_,(show h.get? a=some _ from x)⟩
 | ext φ=>obtain⟨_,⟨_,e⟩,_⟩:=x;exact⟨_,e⟩
def Imp(X:Cx)(pins:List (Addr×Obj))(H:Hp)(b:Addr):Prop:=H b≠none∨(b ∉ X.ex∧∃o,X.s₀.heap.get? b=some o)∨∃p∈X.pn++pins,p.1=b
def a0t:Option Addr→Value
 | none=>.none
 | some n=>if n%2=0 then .ref (n/2)else .none
def X6:Option Addr→Option Addr
 | none=>none
 | some n=>if n%2=0 then none else some (n/2)
def TrX(h B:Heap)(e:Addr)(cls:Value)(cx:Option Addr)(fl:Value):Prop :=
 ∃oe vs T oT ts,(h.get? e=some oe∧oe.cls=cls∧oe.data=.fields vs∧oe.dict=X6 cx)∧(vs[1]? = some (.ref T)∧vs[2]? = some (a0t cx))∧(B.get? T=none∧T≠e)∧h.get? T=some oT∧oT.data=.fields ts∧ts[3]? = some fl
theorem Obj.dict_mapF(o:Obj)(g:Array Value→Array Value):(Obj.mapFields g o).dict=o.dict:=by
 obtain⟨a,b,c,d⟩:=o
 cases c<;>rfl
theorem O2(T:Addr):(Value.ref T != Value.none)=true:=by simp
inductive Ph where | new | fly | any
def XTr(B h:Heap)(a:Addr)(cls:Value)(cx:Option Addr):Ph→Prop
 | .new=>∃oe vs,h.get? a=some oe∧oe.cls=cls∧oe.data=.fields vs∧vs[1]? = some .none∧vs[2]? = some (a0t cx)∧oe.dict=X6 cx
 | .fly=>TrX h B a cls cx .none
 | .any=>∃fl,TrX h B a cls cx fl
theorem XTr.there{B h:Heap}{a:Addr}{cls:Value}{cx:Option Addr}{ph:Ph}(x:XTr B h a cls cx ph):∃oe vs,h.get? a=some oe∧oe.cls=cls∧oe.data=.fields vs∧vs[2]? = some (a0t cx)∧oe.dict=X6 cx:=by
 cases ph with
 | new=>obtain⟨oe,vs,h1,h2,h3,_,h4,h5⟩:=x;exact⟨oe,vs,h1,h2,h3,h4,h5⟩
 | fly=>obtain⟨oe,vs,_,_,_,⟨h1,h2,h3,h5⟩,⟨_,h4⟩,_⟩:=x;exact⟨oe,vs,h1,h2,h3,h4,h5⟩
 | any=>obtain⟨_,oe,vs,_,_,_,⟨h1,h2,h3,h5⟩,⟨_,h4⟩,_⟩:=x;exact⟨oe,vs,h1,h2,h3,h4,h5⟩
section
variable {M:Model}{A:Around}{E:Value→Shared→Prop}{s:Shared}
def a0W(B:Heap)(l:List Env)(e:Addr)(cls:Value)(cx:Option Addr)(fl:Value)(h h':Heap):Prop:=B.StaysIn h'∧h'.FunFrames B l∧TrX h' B e cls cx fl∧h.UpToSlots h'
theorem a3M{B:Heap}{env:Env}{outer:List Env}{L e:Addr}{oe:Obj}{vs:Array Value}{head:Value}{cx:Option Addr}{nx:Bool}{Q:Unit→Shared→Prop}(fr:A.frames=some (env::outer))(ff:s.heap.FunFrames B (env::outer))(hf:env.frame=some L)
  (ge:s.heap.get? e=some oe) (st:B.StaysIn s.heap) (be:B.get? e=none) (de:oe.data=.fields vs) (z1:1<vs.size) (z2:vs[2]? = some (a0t cx)) (z6:oe.dict=X6 cx) (q:∀h',a0W B (env::outer) e oe.cls cx (rawInt L) s.heap h'→Q () { s with heap:=h' }) :
  wpAny M A (do let a ← frameOf env;let pl ← entryPlaceOf L nx;let b ← EntryCells.newEntry head a .none (rawInt L) .none pl;setField (.ref e) 1 b) Q E s:=by
 have nf:∀b o,s.heap.get? b=some o→(∀ws,o.data≠.fields ws)→b≠e:=fun b o gb nb zb=>by subst zb;rw[ge]at gb;cases gb;exact nb vs de
 have out:e ∉ (env::outer).filterMap (·.frame):=fun m=>by obtain⟨_,o,go,no⟩:=ff.mem m;exact nf e o go no rfl
 refine wpAny_bind (wpAny_frameOf_fun fr ff hf fun h1 only=>wpAny_bind (wpAny_entryPlaceOf fun pl place=>?_))
 unfold EntryCells.newEntry newFields
 refine wpAny_bind (wpAny_newObj_type ?_ (place.sizeOk5 _ _ _ _ _))
 have ge1:h1.get? e=some oe:=(only.2.1 e out).trans ge
 have st1:B.StaysIn h1:=fun b o gb=>(only.2.1 b fun m=>by have:=(ff.mem m).1;rw[this]at gb;cases gb).trans (st b o gb)
 have ne1:h1.objs.size≠e:=fun z=>absurd (Heap.lt_size ge1) (by rw[z];exact Nat.lt_irrefl _)
 refine wpAny_setField (Heap.get?_push_of_some _ ge1) de z1 (q _ ?_)
 have far:∀{ob:Obj} {g:Obj→Obj} {b:Addr} {o:Obj},b≠e→h1.get? b=some o→((h1.push ob).update e g).get? b=some o:=fun ne gb=>(Heap.get?_update_other _ _ (Ne.symm ne)).trans (Heap.get?_push_of_some _ gb)
 refine⟨fun b o gb=>far (fun z=>by rw[z,be]at gb;cases gb) (st1 b o gb),ff.of_keeps fun b o gb nb=>?_,?_,fun b o gb nb=>?_⟩
 ·obtain⟨sl,g⟩:=only.2.2 b o gb;exact⟨_,far (nf b o gb nb) g,rfl⟩
 ·have dd:=Obj.data_mapFields de (·.setIfInBounds 1 (Value.ref h1.objs.size))
  refine⟨_,_,h1.objs.size,_,_,⟨Heap.get?_update_self _ (Heap.get?_push_of_some _ ge1) (Obj.isFreed_of_fields dd),Obj.cls_mapFields _ _,dd,(Obj.dict_mapF _ _).trans z6⟩,⟨by simp[z1],by rw[Array.getElem?_setIfInBounds_ne (by decide)];exact z2⟩,⟨st1.fresh,ne1⟩,(Heap.get?_update_other _ _ (Ne.symm ne1)).trans (Heap.get?_push_size h1 rfl),rfl,?_⟩
  first | (simp;done) | (rcases place with rfl | ⟨_,_,_,_,_,_,_,rfl⟩<;>simp)
 ·obtain⟨sl,g⟩:=only.2.2 b o gb;exact⟨sl,far (nf b o gb nb) g⟩
theorem a4p{B:Heap}{env:Env}{outer:List Env}{L e:Addr}{oe:Obj}{vs:Array Value}{cx:Option Addr}{Q:Unit→Shared→Prop}(fr:A.frames=some (env::outer))(ff:s.heap.FunFrames B (env::outer))(hf:env.frame=some L)
  (ge:s.heap.get? e=some oe) (st:B.StaysIn s.heap) (be:B.get? e=none) (de:oe.data=.fields vs) (z1:vs[1]? = some .none) (z2:vs[2]? = some (a0t cx)) (z6:oe.dict=X6 cx) (q:∀h',a0W B (env::outer) e oe.cls cx (rawInt L) s.heap h'→Q () { s with heap:=h' }):wpAny M A (noteFrame (.ref e) env) Q E s:=by
 unfold noteFrame
 simp only[hf]
 refine wpAny_bind (wpAny_field ge de z1 ?_)
 rw[if_neg (by decide)]
 exact a3M fr ff hf ge st be de (Array.getElem?_eq_some_iff.mp z1).1 z2 z6 q
theorem a8q{B:Heap}{env:Env}{outer:List Env}{L e:Addr}{cls:Value}{cx:Option Addr}{Q:Unit→Shared→Prop}(fr:A.frames=some (env::outer))(ff:s.heap.FunFrames B (env::outer))(hf:env.frame=some L)
  {fl:Value} (t:TrX s.heap B e cls cx fl) (nl:¬(fl == rawInt L)=true) (st:B.StaysIn s.heap) (be:B.get? e=none) (q:∀h',a0W B (env::outer) e cls cx (rawInt L) s.heap h'→Q () { s with heap:=h' }):wpAny M A (noteFrame (.ref e) env) Q E s:=by
 obtain⟨oe,vs,T,oT,ts,⟨ge,rfl,de,z6⟩,⟨z1,z2⟩,⟨bT,nT⟩,gT,dT,z3⟩:=t
 unfold noteFrame
 simp only[hf]
 refine wpAny_bind (wpAny_field ge de z1 ?_)
 rw[if_pos (O2 T)]
 refine wpAny_bind (wpAny_field gT dT z3 ?_)
 rw[if_neg nl]
 refine wpAny_bind (wpAny_setField gT dT (Array.getElem?_eq_some_iff.mp z3).1 ?_)
 have far:∀{g:Obj→Obj} b,b≠T→(s.heap.update T g).get? b=s.heap.get? b:=fun b ne=>Heap.get?_update_other _ _ (Ne.symm ne)
 have nf:∀b o,s.heap.get? b=some o→(∀ws,o.data≠.fields ws)→b≠T:=fun b o gb nb zb=>by subst zb;rw[gT]at gb;cases gb;exact nb ts dT
 refine a3M fr (ff.of_keeps fun b o gb nb=>⟨o,(far b (nf b o gb nb)).trans gb,rfl⟩) hf ((far e (Ne.symm nT)).trans ge) (fun b o gb=>(far b fun z=>by rw[z,bT]at gb;cases gb).trans (st b o gb)) be de (Array.getElem?_eq_some_iff.mp z1).1 z2 z6 fun h' x=>q h' ⟨x.1,x.2.1,x.2.2.1,fun b o gb nb=>?_⟩
 exact x.2.2.2 b o ((far b (nf b o gb nb)).trans gb) nb
theorem a4q{B:Heap}{env:Env}{L e:Addr}{cls:Value}{cx:Option Addr}{fl:Value}{Q:Unit→Shared→Prop}(hf:env.frame=some L)(t:TrX s.heap B e cls cx fl)(el:(fl == rawInt L)=true)(q:Q () s):wpAny M A (noteFrame (.ref e) env) Q E s:=by
 obtain⟨oe,vs,T,oT,ts,⟨ge,rfl,de,z6⟩,⟨z1,z2⟩,⟨bT,nT⟩,gT,dT,z3⟩:=t
 unfold noteFrame
 simp only[hf]
 refine wpAny_bind (wpAny_field ge de z1 ?_)
 rw[if_pos (O2 T)]
 refine wpAny_bind (wpAny_field gT dT z3 ?_)
 rw[if_pos el]
 exact wpAny_pure q
theorem a2K{B:Heap}{l:List Env}{e:Addr}{cls fl:Value}{cx fr:Option Addr}{Q:Unit→Shared→Prop}(st:B.StaysIn s.heap)(ff:s.heap.FunFrames B l)(t:TrX s.heap B e cls cx fl)
  (q:∀h',a0W B l e cls cx (fr.elim Value.none fun f=>rawInt f) s.heap h'→Q () { s with heap:=h' }):wpAny M A (setFlight (.ref e) fr) Q E s:=by
 obtain⟨oe,vs,T,oT,ts,⟨ge,rfl,de,z6⟩,⟨z1,z2⟩,⟨bT,nT⟩,gT,dT,z3⟩:=t
 have z4:3<ts.size:=(Array.getElem?_eq_some_iff.mp z3).1
 have far:∀{g:Obj→Obj} b,b≠T→(s.heap.update T g).get? b=s.heap.get? b:=fun b ne=>Heap.get?_update_other _ _ (Ne.symm ne)
 have nf:∀b o,s.heap.get? b=some o→(∀ws,o.data≠.fields ws)→b≠T:=fun b o gb nb zb=>by subst zb;rw[gT]at gb;cases gb;exact nb ts dT
 unfold setFlight
 refine wpAny_bind (wpAny_field ge de z1 ?_)
 rw[if_pos (O2 T)]
 refine wpAny_setField gT dT z4 (q _ ⟨fun b o gb=>(far b fun z=>by rw[z,bT]at gb;cases gb).trans (st b o gb),ff.of_keeps fun b o gb nb=>⟨o,(far b (nf b o gb nb)).trans gb,rfl⟩,?_,fun b o gb nb=>⟨o.slots,(far b (nf b o gb nb)).trans gb⟩⟩)
 have dd:=Obj.data_mapFields dT (·.setIfInBounds 3 (fr.elim Value.none fun f=>rawInt f))
 exact⟨oe,vs,T,_,_,⟨(far e (Ne.symm nT)).trans ge,rfl,de,z6⟩,⟨z1,z2⟩,⟨bT,nT⟩,Heap.get?_update_self _ gT (Obj.isFreed_of_fields dd),dd,by simp[z4]⟩
end
structure XAt(X:Cx)(pins:List (Addr×Obj))(H:Hp)(s:Shared)(a:Addr)(cls:Value)(cx:Option Addr)(B:Heap)(ph:Ph):Prop where
 free:H a=none
 stays:B.StaysIn s.heap
 fresh:B.get? a=none
 frames:s.heap.FunFrames B X.stack
 cov:∀b o,s.heap.get? b=some o→Imp X pins H b→b ∉ x8 X.stack→B.get? b=some o
 tr:XTr B s.heap a cls cx ph
section
variable {X:Cx}{pins:List (Addr×Obj)}{σ:St}{H:Hp}{s:Shared}{a:Addr}{cls:Value}{cx:Option Addr}{B h':Heap}{ph:Ph}
theorem Imp.there(I:Inv X pins σ H s){b:Addr}(i:Imp X pins H b):∃o,s.heap.get? b=some o:=by
 rcases i with i | ⟨hx,o,i⟩ | ⟨p,hp,e⟩
 ·cases q:H b with
  | none=>exact absurd q i
  | some u=>exact(I.hok b u q).there
 ·exact I.base.there b o i hx
 ·exact⟨p.2,by rw[← e];exact(I.pin p hp).1⟩
theorem Inv.exc(I:Inv X pins σ H s)(cov:∀b o,s.heap.get? b=some o→Imp X pins H b→b ∉ x8 X.stack→B.get? b=some o)(st:B.StaysIn h')(ups:s.heap.UpToSlots h') :
  Inv X pins σ H { s with heap:=h' }:=by
 have fr:∀b,b∈x8 X.stack→∀o,s.heap.get? b=some o→∃sl,h'.get? b=some { o with slots:=sl }:=fun b hb o e=>by
  obtain⟨_,o',e',d⟩:=I.stack.mem hb
  rw[e]at e';cases e'
  exact ups b o e d
 have nfr:∀b,b ∉ X.fs→b≠X.env.locals→b ∉ x8 X.stack:=fun b h1 h2 z=>(List.mem_cons.mp (I.stkSub b z)).elim h2 h1
 have neL:∀b o,X.s₀.heap.get? b=some o→b≠X.env.locals:=fun b o e=>Nat.ne_of_lt (Nat.lt_of_lt_of_le (Heap.lt_size e) I.ok.above)
 have cellK:∀c v,s.heap.IsCell c v→h'.IsCell c v:=fun c v ⟨o,ho,hd⟩=>by
  obtain⟨sl,q⟩:=ups c o ho (fun vs z=>by rw[hd]at z;cases z)
  exact⟨_,q,hd⟩
 refine⟨I.ok,I.os,I.bare,⟨fun b o e n hb hx=>?_,fun b o e n hb hx=>?_,I.base.free,fun b o e hx=>?_,I.base.tups,I.base.frzs,I.base.tbls⟩,?_,fun x c e=>?_,I.free,I.freeC,fun p hp=>?_,?_,I.len⟩
 ·exact st _ _ (cov b o (I.base.keep b o e n hb hx) (.inr (.inl ⟨hx,o,e⟩)) (nfr b hb (neL b o e)))
 ·obtain⟨sl,e1⟩:=I.base.slot b o e n hb hx
  have hb':b∈x8 X.stack:=by
   rcases I.ok.stk with q | ⟨q,hf⟩
   ·rw[q];exact hb
   ·rw[q];unfold x8;rw[List.filterMap_cons,hf];exact List.mem_cons_of_mem _ hb
  obtain⟨sl',e2⟩:=fr b hb' _ e1
  exact⟨sl',e2⟩
 ·obtain⟨o',e1⟩:=I.base.there b o e hx
  by_cases hb:b∈x8 X.stack
  ·obtain⟨sl,q⟩:=fr b hb _ e1
   exact⟨_,q⟩
  ·exact⟨o',st _ _ (cov b o' e1 (.inr (.inl ⟨hx,o,e⟩)) hb)⟩
 ·obtain⟨m,hn,hl⟩:=I.loc
  refine⟨m,ups.ns hn,fun i x v e1 e2 e3=>?_⟩
  obtain⟨u,r,l⟩:=hl i x v e1 e2 e3
  refine⟨u,r,?_⟩
  rcases l with l | ⟨k,c,e,z⟩
  ·exact .inl l
  ·exact .inr ⟨k,c,e,cellK c _ z⟩
 ·obtain⟨v,z⟩:=I.cell x c e
  exact⟨v,cellK c v z⟩
 ·obtain⟨e,n,ne,nf,d⟩:=I.pin p hp
  exact⟨st _ _ (cov p.1 p.2 e (.inr (.inr ⟨p,hp,rfl⟩)) (nfr p.1 nf ne)),n,ne,nf,d⟩
 ·intro b u e
  refine(I.hok b u e).stay (fun c v hc q=>?_) (fun _ q=>q) (fun _ _ q=>q) fun _ _ _ q=>q
  have hc':H c≠none:=by
   rcases hc with z | z
   ·rw[z,e];exact fun q=>nomatch q
   ·rw[z];exact fun q=>nomatch q
  exact st _ _ (cov c v q (.inl hc') fun z=>hc' (I.stkFree c z))
theorem XAt.cov'(x:XAt X pins H s a cls cx B ph)(I:Inv X pins σ H s)(st:B.StaysIn h'):∀b o,h'.get? b=some o→Imp X pins H b→b ∉ x8 X.stack→B.get? b=some o:=fun b o e i n=>by
 obtain⟨o1,e1⟩:=i.there I
 have q:=x.cov b o1 e1 i n
 have q2:=st _ _ q
 rw[e]at q2;cases q2
 exact q
variable {M:Model}{A:Around}{E:Value→Shared→Prop}{Q:Unit→Shared→Prop}
theorem a6r{e:Value}{env env0:Env}(h:env0.frame=env.frame):noteFrame e env=noteFrame e env0:=by
 unfold noteFrame PySem.frameOf
 rw[h]
theorem a1x{env0:Env}{out0:List Env}{F:Addr}(hA:A.frames=some X.stack)(hs:X.stack=env0::out0)(h0:env0.frame=X.env.frame)(hf:X.env.frame=some F)(I:Inv X pins σ H s)(x:XAt X pins H s a cls cx B ph)
  (hQ:∀h',Inv X pins σ H { s with heap:=h' }→XAt X pins H { s with heap:=h' } a cls cx B .any→Q () { s with heap:=h' }):wpAny M A (noteFrame (.ref a) X.env) Q E s:=by
 have hfr:A.frames=some (env0::out0):=by rw[hA,hs]
 have hl:s.heap.FunFrames B (env0::out0):=by rw[← hs];exact x.frames
 rw[a6r h0]
 have hf:env0.frame=some F:=h0.trans hf
 have fin:∀{fl:Value} h',a0W B (env0::out0) a cls cx fl s.heap h'→Q () { s with heap:=h' }:=fun h' ⟨k1,k2,k3,k4⟩ =>
  hQ h' (I.exc x.cov k1 k4) ⟨x.free,k1,x.fresh,by rw[hs];exact k2,x.cov' I k1,_,k3⟩
 have on:∀fl,TrX s.heap B a cls cx fl→wpAny M A (noteFrame (.ref a) env0) Q E s:=fun fl t=>by
  by_cases z:(fl == rawInt F)=true
  ·exact a4q hf t z (hQ s.heap I ⟨x.free,x.stays,x.fresh,x.frames,x.cov,fl,t⟩)
  ·exact a8q hfr hl hf t z x.stays x.fresh fin
 cases ph with
 | new =>
  obtain⟨oe,vs,he,hc,hd,h1,h2,h6⟩:=x.tr
  refine a4p hfr hl hf he x.stays x.fresh hd h1 h2 h6 fun h' hN=>?_
  rw[hc]at hN
  exact fin h' hN
 | fly=>exact on _ x.tr
 | any=>obtain⟨fl,t⟩:=x.tr;exact on fl t
theorem a1y(I:Inv X pins σ H s)(x:XAt X pins H s a cls cx B ph)(hn:ph≠.new)
  (hQ:∀h',Inv X pins σ H { s with heap:=h' }→XAt X pins H { s with heap:=h' } a cls cx B .fly→Q () { s with heap:=h' }):wpAny M A (setFlight (.ref a) none) Q E s:=by
 have go:∀fl,TrX s.heap B a cls cx fl→wpAny M A (setFlight (.ref a) none) Q E s:=fun fl ht =>
  a2K x.stays x.frames ht fun h' ⟨k1,k2,k3,k4⟩=>hQ h' (I.exc x.cov k1 k4) ⟨x.free,k1,x.fresh,k2,x.cov' I k1,k3⟩
 cases ph with
 | new=>exact absurd rfl hn
 | fly=>exact go _ x.tr
 | any=>obtain⟨fl,t⟩:=x.tr;exact go fl t
end
def m4(P:Program)(w:World):S0:=fun outer H s E e s' =>
 ∃(a:Addr) (cls:Value) (cx:Option Addr) (H':Hp) (B:Heap),e=.ref a∧s'.os=s.os∧AllBare s'.gens∧Un (x8 outer) [] H H' s.heap s'.heap∧HOk P w H' s'.heap∧B.StaysIn s'.heap∧B.get? a=none∧s'.heap.FunFrames B outer ∧
  TrX s'.heap B a cls cx .none∧H' a=none∧(∀b o,s'.heap.get? b=some o→(H' b≠none∨∃o',s.heap.get? b=some o')→b ∉ x8 outer→B.get? b=some o)∧E cls cx H'
def XAcc(X:Cx)(E:XK):Prop:=∀(pins:List (Addr×Obj)) (σ:St) (H:Hp) (s:Shared) (a:Addr) (cls:Value) (cx:Option Addr) (B:Heap) (ph:Ph),Inv X pins σ H s→XAt X pins H s a cls cx B ph→E cls cx H→X.xe (.ref a) s
theorem n9{P:Program}{w:World}{K:W.Frag}{mg:Str→Option Value}{base:Heap}{N:List Str}{qual:Str}{scope:Scope}{f:Addr}{cd:Value}{A:Around}{outer:List Env}{s:Shared}{H:Hp}{E:XK} :
  XAcc (L6 (m4 P w) P w K mg base N qual scope f cd A outer s H E) E:=by
 intro pins σ H1 s1 a cls cx B ph I x e
 show wpAny (model P w) (A.deeper (envOfC qual scope s.heap.objs.size f cd)) (leaving (envOfC qual scope s.heap.objs.size f cd) (.ref a)) _ _ s1
 unfold leaving
 refine wpAny_bind (a1x (X:=L6 (m4 P w) P w K mg base N qual scope f cd A outer s H E) I.ok.frames rfl rfl rfl I x fun h1 I1 x1=>?_)
 refine a1y I1 x1 (fun z=>nomatch z) fun h2 I2 x2=>?_
 refine⟨a,cls,cx,H1,B,rfl,I2.os,I2.bare,I2.base,I2.hok,x2.stays,x2.fresh,x2.frames.2.2,x2.tr,x2.free,fun b o e1 i n=>?_,e⟩
 have nl:b≠(envOfC qual scope s.heap.objs.size f cd).locals:=fun z=>by
  rcases i with i | ⟨o',i⟩
  ·exact i (by rw[z];exact I2.free)
  ·have:=Heap.lt_size i
   rw[z]at this
   exact absurd this (Nat.lt_irrefl _)
 refine x2.cov b o e1 (i.elim .inl fun z=>.inr (.inl ⟨List.not_mem_nil,z⟩)) fun z=>?_
 rcases List.mem_cons.mp (I2.stkSub b z)with q | q
 ·exact nl q
 ·exact n q
theorem XAcc.passes{X:Cx}{E:XK}(acc:XAcc X E):X3 (m4 X.prog X.w) X E:=by
 intro pins σ H s e s' I h
 obtain⟨a,cls,cx,H',B,rfl,os,bare,un,hok,st,fr,ff,tr,free,cov,hE⟩:=h
 have I':Inv X pins σ H' s':=I.call' (ch:=[]) os un hok bare (fun b z=>absurd z (by simp))
 refine acc pins σ H' s' a cls cx B .fly I' ⟨free,st,fr,ff,fun b o e i n=>cov b o e ?_ n,tr⟩ hE
 rcases i with i | ⟨hx,o',i⟩ | ⟨p,hp,q⟩
 ·exact .inl i
 ·exact .inr (I.base.there b o' i hx)
 ·exact .inr ⟨p.2,by rw[← q];exact(I.pin p hp).1⟩
end L2
namespace PySem.W
open PySem PySem.Spec PySem.Calls PyProof.Rows
structure ExcT(K:Frag)(C:Addr):Prop where
 ga:findIn K (.ref C) "__getattribute__" = some (some (.builtin "BaseException.__getattribute__"))
 gt:findIn K (.ref C) "__getattr__" = some none
 cl:findIn K (.ref C) "__class__" = some (some (.builtin "object.__class__"))
 mo:mroIn K C (.type "object")=some true
 sb:subIn K (.ref C) (.type "BaseException")=some true
section
variable {prog:Program}{w:World}{A:Around}{E:Value→Shared→Prop}{h:Heap}{g:Array GenState}{d:Drawn}{t:Nat}{os:OsState}{K:Frag}{x C:Addr}{o:Obj}{R:Result→Shared→Prop}
theorem a2l{tp:Value}(X:K.In h)(hx:h.get? x=some o)(hc:o.cls=.ref C)(hm:mroIn K C (.type "object")=some true)
  (q:R (.ok (.ret (.ref C))) ⟨h,g,d,t,os⟩):codeAny (model prog w) A (.call (.builtin "getset_descriptor.__get__") ⟨[.builtin "object.__class__",.ref x,tp],[]⟩) R ⟨h,g,d,t,os⟩:=by
 have L0:Looks (model prog w) h (typeOf (.ref x)) (.ref C):=hc▸(Looks.ld hx).andThen .now
 have L1:=looks_mroIn (M:=model prog w) X hm
 refine codeAny_call_builtin KF.slot_gs.plain KF.entry_gs (KF.slot_gs.check _ _ _ _ _ _ _ _ KF.type_class (KF.args_gs _ _ _) ?_)
 unfold Builtin.«getset_descriptor.__get__» Builtin.Getset_descriptor.descrGet
 rw[dga_obj]
 refine wpAny_bind (wpAny_pure ?_)
 unfold Builtin.Getset_descriptor.descrGetter Builtin.Getset_descriptor.descrCheckInstance Builtin.Getset_descriptor.descrNameAndClass isInstance
 simp only[KF.owner_class]
 repeat lk
 refine⟨Code.quiet_builtin _ (by decide +kernel),codeAny_builtin KF.entry_class ?_⟩
 unfold Builtin.«object.__class__» shownTypeOf
 repeat lk
 exact q
theorem a0X{tk:Tok}{Q:Fin→Shared→Prop}(X:K.In h)(T:ExcT K C)(hx:h.get? x=some o)(hc:o.cls=.ref C)(q:Q (.done (.ret (.ref C))) ⟨h,g,d,t,os⟩) :
  wpAny (model prog w) A (Builtin.«object.__getattribute__» ⟨[.ref x,.str "__class__" tk],[]⟩) Q E ⟨h,g,d,t,os⟩:=by
 have L0:Looks (model prog w) h (typeOf (.ref x)) (.ref C):=hc▸(Looks.ld hx).andThen .now
 have L1:=looks_findIn (M:=model prog w) X T.cl
 have hT5:(⟨h,g,d,t,os⟩:Shared).TypeIs (.builtin "object.__class__") "getset_descriptor" := F.typeOf_object_class
 have f5:=F.typeOf_object_class
 have f6:=F.slot_gs_get.lookup
 have f7:=F.slot_gs_set.lookup
 repeat (any_goals (first | assumption | (with_reducible refine L0.at ?_) | (with_reducible refine wpAny_bind (L0.at ?_)) | (with_reducible refine L1.at ?_) | (with_reducible refine wpAny_bind (L1.at ?_)) | wp_step))
 refine a2l X hx hc T.mo ?_
 repeat (any_goals (first | assumption | wp_step))
theorem X7{M:Model}{nameV:Value}{Q:Unit→Shared→Prop}(X:K.In h)(T:ExcT K C)(hx:h.get? x=some o)(hc:o.cls=.ref C)(hq:Q () ⟨h,g,d,t,os⟩):wpAny M A (checkBuiltinCall "BaseException.__getattribute__" ⟨[.ref x,nameV],[]⟩) Q E ⟨h,g,d,t,os⟩:=by
 have hk:builtinKind "BaseException.__getattribute__" = some .slot:=by decide +kernel
 have hsplit:splitId "BaseException.__getattribute__" = some ("BaseException","__getattribute__"):=by decide +kernel
 have L0:Looks M h (typeOf (.ref x)) (.ref C):=hc▸(Looks.ld hx).andThen .now
 have L1:=looks_subIn (M:=M) X T.sb
 have L2:Looks M h (isInstance (.ref x) (.type "BaseException")) true:=L0.andThen L1
 have ha:=F.args_bexc_ga (.ref x) nameV
 simp only[checkBuiltinCall,hk,hsplit]
 refine wpAny_bind (L2.at ?_)
 repeat (first | assumption | wp_step)
theorem a2L{tk:Tok}{Q:Value→Shared→Prop}(X:K.In h)(T:ExcT K C)(hx:h.get? x=some o)(hc:o.cls=.ref C)(hq:Q (.ref C) ⟨h,g,d,t,os⟩):wpAny (model prog w) A (getAttrBy (.ref x) (.str "__class__" tk) false) Q E ⟨h,g,d,t,os⟩:=by
 have L0:Looks (model prog w) h (typeOf (.ref x)) (.ref C):=hc▸(Looks.ld hx).andThen .now
 have L1:=looks_findIn (M:=model prog w) X T.ga
 have L2:=looks_findIn (M:=model prog w) X T.gt
 have f3:=F.attr_ValueError.ga.bind (.ref x)
 have hx2:(Value.builtin "BaseException.__getattribute__" == Value.builtin "object.__getattribute__")=false:=by decide +kernel
 have hx1:(onTheHeap (Value.ref C) && Value.builtin "BaseException.__getattribute__" == Value.builtin "object.__getattribute__")=false:=by rw[hx2];rfl
 repeat (any_goals (first | assumption | (with_reducible refine L0.at ?_) | (with_reducible refine wpAny_bind (L0.at ?_)) | (with_reducible refine L1.at ?_) | (with_reducible refine wpAny_bind (L1.at ?_)) | (with_reducible refine L2.at ?_) | (with_reducible refine wpAny_bind (L2.at ?_)) | wp_step))
 refine codeAny_call_builtin F.attr_ValueError.ga.plain F.entry_bexc_ga (X7 X T hx hc (a0X X T hx hc ?_))
 repeat (any_goals (first | assumption | wp_step))
theorem a1z{Q:Option Value→Shared→Prop}(X:K.In h)(T:ExcT K C)(hx:h.get? x=some o)(hc:o.cls=.ref C)(hq:Q (some (.ref C)) ⟨h,g,d,t+1,os⟩):wpAny (model prog w) A (getAttr? (.ref x) "__class__") Q E ⟨h,g,d,t,os⟩:=by
 unfold getAttr? getAttrBy?
 repeat (any_goals (first | assumption | with_reducible apply a2L X T hx hc | wp_step))
end
def b0a(x C:Addr)(h:Heap):Prop:=∃o vs,h.get? x=some o∧o.cls=.ref C∧o.data=.fields vs
theorem kitx_exc{K:Frag}{x C:Addr}(T:ExcT K C):KitX K (.ref x) (.ref C) (b0a x C) where
 ty:=fun _ _ _ ⟨_,_,hx,hc,_⟩=>hc▸(Looks.ld hx).andThen .now
 it:=fun M h X _=>by
  have hm:=T.mo
  unfold mroIn at hm
  obtain⟨cd,hcd⟩:∃cd,clsIn K C=some cd:=by
   cases q:clsIn K C with
   | none=>rw[q]at hm;cases hm
   | some cd=>exact⟨cd,rfl⟩
  unfold clsIn at hcd
  split at hcd
  ·rename_i c' d' cd' sl' ho
   intro A' Q' E' s' k q
   unfold isType loadHead
   exact wpAny_bind (wpAny_loadPart (k _ _ (X _ _ ho)) (wpAny_pure q))
  ·cases hcd
 ne:=fun h tp dd its n sl X htp=>by
  have hm:=T.mo
  unfold mroIn at hm
  obtain⟨cd,hcd⟩:∃cd,clsIn K C=some cd:=by
   cases q:clsIn K C with
   | none=>rw[q]at hm;cases hm
   | some cd=>exact⟨cd,rfl⟩
  refine Bool.eq_false_iff.mpr fun q=>?_
  have e:C=tp:=Value.ref.inj (beq_iff_eq.mp q)
  subst e
  unfold clsIn at hcd
  split at hcd
  ·rename_i c' d' cd' sl' ho
   have z:=(X _ _ ho).symm.trans htp
   cases z
  ·cases hcd
 ca:=fun{_ _ _ _ _ s} X ⟨_,_,hx,hc,_⟩ k=>by
  obtain⟨h,g,d,t,os⟩:=s
  exact a1z X T hx hc k
end PySem.W
namespace L2
open PySem PySem.Spec PyProof.Rows
abbrev TJ:=St→Hp→Str→(Str→Hp→Prop)→Prop
def PJ(X:Cx)(es:List Expr)(t:TJ):Prop :=
 ∀(pins:List (Addr×Obj)) (s:Shared) (σ:St) (H:Hp) (acc:Str) (Q:VK),Inv X pins σ H s→t σ H acc (fun y H1=>Q (.str y) H1)→wpAny (model X.prog X.w) X.A (joinParts acc (evalEach es X.env)) (EP X pins σ Q) X.xe s
def a7L:TJ:=fun _ H acc Q=>acc.length≤sizeLine∧Q acc H
def a5i(te:TE)(tr:TJ):TJ:=fun σ H acc Q=>te σ H fun x H1=>∃y,x=.str y∧(acc++y).length≤sizeLine∧tr σ H1 (acc++y) Q
section
variable {X:Cx}{e:Expr}{es:List Expr}{te:TE}{t:TJ}{pos:Pos}
theorem b0b:PJ X [] a7L:=fun pins s σ H acc Q I h=>joinParts_nil ⟨.str acc,H,I.tok _,⟨_,rfl⟩,h.2⟩ h.1
theorem a1A(he:PE X e te)(hr:PJ X es t):PJ X (e::es) (a5i te t):=by
 intro pins s σ H acc Q I h
 refine joinParts_cons (h7 (he pins s σ H _ I h) fun v s1 ⟨x,H1,I1,r1,q1⟩=>?_)
 obtain⟨y,rfl,z,q⟩:=q1
 obtain⟨tk,rfl⟩:=r1
 exact⟨z,hr pins s1 σ H1 _ Q I1 q⟩
def a7M(t:TJ):TE:=fun σ H Q=>t σ H Str.empty fun y H1=>Q (.str y) H1
theorem a5j{e2:Expr}(h:PJ X (e::e2::es) t):PE X (.JoinedStr (e::e2::es) pos) (a7M t):=fun pins s σ H Q I hq=>JoinedStr_many (h pins s σ H Str.empty Q I hq)
def b0c(te:TE):TE:=fun σ H Q=>te σ H fun x H1=>(∃i:Int,x=.int i∧i.natAbs.log2<1920∧Q (.str (toString i)) H1)∨∃y,x=.str y∧y.length≤sizeLine∧Q (.str y) H1
theorem b0d(he:PE X e te):PE X (.FormattedValue e (-1) none pos) (b0c te):=by
 intro pins s σ H Q I h
 refine FormattedValue_plain (h7 (he pins s σ H _ I h) fun v s1 ⟨x,H1,I1,r1,q1⟩=>?_)
 rcases q1 with⟨i,rfl,z,q⟩ | ⟨y,rfl,z,q⟩
 ·obtain⟨tk,rfl⟩:=r1
  exact formatField_int_small z ⟨.str (toString i),H1,I1.tok _,⟨_,rfl⟩,q⟩
 ·obtain⟨tk,rfl⟩:=r1
  exact formatField_str (fun t' tk=>⟨.str y,H1,I1.tok _,⟨_,rfl⟩,q⟩) z
end
def vErr:List Value:=[.type "ValueError",.type "Exception",.type "BaseException",.type "object"]
theorem a8r{K:W.Frag}{h₀:Heap}{C:Addr}(KX:K.In h₀)(q:W.excIn K C vErr "ValueError.__new__" = true) :
  ∃bm N nm q bs hdct sn sub ab col dd k0 k1 k2 k3 k5 mN,h₀.get? C=some (excClassObj nm q C N bs bm hdct sn sub ab col dd k0 k1 k2 k3 k5 "ValueError.__new__")∧h₀.Ns N mN∧mN "__init__" = none∧OwnTail h₀ vErr bm:=by
 unfold W.excIn at q
 split at q
 ·rename_i dd cd sl ho
  split at q
  ·rename_i C' bm k0 k1 k2 k3 n k5 hm hs
   simp only[Bool.and_eq_true,beq_iff_eq,Bool.not_eq_true']at q
   obtain⟨⟨⟨⟨⟨rfl,rfl⟩,hdel⟩,ht⟩,hok⟩,hni⟩:=q
   obtain⟨nm,bs,mro,ns,qn,hd,sn,sub,ab,col,del⟩:=cd
   dsimp only at hm hdel hok hni
   subst hm hdel
   have hsl:sl = #[k0,k1,k2,k3,some (.builtin "ValueError.__new__"),k5]:=by
    obtain⟨l⟩:=sl
    simp only at hs
    rw[hs]
   subst hsl
   exact⟨bm,ns,nm,qn,bs,hd,sn,sub,ab,col,dd,k0,k1,k2,k3,k5,_,KX _ _ ho,.of_isNs (W.isNs_of_in KX hok),W.nsMap_none_of_in KX hok hni,W.tail_of_in KX ht⟩
  ·cases q
 ·cases q
section
variable {X:Cx}{E:XK}
theorem XAt.first{pins:List (Addr×Obj)}{σ:St}{H:Hp}{s:Shared}{h':Heap}{a:Addr}{cls:Value}{cx:Option Addr}{oe:Obj}{vs:Array Value}(I:Inv X pins σ H s)(k:∀b o,s.heap.get? b=some o→h'.get? b=some o)
  (n:s.heap.get? a=none) (g:h'.get? a=some oe) (hc:oe.cls=cls) (hd:oe.data=.fields vs) (z1:vs[1]? = some .none) (z2:vs[2]? = some (a0t cx)) (z6:oe.dict=X6 cx) :
  Inv X pins σ H { s with heap:=h' }∧XAt X pins H { s with heap:=h' } a cls cx (W.hideAll s.heap (x8 X.stack)) .new:=by
 have I':Inv X pins σ H { s with heap:=h' }:=I.kept (t':=s.toks) k
 have fr:H a=none:=by
  cases q:H a with
  | none=>rfl
  | some u=>obtain⟨o,e⟩:=(I.hok a u q).there;rw[n]at e;cases e
 refine⟨I',fr,fun b o e=>k b o (W.of_hideAll _ e),?_,(W.funFrames_hide I.stack fun env he b hb=>List.mem_filterMap.mpr ⟨env,he,hb⟩).of_keeps fun b o e _=>⟨o,k b o e,rfl⟩,fun b o e i n=>?_,⟨oe,vs,g,hc,hd,z1,z2,z6⟩⟩
 ·cases q:(W.hideAll s.heap (x8 X.stack)).get? a with
  | none=>rfl
  | some o=>have:=W.of_hideAll _ q;rw[n]at this;cases this
 ·obtain⟨o1,e1⟩:=i.there I
  have e2:=k _ _ e1
  rw[e]at e2;cases e2
  exact W.hideAll_get _ e1 n
theorem XAt.made{pins:List (Addr×Obj)}{σ:St}{H:Hp}{s:Shared}{h':Heap}{a:Addr}{cls:Value}{vs:List Value}(I:Inv X pins σ H s)(m:Heap.MadeExcOf s.heap h' a cls vs) :
  Inv X pins σ H { s with heap:=h' }∧XAt X pins H { s with heap:=h' } a cls none (W.hideAll s.heap (x8 X.stack)) .new:=by
 obtain⟨t,he,_,_⟩:=m.there
 exact XAt.first I m.keeps m.new he rfl rfl rfl rfl rfl
def a5k(C:Addr)(E:XK)(ta:TA):TS:=fun _ σ H=>ta σ H fun vs H1=>vs.length≤sizeLine∧E (.ref C) none H1
theorem a2M{x:Str}{C:Addr}{e₀:Expr}{b7:List Expr}{np cpos pos:Pos}{ta:TA}(acc:XAcc X E)(q:W.excIn X.K C vErr "ValueError.__new__" = true)(hg:Gl X x)(hm:X.mg x=some (.ref C))(ha:PA X (e₀::b7) ta)
  (hc:X.calm=true:=by rfl) (hex:X.ex=[]:=by rfl)
  (he:starEach (e₀::b7) X.env=(false,eval e₀ X.env)::starEach b7 X.env:=by rfl) (hplain:(backTo cpos (starEach b7 X.env)).any (·.1)=false:=by rfl) (hd:(x == ("__debug__" : Str))=false:=by decide) :
  PS X (.Raise (some (.Call (.Name x np) (e₀::b7) [] cpos)) none pos) (a5k C E ta):=by
 intro pins s σ H D I h
 obtain⟨tl,N,nm,qn,bs,hdct,sn,sub,ab,col,dd,k0,k1,k2,k3,k5,mN,hC,hN,hni,T⟩:=a8r I.mod.kin q
 have hp:=ha cpos pins s σ H _ I h
 rw[he]at hp
 refine wpAny_Raise_call_subT (C:=C) (nm:=nm) (q:=qn) (N:=N) (bs:=bs) (bm:=tl) (hdct:=hdct) (sn:=sn) (sub:=sub) (ab:=ab) (col:=col) (dd:=dd) (k0:=k0) (k1:=k1) (k2:=k2) (k3:=k3) (k5:=k5)
  PySem.F.excBase_ValueError (mN:=mN) (T.hasType PySem.F.excBase_ValueError.hasBase) (I.ok.hd hc) (by rw[he];show(false || (backTo cpos (starEach b7 X.env)).any (·.1))=false;rw[hplain];rfl) hni (N5 I hg hm ⟨rfl,?_⟩ hd)
 rw[he]
 refine Calls.evalArgs_plain (h7 hp fun us s2 ⟨vs,H2,I2,rv,z,hE⟩=>⟨rfl,by rw[← rv.length];exact z,I2.bk _ _ hC,hN.keeps I2.bk,T.keeps I2.bk,fun h' e m=>?_⟩)
 obtain⟨I3,x3⟩:=XAt.made I2 m
 exact acc pins σ H2 _ e _ none _ .new I3 x3 hE
end
def B3(a:Addr)(cls:Value)(cx:Option Addr):HO:=.ext fun h=>∃o vs,h.get? a=some o∧o.cls=cls∧o.data=.fields vs∧vs[2]? = some (a0t cx)∧o.dict=X6 cx
section
variable {X:Cx}{pins:List (Addr×Obj)}{σ:St}{H:Hp}{s:Shared}{a:Addr}{cls:Value}{cx:Option Addr}{B:Heap}{ph:Ph}
theorem XAt.nofr(x:XAt X pins H s a cls cx B ph):a ∉ x8 X.stack:=fun z=>by
 obtain⟨oe,vs,e,_,d,_⟩:=x.tr.there
 obtain⟨_,o,e',d'⟩:=x.frames.mem z
 rw[e]at e';cases e'
 exact d' vs d
theorem XAt.noimp(x:XAt X pins H s a cls cx B ph):¬Imp X pins H a:=fun i=>by
 obtain⟨oe,vs,e,_,d,_⟩:=x.tr.there
 have:=x.cov a oe e i x.nofr
 rw[x.fresh]at this;cases this
theorem Inv.track(I:Inv X pins σ H s)(x:XAt X pins H s a cls cx B ph):Inv X pins σ (upd H a (B3 a cls cx)) s:=by
 obtain⟨oe,vs,e,hc,d,d2⟩:=x.tr.there
 have ni:=x.noimp
 refine⟨I.ok,I.os,I.bare,⟨I.base.keep,I.base.slot,fun b o e1 n hx=>?_,I.base.there,fun b xs q=>?_,fun b o u q=>?_,fun b ps q=>?_⟩,I.loc,I.cell,?_,fun y c q=>?_,fun p hp=>?_,fun b u q=>?_,I.len⟩
 ·rw[a7 (fun z=>ni (.inr (.inl ⟨by rw[← z];exact hx,o,by rw[← z];exact e1⟩)))]
  exact I.base.free b o e1 n hx
 ·have q1:=I.base.tups b xs q
  rw[a7 (d5 q1 x.free)];exact q1
 ·have q1:=I.base.frzs b o u q
  rw[a7 (d5 q1 x.free)];exact q1
 ·obtain⟨more,q1⟩:=I.base.tbls b ps q
  exact⟨more,by rw[a7 (d5 q1 x.free)];exact q1⟩
 ·rw[a7 fun z=>?_]
  ·exact I.free
  ·obtain⟨m,⟨o,es,ep,ho,hd,_⟩,_⟩:=I.loc
   rw[z,e]at ho;cases ho
   rw[d]at hd;cases hd
 ·rw[a7 fun z=>?_]
  ·exact I.freeC y c q
  ·obtain⟨v,o,ho,hd⟩:=I.cell y c q
   rw[z,e]at ho;cases ho
   rw[d]at hd;cases hd
 ·obtain⟨h1,h2,h3,h4,h5⟩:=I.pin p hp
  exact⟨h1,by rw[a7 (fun z=>ni (.inr (.inr ⟨p,hp,z⟩)))];exact h2,h3,h4,h5⟩
 ·by_cases hb:b=a
  ·subst hb
   rw[c8]at q;cases q
   exact⟨⟨oe,vs,e,hc,d,d2⟩,⟨oe,e⟩,fun h1 h2 ⟨o,ws,z1,z2,z3⟩ k=>⟨o,ws,k o z1,z2,z3⟩⟩
  ·rw[a7 hb]at q
   refine(I.hok b u q).stay (fun _ _ _ z=>z) (fun c z=>?_) (fun c xs z=>?_) fun c ob u z=>?_
   ·rw[a7 (d5 z x.free)];exact z
   ·rw[a7 (d5 z x.free)];exact z
   ·rw[a7 (d5 z x.free)];exact z
end
abbrev Cx.tryCx(X:Cx)(E2:Value→Shared→Prop)(pins:List (Addr×Obj)):Cx:={ X with xe:=E2,pn:=X.pn++pins }
abbrev Cx.inExc(X:Cx)(a:Addr):Cx:={ X with A:=X.A.mark (some (.ref a)),calm:=false }
section
variable {X:Cx}{pins:List (Addr×Obj)}{σ:St}{H:Hp}{s:Shared}{a:Addr}{E2:Value→Shared→Prop}
theorem Cx.Ok.tryCx(ok:X.Ok):(X.tryCx E2 pins).Ok:=⟨ok.mod,ok.kind,ok.glob,ok.blt,ok.above,ok.inj,ok.has,ok.cab,ok.hd,ok.frames,ok.stk,ok.exf,ok.bs,ok.bsz,ok.noex,ok.exfs,ok.funs,ok.frf⟩
theorem Cx.Ok.inExc(ok:X.Ok):(X.inExc a).Ok:=⟨ok.mod,ok.kind,ok.glob,ok.blt,ok.above,ok.inj,ok.has,ok.cab,(fun z=>nomatch z),ok.frames,ok.stk,ok.exf,ok.bs,ok.bsz,ok.noex,ok.exfs,ok.funs,ok.frf⟩
theorem Inv.toTry(I:Inv X pins σ H s):Inv (X.tryCx E2 pins) [] σ H s :=
 ⟨I.ok.tryCx,I.os,I.bare,I.base,I.loc,I.cell,I.free,I.freeC,fun p hp=>I.pin p (by rw[List.append_nil]at hp;exact hp),I.hok,I.len⟩
theorem Inv.ofTry{pins':List (Addr×Obj)}(ok:X.Ok)(I:Inv (X.tryCx E2 pins) pins' σ H s):Inv X pins σ H s :=
 ⟨ok,I.os,I.bare,I.base,I.loc,I.cell,I.free,I.freeC,fun p hp=>I.pin p (List.mem_append_left _ hp),I.hok,I.len⟩
theorem Inv.toExc(I:Inv X pins σ H s):Inv (X.inExc a) pins σ H s :=
 ⟨I.ok.inExc,I.os,I.bare,I.base,I.loc,I.cell,I.free,I.freeC,I.pin,I.hok,I.len⟩
theorem Inv.ofExc(ok:X.Ok)(I:Inv (X.inExc a) pins σ H s):Inv X pins σ H s :=
 ⟨ok,I.os,I.bare,I.base,I.loc,I.cell,I.free,I.freeC,I.pin,I.hok,I.len⟩
theorem SP.ofTry{pins':List (Addr×Obj)}{D:Ends}{f:Flow}{s':Shared}(ok:X.Ok)(h:SP (X.tryCx E2 pins) pins' D f s'):SP X pins D f s':=by
 cases f with
 | next=>obtain⟨σ',H',I,q⟩:=h;exact⟨σ',H',I.ofTry ok,q⟩
 | brk=>obtain⟨σ',H',I,q⟩:=h;exact⟨σ',H',I.ofTry ok,q⟩
 | cont=>obtain⟨σ',H',I,q⟩:=h;exact⟨σ',H',I.ofTry ok,q⟩
 | ret u=>obtain⟨v,σ',H',I,r,q⟩:=h;exact⟨v,σ',H',I.ofTry ok,r,q⟩
theorem SP.ofExc{D:Ends}{f:Flow}{s':Shared}(ok:X.Ok)(h:SP (X.inExc a) pins D f s'):SP X pins D f s':=by
 cases f with
 | next=>obtain⟨σ',H',I,q⟩:=h;exact⟨σ',H',I.ofExc ok,q⟩
 | brk=>obtain⟨σ',H',I,q⟩:=h;exact⟨σ',H',I.ofExc ok,q⟩
 | cont=>obtain⟨σ',H',I,q⟩:=h;exact⟨σ',H',I.ofExc ok,q⟩
 | ret u=>obtain⟨v,σ',H',I,r,q⟩:=h;exact⟨v,σ',H',I.ofExc ok,r,q⟩
theorem XAcc.inExc{E:XK}{a:Addr}(acc:XAcc X E)(ok:X.Ok):XAcc (X.inExc a) E:=fun pins σ H s b cls cx B ph I x e=>acc pins σ H s b cls cx B ph (I.ofExc ok) ⟨x.free,x.stays,x.fresh,x.frames,x.cov,x.tr⟩ e
end
section
variable {X:Cx}{pins:List (Addr×Obj)}{σ:St}{H:Hp}{s:Shared}{a:Addr}{E2:Value→Shared→Prop}
theorem Inv.nameGoes{M:Model}{A:Around}{E:Value→Shared→Prop}{n:Str}{i:Nat}{pos:Pos}{Q:Unit→Shared→Prop}(I:Inv X pins σ H s)(hN:X.N.Nodup)(hi:X.N[i]? = some n)(hl:X.env.scope.names.lookup n=some .local)
  (h:∀h',Inv X pins (σ.set i none) H { s with heap:=h',toks:=s.toks+1 }→Q () { s with heap:=h',toks:=s.toks+1 }):wpAny M A (do bindName X.env n .none;unbindBehindTheSuite X.env n pos) Q E s:=by
 obtain⟨m,hn,hlo⟩:=id I.loc
 have hcls:(X.env.scope.kind == .class || (X.env.scope.kind == .module && X.env.locals != X.env.globals))=false:=by rw[I.ok.kind];rfl
 refine wpAny_nameGoes_keeps hl hn hcls fun h' v hn' hs=>h h' ?_
 obtain⟨oL,_,_,hoL,_⟩:=id hn
 have cne:=I.cne
 have neL:∀b o,X.s₀.heap.get? b=some o→b≠X.env.locals:=fun b o e=>Nat.ne_of_lt (Nat.lt_of_lt_of_le (Heap.lt_size e) I.ok.above)
 refine⟨I.ok,I.os,I.bare,⟨fun b o e k hb hx=>(hs.2 b (neL b o e)).trans (I.base.keep b o e k hb hx),fun b o e k hb hx=>?_,I.base.free,fun b o e hx=>?_,I.base.tups,I.base.frzs,I.base.tbls⟩,⟨_,hn',fun j y v' e1 e2 e3=>?_⟩,fun y c e=>?_,I.free,I.freeC,fun p hp=>?_,?_,by simpa using I.len⟩
 ·obtain⟨sl,e1⟩:=I.base.slot b o e k hb hx
  exact⟨sl,(hs.2 b (neL b o e)).trans e1⟩
 ·obtain⟨o',e1⟩:=I.base.there b o e hx
  exact⟨o',(hs.2 b (neL b o e)).trans e1⟩
 ·by_cases hj:j=i
  ·subst hj
   by_cases hlt:j<σ.length
   ·rw[List.getElem?_set_self hlt]at e2;cases e2
   ·rw[List.getElem?_eq_none (by rw[List.length_set];omega)]at e2;cases e2
  ·rw[List.getElem?_set_ne (Ne.symm hj)]at e2
   obtain⟨u',r',q⟩:=hlo j y v' e1 e2 e3
   refine⟨u',r',?_⟩
   rcases q with⟨k,e⟩ | ⟨k,c,e,z⟩
   ·refine .inl ⟨k,?_⟩
    have:y≠n:=fun e=>hj (a0s hN e1 (e▸hi))
    simp[this,e]
   ·exact .inr ⟨k,c,e,z.sameBut hs (cne y c e)⟩
 ·obtain⟨w',z⟩:=I.cell y c e
  exact⟨w',z.sameBut hs (cne y c e)⟩
 ·obtain⟨e,n',ne,nf,d⟩:=I.pin p hp
  exact⟨(hs.2 p.1 ne).trans e,n',ne,nf,d⟩
 ·intro b ob e
  refine(I.hok b ob e).stay (fun c w' hc q=>(hs.2 c ?_).trans q) (fun _ q=>q) (fun _ _ q=>q) fun _ _ _ q=>q
  rintro rfl
  rcases hc with rfl | hc
  ·rw[I.free]at e;cases e
  ·rw[I.free]at hc;cases hc
end
theorem A3{X:Cx}{P:Program}{w:World}:X3 (m4 P w) X E0:=fun _ _ _ _ _ _ _ h=>by
 obtain⟨_,_,_,_,_,_,_,_,_,_,_,_,_,_,_,_,hE⟩:=h
 exact hE.elim
section
variable {P:Program}{w:World}{K:W.Frag}{mg:Str→Option Value}{base:Heap}
theorem Fun.okE{x qual:Str}{st:Stmt}{f:Addr}{fd:FuncData}{N ps:List Str}{k:Nat}{sp:Sp}(F:Fun K x qual st f fd)(S:FnScope N ps (a9 st))(len:∀vs H Q E,sp vs H Q E→vs.length=ps.length)
  (hbody:∀(cdv:Value) (A:Around) (outer:List Env) (s:Shared) (H:Hp) (vs:List V) (Q:VK) (E:XK),Room k (A.deeper (envOfC qual (a9 st) s.heap.objs.size f cdv))→sp vs H Q E →
   ∃t,PSs (L6 (m4 P w) P w K mg base N qual (a9 st) f cdv A outer s H E) (g8 st) t∧t { nx:=fun _ H'=>Q .non H',rt:=Q } (start N vs) H):FnOk P w K mg base (m4 P w) (k+1) f fd ps sp:=by
 obtain⟨oc,od,kV,doc,pm,an,cdv,ct,osl,rfl,lk,hcd⟩:=F.ex
 exact a4n lk hcd S len fun A outer s H vs Q E hr hsp=>hbody cdv A outer s H vs Q E hr hsp
structure FunD(K:W.Frag)(x qual:Str)(st:Stmt)(dT:Addr)(f:Addr)(fd:FuncData):Prop where
 ex:∃(oc:Value) (od:Option Addr) (kV doc pm:Value) (an:Option Addr) (cdv ct:Value) (osl:Array (Option Value)),
  fd=W.fnOf x qual (i2 st) (g8 st) (a9 st) (.ref dT) kV doc pm an cdv ct∧K.lookup f=some ⟨oc,od,.func fd,osl⟩∧W.codeIn K cdv qual=true
 kp:W.keepIn K (.ref f)=true
theorem FunD.okE{x qual:Str}{st:Stmt}{dT f:Addr}{fd:FuncData}{N ps:List Str}{k:Nat}{sp:Sp}(F:FunD K x qual st dT f fd)(S:FnScope N ps (a9 st))(len:∀vs H Q E,sp vs H Q E→vs.length=ps.length)
  (hbody:∀(cdv:Value) (A:Around) (outer:List Env) (s:Shared) (H:Hp) (vs:List V) (Q:VK) (E:XK),Room k (A.deeper (envOfC qual (a9 st) s.heap.objs.size f cdv))→sp vs H Q E →
   ∃t,PSs (L6 (m4 P w) P w K mg base N qual (a9 st) f cdv A outer s H E) (g8 st) t∧t { nx:=fun _ H'=>Q .non H',rt:=Q } (start N vs) H):FnOk P w K mg base (m4 P w) (k+1) f fd ps sp:=by
 obtain⟨oc,od,kV,doc,pm,an,cdv,ct,osl,rfl,lk,hcd⟩:=F.ex
 exact a4n lk hcd S len fun A outer s H vs Q E hr hsp=>hbody cdv A outer s H vs Q E hr hsp
theorem FunD.binds{x qual:Str}{st:Stmt}{dT f:Addr}{fd:FuncData}{ps:List Str}{ds:List Value}{items:List Value}{o:Obj}{nn:Nat}(F:FunD K x qual st dT f fd)(ho:K.lookup dT=some o)(hs:o.data=.seq items.toArray nn)
  (h:∀(kV doc pm:Value) (an:Option Addr) (cdv ct:Value) (us:List Value),(us++ds).length=ps.length→∃k:Option (Array Value)→Sem (List (Str×Value)),
   bindArgs (W.fnOf x qual (i2 st) (g8 st) (a9 st) (.ref dT) kV doc pm an cdv ct) ⟨us,[]⟩=seqItems? (.ref dT) >>= k∧k (some items.toArray)=pure (ps.zip (us++ds))):Binds K fd ps ds:=by
 obtain⟨oc,od,kV,doc,pm,an,cdv,ct,osl,rfl,lk,hcd⟩:=F.ex
 intro s us KX hl
 obtain⟨k,h1,h2⟩:=h kV doc pm an cdv ct us hl
 exact W.binds_K KX rfl ho hs h1 h2
end
structure RoomW(k:Nat)(A:Around):Prop where
 dp:A.depth+3*k+5<recursionLimit
 un:A.units+16*k+200<cLine
theorem Room.w{k:Nat}{A:Around}(r:Room k A)(h:Option Value):RoomW k (A.mark h):=⟨r.dp,r.un⟩
theorem RoomW.deeper{k:Nat}{A:Around}(r:RoomW (k+1) A)(env:Env):RoomW k (A.deeper env) :=
 ⟨by have:=r.dp;show A.depth+1+3*k+5<_;omega,by have:=r.un;show A.units+3+16*k+200<_;omega⟩
def b0e:V→Option Value
 | .ty n=>some (.type n)
 | .ref a=>some (.ref a)
 | _=>none
theorem a8s{y:V}{c u:Value}(e:b0e y=some c)(r:RelV y u):u=c:=by
 cases y with
 | ty n=>cases e;exact r
 | ref a=>cases e;exact r
 | _=>cases e
inductive TyX(K:W.Frag)(H:Hp):V→Value→Prop where
 | of {x:V} {t:Value} (h:TyOf K H x t):TyX K H x t
 | exc {a C:Addr} {cx:Option Addr} (h:H a=some (B3 a (.ref C) cx)) (T:W.ExcT K C):TyX K H (.ref a) (.ref C)
section
variable {X:Cx}{pins:List (Addr×Obj)}{σ:St}{H:Hp}{s:Shared}{A:Around}{E:Value→Shared→Prop}{Q:Value→Shared→Prop}
theorem TyX.kit{x:V}{u t:Value}(I:Inv X pins σ H s)(rx:RelV x u)(ty:TyX X.K H x t):∃Φ:Heap→Prop,W.KitX X.K u t Φ∧Φ s.heap∧u≠.builtin "__main__.__loader__#opaque" := by
 cases ty with
 | @exc a C cx h T =>
  cases (show u=Value.ref a from rx)
  obtain⟨⟨o,vs,h1,h2,h3,_⟩,_⟩:=(show ObjOk X.prog X.w H s.heap a (B3 a (.ref C) cx)from I.hok a _ h)
  exact⟨_,W.kitx_exc T,⟨o,vs,h1,h2,h3⟩,fun z=>nomatch z⟩
 | of h =>
 cases h with
 | non=>cases (show u=Value.none from rx);exact⟨_,W.kitx_none,True.intro,fun z=>nomatch z⟩
 | bl y=>cases (show u=Value.bool y from rx);exact⟨_,W.kitx_bool,True.intro,fun z=>nomatch z⟩
 | int i=>obtain⟨t,q⟩:=(show ∃t,u=Value.int i t from rx);cases q;exact⟨_,W.kitx_int,True.intro,fun z=>nomatch z⟩
 | str y=>obtain⟨t,q⟩:=(show ∃t,u=Value.str y t from rx);cases q;exact⟨_,W.kitx_str,True.intro,fun z=>nomatch z⟩
 | flt y=>obtain⟨t,q⟩:=(show ∃t,u=Value.float y t from rx);cases q;exact⟨_,W.kitx_float,True.intro,fun z=>nomatch z⟩
 | @lst a xs ea =>
  cases (show u=Value.ref a from rx)
  obtain⟨_,_,n,_,h1⟩:=(show ObjOk X.prog X.w H s.heap a (.lst xs)from I.hok a _ ea)
  exact⟨_,W.kitx_list,⟨_,h1,rfl⟩,fun z=>nomatch z⟩
 | @frz a ob xs ea =>
  cases (show u=Value.ref a from rx)
  obtain⟨_,_,_,n,_,h1⟩:=(show ObjOk X.prog X.w H s.heap a (.frz ob (.lst xs))from I.hok a _ ea)
  exact⟨_,W.kitx_list,⟨_,h1,rfl⟩,fun z=>nomatch z⟩
 | @tup a xs ea =>
  cases (show u=Value.ref a from rx)
  obtain⟨_,_,_,p⟩:=(show ObjOk X.prog X.w H s.heap a (.tup xs)from I.hok a _ ea)
  obtain⟨o,h1,h2,_⟩:=p
  exact⟨_,W.kitx_tuple,⟨o,h1,h2⟩,fun z=>nomatch z⟩
 | @dK a kvs ea =>
  cases (show u=Value.ref a from rx)
  obtain⟨_,_,vs,_,p⟩:=(show ObjOk X.prog X.w H s.heap a (.dK kvs)from I.hok a _ ea)
  obtain⟨o,es,ep,h1,h2,_⟩:=p
  exact⟨_,W.kitx_dict,⟨o,h1,h2.1⟩,fun z=>nomatch z⟩
 | @dT a kvs ea =>
  cases (show u=Value.ref a from rx)
  obtain⟨_,_,xs,_,o,es,ep,h1,h2,_⟩:=(show ObjOk X.prog X.w H s.heap a (.dT kvs)from I.hok a _ ea)
  exact⟨_,W.kitx_dict,⟨o,h1,h2.1⟩,fun z=>nomatch z⟩
 | @ins a C dx fs ea cl ha hn htk hm =>
  cases (show u=Value.ref a from rx)
  obtain⟨mA,O,_⟩:=a8g I.hok ea
  obtain⟨od,J,_⟩:=O.look
  exact⟨_,W.kitx_own (cl.get _) cl.hd ha hn htk hm,J,fun z=>nomatch z⟩
def a4r(K:W.Frag):List V→Hp→VK→Prop:=fun xs H Q=>∃x y t c b,xs=[x,y]∧b0e y=some c∧TyX K H x t∧W.kitOne K t c=some b∧Q (.bl b) H
theorem a6s:J4 X (.builtin "isinstance") (a4r X.K):=by
 intro pins s σ H xs us Q I r h
 obtain⟨x,y,t,c,b,rfl,e1,e2,e3,q⟩:=h
 obtain⟨u,v,rfl,r1,r2⟩:=a7I r
 obtain rfl:=a8s e1 r2
 obtain⟨Φ,Z,p,n⟩:=e2.kit I r1
 exact W.kia_one Z I.kIn p e3 n fun tk=>⟨.bl b,H,I.tok _,rfl,q⟩
end
def a6t:List V→List V→Bool
 | [],[]=>true
 | x::xs,y::ys=>eqV x y && a6t xs ys
 | _,_=>false
section
variable {X:Cx}{pins:List (Addr×Obj)}{σ:St}{H:Hp}{s:Shared}
theorem a3N:G1 X (binaryOp .Mult) (rI IntMulOk fun i j=>.int (i*j)):=opI fun _ _ _ _ _ _ _ hc q=>mul_int q hc
theorem T5:G1 X (binaryOp .FloorDiv) (rI (fun _ j=>0<j∧j.natAbs.log2<9000) fun i j=>.int (i/j)):=opI fun i j _ _ _ _ _ hc q=>by
 have h0:j≠0:=by have:=hc.1;omega
 refine floordiv_int h0 ?_ (.inl (PyProof.noPylong_of_log2 hc.2))
 rw[Int.fdiv_eq_ediv_of_nonneg _ (Int.le_of_lt hc.1)]
 exact q
end
open PySem.W PySem.Calls
theorem a3n{ns:List Int}(h:WData.layableAll [WData.list (ns.map WData.int)]=true):∀n∈ns,Builtin.Int.intBits n≤2 ^ 20:=fun n hn=>by
 have h1:(WData.list (ns.map WData.int)).layable=true:=layableW_arg h _ (List.mem_singleton.mpr rfl)
 have h2:=layableW_item h1 (WData.int n) (List.mem_map.mpr ⟨n,hn,rfl⟩)
 have h3:=(layableW_iff.mp h2).2.2
 simpa only[WData.weight,Builtin.Int.intBits]using h3
theorem walk_ofB{l:OpenLaw}{n k:Nat}{q:Program}{loose:List Str}{XP:(Str→Option Value)→Heap→Prop}{YP:World→Heap→Prop}{d:DefRec}{K:Params→Frag}{CX:World→S0}{sp:World→Sp}{x:Str}
  (hn:l.most=some n) (hn2:n≤sizeLine) (hdf:d.params.defaults=[]) (hr:Room k callerA)
  (hY:∀(w:World) (h:Heap),YP w h→(K w.params).In h)
  (F:∀(w:World) (mg:Str→Option Value) (fa:Addr) (h:Heap),(K w.params).In h→h.Ns mainGlobals mg→mg d.name=some (.ref fa) →
   ∃fd:FuncData,(∀(s:Shared) (u:Value),BindsTo s fd ⟨[u],[]⟩ [(x,u)]) ∧
    ∀base:Heap,(K w.params).In base→base.Ns mainGlobals mg→FnOk l.prog w (K w.params) mg base (CX w) k fa fd [x] (sp w))
  (hsp:∀(w:World) (H:Hp) (a:Addr) (ns:List Int),ns.length≤n→(∀m∈ns,Builtin.Int.intBits m≤2 ^ 20)→a4o H→SqL (K w.params) H a (ns.map V.int)→sp w [.ref a] H (fun v _=>v=.bl true) fun _ _ _=>False)
  (hCX:∀(w:World) (H:Hp) (s:Shared) (e:Value) (s':Shared),CX w [] H s (fun _ _ _=>False) e s'→False) :
  WalkO q loose XP YP l.row.toRowW d [] (fun f vs=>PySem.call f vs):=by
 intro w s₀ s₁ mg mb G Y fa o pm cd doc dV kV ho hd hcd hD hmg hg args vals as hpre hlay hrd hwl hlo
 obtain rfl:dV=.none:=Dflts.none hD hdf
 obtain rfl:kV=.none:=Dflts.noKw hD
 obtain⟨a,vs,ns,rfl,rfl,hobj,hints,hlen⟩:=Att.script_of hn hpre hwl
 have KX:=hY w _ Y
 obtain⟨fd,hb,hF⟩:=F w mg fa _ KX G.T.g hmg
 refine enter_call (codeAny_mono (a6q KX G.T.g G.T.b G.T.builtins G.T.nolimit hg hobj hints (Nat.le_trans hlen hn2) hr hF hb (fun H hO hS=>hsp w H a ns hlen (a3n hlay) hO hS) fun H e s'=>hCX w H s₁ e s') fun r s' hq=>?_)
 obtain⟨rfl,h2,h3,h4⟩:=hq
 exact⟨.inl ⟨.bool true,.bool true,[],rfl,fun _=>rfl,.bool true,Att.post_true l _,fun _=>⟨List.Pairwise.nil,fun _ hm=>(nomatch hm)⟩⟩,h2,h3,h4⟩
theorem b1q{P:Program}{w:World}{outer:List Env}(H:Hp)(s:Shared)(e:Value)(s':Shared)(h:m4 P w outer H s (fun _ _ _=>False) e s'):False:=by
 obtain⟨_,_,_,_,_,_,_,_,_,_,_,_,_,_,_,_,hE⟩:=h
 exact hE
structure Own(P:Program)(w:World)(K:W.Frag)(mg:Str→Option Value)(base:Heap)(k:Nat)(x:Str)(ps:List Str)(sp:Sp):Prop where
 ex:∃f fd,FnOk P w K mg base (m4 P w) k f fd ps sp∧Binds K fd ps []∧W.keepIn K (.ref f)=true∧mg x=some (.ref f)
structure OwnD(P:Program)(w:World)(K:W.Frag)(mg:Str→Option Value)(base:Heap)(k:Nat)(x:Str)(ps:List Str)(sp:Sp)(d:V):Prop where
 ex:∃f fd du,FnOk P w K mg base (m4 P w) k f fd ps sp∧Binds K fd ps []∧Binds K fd ps [du]∧RelV d du∧W.keepIn K (.ref f)=true∧mg x=some (.ref f)
section
variable {X:Cx}{k k':Nat}{ps:List Str}{sp:Sp}{x:Str}{p pos:Pos}{e:Expr}{es:List Expr}{t:TA}{E:XK}{d:V}
theorem i8(G:Own X.prog X.w X.K X.mg X.base k x ps sp)(hr:Room k' X.A)(hk:k≤k')(hx:X3 (m4 X.prog X.w) X E)(ha:PA X (e::es) t)(hg:Gl X x:=by rfl)
  (hdb:(x == ("__debug__" : Str))=false:=by decide) (he:starEach (e::es) X.env=(false,eval e X.env)::starEach es X.env:=by rfl) (hpl:(backTo pos (starEach es X.env)).any (·.1)=false:=by rfl) :
  PE X (.Call (.Name x p) (e::es) [] pos) (M9 sp [] E t):=by
 obtain⟨f,fd,F,b,kp,m⟩:=G.ex
 exact a8i F (hr.mono hk) hg m kp b .nil hx ha hdb he hpl
end
theorem b0f:bootBuiltins "int" = some (.type "int"):=by decide +kernel
theorem a8t:bootBuiltins "bool" = some (.type "bool"):=by decide +kernel
theorem a1B:bootBuiltins "list" = some (.type "list"):=by decide +kernel
theorem a2m:bootBuiltins "ValueError" = some (.type "ValueError"):=by decide +kernel
theorem j8:bootBuiltins "isinstance" = some (.builtin "isinstance"):=by decide +kernel
theorem a0Y:bootBuiltins "len" = some (.builtin "len"):=by decide +kernel
theorem G6{H:Hp}{p:Addr}(h:H p=none)(o:HO):Same H (upd H p o):=fun b u q=>by rw[a7 (d5 q h)];exact q
def Scr(K:W.Frag)(H:Hp)(a:Addr)(xs:List V):Prop:=(∃o,H a=some (.frz o (.lst xs))) ∨
  ∃(o:Obj) (its:Array Value) (n:Nat),K.lookup a=some o∧o.cls=.type "list"∧o.dict=none∧o.data=.seq its n∧its.size≤sizeLine∧Vals xs its.toList
theorem Scr.seq{K:W.Frag}{H:Hp}{a:Addr}{xs:List V}(h:Scr K H a xs):SqL K H a xs:=h.elim (fun z=>.inl (.inr z)) .inr
theorem Scr.of{K:W.Frag}{H:Hp}{a:Addr}{xs:List V}(h:SqL K H a xs)(o:a4o H):Scr K H a xs:=by
 rcases h with(h | h) | h
 ·rcases o a with z | ⟨o,ys,z⟩
  ·rw[h]at z;cases z
  ·rw[h]at z;cases z
 ·exact .inl h
 ·exact .inr h
theorem Scr.same{K:W.Frag}{H H':Hp}{a:Addr}{xs:List V}(g:Same H H')(h:Scr K H a xs):Scr K H' a xs:=h.elim (fun⟨o,z⟩=>.inl ⟨o,g _ _ z⟩) .inr
theorem Scr.upd{K:W.Frag}{H:Hp}{a l:Addr}{xs ys:List V}{o:HO}(hl:H l=some (.lst ys))(h:Scr K H a xs):Scr K (L2.upd H l o) a xs:=h.elim (fun⟨ob,z⟩=>.inl ⟨ob,by rw[a7 (b1m z hl (by intro q;cases q))];exact z⟩) .inr
section
variable {prog:Program}{w:World}{A:Around}{R:Result→Shared→Prop}{s:Shared}
theorem a3o{elt target iter:Expr}{ifs:List Expr}{scope:Scope}{pos:Pos}{it acc:Value}{env:Env}{N:Value→Shared→Prop}(hN:N=notedBy (model prog w) A env fun e s'=>R (.error e) s')(I:Nat→Shared→Prop)
  (turn:∀n s,I n s→wpAny (model prog w) A (pyNext it) (fun r s₁=>match r with
   | none=>R (.ok .next) s₁
   | some v=>wpAny (model prog w) A (letOwnedTupleGo target it v) (fun _ s₁'=>wpAny (model prog w) A (assign target env v) (fun _ s₂ =>
     wpAny (model prog w) A (forIn ifs true fun c r=>if r=true then do let ok ← isTrue c env (eval c env);pure (ForInStep.yield ok)else pure (ForInStep.yield r)) (fun ok s₃ =>
      if ok=true then wpAny (model prog w) A (eval elt env) (fun x s₄ =>
       wpAny (model prog w) A (call (.builtin "list.append") [acc,x]) (fun _ s₅=>∃m,m<n∧I m s₅) N s₄) N s₃
      else ∃m,m<n∧I m s₃) N s₂) N s₁') N s₁) N s)
  (n:Nat) (h:I n s) :
  codeAny (model prog w) A (.compLoop (.ListComp elt [⟨target,iter,ifs,0⟩] scope pos) 0 it acc env) R s:=by
 subst hN
 refine codeAny_loop rfl I (fun k z q=>?_) n h
 show wpAny _ A ((compTurn (.ListComp elt [⟨target,iter,ifs,0⟩] scope pos) 0 it acc env).onRaise (fun ex=>do noteFrame ex env;theTreesLotGoes ex)) _ _ z
 refine wpAny_noted ?_
 rw[compTurn_list]
 refine wpAny_bind (wpAny_standAt (wpAny_bind (h7 (turn k z q) fun r z1 q1=>?_)))
 cases r with
 | none=>exact wpAny_pure q1
 | some v =>
  refine wpAny_bind (h7 q1 fun _ z2 q2=>?_)
  refine wpAny_bind (h7 q2 fun _ z3 q3=>?_)
  refine wpAny_bind (h7 q3 fun ok z4 q4=>?_)
  cases ok with
  | false=>exact wpAny_pure ⟨rfl,q4⟩
  | true=>exact wpAny_bind (wpAny_bind (h7 q4 fun x z5 q5=>wpAny_bind (h7 q5 fun _ z6 q6=>wpAny_pure (wpAny_pure ⟨rfl,q6⟩))))
end
def v8(cells:List (Str×Addr)):List (Str×NameKind)→List (Str×Addr)→List (Str×Addr)
 | [],acc=>acc
 | (n,k)::r,acc=>if k == .free then(match cells.lookup n with
   | some c=>v8 cells r ((n,c)::acc)
   | none=>v8 cells r acc)else v8 cells r acc
theorem P7{cells:List (Str×Addr)}{x:Str}{c:Addr}:∀{names:List (Str×NameKind)} {acc:List (Str×Addr)},(∀d,acc.lookup x=some d→cells.lookup x=some d)→(v8 cells names acc).lookup x=some c→cells.lookup x=some c
 | [],acc,h,e=>h c e
 | (n,k)::r,acc,h,e=>by
  unfold v8 at e
  split at e
  ·split at e
   ·rename_i c' hc'
    refine P7 (fun d q=>?_) e
    rw[List.lookup_cons]at q
    split at q
    ·rename_i hx
     have hx':x=n:=by simpa using hx
     cases q
     rw[hx'];exact hc'
    ·exact h d q
   ·exact P7 h e
  ·exact P7 h e
theorem J5{cells:List (Str×Addr)}{x:Str}:∀{names:List (Str×NameKind)} {acc:List (Str×Addr)},(∃d,acc.lookup x=some d)→∃d,(v8 cells names acc).lookup x=some d
 | [],acc,h=>h
 | (n,k)::r,acc,h=>by
  unfold v8
  split
  ·split
   ·refine J5 ?_
    rw[List.lookup_cons]
    split
    ·exact⟨_,rfl⟩
    ·exact h
   ·exact J5 h
  ·exact J5 h
theorem K5{cells:List (Str×Addr)}{x:Str}:∀{names:List (Str×NameKind)} {acc:List (Str×Addr)},(x,NameKind.free)∈names→(∃c,cells.lookup x=some c)→∃d,(v8 cells names acc).lookup x=some d
 | [],acc,h,_=>by simp at h
 | (n,k)::r,acc,h,hc=>by
  unfold v8
  rcases List.mem_cons.mp h with e | h
  ·cases e
   obtain⟨c,hc⟩:=hc
   rw[if_pos (by rfl),hc]
   exact J5 ⟨c,by simp[List.lookup_cons]⟩
  ·split
   ·split
    ·exact K5 h hc
    ·exact K5 h hc
   ·exact K5 h hc
theorem T6{env:Env}:∀(names:List (Str×NameKind)) (acc:List (Str×Addr)),(∀y∈names,y.2=.free→∃c,env.cells.lookup y.1=some c) →
  (forIn names acc fun(x:Str×NameKind) (cs:List (Str×Addr))=>if(x.2 == NameKind.free)=true then do let a ← cellOf env x.1;pure (ForInStep.yield ((x.1,a)::cs))else pure (ForInStep.yield cs):Sem (List (Str×Addr)))=pure (v8 env.cells names acc)
 | [],acc,_=>rfl
 | (n,k)::r,acc,h=>by
  rw[List.forIn_cons]
  unfold v8
  by_cases hk:(k == NameKind.free)=true
  ·obtain⟨c,hc⟩:=h (n,k) List.mem_cons_self (by simpa using hk)
   have e:cellOf env n=pure c:=by unfold cellOf;rw[hc]
   rw[if_pos hk,if_pos hk,hc,e]
   exact T6 r _ fun y hy=>h y (List.mem_cons_of_mem _ hy)
  ·rw[if_neg hk,if_neg hk]
   exact T6 r acc fun y hy=>h y (List.mem_cons_of_mem _ hy)
theorem a0m{scope:Scope}{env:Env}(h:∀y∈scope.names,y.2=.free→∃c,env.cells.lookup y.1=some c):closureFor scope env=pure (v8 env.cells scope.names []):=by
 have:=T6 (env:=env) scope.names [] h
 unfold closureFor
 exact(congrArg (· >>= pure) this).trans (by first | rfl | simp)
theorem C4{env:Env}:∀{names:List (Str×NameKind)} {x:Str} {k':NameKind},
  (names.map fun(n,k)=>if(k == NameKind.free && env.scope.kind == .function && env.kindOf n == some .cell)then(n,NameKind.cell)else(n,k)).lookup x=some k' →
  ∃k,names.lookup x=some k∧(k'=k∨(k=.free∧k'=.cell))
 | [],_,_,h=>by simp at h
 | (n,k)::r,x,k',h=>by
  rw[List.map_cons]at h
  dsimp only at h
  by_cases hc:(k == NameKind.free && env.scope.kind == .function && env.kindOf n == some .cell)=true
  ·rw[if_pos hc,List.lookup_cons]at h
   rw[List.lookup_cons]
   split at h
   ·rename_i hx
    cases h
    have hk:k=.free:=by
     have:=(Bool.and_eq_true _ _▸(Bool.and_eq_true _ _▸hc).1).1
     simpa using this
    exact⟨k,rfl,.inr ⟨hk,rfl⟩⟩
   ·rename_i hx
    obtain⟨k2,q1,q2⟩:=C4 h
    exact⟨k2,q1,q2⟩
  ·rw[if_neg hc,List.lookup_cons]at h
   rw[List.lookup_cons]
   split at h
   ·rename_i hx
    cases h
    exact⟨k,rfl,.inl rfl⟩
   ·rename_i hx
    obtain⟨k2,q1,q2⟩:=C4 h
    exact⟨k2,q1,q2⟩
theorem A6{env:Env}:∀{names:List (Str×NameKind)} {x:Str},names.lookup x=some .free →
  (names.map fun(n,k)=>if(k == NameKind.free && env.scope.kind == .function && env.kindOf n == some .cell)then(n,NameKind.cell)else(n,k)).lookup x=some .cell ∨
  (names.map fun(n,k)=>if(k == NameKind.free && env.scope.kind == .function && env.kindOf n == some .cell)then(n,NameKind.cell)else(n,k)).lookup x=some .free
 | [],_,h=>by simp at h
 | (n,k)::r,x,h=>by
  rw[List.map_cons]
  dsimp only
  rw[List.lookup_cons]at h
  by_cases hc:(k == NameKind.free && env.scope.kind == .function && env.kindOf n == some .cell)=true
  ·rw[if_pos hc,List.lookup_cons]
   split at h
   ·rename_i hx
    left;rfl
   ·rename_i hx
    exact A6 (env:=env) h
  ·rw[if_neg hc,List.lookup_cons]
   split at h
   ·rename_i hx
    right;exact h
   ·rename_i hx
    exact A6 (env:=env) h
structure CompSc(Sc scope:Scope)(N Nc:List Str)(k:Nat)(js:List Nat):Prop where
 cell:∀y∈scope.names,y.2≠.cell
 kind:scope.kind=.function
 names:∀y∈scope.names,y.2=.local→scope.names.lookup y.1=some .local
 free:∀y∈scope.names,y.2=.free→Sc.names.lookup y.1=some .cell∨Sc.names.lookup y.1=some .free
 nd:Nc.Nodup
 len:Nc.length=k+js.length
 cap:(Nc.drop k).map some=js.map fun j=>N[j]?
 caps:∀x∈Nc.drop k,scope.names.lookup x=some .free
def i6(k:Nat)(js:List Nat)(σ:St):St:=List.replicate k none++js.map fun j=>(σ[j]?).getD none
theorem O3{names:List (Str×NameKind)}{x:Str}{k:NameKind}(h:names.lookup x=some k):(x,k)∈names:=PySem.mem_of_lookup h
abbrev i7(X:Cx)(scope:Scope)(Nc:List Str)(C:Addr)(s3:Shared)(H3:Hp)(fp:List Addr)(xe:Value→Shared→Prop):Cx :=
 { X with N:=Nc,s₀:=s3,H₀:=H3,env:=compEnvC scope (v8 X.env.cells scope.names []) C X.env,outer:=X.stack,ex:=fp,fn:=fun _=>false,pn:=[],xe:=xe }
section
variable {X:Cx}{pins:List (Addr×Obj)}{σ:St}{H3:Hp}{s3:Shared}{scope:Scope}{Nc:List Str}{k:Nat}{js:List Nat}{fp:List Addr}{xe:Value→Shared→Prop}{h₁:Heap}{m₀:Str→Option Value}{tk:Nat}
theorem a0Z(I:Inv X pins σ H3 s3)(S:CompSc X.env.scope scope X.N Nc k js):∀y∈scope.names,y.2=.free→∃c,X.env.cells.lookup y.1=some c:=fun y hy hk=>I.ok.has y.1 (S.free y hy hk)
theorem D6{x:Str}{c:Addr}(e:(v8 X.env.cells scope.names []).lookup x=some c):X.env.cells.lookup x=some c:=P7 (fun d q=>by simp at q) e
theorem a6u(I:Inv X pins σ H3 s3)(S:CompSc X.env.scope scope X.N Nc k js)(hf:∀b∈fp,FpOk X pins H3 b)(hfo:∀b∈fp,b<s3.heap.objs.size)(hns:h₁.Ns s3.heap.objs.size m₀)(old:∀b o,s3.heap.get? b=some o→h₁.get? b=some o) :
  Inv (i7 X scope Nc s3.heap.objs.size s3 H3 fp xe) [] (i6 k js σ) H3 { s3 with heap:=h₁,toks:=tk }:=by
 have ok:=I.ok
 have hb0:∀b o,X.base.get? b=some o→b<X.s₀.heap.objs.size:=fun b o e=>Nat.lt_of_lt_of_le (Heap.lt_size e) ok.bsz
 refine⟨⟨ok.mod,S.kind,ok.glob,ok.blt,Nat.le_refl _,fun x y c h1 h2=>ok.inj x y c (D6 h1) (D6 h2),fun x hx=>?_,(fun x c z=>nomatch z),ok.hd,ok.frames,.inl rfl,fun b hb=>⟨Nat.ne_of_lt (hfo b hb),fun x c e=>(hf b hb).2.2.2.2.1 x c (D6 e)⟩,I.bs,Nat.le_trans ok.bsz I.sz,fun b o e hb=>?_,fun b hb z=>?_,I.stack,I.stkFree⟩,
  rfl,I.bare,Un.kept old,⟨m₀,hns,fun i x v e1 e2 e3=>?_⟩,fun x c e=>?_,I.hok.fresh (Nat.le_refl _),fun x c e=>I.freeC x c (D6 e),fun p hp=>absurd (show p∈([]:List (Addr×Obj))from hp) (by simp),I.hok.kept old,?_⟩
 ·have hx:(relabel scope X.env).names.lookup x=some .cell∨(relabel scope X.env).names.lookup x=some .free:=hx
  have hfree:scope.names.lookup x=some .free:=by
   rcases hx with hx | hx
   ·obtain⟨k2,q1,q2⟩:=C4 (env:=X.env) hx
    rcases q2 with q2 | ⟨q2,_⟩
    ·subst q2;exact absurd rfl (S.cell _ (O3 q1))
    ·rw[q2]at q1;exact q1
   ·obtain⟨k2,q1,q2⟩:=C4 (env:=X.env) hx
    rcases q2 with q2 | ⟨q2,q3⟩
    ·subst q2;exact q1
    ·cases q3
  exact K5 (O3 hfree) (ok.has x (S.free _ (O3 hfree) rfl))
 ·rcases(hf b hb).2.2.2.1 with z | z
  ·exact ok.noex b o e z
  ·exact absurd (Nat.lt_of_lt_of_le (hb0 b o e) z) (Nat.lt_irrefl _)
 ·rcases List.mem_cons.mp (I.stkSub b z)with q | q
  ·exact(hf b hb).2.1 q
  ·exact(hf b hb).2.2.1 q
 ·have hlen:(List.replicate k (none:Option V)).length=k:=List.length_replicate
  by_cases hi:i<k
  ·unfold i6 at e2
   rw[List.getElem?_append_left (by omega),List.getElem?_replicate]at e2
   split at e2<;>cases e2
  ·unfold i6 at e2
   rw[List.getElem?_append_right (by omega),hlen,List.getElem?_map]at e2
   cases hj:js[i-k]? with
   | none=>rw[hj]at e2;cases e2
   | some j =>
    rw[hj]at e2
    have e2':(σ[j]?).getD none=some v:=Option.some.inj e2
    have hσ:σ[j]? = some (some v):=by
     cases q:σ[j]? with
     | none=>rw[q]at e2';cases e2'
     | some y=>rw[q]at e2';simp at e2';rw[e2']
    have hx:(Nc.drop k)[i-k]? = some x:=by rw[List.getElem?_drop];rw[show k+(i-k)=i by omega];exact e1
    have hNj:X.N[j]? = some x:=by
     have:=congrArg (fun l=>l[i-k]?) S.cap
     simp only[List.getElem?_map,hx,hj,Option.map_some]at this
     exact(Option.some.inj this).symm
    have hfr:scope.names.lookup x=some .free:=S.caps x (List.mem_of_getElem? hx)
    have hk:=S.free _ (O3 hfr) rfl
    obtain⟨m,hn,hl⟩:=I.loc
    obtain⟨u,r,l⟩:=hl j x v hNj hσ (.inr hk)
    refine⟨u,r,.inr ⟨A6 hfr,?_⟩⟩
    rcases l with⟨l1,_⟩ | ⟨_,c,hc,hcell⟩
    ·have l1:X.env.scope.names.lookup x=some .local:=l1
     rcases hk with hk | hk
     ·rw[l1]at hk;cases hk
     ·rw[l1]at hk;cases hk
    ·obtain⟨d,hd⟩:=K5 (cells:=X.env.cells) (acc:=[]) (O3 hfr) ⟨c,hc⟩
     have:=D6 hd
     rw[hc]at this;cases this
     obtain⟨o,ho,hdd⟩:=hcell
     exact⟨c,hd,⟨o,old _ _ ho,hdd⟩⟩
 ·obtain⟨v,o,ho,hd⟩:=I.cell x c (D6 e)
  exact⟨v,o,old _ _ ho,hd⟩
 ·unfold i6
  rw[List.length_append,List.length_replicate,List.length_map]
  exact S.len.symm
end
def PF(X:Cx)(ifs:List Expr)(t:TT):Prop :=
 ∀(pins:List (Addr×Obj)) (s:Shared) (σ:St) (H:Hp) (Q:Bool→Hp→Prop),Inv X pins σ H s→t σ H Q →
  wpAny (model X.prog X.w) X.A (forIn ifs true fun c r=>if r=true then do let ok ← isTrue c X.env (eval c X.env);pure (ForInStep.yield ok)else pure (ForInStep.yield r)) (TP X pins σ Q) X.xe s
def a7N:TT:=fun _ H Q=>Q true H
theorem a5l{X:Cx}:PF X [] a7N:=fun pins s σ H Q I h=>wpAny_tests_nil ⟨H,I,h⟩
theorem b0g{X:Cx}{c:Expr}{t:TT}(h:PT X c t):PF X [c] t:=fun pins s σ H Q I q=>wpAny_tests_one (h pins s σ H Q I q)
def S3(J:It)(g:TG)(tf:TT)(te:TE)(k:Nat)(σ0:St)(D:Addr)(Fin:Hp→Prop)(H1:Hp):Prop :=
 ∃W:Nat→Nat→List V→Hp→Prop,(∃m,W 0 m [] (upd H1 D (.lst [])))∧∀i m ys H,W i m ys H →
  (J.stop i H∧Fin H)∨(J.go i H∧∃N:List V→Hp→Prop,(∀ys' H',N ys' H'→∃m',m'<m∧W (i+1) m' ys' H')∧∀x H',J.yld i H x H'→g x σ0 H' fun σ2 H2=>(σ2.drop k=σ0.drop k∧σ2.length=σ0.length)∧tf σ2 H2 fun b H3 =>
   if b=true then te σ2 H3 fun y H4=>H4 D=some (.lst ys)∧ys.length<sizeLine∧N (ys++[y]) (upd H4 D (.lst (ys++[y])))else N ys H3)
section
variable {X:Cx}{pins:List (Addr×Obj)}{σ:St}{H:Hp}{s:Shared}{elt tg iter:Expr}{ifs:List Expr}{scope:Scope}{pos:Pos}{Nc:List Str}{k:Nat}{js:List Nat}{g:TG}{tf:TT}{te:TE}
theorem a00{J:It}{fp:List Addr}{it:Addr}{tn:Nat→Heap→Prop}{E:Value→Shared→Prop}{RR:Value→Addr→Result→Shared→Prop}{Fin:Addr→Hp→Prop}(hc:X.calm=true)(S:CompSc X.env.scope scope X.N Nc k js)
  (hg:∀C s3 H3 fp xe,PG (i7 X scope Nc C s3 H3 fp xe) tg g) (hf:∀C s3 H3 fp xe,PF (i7 X scope Nc C s3 H3 fp xe) ifs tf)
  (he:∀C D H3,∃xe:Value→Shared→Prop,(∀e s',xe e s'→notedBy (model X.prog X.w) X.A (compEnvC scope (v8 X.env.cells scope.names []) C X.env) (fun e s'=>RR (.ref D) C (.error e) s') e s') ∧
   ∀s3,Inv X pins σ H3 s3→C=s3.heap.objs.size→(∀b∈fp,FpOk X pins H3 b)→PE (i7 X scope Nc C s3 H3 fp xe) elt te)
  (I2:Inv X pins σ H s) (T:Turn X.prog X.w X.K tg J fp it tn) (st2:tn 0 s.heap) (f2:∀b∈fp,FpOk X pins H b) (hR:∀D,H D=none→S3 J g tf te k (i6 k js σ) D (Fin D) H)
  (hRR:∀D C H' s' m',Inv X pins σ H' s'→s'.heap.Ns C m'→H' C=none→C≠X.env.locals→X.s₀.heap.objs.size≤C→(∀x c,X.env.cells.lookup x=some c→c≠C)→(∀p∈X.pn++pins,p.1≠C)→Fin D H'→RR (.ref D) C (.ok .next) s') :
  wpAny (model X.prog X.w) X.A (newList []) (fun acc s₃=>wpAny (model X.prog X.w) X.A (newFunctionEnv scope X.env.globals (v8 X.env.cells scope.names []) [] X.env.qual none .none (some X.env)) (fun cenv s₄ =>
   codeAny (model X.prog X.w) X.A (.compStart (.ListComp elt [⟨tg,iter,ifs,0⟩] scope pos) 0 (.ref it) acc { cenv with scope:=relabel scope X.env }) (RR acc cenv.locals) s₄) E s₃) E s:=by
 refine wpAny_newObj_type (wpAny_newFunctionEnv S.cell (by intro y hy;simp at hy) (fun h₁ hns₁ hsb₁=>?_) S.kind)
 dsimp only at hns₁ hsb₁ ⊢
 have I3:Inv X pins σ (upd H s.heap.objs.size (.lst [])) { s with heap:=s.heap.push { cls:=.type "list",data:=.seq ([]:List Value).toArray },toks:=s.toks }:=I2.lnew (its:=[]) .nil (Nat.zero_le _)
 have hDn:H s.heap.objs.size=none:=I2.fresh
 obtain⟨W,⟨m0,w0⟩,turn⟩:=hR _ hDn
 generalize hs3:({ s with heap:=s.heap.push { cls:=.type "list",data:=.seq ([]:List Value).toArray },toks:=s.toks }:Shared)=s3 at I3
 have e3:s3.heap=s.heap.push { cls:=.type "list",dict:=none,data:=.seq ([]:List Value).toArray }:=by rw[← hs3]
 rw[← e3]at hns₁ hsb₁ ⊢
 have fpo:∀b∈fp,b<s.heap.objs.size:=fun b hb=>by obtain⟨o,e,_⟩:=T.obj _ _ st2 b hb;exact Heap.lt_size e
 have sz3:s3.heap.objs.size=s.heap.objs.size+1:=by rw[e3,Heap.size_push]
 have fpo3:∀b∈fp,b<s3.heap.objs.size:=fun b hb=>by rw[sz3];exact Nat.lt_succ_of_lt (fpo b hb)
 have f3:∀b∈fp,FpOk X pins (upd H s.heap.objs.size (.lst [])) b:=fun b hb=>⟨by rw[a7 (Nat.ne_of_lt (fpo b hb))];exact(f2 b hb).1,(f2 b hb).2⟩
 have old:∀b o,s3.heap.get? b=some o→h₁.get? b=some o:=fun b o e=>hsb₁.extBut b o (Nat.ne_of_lt (Heap.lt_size e)) (Heap.get?_push_of_some _ e)
 have oldS:∀b o,s.heap.get? b=some o→h₁.get? b=some o:=fun b o e=>old b o (by rw[e3];exact Heap.get?_push_of_some _ e)
 obtain⟨xe,hxe,hel⟩:=he s3.heap.objs.size s.heap.objs.size (upd H s.heap.objs.size (.lst []))
 have hel:=hel s3 I3 rfl f3
 have I4:Inv (i7 X scope Nc s3.heap.objs.size s3 (upd H s.heap.objs.size (.lst [])) fp xe) [] (i6 k js σ) (upd H s.heap.objs.size (.lst [])) { s3 with heap:=h₁,toks:=s.toks+([]:List (Str×Value)).length } :=
  a6u I3 S f3 fpo3 hns₁ old
 have st4:tn 0 h₁:=T.keep _ _ _ st2 fun b hb o e=>oldS b o e
 have es3:({ s3 with heap:=h₁,toks:=s.toks+([]:List (Str×Value)).length }:Shared)={ s with heap:=h₁,toks:=s.toks+([]:List (Str×Value)).length }:=by rw[← hs3]
 rw[es3]at I4
 have ok:=I2.ok
 have lk:=I3.lt
 have hCL:s3.heap.objs.size≠X.env.locals:=Nat.ne_of_gt lk
 have stat:∀{H':Hp},(∀b∈fp,H' b=none)→∀b∈fp,FpOk (i7 X scope Nc s3.heap.objs.size s3 (upd H s.heap.objs.size (.lst [])) fp xe) [] H' b:=fun hn b hb =>
  ⟨hn b hb,Nat.ne_of_lt (fpo3 b hb),fun z=>(List.mem_cons.mp (I3.stkSub b z)).elim (fun q=>(f3 b hb).2.1 q) fun q=>(f3 b hb).2.2.1 q,.inl hb,fun x c e=>(f3 b hb).2.2.2.2.1 x c (D6 e),fun p hp=>absurd (show p∈([]:List (Addr×Obj))from hp) (by simp)⟩
 have loop:codeAny (model X.prog X.w) X.A (.compLoop (.ListComp elt [⟨tg,iter,ifs,0⟩] scope pos) 0 (.ref it) (.ref s.heap.objs.size) (compEnvC scope (v8 X.env.cells scope.names []) s3.heap.objs.size X.env))
    (RR (.ref s.heap.objs.size) s3.heap.objs.size) { s with heap:=h₁,toks:=s.toks+([]:List (Str×Value)).length }:=by
  refine a3o rfl (fun n s'=>∃i ys H',Inv (i7 X scope Nc s3.heap.objs.size s3 (upd H s.heap.objs.size (.lst [])) fp xe) [] (i6 k js σ) H' s'∧tn i s'.heap∧(∀b∈fp,H' b=none)∧W i n ys H') ?_ m0 ⟨0,[],_,I4,st4,fun b hb=>(f3 b hb).1,w0⟩
  rintro n s5 ⟨i,ys,H5,I5,st5,fr5,w5⟩
  rcases turn i n ys H5 w5 with⟨stop,fin⟩ | ⟨go,Nx,hNx,step⟩
  ·refine h7 (T.done (i7 X scope Nc s3.heap.objs.size s3 (upd H s.heap.objs.size (.lst [])) fp xe) rfl rfl rfl hc i [] s5 (i6 k js σ) H5 _ I5 (stat fr5) st5 stop) fun r s6 ⟨hr,I6⟩=>?_
   subst hr
   obtain⟨m6,hn6,_⟩:=I6.loc
   have J:Inv X pins σ H5 s6:=I3.call' (ch:=fp) (I6.os.trans rfl) I6.base I6.hok I6.bare fun b hb=>⟨(f3 b hb).2.2.2.1,(f3 b hb).2.1,(f3 b hb).2.2.2.2.1,(f3 b hb).2.2.2.2.2⟩
   refine hRR _ _ H5 s6 m6 J hn6 I6.free hCL (I3.sz) (fun x c e z=>?_) (fun p hp z=>?_) fin
   ·obtain⟨v,q⟩:=I3.cell x c e
    exact absurd q.lt (by rw[z];exact Nat.lt_irrefl _)
   ·exact absurd (Heap.lt_size (I3.pin p hp).1) (by rw[z];exact Nat.lt_irrefl _)
  ·refine h7 (T.item (i7 X scope Nc s3.heap.objs.size s3 (upd H s.heap.objs.size (.lst [])) fp xe) rfl rfl rfl hc i [] s5 (i6 k js σ) H5 _ I5 (stat fr5) st5 go) fun r s6 ⟨u,hr,h6⟩=>?_
   subst hr
   refine h7 h6 fun _ s7 ⟨x,H7,I7,r7,y7,st7,fr7⟩=>?_
   have I7':=I7.pinned (stat fr7) (T.obj _ _ st7)
   refine wpAny_mono (hg _ _ _ _ _ _ s7 _ H7 x u _ I7' r7 (step x H7 y7)) (fun _ s8 ⟨σ8,H8,I8,⟨d8,l8⟩,q8⟩=>?_) fun e s' z=>hxe e s' z
   refine wpAny_mono (hf _ _ _ _ _ _ s8 σ8 H8 _ I8 q8) (fun b s9 ⟨H9,I9,q9⟩=>?_) fun e s' z=>hxe e s' z
   have again:∀{H':Hp} {s':Shared} {ys':List V},Inv (i7 X scope Nc s3.heap.objs.size s3 (upd H s.heap.objs.size (.lst [])) fp xe) ([]++W9 fp s7.heap) σ8 H' s'→Nx ys' H' →
     ∃m,m<n∧∃i ys H',Inv (i7 X scope Nc s3.heap.objs.size s3 (upd H s.heap.objs.size (.lst [])) fp xe) [] (i6 k js σ) H' s'∧tn i s'.heap∧(∀b∈fp,H' b=none)∧W i m ys H':=fun{H' s' ys'} I' hw=>by
    obtain⟨m',hm,w'⟩:=hNx _ _ hw
    refine⟨m',hm,i+1,ys',H',(I'.unpinned).weak l8.symm fun j v e=>?_,T.keep _ _ _ st7 fun b hb o e=>(I'.pin (b,o) (List.mem_append_right _ (List.mem_append_right _ (M7 hb e)))).1,fun b hb=>?_,w'⟩
    ·by_cases hj:j<k
     ·unfold i6 at e
      rw[List.getElem?_append_left (by rw[List.length_replicate];exact hj),List.getElem?_replicate]at e
      split at e<;>cases e
     ·have e':((i6 k js σ).drop k)[j-k]? = some (some v):=by rw[List.getElem?_drop,show k+(j-k)=j by omega];exact e
      rw[← d8,List.getElem?_drop,show k+(j-k)=j by omega]at e'
      exact e'
    ·obtain⟨o,e,d⟩:=T.obj _ _ st7 b hb
     exact(I'.pin (b,o) (List.mem_append_right _ (List.mem_append_right _ (M7 hb e)))).2.1
   cases b with
   | false =>
    rw[if_neg Bool.false_ne_true]at q9 ⊢
    exact again I9 q9
   | true =>
    rw[if_pos rfl]at q9 ⊢
    refine wpAny_mono (hel _ s9 σ8 H9 _ I9 q9) (fun v s10 ⟨y,H10,I10,r10,hD,hz,w'⟩=>?_) fun e s' z=>hxe e s' z
    refine wpAny_mono (a14 (X:=i7 X scope Nc s3.heap.objs.size s3 (upd H s.heap.objs.size (.lst [])) fp xe) _ s10 σ8 H10 (.ref s.heap.objs.size) [y] (.ref s.heap.objs.size) [v] (fun _ H'=>H'=upd H10 s.heap.objs.size (.lst (ys++[y]))) I10 rfl (.cons r10 .nil)
     ⟨_,ys,y,rfl,rfl,hD,hz,rfl⟩) (fun _ s11 ⟨_,H11,I11,_,q11⟩=>?_) fun e s' z=>hxe e s' z
    subst q11
    exact again I11 w'
 exact codeAny_compStart_list loop (T.self _ 0 _ _ _ st4 loop)
end
def a01(wi:TI)(g:TG)(tf:TT)(te:TE)(k:Nat)(js:List Nat):TE:=fun σ H Q=>wi σ H fun J H1=>∀D,H1 D=none→S3 J g tf te k (i6 k js σ) D (fun H'=>Q (.ref D) H') H1
section
variable {X:Cx}{elt tg iter:Expr}{ifs:List Expr}{scope:Scope}{pos:Pos}{Nc:List Str}{k:Nat}{js:List Nat}{wi:TI}{g:TG}{tf:TT}{te:TE}
theorem a3O(hc:X.calm=true)(S:CompSc X.env.scope scope X.N Nc k js)(hi:PI X tg iter wi)(hg:∀C s3 H3 fp xe,PG (i7 X scope Nc C s3 H3 fp xe) tg g)(hf:∀C s3 H3 fp xe,PF (i7 X scope Nc C s3 H3 fp xe) ifs tf)
  (he:∀C s3 H3 fp xe,PE (i7 X scope Nc C s3 H3 fp xe) elt te) (hs:∀x,foldedSetIterable iter X.env x=pure x:=by intro _;rfl):PE X (.ListComp elt [⟨tg,iter,ifs,0⟩] scope pos) (a01 wi g tf te k js):=by
 intro pins s σ H Q I h
 rw[eval_ListComp]
 refine wpAny_comprehension_free (use:=none) rfl hs (a0m (a0Z I S)) S.kind S.names (h7 (hi pins s σ H _ I h) fun v s1 h1=>h7 h1 fun itv s2 h2=>?_)
 obtain⟨it,fp,tn,J,H2,rfl,I2,T,st2,f2,hR⟩:=h2
 refine a00 (RR:=fun acc C=>compPost (model X.prog X.w) X.A X.xe none (EP X pins σ Q) acc C) (Fin:=fun D H'=>Q (.ref D) H') hc S hg hf (fun C D H3=>⟨fun _ _=>False,fun _ _ z=>z.elim,fun s3 _ _ _=>he _ _ _ _ _⟩) I2 T st2 f2 hR ?_
 intro D C H' s' m' I' hn hC hCL hsz hcl hpn q
 exact⟨m',hn,fun h' hs'=>⟨.ref D,H',I'.turned (t':=s'.toks) (fun b o hb e=>(hs'.2 b hb).trans e) hC hCL (.inr hsz) hcl hpn,rfl,q⟩⟩
end
theorem a5m{K:W.Frag}{a:Addr}{xs:List V}{g:TG}{tf:TT}{te:TE}{k:Nat}{σ0:St}{D:Addr}{Fin:Hp→Prop}{H1:Hp}(Pv:Nat→List V→Hp→Prop)(h0:Pv 0 [] (upd H1 D (.lst [])))(hl:∀i ys H,i≤xs.length→Pv i ys H→SqL K H a xs)
  (hs:∀i x ys H,xs[i]? = some x→Pv i ys H→g x σ0 H fun σ2 H2=>(σ2.drop k=σ0.drop k∧σ2.length=σ0.length)∧tf σ2 H2 fun b H3 =>
   if b=true then te σ2 H3 fun y H4=>H4 D=some (.lst ys)∧ys.length<sizeLine∧Pv (i+1) (ys++[y]) (upd H4 D (.lst (ys++[y])))else Pv (i+1) ys H3)
  (hd:∀ys H,Pv xs.length ys H→Fin H):S3 (Itl K a) g tf te k σ0 D Fin H1:=by
 refine⟨fun i m ys H=>m=xs.length-i∧i≤xs.length∧Pv i ys H,⟨xs.length,by simp,Nat.zero_le _,h0⟩,?_⟩
 rintro i m ys H ⟨rfl,hi,p⟩
 have q:=hl i ys H hi p
 by_cases hlt:i<xs.length
 ·refine .inr ⟨⟨xs,xs[i],q,by simp[hlt]⟩,Pv (i+1),fun ys' H' z=>⟨xs.length-(i+1),by omega,rfl,hlt,z⟩,fun x H' y=>?_⟩
  obtain⟨e,y⟩:=y
  subst e
  exact hs i x ys _ (y xs q) p
 ·have e:i=xs.length:=by omega
  subst e
  exact .inl ⟨⟨xs,q,Nat.le_refl _⟩,hd ys H p⟩
theorem a4s{lo:Int}{n:Nat}{g:TG}{tf:TT}{te:TE}{k:Nat}{σ0:St}{D:Addr}{Fin:Hp→Prop}{H1:Hp}(Pv:Nat→List V→Hp→Prop)(h0:Pv 0 [] (upd H1 D (.lst [])))
  (hs:∀i ys H,i<n→Pv i ys H→g (.int (lo+i)) σ0 H fun σ2 H2=>(σ2.drop k=σ0.drop k∧σ2.length=σ0.length)∧tf σ2 H2 fun b H3 =>
   if b=true then te σ2 H3 fun y H4=>H4 D=some (.lst ys)∧ys.length<sizeLine∧Pv (i+1) (ys++[y]) (upd H4 D (.lst (ys++[y])))else Pv (i+1) ys H3)
  (hd:∀ys H,Pv n ys H→Fin H):S3 (W7 lo n) g tf te k σ0 D Fin H1:=by
 refine⟨fun i m ys H=>m=n-i∧i≤n∧Pv i ys H,⟨n,by simp,Nat.zero_le _,h0⟩,?_⟩
 rintro i m ys H ⟨rfl,hi,p⟩
 by_cases hlt:i<n
 ·refine .inr ⟨hlt,Pv (i+1),fun ys' H' z=>⟨n-(i+1),by omega,rfl,hlt,z⟩,fun x H' y=>?_⟩
  obtain⟨e,y⟩:=y
  subst e y
  exact hs i ys _ hlt p
 ·have e:i=n:=by omega
  subst e
  exact .inl ⟨Nat.le_refl _,hd ys H p⟩
section
variable {X:Cx}{pins:List (Addr×Obj)}{σ:St}{H:Hp}{s:Shared}
theorem Inv.turnedL{h':Heap}{t':Nat}{ch:List Addr}{p:Addr}{o:HO}(I:Inv X pins σ H s)(k:∀b u,b ∉ ch→s.heap.get? b=some u→h'.get? b=some u)(hf:∀b∈ch,FpOk X pins H b)(hp:s.heap.objs.size≤p)(new:ObjOk X.prog X.w (upd H p o) h' p o) :
  Inv X pins σ (upd H p o) { s with heap:=h',toks:=t' }:=by
 have hn:=I.hok.fresh hp
 have nch:∀b u,H b=some u→b ∉ ch:=fun b u q z=>by rw[(hf b z).1]at q;cases q
 refine I.call (g':=s.gens) (d':=s.drawn) (ch:=ch) ⟨fun b u q _ _ hx=>k b u hx q,fun b u q _ _ hx=>⟨u.slots,k b u hx q⟩,fun b u q n _=>?_,fun b u q hx=>⟨u,k b u hx q⟩,fun b xs q=>?_,fun b u xs q=>?_,fun b ps q=>⟨#[],?_⟩⟩ (fun b u q=>?_) I.bare
  fun b hb=>⟨(hf b hb).2.2.2.1,(hf b hb).2.1,(hf b hb).2.2.2.2.1,(hf b hb).2.2.2.2.2⟩
 ·rw[a7 (Nat.ne_of_lt (Nat.lt_of_lt_of_le (Heap.lt_size q) hp))];exact n
 ·rw[a7 (d5 q hn)];exact q
 ·rw[a7 (d5 q hn)];exact q
 ·rw[a7 (d5 q hn),q];simp
 ·by_cases hb:b=p
  ·subst hb;rw[c8]at q;cases q;exact new
  ·rw[a7 hb]at q
   refine(I.hok b u q).stay (fun c v hc r=>k c v ?_ r) (fun c z=>?_) (fun c xs z=>?_) fun c ob u z=>?_
   ·rcases hc with hc | hc
    ·rw[hc];exact nch b u q
    ·exact nch c _ hc
   ·rw[a7 (d5 z hn)];exact z
   ·rw[a7 (d5 z hn)];exact z
   ·rw[a7 (d5 z hn)];exact z
theorem Inv.turnedN{h':Heap}{t':Nat}{ch:List Addr}(I:Inv X pins σ H s)(k:∀b u,b ∉ ch→s.heap.get? b=some u→h'.get? b=some u)(hf:∀b∈ch,FpOk X pins H b):Inv X pins σ H { s with heap:=h',toks:=t' }:=by
 have nch:∀b u,H b=some u→b ∉ ch:=fun b u q z=>by rw[(hf b z).1]at q;cases q
 refine I.call (g':=s.gens) (d':=s.drawn) (ch:=ch) ⟨fun b u q _ _ hx=>k b u hx q,fun b u q _ _ hx=>⟨u.slots,k b u hx q⟩,fun b u q n _=>n,fun b u q hx=>⟨u,k b u hx q⟩,fun b xs q=>q,fun b u xs q=>q,fun b ps q=>⟨#[],by rw[q];simp⟩⟩ (fun b u q=>?_) I.bare
  fun b hb=>⟨(hf b hb).2.2.2.1,(hf b hb).2.1,(hf b hb).2.2.2.2.1,(hf b hb).2.2.2.2.2⟩
 refine(I.hok b u q).stay (fun c v hc r=>k c v ?_ r) (fun c z=>z) (fun c xs z=>z) fun c ob u z=>z
 rcases hc with hc | hc
 ·rw[hc];exact nch b u q
 ·exact nch c _ hc
end
def Ite(K:W.Frag)(a:Addr):It :=
 ⟨fun i H=>∃xs x,SqL K H a xs∧xs[i]? = some x,fun i H v H'=>∃p x,v=.ref p∧H p=none∧H'=upd H p (.tup [.int i,x])∧∀xs,SqL K H a xs→xs[i]? = some x,fun i H=>∃xs,SqL K H a xs∧xs.length≤i⟩
theorem a5n{P:Program}{w:World}{K:W.Frag}{elts:List Expr}{x1}{tpos:Pos}(a it e:Addr)(hne:e≠it):Turn P w K (.Tuple elts x1 tpos) (Ite K a) [e,it] e (fun i h=>(∃old,IsEnum h e it i old)∧h.IsListIter it a i) where
 mem:=by simp
 obj:=fun i h ⟨⟨old,st⟩,it1⟩ b hb=>by
  rcases List.mem_cons.mp hb with q | hb
  ·subst q
   exact⟨_,st,fun v z=>nomatch (show Data.fields _=Data.cell v from z)⟩
  ·have q:b=it:=by simpa using hb
   subst q
   obtain⟨o,e1,c,d⟩:=it1
   exact⟨o,e1,fun v z=>by rw[d]at z;cases z⟩
 keep:=fun i h h' ⟨⟨old,st⟩,it1⟩ k=>⟨⟨old,k e (by simp) _ st⟩,it1.at fun o q=>k it (by simp) o q⟩
 item:=by
  intro X hP hw hK hc i pins s σ H E I hf st hg
  subst hP hw hK
  obtain⟨⟨old,st⟩,it1⟩:=st
  obtain⟨xs,x,hq,hx⟩:=hg
  obtain⟨its,rv,p,hz⟩:=I.list hq
  obtain⟨u,hu,ru⟩:=rv.get hx
  refine wpAny_pyNext_enum_item st it1 p.isList (x:=u) (by simpa using hu) hne fun h' q1 q2 q3 q4 q5=>⟨_,rfl,?_⟩
  refine wpAny_letOwnedTupleGo_enum (s:={ s with heap:=h',toks:=s.toks+1 }) q1 fun h2 r1 r2=>?_
  have ne1:s.heap.objs.size≠e:=Nat.ne_of_gt (Heap.lt_size st)
  have k2:∀b o,b ∉ [e,it]→s.heap.get? b=some o→h2.get? b=some o:=fun b o hb q=>by
   have hb1:b≠e:=fun z=>hb (by simp[z])
   have hb2:b≠it:=fun z=>hb (by simp[z])
   exact(r2.2 b hb1).trans (q5 b o hb1 hb2 q)
  have I1:Inv X pins σ (upd H s.heap.objs.size (.tup [.int i,x])) { s with heap:=h2,toks:=s.toks+1 }:=I.turnedL k2 hf (Nat.le_refl _)
   ⟨by show 2≤sizeLine;decide,[.int i s.toks,u],.cons ⟨_,rfl⟩ (.cons ru .nil),⟨_,(r2.2 _ ne1).trans q3,rfl,_,rfl⟩⟩
  refine⟨.ref s.heap.objs.size,_,I1,rfl,⟨_,x,rfl,I.fresh,rfl,fun ys hy=>by rw[I.list_inj hy hq];exact hx⟩,⟨⟨_,by rw[show((i+1:Nat):Int)=(i:Int)+1 by omega];exact r1⟩,?_⟩,fun b hb=>?_⟩
  ·exact q2.extBut r2.extBut (Ne.symm hne)
  ·obtain⟨o,e1,_⟩:∃o,s.heap.get? b=some o∧True:=by
    rcases List.mem_cons.mp hb with q | hb
    ·exact⟨_,by rw[q];exact st,trivial⟩
    ·have q:b=it:=by simpa using hb
     obtain⟨o,e1,_⟩:=it1
     exact⟨o,by rw[q];exact e1,trivial⟩
   rw[a7 (Nat.ne_of_lt (Heap.lt_size e1))]
   exact(hf b hb).1
 done:=by
  intro X hP hw hK hc i pins s σ H E I hf st hg
  subst hP hw hK
  obtain⟨⟨old,st⟩,it1⟩:=st
  obtain⟨xs,hq,hx⟩:=hg
  obtain⟨its,rv,p,hz⟩:=I.list hq
  have hl:=rv.length
  exact wpAny_pyNext_enum_end (I.ok.hd hc) st it1 p.isList (by simp;omega) fun h' eb=>⟨rfl,I.turnedN (t':=s.toks) (fun b o hb q=>eb b o (fun z=>hb (by simp[z])) q) hf⟩
 self:=fun _ _ _ _ _ st h=>wpAny_pyIter_enum st.1.choose_spec h
theorem a6v{K:PySem.W.Frag}{a:Addr}{xs:List V}{g:TG}{tb:TS}{D:Ends}{σ:St}{H:Hp}(Pv:Nat→St→Hp→Prop)(h0:Pv 0 σ H)(hl:∀i σ H,i≤xs.length→Pv i σ H→SqL K H a xs)
  (hs:∀i x σ H p,xs[i]? = some x→Pv i σ H→H p=none→g (.ref p) σ (upd H p (.tup [.int i,x])) fun σ2 H2=>tb { D with nx:=Pv (i+1),ct:=Pv (i+1),bk:=D.nx } σ2 H2) (hd:∀σ H,Pv xs.length σ H→D.nx σ H) :
  ∃W:Nat→Nat→St→Hp→Prop,(∃m,W 0 m σ H)∧∀i m σ H,W i m σ H →
   ((Ite K a).stop i H∧D.nx σ H)∨((Ite K a).go i H∧∃N:St→Hp→Prop,(∀σ' H',N σ' H'→∃m',m'<m∧W (i+1) m' σ' H')∧∀x H',(Ite K a).yld i H x H'→g x σ H' fun σ2 H2=>tb { D with nx:=N,ct:=N,bk:=D.nx } σ2 H2):=by
 refine⟨fun i m σ H=>m=xs.length-i∧i≤xs.length∧Pv i σ H,⟨xs.length,by simp,Nat.zero_le _,h0⟩,?_⟩
 rintro i m σ H ⟨rfl,hi,p⟩
 have q:=hl i σ H hi p
 by_cases hlt:i<xs.length
 ·refine .inr ⟨⟨xs,xs[i],q,by simp[hlt]⟩,Pv (i+1),fun σ' H' z=>⟨xs.length-(i+1),by omega,rfl,hlt,z⟩,fun v H' y=>?_⟩
  obtain⟨c,x,rfl,hc,rfl,y⟩:=y
  exact hs i x σ _ c (y xs q) p hc
 ·have e:i=xs.length:=by omega
  subst e
  exact .inl ⟨⟨xs,q,Nat.le_refl _⟩,hd σ H p⟩
theorem a2N:bootBuiltins "enumerate" = some (.type "enumerate"):=by decide +kernel
def a7O(K:W.Frag)(ta:TA):TI:=fun σ H R=>ta σ H fun vs H1=>∃a,vs=[.ref a]∧(∃xs,SqL K H1 a xs)∧R (Ite K a) H1
section
variable {X:Cx}
theorem a8u{elts:List Expr}{x1}{tpos:Pos}{l:Expr}{ta:TA}{p pos:Pos}(hg:Gl X "enumerate")(hm:X.mg "enumerate" = none)(ha:PA X [l] ta)(hs:starEach [l] X.env=[(false,eval l X.env)]:=by rfl) :
  PI X (.Tuple elts x1 tpos) (.Call (.Name "enumerate" p) [l] [] pos) (a7O X.K ta):=by
 intro pins s σ H R I h
 refine Call_ (O1 I hg hm a2N (PyProof.Rows.callWith_type1 (h7 (ha pos pins s σ H _ I h) fun us s1 ⟨vs,H1,I1,r1,q1⟩=>?_) hs rfl))
 obtain⟨a,e,⟨xs,hq⟩,q⟩:=q1
 subst e
 obtain⟨u,rfl,ru⟩:=r1.one
 cases (show u=Value.ref a from ru)
 obtain⟨its,rv,pl,hz⟩:=I1.list hq
 refine call_enumerate_list pl.isList fun h' q1 q2 q3 q4=>?_
 have I2:Inv X pins σ H1 { s1 with heap:=h' }:=I1.kept (t':=s1.toks) q4
 refine wpAny_pyIter_enum (s:={ s1 with heap:=h' }) q1 ?_
 refine⟨s1.heap.objs.size+1,[s1.heap.objs.size+1,s1.heap.objs.size],_,_,H1,rfl,I2,a5n a s1.heap.objs.size _ (Nat.succ_ne_self _),⟨⟨_,q1⟩,q2⟩,fun b hb=>?_,q⟩
 have hb':s1.heap.objs.size≤b:=by
  rcases List.mem_cons.mp hb with z | z
  ·rw[z];exact Nat.le_succ _
  ·have z:b=s1.heap.objs.size:=by simpa using z
   rw[z];exact Nat.le_refl _
 exact I1.fpOk hb' (I1.hok.fresh hb')
end
section
variable {X:Cx}{K:W.Frag}
theorem T7(hK:X.K=K:=by rfl):IxR X (a6m K):=hK▸a8n
theorem C5(hK:X.K=K:=by rfl):IxR X (a6n K):=hK▸a96
theorem a6w(hK:X.K=K:=by rfl):SlR X (a6o K):=hK▸a8o
def a3P(K:W.Frag):List V→Hp→VK→Prop:=fun xs H Q=>∃p ys,xs=[.ref p]∧(SqL K H p ys∨SqT K H p ys)∧Q (.int ys.length) H
theorem D3(hK:X.K=K:=by rfl):J4 X (.builtin "len") (a3P K):=hK▸a2I
def a3Q(K:W.Frag):List V→Hp→VK→Prop:=fun xs H Q=>∃p ys,xs=[.ref p]∧(SqL K H p ys∨SqT K H p ys)∧∀l,H l=none→Q (.ref l) (upd H l (.lst ys))
theorem L7(hK:X.K=K:=by rfl):J4 X (.type "list") (a3Q K):=hK▸a2J
theorem u7(hK:X.K=K:=by rfl):J4 X (.builtin "isinstance") (a4r K):=hK▸a6s
theorem a1C{es:List Expr}{k:Nat}{t:W6}{n:Nat}{pos:Pos}(hc:X.calm=true)(h:PGs X es t)(hK:X.K=K:=by rfl)(hn:(assignEach es X.env).length=n:=by rfl)(hst:(assignEach es X.env).findIdx? (·.1)=none:=by rfl) :
  PG X (.Tuple es k pos) (a6g K n t):=hK▸a91 hc h hn hst
variable {o e:Expr}{es:List Expr}{to:TE}{t:TA}{name:Str}{apos cpos:Pos}{T id:String}{r:V→List V→Hp→VK→Prop}
theorem a2O(pa:PlainAttrs T)(slot:Slot T name id)(hty:typeOf (.builtin id)=pure (.type "method_descriptor"))(hm:MtR X id r)(ho:PE X o to)(ha:PA X (e::es) t)(hK:X.K=K:=by rfl)
  (hbase:attributeBase o name X.env (eval o X.env)=eval o X.env:=by rfl)
  (hfew:((backTo cpos (starEach (e::es) X.env)).all (fun x=>!x.1) && (backToKw cpos (keywordEach [] X.env)).all (fun x=>x.1.isSome)
   && decide ((e::es).length+([]:List Keyword).length+(if([]:List Keyword).isEmpty then 0 else 1)<30))=true:=by rfl)
  (hline:(apos.endLine == cpos.line)=true:=by rfl) (hs:starEach (e::es) X.env=(false,eval e X.env)::starEach es X.env:=by rfl) (hplain:(backTo cpos (starEach es X.env)).any (·.1)=false:=by rfl) :
  PE X (.Call (.Attribute o name apos) (e::es) [] cpos) (tBM K T r to t):=hK▸b1p pa slot hty hm ho ha hbase hfew hline hs hplain
end
theorem X8{X:Cx}{x:Str}{v:V}{pos:Pos}(hg:Gl X x)(hm:∃u,X.mg x=some u∧RelV v u)(hd:(x == ("__debug__" : Str))=false:=by decide):PE X (.Name x pos) (tC v):=by
 obtain⟨u,h1,h2⟩:=hm
 exact D8 hg h1 h2 hd
theorem a0n{h h' B B':Heap}:∀{l:List Env},h.FunFrames B l→(∀b∈x8 l,h'.get? b=h.get? b)→(∀b,B.get? b=none→B'.get? b=none)→h'.FunFrames B' l
 | [],_,_,_=>trivial
 | env::b7,⟨k,⟨L,o,f,b,g,n⟩,r⟩,hk,hb=>by
  refine⟨k,⟨L,o,f,hb L b,(hk L ?_).trans g,n⟩,a0n r (fun c hc=>hk c ?_) hb⟩
  ·exact List.mem_filterMap.mpr ⟨env,List.mem_cons_self,f⟩
  ·obtain⟨e,he,q⟩:=List.mem_filterMap.mp hc
   exact List.mem_filterMap.mpr ⟨e,List.mem_cons_of_mem _ he,q⟩
section
variable {X:Cx}{E:XK}{pins pins':List (Addr×Obj)}{σ σ':St}{H3 H':Hp}{s3 s':Shared}{scope:Scope}{Nc:List Str}{C a:Addr}{fp:List Addr}{xe:Value→Shared→Prop}{cls:Value}{cx:Option Addr}{B:Heap}
theorem a4t(acc:XAcc X E)(I3:Inv X pins σ H3 s3)(hC:C=s3.heap.objs.size)(hfp:∀b∈fp,FpOk X pins H3 b)(I:Inv (i7 X scope Nc C s3 H3 fp xe) pins' σ' H' s')(x:XAt (i7 X scope Nc C s3 H3 fp xe) pins' H' s' a cls cx B .any)(hE:E cls cx H') :
  ∃m,s'.heap.Ns C m∧∀h',Heap.SameBut C s'.heap h'→∀cenv:Env,cenv.locals=C→wpAny (model X.prog X.w) X.A (passOn "comprehension.variables-let-go" (.ref a) cenv:Sem Value) (fun _ _=>False) X.xe { s' with heap:=h' }:=by
 obtain⟨m,hn,_⟩:=id I.loc
 refine⟨m,hn,fun h' hs cenv _=>?_⟩
 have J:Inv X pins σ H' s':=I3.call' (ch:=fp) (I.os.trans rfl) I.base I.hok I.bare fun b hb=>⟨(hfp b hb).2.2.2.1,(hfp b hb).2.1,(hfp b hb).2.2.2.2.1,(hfp b hb).2.2.2.2.2⟩
 have lt3:∀b o,s3.heap.get? b=some o→b≠C:=fun b o g z=>absurd (Heap.lt_size g) (by rw[z,hC];exact Nat.lt_irrefl _)
 have hCL:C≠X.env.locals:=by rw[hC];exact Nat.ne_of_gt I3.lt
 have hsz:X.s₀.heap.objs.size≤C:=by rw[hC];exact I3.sz
 have hcl:∀y c,X.env.cells.lookup y=some c→c≠C:=fun y c e z=>by
  obtain⟨v,o,ho,_⟩:=I3.cell y c e
  exact lt3 c o ho z
 have hpn:∀p∈X.pn++pins,p.1≠C:=fun p hp z=>lt3 p.1 p.2 (I3.pin p hp).1 z
 have hC0:H' C=none:=I.free
 have J':Inv X pins σ H' { s' with heap:=h' }:=J.turned (t':=s'.toks) (fun b o hb e=>(hs.2 b hb).trans e) hC0 hCL (.inr hsz) hcl hpn
 have nC:∀b∈x8 X.stack,b≠C:=fun b hb=>by
  obtain⟨_,o,g,_⟩:=I3.stack.mem hb
  exact lt3 b o g
 obtain⟨fl,oe,vs,T,oT,ts,⟨ge,ec,de,z6⟩,⟨z1,z2⟩,⟨bT,nT⟩,gT,dT,z3⟩:=x.tr
 have nf:∀{b:Addr} {o:Obj} {ws:Array Value},s'.heap.get? b=some o→o.data=.fields ws→b≠C:=fun g d z=>by
  obtain⟨o,es,ep,ho,hd,_⟩:=id hn
  rw[z]at g
  have:s'.heap.get? C=some o:=ho
  rw[g]at this;cases this
  rw[d]at hd;cases hd
 have ge':=(hs.2 a (nf ge de)).trans ge
 have gT':=(hs.2 T (nf gT dT)).trans gT
 have hid:∀{b:Addr},B.get? b=none→(W.hideAll B [C]).get? b=none:=fun{b} q=>by
  cases w:(W.hideAll B [C]).get? b with
  | none=>rfl
  | some o=>rw[W.of_hideAll _ w]at q;cases q
 have st:(W.hideAll B [C]).StaysIn h':=fun b o e=>by
  have hb:b≠C:=fun z=>by rw[z,W.hideAll_none [C] (by simp)]at e;cases e
  exact(hs.2 b hb).trans (x.stays b o (W.of_hideAll _ e))
 have ff:h'.FunFrames (W.hideAll B [C]) X.stack:=a0n x.frames (fun b hb=>hs.2 b (nC b hb)) fun b q=>hid q
 have tr:TrX h' (W.hideAll B [C]) a cls cx fl:=⟨oe,vs,T,oT,ts,⟨ge',ec,de,z6⟩,⟨z1,z2⟩,⟨hid bT,nT⟩,gT',dT,z3⟩
 have xx:XAt X pins H' { s' with heap:=h' } a cls cx (W.hideAll B [C]) .any:=by
  refine⟨x.free,st,hid x.fresh,ff,fun b o e i n=>?_,fl,tr⟩
  have hb:b≠C:=by
   rcases i with i | ⟨_,o',i⟩ | ⟨p,hp,q⟩
   ·exact fun z=>i (by rw[z];exact hC0)
   ·exact Nat.ne_of_lt (Nat.lt_of_lt_of_le (Heap.lt_size i) hsz)
   ·rw[← q];exact hpn p hp
  refine W.hideAll_get _ (x.cov b o ((hs.2 b hb).symm.trans e) ?_ n) (by simpa using hb)
  by_cases hh:H' b=none
  ·refine .inr (.inl ⟨fun hf=>?_,?_⟩)
   ·obtain⟨_,_,_,f4,_,f6⟩:=hfp b hf
    rcases i with i | ⟨hx,o',i⟩ | ⟨p,hp,q⟩
    ·exact i hh
    ·rcases f4 with f4 | f4
     ·exact hx f4
     ·exact absurd (Nat.lt_of_lt_of_le (Heap.lt_size i) f4) (Nat.lt_irrefl _)
    ·exact f6 p hp q
   ·rcases i with i | ⟨hx,o',i⟩ | ⟨p,hp,q⟩
    ·exact absurd hh i
    ·exact I3.base.there b o' i hx
    ·exact⟨p.2,by rw[← q];exact(I3.pin p hp).1⟩
  ·exact .inl hh
 unfold PySem.passOn
 refine wpAny_bind (wpAny_field (s:={ s' with heap:=h' }) ge' de z1 ?_)
 rw[if_neg (by simp)]
 refine wpAny_bind (a2K (s:={ s' with heap:=h' }) st ff tr fun h2 k=>wpAny_throw ?_)
 exact acc pins σ H' _ a cls cx _ .any (J'.exc xx.cov k.1 k.2.2.2) ⟨xx.free,k.1,xx.fresh,k.2.1,xx.cov' J' k.1,_,k.2.2.1⟩ hE
end
def a2P(X:Cx)(scope:Scope)(Nc:List Str)(C:Addr)(H3:Hp)(fp:List Addr)(pins:List (Addr×Obj))(σ:St)(E:XK):Value→Shared→Prop:=fun e s' =>
 ∃s3 a cls cx H' B ph pins' σ',e=.ref a∧Inv X pins σ H3 s3∧C=s3.heap.objs.size∧(∀b∈fp,FpOk X pins H3 b)∧Inv (i7 X scope Nc C s3 H3 fp fun _ _=>False) pins' σ' H' s'∧XAt (i7 X scope Nc C s3 H3 fp fun _ _=>False) pins' H' s' a cls cx B ph∧E cls cx H'
section
variable {X:Cx}{E:XK}{elt tg iter:Expr}{ifs:List Expr}{scope:Scope}{pos:Pos}{Nc:List Str}{k:Nat}{js:List Nat}{wi:TI}{g:TG}{tf:TT}{te:TE}
theorem a6x{pins:List (Addr×Obj)}{σ:St}{H3:Hp}{s3:Shared}{C:Addr}{fp:List Addr}(I3:Inv X pins σ H3 s3)(hC:C=s3.heap.objs.size)(hfp:∀b∈fp,FpOk X pins H3 b):XAcc (i7 X scope Nc C s3 H3 fp (a2P X scope Nc C H3 fp pins σ E)) E :=
 fun pins' σ' H' s' a cls cx B ph I x hE=>⟨s3,a,cls,cx,H',B,ph,pins',σ',rfl,I3,hC,hfp,I.wish _,⟨x.free,x.stays,x.fresh,x.frames,x.cov,x.tr⟩,hE⟩
theorem a4u{pins:List (Addr×Obj)}{σ:St}{H3:Hp}{C F:Addr}{fp:List Addr}{env0:Env}{out0:List Env}{R:Value→Shared→Prop}(acc:XAcc X E)(hs0:X.stack=env0::out0)(h0:env0.frame=X.env.frame)(hF:X.env.frame=some F)
  (hR:∀a s',(∃m,s'.heap.Ns C m∧∀h',Heap.SameBut C s'.heap h'→∀cenv:Env,cenv.locals=C→wpAny (model X.prog X.w) X.A (passOn "comprehension.variables-let-go" (.ref a) cenv:Sem Value) (fun _ _=>False) X.xe { s' with heap:=h' })→R (.ref a) s') :
  ∀e s',a2P X scope Nc C H3 fp pins σ E e s'→notedBy (model X.prog X.w) X.A (compEnvC scope (v8 X.env.cells scope.names []) C X.env) R e s':=by
 rintro e s' ⟨s3,a,cls,cx,H',B,ph,pins',σ',rfl,I3,hC,hfp,I,x,hE⟩
 unfold notedBy
 exact a1x (X:=i7 X scope Nc C s3 H3 fp fun _ _=>False) I.ok.frames hs0 h0 hF I x fun h1 I1 x1=>hR a _ (a4t acc I3 hC hfp I1 x1 hE)
theorem a6y{env0:Env}{out0:List Env}{F:Addr}(acc:XAcc X E)(hc:X.calm=true)(S:CompSc X.env.scope scope X.N Nc k js)(hi:PI X tg iter wi)(hg:∀C s3 H3 fp xe,PG (i7 X scope Nc C s3 H3 fp xe) tg g)(hf:∀C s3 H3 fp xe,PF (i7 X scope Nc C s3 H3 fp xe) ifs tf)
  (he:∀C s3 H3 fp xe,XAcc (i7 X scope Nc C s3 H3 fp xe) E→PE (i7 X scope Nc C s3 H3 fp xe) elt te) (hs:∀x,foldedSetIterable iter X.env x=pure x:=by intro _;rfl)
  (hs0:X.stack=env0::out0:=by rfl) (h0:env0.frame=X.env.frame:=by rfl) (hF:X.env.frame=some F:=by rfl):PE X (.ListComp elt [⟨tg,iter,ifs,0⟩] scope pos) (a01 wi g tf te k js):=by
 intro pins s σ H Q I h
 rw[eval_ListComp]
 refine wpAny_comprehension_free (use:=none) rfl hs (a0m (a0Z I S)) S.kind S.names (h7 (hi pins s σ H _ I h) fun v s1 h1=>h7 h1 fun itv s2 h2=>?_)
 obtain⟨it,fp,tn,J,H2,rfl,I2,T,st2,f2,hR⟩:=h2
 refine a00 (RR:=fun acc C=>compPost (model X.prog X.w) X.A X.xe none (EP X pins σ Q) acc C) (Fin:=fun D H'=>Q (.ref D) H') hc S hg hf
  (fun C D H3=>⟨a2P X scope Nc C H3 fp pins σ E,a4u acc hs0 h0 hF fun a s' z=>z,fun s3 I3 hC hfp=>he _ _ _ _ _ (a6x I3 hC hfp)⟩) I2 T st2 f2 hR ?_
 intro D C H' s' m' I' hn hC hCL hsz hcl hpn q
 exact⟨m',hn,fun h' hs'=>⟨.ref D,H',I'.turned (t':=s'.toks) (fun b o hb e=>(hs'.2 b hb).trans e) hC hCL (.inr hsz) hcl hpn,rfl,q⟩⟩
end
theorem T8:∀{ns:List Int} {us:List Value},Vals (ns.map V.int) us→∃ps:List (Int×Tok),us=ps.map (fun p=>Value.int p.1 p.2)∧ps.map (·.1)=ns
 | [],_,.nil=>⟨[],rfl,rfl⟩
 | n::ns,_,.cons r t=>by
  obtain⟨tk,rfl⟩:=r
  obtain⟨ps,rfl,e⟩:=T8 t
  exact⟨(n,tk)::ps,rfl,by rw[List.map_cons,e]⟩
def Gd(n:Nat)(lt:Nat→Nat→Bool){α:Type}:KasT α→(α→Prop)→Prop
 | .ret a,P=>P a
 | .ask i j k,P=>i<n∧j<n∧Gd n lt (k (lt i j)) P
theorem Gd.mono{n:Nat}{lt:Nat→Nat→Bool}{α:Type}{P P':α→Prop}(h:∀a,P a→P' a):∀{t:KasT α},Gd n lt t P→Gd n lt t P'
 | .ret a,g=>h a g
 | .ask i j k,g=>⟨g.1,g.2.1,Gd.mono h g.2.2⟩
theorem Gd.bind{n:Nat}{lt:Nat→Nat→Bool}{α β:Type}{P:β→Prop}{f:α→KasT β}:∀{t:KasT α},Gd n lt t (fun a=>Gd n lt (f a) P)→Gd n lt (t.bind f) P
 | .ret a,g=>g
 | .ask i j k,g=>⟨g.1,g.2.1,Gd.bind (t:=k (lt i j)) g.2.2⟩
theorem Gd.wp{n:Nat}{lt:Nat→Nat→Bool}{α:Type}{cmp:Nat→Nat→(Bool→Shared→Prop)→Shared→Prop}{s:Shared}(hc:∀i j C,i<n→j<n→C (lt i j) s→cmp i j C s){P:α→Prop}{Q:α→Shared→Prop}(q:∀a,P a→Q a s):∀{t:KasT α},Gd n lt t P→t.kasWp cmp Q s
 | .ret a,g=>q a g
 | .ask i j k,g=>hc i j _ g.1 g.2.1 (Gd.wp hc q (t:=k (lt i j)) g.2.2)
def ga(p:Array Nat)(k:Nat):Nat:=p.getD k 0
theorem a7P(p:Array Nat)(k:Nat):ga p k=(p[k]?).getD 0:=by
 unfold ga;simp[Array.getD_eq_getD_getElem?]
structure TPre(lt:Nat→Nat→Bool):Prop where
 irr:∀i,lt i i=false
 tr:∀i j k,lt j i=false→lt k j=false→lt k i=false
 asy:∀i j,lt i j=true→lt j i=false
section
variable {n:Nat}{lt:Nat→Nat→Bool}
def Pmn(n:Nat)(p:Array Nat):Prop:=p.toList.Perm (List.range n)
theorem Pmn.size{p:Array Nat}(h:Pmn n p):p.size=n:=by have:=h.length_eq;simpa using this
theorem Pmn.rev{p:Array Nat}(h:Pmn n p)(i j:Nat):Pmn n (kas_rev p i j):=((Array.perm_iff_toList_perm.mp (mirror_perm p i j _)).trans h)
theorem Pmn.bub{p:Array Nat}(h:Pmn n p)(i j:Nat):Pmn n (bubble p i j):=((Array.perm_iff_toList_perm.mp (bubble_perm p i j)).trans h)
theorem b0h{p:Array Nat}{i j:Nat}(hj:j≤p.size)(k:Nat):ga (kas_rev p i j) k=if i≤k∧k<j then ga p (i+j-1-k)else ga p k:=by
 rw[a7P,kas_rev,getElem?_mirror_all hj]
 split<;>rw[a7P]
end
section
variable {prog:Program}{w:World}{A:Around}{E:Value→Shared→Prop}{s:Shared}{b fin:Bool}{Q:Bool→Shared→Prop}
theorem a0o:∀{vs ws:List Value} {ns ms:List Int} (i:Nat),IntsAre vs ns→IntsAre ws ms→fin=decide (ns.length<ms.length)→Q (HT.lexLt ns ms) s→KatLex prog w A true fin Q (vs.zip ws) i s
 | _,_,_,_,i,.nil,.nil,hf,h=>by rw[List.zip_nil_left];refine kat_nil ?_;rw[hf];exact h
 | _,_,_,_,i,.nil,.cons c u t,hf,h=>by
  rw[List.zip_nil_left];refine kat_nil ?_;rw[hf,decide_eq_true (by simp)];exact h
 | _,_,_,_,i,.cons a t r,.nil,hf,h=>by
  rw[List.zip_nil_right];refine kat_nil ?_;rw[hf,decide_eq_false (by simp)];exact h
 | _,_,_,_,i,.cons (ns:=ns) a t r,.cons (ns:=ms) c u r',hf,h=>by
  rw[List.zip_cons_cons]
  rw[HT.lexLt_cons]at h
  refine kat_cons (wpAny_eqBool_int (kat_go (fun e=>?_) fun e=>?_))
  ·rw[if_pos (by simpa using e)]at h
   exact kat_yes (a0o (i+1) r r' (by rw[hf];simp) h)
  ·rw[if_neg (by simpa using e)]at h
   refine kat_no ?_
   by_cases hi:i=0
   ·subst hi
    show wpAny _ _ (oneLt' true _ _) _ _ _
    exact oneLt_int h
   ·have e0:(true && i == 0)=false:=by simpa using hi
    rw[e0]
    exact kat_one _ _ (PyProof.Rows.lt_int h)
def TupKey(h:Heap)(v:Value)(k:List Int):Prop:=∃a o xs m,v=.ref a∧h.get? a=some o∧o.cls=.type "tuple"∧o.data=.seq xs m∧IntsAre xs.toList k∧k≠[]
theorem TupKey.keeps{h h':Heap}{v:Value}{k:List Int}(t:TupKey h v k)(kp:∀a o,h.get? a=some o→h'.get? a=some o):TupKey h' v k:=by
 obtain⟨a,o,xs,m,e,ho,r⟩:=t
 exact⟨a,o,xs,m,e,kp _ _ ho,r⟩
theorem TupKey.lt{v u:Value}{k l:List Int}{C:Bool→Shared→Prop}{E:Value→Shared→Prop}(t:TupKey s.heap v k)(t':TupKey s.heap u l)(h:C (HT.lexLt k l) s):wpAny (model prog w) A (keyLt' (tuples' true) v u) C E s:=by
 obtain⟨a,o,xs,m,rfl,ho,_,hd,hi,_⟩:=t
 obtain⟨a',o',xs',m',rfl,ho',_,hd',hi',_⟩:=t'
 have z1:xs.size=k.length:=by rw[← hi.length];simp
 have z2:xs'.size=l.length:=by rw[← hi'.length];simp
 exact kat_lt ho hd ho' hd' (a0o 0 hi hi' (by rw[z1,z2]) h)
def TKs(h:Heap):List Value→List (List Int)→Prop
 | [],[]=>True
 | v::vs,k::ks=>TupKey h v k∧TKs h vs ks
 | _,_=>False
theorem TKs.keeps{h h':Heap}(kp:∀a o,h.get? a=some o→h'.get? a=some o):∀{vs:List Value} {ks:List (List Int)},TKs h vs ks→TKs h' vs ks
 | [],[],_=>trivial
 | [],_::_,t=>t.elim
 | _::_,[],t=>t.elim
 | v::vs,k::ks,t=>⟨t.1.keeps kp,TKs.keeps kp t.2⟩
theorem TKs.len{h:Heap}:∀{vs:List Value} {ks:List (List Int)},TKs h vs ks→vs.length=ks.length
 | [],[],_=>rfl
 | [],_::_,t=>t.elim
 | _::_,[],t=>t.elim
 | v::vs,k::ks,t=>by simp[t.2.len]
theorem TKs.at{h:Heap}:∀{vs:List Value} {ks:List (List Int)} (i:Nat),TKs h vs ks→i<vs.length→TupKey h (vs.getD i Value.none) (ks.getD i [])
 | [],_,i,_,hi=>absurd hi (Nat.not_lt_zero _)
 | _::_,[],_,t,_=>t.elim
 | v::vs,k::ks,0,t,_=>t.1
 | v::vs,k::ks,i+1,t,hi=>TKs.at (vs:=vs) (ks:=ks) i t.2 (by simpa using hi)
end
theorem a5o:bootBuiltins "sorted" = some (.builtin "sorted"):=by decide +kernel
theorem X9:∀ps:List (Int×Tok),IntsAre (ps.map fun p=>Value.int p.1 p.2) (ps.map (·.1))
 | []=>.nil
 | p::ps=>.cons p.1 p.2 (X9 ps)
namespace F'
end F'
open PySem PySem.Spec PyProof.Rows PySem.W
abbrev TH:=Value→Option Addr→Addr→Ends→St→Hp→Prop
def PH(X:Cx)(hs:List ExceptHandler)(th:TH):Prop :=
 ∀(pins:List (Addr×Obj)) (s:Shared) (σ:St) (H:Hp) (a:Addr) (cls:Value) (cx:Option Addr) (B:Heap) (D:Ends),Inv X pins σ H s→XAt X pins H s a cls cx B .fly→th cls cx a D σ H→wpAny (model X.prog X.w) X.A (handleBy (.ref a) X.env hs) (SP X pins D) X.xe s
def a7Q:TH:=fun _ _ _ _ _ _=>False
def b0i(K:W.Frag)(C:Addr)(i:Nat)(ts:Addr→TS)(b7:TH):TH:=fun cls cx a D σ H =>
 (W.exmOne K cls (.ref C)=some true∧ts a { nx:=fun σ' H2=>D.nx (σ'.set i none) H2,rt:=D.rt,bk:=fun σ' H2=>D.bk (σ'.set i none) H2,ct:=fun σ' H2=>D.ct (σ'.set i none) H2 } (σ.set i (some (.ref a))) (upd H a (B3 a cls cx)))∨(W.exmOne K cls (.ref C)=some false∧b7 cls cx a D σ H)
section
variable {X:Cx}
theorem a5p:PH X [] a7Q:=fun _ _ _ _ _ _ _ _ _ _ _ h=>h.elim
theorem a7R{x n:Str}{i:Nat}{C:Addr}{suite:List Stmt}{b₀:Stmt}{np hpos:Pos}{hs:List ExceptHandler}{ts:Addr→TS}{b7:TH}(hg:Gl X x)(hm:X.mg x=some (.ref C))(hN:X.N.Nodup)(hi:X.N[i]? = some n)(hh:∀a,PSs (X.inExc a).nox (b₀::suite) (ts a))(hr:PH X hs b7)
  (hl:X.env.scope.names.lookup n=some .local:=by rfl) (hd:(x == ("__debug__" : Str))=false:=by decide):PH X (.ExceptHandler (some (.Name x np)) (some n) (b₀::suite) hpos::hs) (b0i X.K C i ts b7):=by
 intro pins s σ H a cls cx B D I x4 h
 have ok:=I.ok
 refine wpAny_handleBy_cons (codeAny_handlers_test (N5 (I.toExc (a:=a)) hg hm ?_ hd)) (by intro q;cases q)
 obtain⟨oe,vs,e,hc,d,_⟩:=x4.tr.there
 have LT:W.Looks (model X.prog X.w) s.heap (typeOf (.ref a)) cls:=hc▸(W.Looks.ld e).andThen .now
 rcases h with⟨hx,hsu⟩ | ⟨hx,hn⟩
 ·refine(W.exm_one I.kIn LT hx).here ?_
  refine codeAny_handlers_suite_as ?_
  refine a1y I x4 (fun z=>nomatch z) fun h5 I5 x5=>?_
  have I6:=(I5.track x5).toExc (a:=a)
  refine T3 (X:=X.inExc a) (v:=.ref a) I6 hN hi (.inl hl) rfl (fun s6 I7=>?_) (.inr hl)
  refine wpAny_mono (hh a pins s6 _ _ _ (I7.wish _) hsu) (fun f s7 q=>?_) fun _ _ z=>z.elim
  have q:=(q.unwish).ofExc ok
  cases f with
  | next =>
   obtain⟨σ7,H7,I8,q⟩:=q
   exact I8.nameGoes hN hi hl fun h8 I9=>⟨_,H7,I9,q⟩
  | brk =>
   obtain⟨σ7,H7,I8,q⟩:=q
   exact I8.nameGoes hN hi hl fun h8 I9=>⟨_,H7,I9,q⟩
  | cont =>
   obtain⟨σ7,H7,I8,q⟩:=q
   exact I8.nameGoes hN hi hl fun h8 I9=>⟨_,H7,I9,q⟩
  | ret u =>
   obtain⟨v7,σ7,H7,I8,r,q⟩:=q
   exact I8.nameGoes hN hi hl fun h8 I9=>⟨v7,_,H7,I9,r,q⟩
 ·refine(W.exm_one I.kIn LT hx).here ?_
  exact hr pins s σ H a cls cx B D I x4 hn
def XAccAt(X:Cx)(σ:St)(E:XK):Prop:=∀(pins:List (Addr×Obj)) (H:Hp) (s:Shared) (a:Addr) (cls:Value) (cx:Option Addr) (B:Heap) (ph:Ph),Inv X pins σ H s→XAt X pins H s a cls cx B ph→E cls cx H→X.xe (.ref a) s
theorem XAccAt.passes{σ:St}{E:XK}(acc:XAccAt X σ E):∀(pins:List (Addr×Obj)) (H:Hp) (s:Shared) (e:Value) (s':Shared),Inv X pins σ H s→m4 X.prog X.w X.stack H s E e s'→X.xe e s':=by
 intro pins H s e s' I h
 obtain⟨a,cls,cx,H',B,rfl,os,bare,un,hok,st,fr,ff,tr,free,cov,hE⟩:=h
 have I':Inv X pins σ H' s':=I.call' (ch:=[]) os un hok bare (fun b z=>absurd z (by simp))
 refine acc pins H' s' a cls cx B .fly I' ⟨free,st,fr,ff,fun b o e i n=>cov b o e ?_ n,tr⟩ hE
 rcases i with i | ⟨hx,o',i⟩ | ⟨p,hp,q⟩
 ·exact .inl i
 ·exact .inr (I.base.there b o' i hx)
 ·exact .inr ⟨p.2,by rw[← q];exact(I.pin p hp).1⟩
theorem a8v{k k':Nat}{ps:List Str}{sp:Sp}{x:Str}{p pos:Pos}{e:Expr}{es:List Expr}{t:TA}{E:XK}{σ:St}(G:Own X.prog X.w X.K X.mg X.base k x ps sp)(hr:Room k' X.A)(hk:k≤k')(acc:XAccAt X σ E)(ha:PA X (e::es) t)(hg:Gl X x)
  (hdb:(x == ("__debug__" : Str))=false:=by decide) (he:starEach (e::es) X.env=(false,eval e X.env)::starEach es X.env:=by rfl) (hpl:(backTo pos (starEach es X.env)).any (·.1)=false:=by rfl)
  {pins:List (Addr×Obj)} {s:Shared} {H:Hp} {Q:VK} (I:Inv X pins σ H s) (h:M9 sp [] E t σ H Q):wpAny (model X.prog X.w) X.A (eval (.Call (.Name x p) (e::es) [] pos) X.env) (EP X pins σ Q) X.xe s:=by
 obtain⟨f,fd,F,b,kp,m⟩:=G.ex
 refine wpAny_Call_Name_kw (N5 I hg m ?_ hdb)
 refine W.callWith_K (h₀:=X.base) I.ok.mod.kin kp (h7 (ha pos pins s σ H _ I h) fun us s1 ⟨vs,H1,I1,r,q⟩=>⟨I1.kIn,?_⟩) he hpl
 have q:sp (vs++[]) H1 Q E:=q
 rw[List.append_nil]at q
 have hl:us.length=ps.length:=by rw[← r.length];exact F.len _ _ _ _ q
 have hb:=b s1 us I1.kIn (by rw[List.append_nil];exact hl)
 rw[List.append_nil]at hb
 refine wpAny_call (codeAny_mono (F.run X.A X.stack s1 H1 ⟨us,[]⟩ us vs Q E (hr.mono hk) I1.env0 hb r q) fun r s' hq=>?_)
 cases r with
 | error e=>exact acc.passes pins H1 s1 e s' I1 hq
 | ok fl =>
  cases fl with
  | ret u=>exact I1.after hq
  | next=>exact False.elim hq
  | brk=>exact False.elim hq
  | cont=>exact False.elim hq
end
def a7S(K:W.Frag):List V→Hp→VK→Prop:=fun xs H Q=>∃(a:Addr) (ns:List Int),xs=[.ref a]∧SqL K H a (ns.map V.int)∧ns≠[]∧∀m,m∈ns→(∀n∈ns,m≤n)→Q (.int m) H
section
variable {X:Cx}
theorem a4v{K:W.Frag}(hc:X.calm=true:=by rfl)(hK:X.K=K:=by rfl):J4 X (.builtin "min") (a7S K):=by
 subst hK
 intro pins s σ H xs us Q I r h
 obtain⟨a,ns,rfl,hq,hne,q⟩:=h
 obtain⟨u,rfl,ru⟩:=r.one
 cases (show u=Value.ref a from ru)
 obtain⟨its,rv,pl,hz⟩:=I.list hq
 obtain⟨ps,rfl,e⟩:=T8 rv
 have el:(ps.map fun p=>Value.int p.1 p.2).toArray=intItems ps.toArray:=by unfold intItems;simp
 have hT:s.heap.IsList a (intItems ps.toArray):=by rw[← el];exact pl.isList
 have hlt:a<s.heap.objs.size:=by obtain⟨_,e,_⟩:=hT;exact Heap.lt_size e
 have hsz:(intItems ps.toArray).size=ps.length:=by simp[intItems]
 have hps:0<ps.length:=by
  cases ps with
  | nil=>exact absurd e.symm hne
  | cons _ _=>exact Nat.succ_pos _
 refine call_min_walk (wpAny_pyIter_list hT ?_)
 refine⟨_,[_,a],[_],_,_,_,_,rfl,Walks.list (A:=X.A.in1) (I.ok.hd hc) _ a (Nat.ne_of_lt hlt) (intItems ps.toArray),
  ⟨⟨_,Heap.get?_push_size _ rfl,rfl,rfl⟩,hT.push _⟩,fun c hc=>?_,by rw[hsz];exact hps,CmpOf.ints_lt (numAt ps.toArray) (fun _ _=>intItems_at),fun v h' tk hP hk=>?_⟩
 ·show c<(s.heap.push _).objs.size
  rw[Heap.size_push]
  rcases List.mem_cons.mp hc with rfl | hc
  ·exact Nat.lt_succ_self _
  ·rcases List.mem_cons.mp hc with rfl | hc
   ·exact Nat.lt_succ_of_lt hlt
   ·cases hc
 ·have hold:∀c o,s.heap.get? c=some o→h'.get? c=some o:=fun c o e=>by
   refine hk c o (fun hm=>?_) (Heap.get?_push_of_some _ e)
   rcases List.mem_cons.mp hm with e1 | hm
   ·have:=Heap.lt_size e;rw[e1]at this;exact Nat.lt_irrefl _ this
   ·cases hm
  have hP':(intItems ps.toArray)[argBest (fun i j=>decide (numAt ps.toArray i<numAt ps.toArray j)) (ps.length-1)]? = some v:=by rw[← hsz];exact hP
  obtain⟨b1,b2⟩:=argBest_lt (numAt ps.toArray) (ps.length-1)
  generalize argBest (fun i j=>decide (numAt ps.toArray i<numAt ps.toArray j)) (ps.length-1)=k at hP' b1 b2
  have hk2:k<ps.length:=by omega
  have num:∀j (hj:j<ps.length),numAt ps.toArray j=ps[j].1:=fun j hj=>by
   unfold numAt
   simp[hj]
  obtain⟨t,rfl⟩:=intItems_at hP'
  rw[num k hk2]
  refine⟨.int ps[k].1,H,I.kept hold,⟨t,rfl⟩,q _ ?_ fun n m=>?_⟩
  ·rw[← e];exact List.mem_map.mpr ⟨ps[k],List.getElem_mem hk2,rfl⟩
  ·rw[← e]at m
   obtain⟨p,mp,rfl⟩:=List.mem_map.mp m
   obtain⟨j,hj,rfl⟩:=List.mem_iff_getElem.mp mp
   have:=b2 j (by omega)
   rw[num k hk2,num j hj]at this
   exact this
end
section
variable {prog:Program}{w:World}{A:Around}{E:Value→Shared→Prop}{s:Shared}{fin:Bool}{Q:Bool→Shared→Prop}
theorem a02{rs rs':List Value}:∀{vs ws:List Value} {ns ms:List Int} (i:Nat),IntsAre vs ns→IntsAre ws ms→ns.length=ms.length→ns≠ms→Q (HT.lexLt ns ms) s→KatLex prog w A true fin Q ((vs++rs).zip (ws++rs')) i s
 | _,_,_,_,i,.nil,.nil,_,hn,_=>absurd rfl hn
 | _,_,_,_,i,.nil,.cons c u t,hf,_,_=>by simp at hf
 | _,_,_,_,i,.cons a t r,.nil,hf,_,_=>by simp at hf
 | _,_,_,_,i,.cons (ns:=ns) a t r,.cons (ns:=ms) c u r',hf,hn,h=>by
  rw[List.cons_append,List.cons_append,List.zip_cons_cons]
  rw[HT.lexLt_cons]at h
  refine kat_cons (wpAny_eqBool_int (kat_go (fun e=>?_) fun e=>?_))
  ·have e':a=c:=by simpa using e
   rw[if_pos e']at h
   exact kat_yes (a02 (i+1) r r' (by simpa using hf) (fun z=>hn (by rw[e',z])) h)
  ·rw[if_neg (by simpa using e)]at h
   refine kat_no ?_
   by_cases hi:i=0
   ·subst hi
    show wpAny _ _ (oneLt' true _ _) _ _ _
    exact oneLt_int h
   ·have e0:(true && i == 0)=false:=by simpa using hi
    rw[e0]
    exact kat_one _ _ (PyProof.Rows.lt_int h)
def TupPre(h:Heap)(v:Value)(k:List Int):Prop:=∃a o xs m vs rs,v=.ref a∧h.get? a=some o∧o.cls=.type "tuple"∧o.data=.seq xs m∧xs.toList=vs++rs∧IntsAre vs k∧k≠[]∧∀u∈xs.toList,(u == u)=true
theorem TupPre.keeps{h h':Heap}{v:Value}{k:List Int}(t:TupPre h v k)(kp:∀a o,h.get? a=some o→h'.get? a=some o):TupPre h' v k:=by
 obtain⟨a,o,xs,m,vs,rs,e,ho,r⟩:=t
 exact⟨a,o,xs,m,vs,rs,e,kp _ _ ho,r⟩
theorem TupPre.lt{v u:Value}{k l:List Int}{C:Bool→Shared→Prop}(t:TupPre s.heap v k)(t':TupPre s.heap u l)(hl:k.length=l.length)(hn:k≠l)(h:C (HT.lexLt k l) s):wpAny (model prog w) A (keyLt' (tuples' true) v u) C E s:=by
 obtain⟨a,o,xs,m,vs,rs,rfl,ho,_,hd,hx,hi,_⟩:=t
 obtain⟨a',o',xs',m',vs',rs',rfl,ho',_,hd',hx',hi',_⟩:=t'
 refine kat_lt ho hd ho' hd' ?_
 rw[hx,hx']
 exact a02 0 hi hi' hl hn h
def TPs(h:Heap):List Value→List (List Int)→Prop
 | [],[]=>True
 | v::vs,k::ks=>TupPre h v k∧TPs h vs ks
 | _,_=>False
theorem TPs.keeps{h h':Heap}(kp:∀a o,h.get? a=some o→h'.get? a=some o):∀{vs:List Value} {ks:List (List Int)},TPs h vs ks→TPs h' vs ks
 | [],[],_=>trivial
 | [],_::_,t=>t.elim
 | _::_,[],t=>t.elim
 | v::vs,k::ks,t=>⟨t.1.keeps kp,TPs.keeps kp t.2⟩
theorem TPs.at{h:Heap}:∀{vs:List Value} {ks:List (List Int)} (i:Nat),TPs h vs ks→i<vs.length→TupPre h (vs.getD i Value.none) (ks.getD i [])
 | [],_,i,_,hi=>absurd hi (Nat.not_lt_zero _)
 | _::_,[],_,t,_=>t.elim
 | v::vs,k::ks,0,t,_=>t.1
 | v::vs,k::ks,i+1,t,hi=>TPs.at (vs:=vs) (ks:=ks) i t.2 (by simpa using hi)
end
theorem a2n{pos:Pos}{a b:Int}{c cv:Value}(l:List Value)(h:TriplesOk l)(e:codeAmong pos (l++[rawInt a,rawInt b,c])=some cv):codeAmong pos l=some cv∨cv=c:=by
 fun_induction TriplesOk l with
 | case1 =>
  simp only[List.nil_append,codeAmong,rawInt]at e
  split at e
  ·exact .inr (Option.some.inj e).symm
  ·cases e
 | case2 a t b u x b7 ih =>
  simp only[List.cons_append,codeAmong]at e ⊢
  split at e
  ·exact .inl (by rename_i z;rw[if_pos z];exact e)
  ·rename_i z;rw[if_neg z];exact ih h e
 | case3=>exact h.elim
def b1r(oc:Obj)(q:Str):Prop:=∃vs t,oc.data=.fields vs∧vs[1]? = some (.str q t)
section
variable {X:Cx}{pins:List (Addr×Obj)}{σ:St}{H:Hp}{s:Shared}{params:Arguments}{body:Expr}{scope:Scope}{lpos:Pos}{c P:Addr}{q:Str}{tq:Tok}{qs:Array Value}{Q:Value→Shared→Prop}{E:Value→Shared→Prop}
theorem Inv.grown{h':Heap}{tk:Nat}{c':Addr}{oc:Obj}{ps:Array Value}{a b:Int}(I:Inv X pins σ H s)(hT:H P=some (.tbl qs))(hqs:qs[0]? = some (Value.str q tq))(eP:s.heap.get? P=some (tabObj ps))(tr:TriplesOk ps.toList)
  (al:∀pos cv,codeAmong pos ps.toList=some cv→∃c oc u,cv=Value.ref c∧H c=some (.frz oc u)∧∃vs q' t t2,oc.data=.fields vs∧vs[1]? = some (Value.str q' t2)∧qs[0]? = some (Value.str q' t))
  (hx:Heap.ExtBut P s.heap h') (hge:s.heap.objs.size≤c') (hoc:h'.get? c'=some oc) (hq:b1r oc q) (htb:h'.get? P=some (tabObj (ps ++ #[rawInt a,rawInt b,.ref c']))) :
  Inv X pins σ (upd H c' (.frz oc (.own c'))) { s with heap:=h',toks:=tk }:=by
 have hn:H c'=none:=I.hok.fresh hge
 have neP:∀b',H b'=none→b'≠P:=fun b' n z=>by rw[z,hT]at n;cases n
 refine I.un (t':=tk) ⟨fun b o e n _ _=>hx b o (neP b n) e,fun b o e n _ _=>⟨o.slots,hx b o (neP b n) e⟩,fun b o e n _=>by rw[a7 (Nat.ne_of_lt (Nat.lt_of_lt_of_le (Heap.lt_size e) hge))];exact n,fun b o e _=>?_,fun b xs e=>by rw[a7 (d5 e hn)];exact e,fun b o u e=>by rw[a7 (d5 e hn)];exact e,fun b qs e=>⟨#[],by rw[a7 (d5 e hn),e];simp⟩⟩ fun b u e=>?_
 ·by_cases z:b=P
  ·rw[z];exact⟨_,htb⟩
  ·exact⟨o,hx b o z e⟩
 ·by_cases z:b=c'
  ·subst z
   rw[c8]at e;cases e
   exact⟨hoc,oc,hoc⟩
  ·rw[a7 z]at e
   by_cases y:b=P
   ·subst y
    rw[hT]at e;cases e
    refine⟨_,htb,by rw[Array.toList_append];exact TriplesOk_snoc _ _ _ _ tr,fun pos cv e=>?_⟩
    rw[Array.toList_append]at e
    rcases a2n _ tr e with e | rfl
    ·obtain⟨c,o,u,e1,e2,r⟩:=al pos cv e
     exact⟨c,o,u,e1,by rw[a7 (d5 e2 hn)];exact e2,r⟩
    ·obtain⟨vs,t,d1,d2⟩:=hq
     exact⟨c',oc,.own c',rfl,c8,vs,q,tq,t,d1,d2,hqs⟩
   ·refine(I.hok b u e).stay (fun d v hd r=>hx d v ?_ r) (fun d r=>by rw[a7 (d5 r hn)];exact r) (fun d xs r=>by rw[a7 (d5 r hn)];exact r) fun d o u r=>by rw[a7 (d5 r hn)];exact r
    rcases hd with rfl | hd
    ·exact y
    ·intro z;rw[z,hT]at hd;cases hd
end
section
variable {X:Cx}{pins:List (Addr×Obj)}{σ:St}{H:Hp}{s:Shared}{A':Around}{E:Value→Shared→Prop}
theorem FpOk.to{H':Hp}{b:Addr}(f:FpOk X pins H b)(n:H' b=none):FpOk X pins H' b:=⟨n,f.2⟩
end
def TbAt(P:Addr)(q:Str)(H:Hp):Prop:=∃(qs:Array Value) (t:Tok),H P=some (.tbl qs)∧qs[0]? = some (Value.str q t)
theorem TbAt.now{P:Addr}{q:Str}{fs ex:List Addr}{H H':Hp}{h h':Heap}(t:TbAt P q H)(u:Un fs ex H H' h h'):TbAt P q H':=by
 obtain⟨qs,t,e,e2⟩:=t
 obtain⟨more,e3⟩:=u.tbls _ _ e
 refine⟨_,t,e3,?_⟩
 have h0:0<qs.size:=by
  by_cases z:0<qs.size
  ·exact z
  ·rw[Array.getElem?_eq_none (by omega)]at e2;cases e2
 rw[Array.getElem?_append_left h0];exact e2
def TbAll(TB:List (Addr×Str))(H:Hp):Prop:=∀P q,TB.lookup P=some q→TbAt P q H
theorem TbAll.now{TB:List (Addr×Str)}{fs ex:List Addr}{H H':Hp}{h h':Heap}(t:TbAll TB H)(u:Un fs ex H H' h h'):TbAll TB H':=fun P q e=>(t P q e).now u
end L2
namespace HT
open PySem PyProof.Rows
end HT
namespace L2
open PySem PySem.Spec PyProof.Rows
open PySem.W
def Rise(a:Array Nat):Prop:=a.toList.Pairwise (· < ·)
theorem Rise.lt{a:Array Nat}(h:Rise a){i j:Nat}(hij:i<j)(hj:j<a.size):a.getD i 0<a.getD j 0:=by
 have hi:i<a.size:=Nat.lt_trans hij hj
 have:=List.pairwise_iff_getElem.mp h i j (by simpa using hi) (by simpa using hj) hij
 simpa [Array.getD,hi,hj]using this
theorem a0u(xs:Array Nat)(j:Nat)(hr:Rise xs):∀(fuel lo hi:Nat),hi-lo≤fuel→lo≤hi→hi≤xs.size→(∀i,i<lo→xs.getD i 0<j)→(∀i,hi≤i→i<xs.size→j≤xs.getD i 0) →
  SetTable.below.go xs j fuel lo hi≤xs.size∧(∀i,i<SetTable.below.go xs j fuel lo hi→xs.getD i 0<j)∧(∀i,SetTable.below.go xs j fuel lo hi≤i→i<xs.size→j≤xs.getD i 0)
 | 0,lo,hi,hf,hl,hs,h1,h2=>by
  rw[SetTable.below.go.eq_def]
  exact⟨by show lo≤_;omega,h1,fun i hi' hi2=>h2 i (by have:lo≤i:=hi';omega) hi2⟩
 | fuel+1,lo,hi,hf,hl,hs,h1,h2=>by
  rw[SetTable.below.go.eq_def]
  show(if lo<hi then(if xs.getD ((lo+hi)/2) j<j then SetTable.below.go xs j fuel ((lo+hi)/2+1) hi else SetTable.below.go xs j fuel lo ((lo+hi)/2))else lo)≤xs.size∧(∀i,i<(if lo<hi then(if xs.getD ((lo+hi)/2) j<j then SetTable.below.go xs j fuel ((lo+hi)/2+1) hi else SetTable.below.go xs j fuel lo ((lo+hi)/2))else lo)→xs.getD i 0<j)∧(∀i,(if lo<hi then(if xs.getD ((lo+hi)/2) j<j then SetTable.below.go xs j fuel ((lo+hi)/2+1) hi else SetTable.below.go xs j fuel lo ((lo+hi)/2))else lo)≤i→i<xs.size→j≤xs.getD i 0)
  by_cases c:lo<hi
  ·rw[if_pos c]
   have hm:(lo+hi)/2<xs.size:=by omega
   have e:xs.getD ((lo+hi)/2) j=xs.getD ((lo+hi)/2) 0:=by simp[Array.getD,hm]
   by_cases c2:xs.getD ((lo+hi)/2) j<j
   ·rw[if_pos c2]
    refine a0u xs j hr fuel _ hi (by omega) (by omega) hs (fun i hi'=>?_) h2
    by_cases z:i=(lo+hi)/2
    ·rw[z,← e];exact c2
    ·have:=hr.lt (i:=i) (j:=(lo+hi)/2) (by omega) hm
     omega
   ·rw[if_neg c2]
    refine a0u xs j hr fuel lo _ (by omega) (by omega) (by omega) h1 (fun i hi' hi2=>?_)
    by_cases z:i=(lo+hi)/2
    ·rw[z,← e];omega
    ·have:=hr.lt (i:=(lo+hi)/2) (j:=i) (by omega) hi2
     omega
  ·rw[if_neg c]
   exact⟨by omega,h1,fun i hi' hi2=>h2 i (by omega) hi2⟩
theorem a2Q{xs:Array Nat}(j:Nat)(hr:Rise xs):SetTable.below xs j≤xs.size∧(∀i,i<SetTable.below xs j→xs.getD i 0<j)∧(∀i,SetTable.below xs j≤i→i<xs.size→j≤xs.getD i 0) :=
 a0u xs j hr xs.size 0 xs.size (by omega) (by omega) (Nat.le_refl _) (fun i h=>by omega) (fun i h h2=>by omega)
theorem a6z{xs:Array Nat}{j p:Nat}(hr:Rise xs)(hp:p≤xs.size)(h1:∀i,i<p→xs.getD i 0<j)(h2:∀i,p≤i→i<xs.size→j≤xs.getD i 0):SetTable.below xs j=p:=by
 obtain⟨a,b,c⟩:=a2Q j hr
 by_cases z:SetTable.below xs j<p
 ·have:=h1 _ z
  have:=c _ (Nat.le_refl _) (by omega)
  omega
 ·by_cases z2:p<SetTable.below xs j
  ·have:=b _ z2
   have:=h2 _ (Nat.le_refl _) (by omega)
   omega
  ·omega
theorem a6A{t:SetTable}{j:Nat}(hr:Rise t.place)(hj:(t.place[SetTable.below t.place j]? == some j)=false):Rise (t.put j).1.place:=by
 obtain⟨a,b,c⟩:=a2Q j hr
 show(SetTable.insertAt t.place (SetTable.below t.place j) j).toList.Pairwise (· < ·)
 rw[SetTable.toList_insertAt,List.pairwise_append]
 have hn:∀i,SetTable.below t.place j≤i→i<t.place.size→j<t.place.getD i 0:=by
  intro i h1 h2
  have h3:=c i h1 h2
  by_cases z:t.place.getD i 0=j
  ·exfalso
   have:i=SetTable.below t.place j:=by
    by_cases q:SetTable.below t.place j<i
    ·have:=hr.lt q h2
     have:=c (SetTable.below t.place j) (Nat.le_refl _) (by omega)
     omega
    ·omega
   rw[← this]at hj
   have e:t.place[i]? = some j:=by rw[Array.getElem?_eq_getElem h2];congr 1;simpa [Array.getD,h2]using z
   rw[e]at hj
   simp at hj
  ·omega
 have mt:∀x∈t.place.toList.take (SetTable.below t.place j),x<j:=by
  intro x hx
  obtain⟨i,hi,e⟩:=List.getElem_of_mem hx
  rw[List.length_take]at hi
  rw[List.getElem_take]at e
  have hi3:t.place.toList.length=t.place.size:=by simp
  have hi2:i<t.place.size:=by omega
  have:=b i (by omega)
  simp[Array.getD,hi2]at this
  simp at e
  omega
 have md:∀x∈t.place.toList.drop (SetTable.below t.place j),j<x:=by
  intro x hx
  obtain⟨i,hi,e⟩:=List.getElem_of_mem hx
  rw[List.length_drop]at hi
  rw[List.getElem_drop]at e
  have hi3:t.place.toList.length=t.place.size:=by simp
  have hi2:SetTable.below t.place j+i<t.place.size:=by omega
  have:=hn (SetTable.below t.place j+i) (by omega) hi2
  simp[Array.getD,hi2]at this
  simp at e
  omega
 refine⟨List.Pairwise.sublist (List.take_sublist _ _) hr,List.pairwise_cons.mpr ⟨md,List.Pairwise.sublist (List.drop_sublist _ _) hr⟩,fun x hx y hy=>?_⟩
 rcases List.mem_cons.mp hy with rfl | hy
 ·exact mt x hx
 ·have:=mt x hx
  have:=md y hy
  omega
structure TbR(led:Bool)(t:SetTable):Prop where
 rise:Rise t.place
 dum:t.dummies = #[]
 led:t.led=led
theorem TbR.standIn{led:Bool}{t:SetTable}(T:TbR led t)(n:Nat):TbR led (t.standIn n):=by
 refine⟨?_,rfl,T.led⟩
 show(Array.range n).toList.Pairwise (· < ·)
 rw[Array.toList_range]
 exact List.pairwise_lt_range
theorem TbR.orStandIn{led:Bool}{t:SetTable}(T:TbR led t)(n:Nat):TbR led (t.orStandIn n):=by
 unfold SetTable.orStandIn
 split
 ·exact T
 ·exact T.standIn n
theorem a3R(j:Nat):SetTable.has #[] j=false:=by
 unfold SetTable.has
 simp
theorem a2R{t:SetTable}(hd:t.dummies = #[])(ha:Nat→Int)(h:Int):∀(fuel:Nat) (p:SetTable.Probe),p.dummy=none→∀j d,SetTable.probe.go t ha h fuel p=some (.empty j d)→d=none∧(t.place[SetTable.below t.place j]? == some j)=false
 | 0,p,_,j,d,e=>by rw[SetTable.probe.go.eq_def]at e;cases e
 | fuel+1,p,hp,j,d,e=>by
  rw[SetTable.probe.go.eq_def]at e
  have adv:(t.advance p).dummy=none:=by
   unfold SetTable.advance
   split
   ·exact hp
   ·exact hp
  have e:(match t.slot p.j with
   | SetTable.Slot.empty=>some (SetTable.Met.empty p.j p.dummy)
   | SetTable.Slot.dummy=>SetTable.probe.go t ha h fuel (t.advance { j:=p.j,more:=p.more,i:=p.i,perturb:=p.perturb,dummy:=some p.j })
   | SetTable.Slot.live i=>if(ha i == h)=true then some (SetTable.Met.candidate p.j i (t.advance p))else SetTable.probe.go t ha h fuel (t.advance p))=some (.empty j d):=e
  split at e
  ·rename_i hs
   injection e with e
   injection e with e1 e2
   subst e1
   refine⟨by rw[← e2];exact hp,?_⟩
   unfold SetTable.slot at hs
   by_cases z:(t.place[SetTable.below t.place p.j]? == some p.j)=true
   ·rw[if_pos z]at hs;cases hs
   ·simpa using z
  ·rename_i hs
   exfalso
   unfold SetTable.slot at hs
   rw[hd,a3R]at hs
   by_cases z:(t.place[SetTable.below t.place p.j]? == some p.j)=true
   ·rw[if_pos z]at hs;cases hs
   ·rw[if_neg z,if_neg (by decide)]at hs;cases hs
  ·split at e
   ·cases e
   ·exact a2R hd ha h fuel _ adv j d e
theorem a5q{led:Bool}{t:SetTable}(T:TbR led t)(es:Array (Int×Value))(h:Int)(x:Value):TbR led (layNew t es h x).2.1:=by
 unfold layNew
 cases e:t.freeSlot h with
 | none=>exact T.standIn _
 | some q =>
  obtain⟨slot,wd⟩:=q
  show TbR led ((t.put slot).1.orStandIn _)
  refine TbR.orStandIn (t:=(t.put slot).1) ⟨?_,?_,T.led⟩ _
  ·unfold SetTable.freeSlot at e
   split at e
   ·rename_i j d hp
    obtain⟨h1,h2⟩:=a2R T.dum _ h _ (t.probeStart h) rfl j d hp
    subst h1
    injection e with e
    injection e with e1 e2
    have e1:j=slot:=e1
    subst e1
    exact a6A T.rise h2
   ·cases e
  ·show(if SetTable.has t.dummies slot=true then _ else t.dummies) = #[]
   rw[T.dum,a3R]
   rfl
theorem a3p{led:Bool}{t:SetTable}(T:TbR led t)(es:Array (Int×Value))(wanted:Nat):TbR led (relayAll t es wanted).2.1:=by
 unfold relayAll
 cases e:t.relaid (Array.map (fun x=>x.fst) es) wanted with
 | none=>exact T.standIn _
 | some q =>
  obtain⟨t',order⟩:=q
  show TbR led (if _ then _ else _:_×_×_).2.1
  split
  ·show TbR led t'
   unfold SetTable.relaid SetTable.laid at e
   cases e2:SetTable.layClean (SetTable.sizeAbove wanted-1) (Array.map (fun x=>x.fst) es)with
   | none=>rw[e2]at e;cases e
   | some owner =>
    rw[e2]at e
    have e:=Option.some.inj e
    injection e with e1 e3
    rw[← e1]
    refine⟨?_,rfl,T.led⟩
    show(List.map (fun x=>x.fst) (List.filterMap (fun j=>Option.map (fun x=>(j,x)) (owner.getD j none)) (List.range (SetTable.sizeAbove wanted-1+1)))).toArray.toList.Pairwise (· < ·)
    rw[List.toList_toArray,List.pairwise_map]
    refine List.Pairwise.filterMap _ (R:=(· < ·)) ?_ List.pairwise_lt_range
    intro a b hab x hx y hy
    cases ea:owner.getD a none with
    | none=>simp[ea]at hx
    | some u=>cases eb:owner.getD b none with
     | none=>simp[eb]at hy
     | some v =>
      simp[ea]at hx
      simp[eb]at hy
      subst hx;subst hy
      exact hab
  ·exact T.standIn _
def B4(e:Int×Value):Int:=match e.2 with
 | .int k _=>k
 | _=>0
def IsI(e:Int×Value):Prop:=∃k t,e=(hashInt k,Value.int k t)
structure SetR(w:World)(h:Heap)(a:Addr)(L:List Int):Prop where
 ex:∃o es ep t,h.get? a=some o∧o.ExactSet∧o.data=.set es ep t∧(∀e∈es.toList,IsI e)∧(es.toList.map B4).Nodup∧(∀k,k∈es.toList.map B4↔k∈L)∧es.size<scanBound∧t.fits es.size=true∧TbR (!w.params.followText "set-order") t
section
variable {prog:Program}{w:World}{A:Around}{E:Value→Shared→Prop}{s:Shared}
theorem P8(k:Int)(t:Tok):Value.isInt k (.int k t)=true:=by simp[Value.isInt]
theorem a5r{k j:Int}{t:Tok}:Value.isInt k (.int j t)=true↔j=k:=by
 constructor
 ·intro h;simp[Value.isInt]at h;exact h
 ·rintro rfl;exact P8 _ _
theorem a0v{es:List (Int×Value)}(h:∀e∈es,IsI e):ElemsOf (intKind prog w) es:=by
 intro e he
 obtain⟨k,t,rfl⟩:=h e he
 exact⟨⟨k,P8 k t,rfl⟩,rfl⟩
theorem a8w{es:List (Int×Value)}(h:∀e∈es,IsI e)(k:Int):(∃j,List.findIdx? (fun e=>Value.isInt k e.snd) es=some j∧k∈es.map B4)∨(List.findIdx? (fun e=>Value.isInt k e.snd) es=none∧k ∉ es.map B4):=by
 have hi:∀e∈es,(Value.isInt k e.snd=true↔B4 e=k):=by
  intro e he
  obtain⟨j,t,rfl⟩:=h e he
  exact a5r
 cases e:List.findIdx? (fun e=>Value.isInt k e.snd) es with
 | none =>
  refine .inr ⟨rfl,fun m=>?_⟩
  obtain⟨x,hx,hk⟩:=List.mem_map.mp m
  rw[List.findIdx?_eq_none_iff]at e
  have:=e x hx
  rw[(hi x hx).mpr hk]at this
  cases this
 | some j =>
  refine .inl ⟨j,rfl,?_⟩
  rw[List.findIdx?_eq_some_iff_getElem]at e
  obtain⟨h1,h2,_⟩:=e
  exact List.mem_map.mpr ⟨es[j],List.getElem_mem h1,(hi _ (List.getElem_mem h1)).mp h2⟩
theorem a18(prog:Program)(w:World){h:Heap}{a:Addr}{o:Obj}{es es':Array (Int×Value)}{ep:Nat}{t t':SetTable}(ho:h.get? a=some o)(hx:o.ExactSet)(hd:o.data=.set es ep t)(hI:∀e∈es'.toList,IsI e)(hs:es'.size<scanBound)(hf:t'.fits es'.size=true) :
  (h.update a (Obj.putSet es' t')).get? a=some { cls:=o.cls,dict:=o.dict,data:=.set es' (ep+1) t',slots:=o.slots }:=by
 classical
 exact(SetOf_store (knd:=intKind prog w) ho hx hd (S':=fun k=>decide (∃e,e∈es'.toList∧(intKind prog w).is k e.snd=true)) (a0v hI) (fun k=>decide_eq_true_iff) hs hf).1
theorem a6B{g:Bool→Sem Unit}(hg:∀b s₁ (Q':Unit→Shared→Prop),Q' () s₁→wpAny (model prog w) A (g b) Q' E s₁){a:Addr}{L:List Int}{k:Int}{u:Tok}{o:Obj}{es es1:Array (Int×Value)}{ep:Nat}{t t1:SetTable}{wd gave:Bool}{R:Option Bool→Shared→Prop}
  (ho:s.heap.get? a=some o) (hx:o.ExactSet) (hd:o.data=.set es ep t) (hI1:∀e∈es1.toList,IsI e) (hN1:(es1.toList.map B4).Nodup) (hL1:∀k',k'∈es1.toList.map B4↔k'∈L) (hs1:es1.size<scanBound) (hfit:t1.fits es1.size=true) (T1:TbR (!w.params.followText "set-order") t1)
  (fin1:∀h1,Heap.SameBut a s.heap h1→SetR w h1 a L→R (some true) { s with heap:=h1 }) :
  wpAny (model prog w) A (do
   g gave
   if t1.plain=true then do
    let byValue ← hashByValue 8 (.int k u)
    storeSet a es1 (if byValue=true then t1 else{ t1 with plain:=false })
    if(!wd && (if byValue=true then t1 else{ t1 with plain:=false }).tooFull)=true then do
     g (relayAll (if byValue=true then t1 else{ t1 with plain:=false }) es1 (SetTable.grown es1.size)).2.2
     storeSet a (relayAll (if byValue=true then t1 else{ t1 with plain:=false }) es1 (SetTable.grown es1.size)).1 (relayAll (if byValue=true then t1 else{ t1 with plain:=false }) es1 (SetTable.grown es1.size)).2.1
     pure (some true)
    else pure (some true)
   else do
    let byValue ← pure true
    storeSet a es1 (if byValue=true then t1 else{ t1 with plain:=false })
    if(!wd && (if byValue=true then t1 else{ t1 with plain:=false }).tooFull)=true then do
     g (relayAll (if byValue=true then t1 else{ t1 with plain:=false }) es1 (SetTable.grown es1.size)).2.2
     storeSet a (relayAll (if byValue=true then t1 else{ t1 with plain:=false }) es1 (SetTable.grown es1.size)).1 (relayAll (if byValue=true then t1 else{ t1 with plain:=false }) es1 (SetTable.grown es1.size)).2.1
     pure (some true)
    else pure (some true)) R E s:=by
 have hsl:es1.size≤sizeLine:=fits_of_scanBound hs1
 have b7:wpAny (model prog w) A (do
    storeSet a es1 t1
    if(!wd && t1.tooFull)=true then do
     g (relayAll t1 es1 (SetTable.grown es1.size)).2.2
     storeSet a (relayAll t1 es1 (SetTable.grown es1.size)).1 (relayAll t1 es1 (SetTable.grown es1.size)).2.1
     pure (some true)
    else pure (some true)) R E s:=by
  refine wpAny_bind (wpAny_storeSet_of ho hd ?_ hsl)
  have g1:=a18 prog w ho hx hd hI1 hs1 hfit
  have x1:(Obj.mk o.cls o.dict (.set es1 (ep+1) t1) o.slots).ExactSet:=hx
  have sm1:=Heap.SameBut.update s.heap a (Obj.putSet es1 t1)
  by_cases c:(!wd && t1.tooFull)=true
  ·rw[if_pos c]
   have hp2:=relayAll_perm t1 es1 (SetTable.grown es1.size)
   have hf2:=relayAll_fits t1 es1 (SetTable.grown es1.size)
   have T2:=a3p T1 es1 (SetTable.grown es1.size)
   generalize relayAll t1 es1 (SetTable.grown es1.size)=q2 at *
   obtain⟨es2,t2,gave2⟩:=q2
   have hp2:es2.toList.Perm es1.toList:=hp2
   have hI2:∀e∈es2.toList,IsI e:=fun e he=>hI1 e (hp2.mem_iff.mp he)
   have hz2:es2.size=es1.size:=by have:=hp2.length_eq;simpa using this
   have hpk2:=hp2.map B4
   refine wpAny_bind (hg _ _ _ ?_)
   refine wpAny_bind (wpAny_storeSet_of g1 rfl ?_ (by show es2.size≤_;rw[hz2];exact hsl))
   refine wpAny_pure ?_
   have g2:=a18 prog w g1 x1 rfl hI2 (by rw[hz2];exact hs1) hf2
   have sm2:=Heap.SameBut.update (s.heap.update a (Obj.putSet es1 t1)) a (Obj.putSet es2 t2)
   exact fin1 _ ⟨sm2.1.trans sm1.1,fun b hb=>(sm2.2 b hb).trans (sm1.2 b hb)⟩ ⟨_,es2,_,t2,g2,x1,rfl,hI2,hpk2.nodup_iff.mpr hN1,fun k'=>(hpk2.mem_iff).trans (hL1 k'),by rw[hz2];exact hs1,hf2,T2⟩
  ·rw[if_neg c]
   exact wpAny_pure (fin1 _ sm1 ⟨_,es1,_,t1,g1,x1,rfl,hI1,hN1,hL1,hs1,hfit,T1⟩)
 refine wpAny_bind (hg _ _ _ ?_)
 split
 ·refine wpAny_bind ?_
  rw[hashByValue.eq_3 8 k u]
  exact wpAny_pure b7
 ·exact wpAny_bind (wpAny_pure b7)
theorem b1s{a:Addr}{L:List Int}{k:Int}{u:Tok}{Q:Bool→Shared→Prop}(S:SetR w s.heap a L)(hn:∀es:List Int,es.Nodup→(∀k,k∈es↔k∈L)→es.length+1<scanBound)
  (h:∀h' b,Heap.SameBut a s.heap h'→SetR w h' a (L++[k])→Q b { s with heap:=h' }):wpAny (model prog w) A (setAddHashed a (.int k u) (hashInt k)) Q E s:=by
 obtain⟨o,es,ep,t,ho,hx,hd,hI,hN,hL,hs,hf,T⟩:=S.ex
 have hlen:es.size+1<scanBound:=by
  have:=hn _ hN hL
  simpa using this
 unfold setAddHashed
 refine wpAny_holding ?_
 rw[setAddHashedIn.eq_def]
 show wpAny _ _ (setState a >>= _) _ _ _
 refine wpAny_bind (wpAny_setState_of ho hd hf ?_)
 show wpAny _ _ (if byScan (.int k u) es=true then _ else _) _ _ _
 rw[if_pos (byScan_of (knd:=intKind prog w) rfl hs (a0v hI))]
 refine wpAny_bind ?_
 unfold setAddByScan
 refine wpAny_bind (wpAny_rule ?_)
 refine wpAny_bind (wpAny_setScan_of (knd:=intKind prog w) (k:=k) (P8 k u) ho hd hf (a0v hI) ?_)
 have hsame:Heap.SameBut a s.heap s.heap:=⟨rfl,fun b _=>rfl⟩
 rcases a8w hI k with⟨j,e,m⟩ | ⟨e,m⟩
 ·have e:List.findIdx? (fun e=>(intKind prog w).is k e.snd) es.toList=some j:=e
  rw[e]
  show wpAny _ _ (pure (some false)) _ _ _
  refine wpAny_pure ?_
  show wpAny _ _ (pure false) _ _ _
  refine wpAny_pure ?_
  refine h s.heap false hsame ⟨o,es,ep,t,ho,hx,hd,hI,hN,fun k'=>?_,hs,hf,T⟩
  rw[hL k',List.mem_append,List.mem_singleton]
  constructor
  ·exact .inl
  ·rintro(z | rfl)
   ·exact z
   ·exact(hL _).mp m
 ·have e:List.findIdx? (fun e=>(intKind prog w).is k e.snd) es.toList=none:=e
  rw[e]
  have hp:=layNew_perm t es (hashInt k) (.int k u)
  have hfit:=layNew_fits t es (hashInt k) (.int k u)
  have T1:=a5q T es (hashInt k) (.int k u)
  dsimp only
  generalize layNew t es (hashInt k) (.int k u)=q at *
  obtain⟨es1,t1,wd,gave⟩:=q
  have hI1:∀e∈es1.toList,IsI e:=fun e he=>by
   have:=(hp.mem_iff (a:=e)).mp he
   rw[Array.toList_push,List.mem_append,List.mem_singleton]at this
   rcases this with z | rfl
   ·exact hI e z
   ·exact⟨k,u,rfl⟩
  have hpk:(es1.toList.map B4).Perm (es.toList.map B4++[k]):=by
   have:=hp.map B4
   rw[Array.toList_push,List.map_append]at this
   exact this
  have hN1:(es1.toList.map B4).Nodup:=by
   rw[hpk.nodup_iff,List.nodup_append]
   exact⟨hN,by simp,fun x hx y hy=>by rw[List.mem_singleton.mp hy];rintro rfl;exact m hx⟩
  have hL1:∀k',k'∈es1.toList.map B4↔k'∈L++[k]:=fun k'=>by
   rw[hpk.mem_iff,List.mem_append,List.mem_append,hL k']
  have hz:es1.size=es.size+1:=by
   have:=hp.length_eq
   simpa using this
  have hs1:es1.size<scanBound:=by omega
  refine a6B (fun b s₁ Q' q=>?_) ho hx hd hI1 hN1 hL1 hs1 hfit T1 fun h1 sm z=>wpAny_pure (h h1 true sm z)
  cases b with
  | true=>exact wpAny_rule q
  | false=>exact wpAny_pure q
end
theorem a0w:∀(es L:List Int),es.Nodup→(∀x∈es,x∈L)→es.length≤L.length
 | [],L,_,_=>Nat.zero_le _
 | x::es,L,h,m=>by
  rw[List.nodup_cons]at h
  have hx:=m x List.mem_cons_self
  have:=a0w es (L.erase x) h.2 fun y hy=>(List.mem_erase_of_ne (show y≠x from fun z=>h.1 (by rw[← z];exact hy))).mpr (m y (List.mem_cons_of_mem _ hy))
  rw[List.length_erase_of_mem hx]at this
  have:0<L.length:=List.length_pos_of_mem hx
  rw[List.length_cons]
  omega
section
variable {prog:Program}{w:World}{A:Around}{E:Value→Shared→Prop}{s:Shared}
theorem SetR.frame{h h':Heap}{a:Addr}{L:List Int}(S:SetR w h a L)(e:∀o,h.get? a=some o→h'.get? a=some o):SetR w h' a L:=by
 obtain⟨o,es,ep,t,ho,r⟩:=S.ex
 exact⟨o,es,ep,t,e o ho,r⟩
theorem a6C{a:Addr}{L:List Int}{k:Int}{u:Tok}{Q:Bool→Shared→Prop}(S:SetR w s.heap a L)(hn:L.length+1<scanBound)
  (h:∀h' b,Heap.SameBut a s.heap h'→SetR w h' a (L++[k])→Q b { s with heap:=h',toks:=s.toks+1 }):wpAny (model prog w) A (setAdd a (.int k u)) Q E s:=by
 unfold setAdd
 refine wpAny_holding ?_
 refine wpAny_bind ((intKind prog w).pyHash (k:=k) (P8 k u) ?_)
 refine b1s (s:={ s with toks:=s.toks+1 }) S (fun es hN hL=>?_) h
 have:=a0w es L hN fun x hx=>(hL x).mp hx
 omega
theorem a6D{R:Result→Shared→Prop}{I:Addr}{fp wr:List Addr}{G:Array GenState→Array GenState→Prop}{n:Nat}{P:Nat→Value→Prop}{St:Nat→Shared→Prop}(W:WalksS prog w A.in1 I fp wr G n P St)(S:Addr)(hS:S ∉ fp)(val:Nat→Int)(hv:∀i v,P i v→∃t,v=Value.int (val i) t)(hn:n+1<scanBound) :
  ∀(k i:Nat) (s:Shared),n-i=k→i≤n→St i s→SetR w s.heap S ((List.range i).map val)→(∀s',Moved (S::wr) G s s'→SetR w s'.heap S ((List.range n).map val)→R (.ok (.ret .none)) s') →
   codeAny (model prog w) A (.builtin "set.update.loop" ⟨[.ref S,.ref I],[]⟩) R s:=by
 intro k
 induction k with
 | zero =>
  intro i s hk hi st SR fin
  have e:i=n:=by omega
  subst e
  refine codeAny_builtin F.entry_set_update_loop ?_
  rw[Around.under_plainId F.plain_set_update_loop _]
  show wpAny _ A.in1 (pyNext (.ref I) >>= _) _ _ _
  refine wpAny_bind (W.done s _ _ st fun s' mv=>?_)
  refine wpAny_pure (fin s' ⟨fun b o hb e=>mv.heap b o (fun z=>hb (List.mem_cons_of_mem _ z)) e,mv.gens,mv.drawn,mv.os,mv.toks⟩ (SR.frame fun o e=>mv.heap S o (fun z=>hS (W.sub S z)) e))
 | succ k ih =>
  intro i s hk hi st SR fin
  refine codeAny_builtin F.entry_set_update_loop ?_
  rw[Around.under_plainId F.plain_set_update_loop _]
  show wpAny _ A.in1 (pyNext (.ref I) >>= _) _ _ _
  refine wpAny_bind (W.item i s _ _ (by omega) st fun v s' pv st' mv=>?_)
  obtain⟨t,rfl⟩:=hv i v pv
  refine wpAny_bind (wpAny_holding (a6C (L:=(List.range i).map val) (SR.frame fun o e=>mv.heap S o (fun z=>hS (W.sub S z)) e) (by rw[List.length_map,List.length_range];omega) fun h' b sm SR'=>?_))
  refine wpAny_pure ⟨plainId_quiet F.plain_set_update_loop _,ih (i+1) _ (by omega) (by omega) (W.frame (i+1) s' h' (s'.toks+1) st' (Nat.le_succ _) fun b hb o e=>(sm.2 b (fun z=>hS (z▸hb))).trans e) ?_ fun s'' mv2 SR2=>fin s'' ⟨fun b o hb e=>?_,W.gtrans _ _ _ mv.gens mv2.gens,mv2.drawn.trans mv.drawn,mv2.os.trans mv.os,Nat.le_trans mv.toks (Nat.le_trans (Nat.le_succ _) mv2.toks)⟩ SR2⟩
  ·rw[List.range_succ,List.map_append]
   exact SR'
  ·refine mv2.heap b o hb ((sm.2 b fun z=>hb (z▸List.mem_cons_self)).trans (mv.heap b o (fun z=>hb (List.mem_cons_of_mem _ z)) e))
theorem a0x(a:Value){Q₁:Value→Shared→Prop}(h:Q₁ (.ref s.heap.objs.size) { s with heap:=s.heap.push { cls:=.type "set",data:=.set #[] 0 (SetTable.fresh 0 0 (!w.params.followText "set-order")) } }) :
  codeAny (model prog w) A (.call (.builtin "set.__new__") ⟨[.type "set",a],[]⟩) (wants Q₁ E) s:=by
 refine codeAny_call_builtin F.plain_set_new F.entry_set_new ?_
 rw[F.newCall_set_1 a]
 refine wpAny_pure ?_
 show wpAny _ _ (Builtin.Frozenset.newClass "set" ⟨[.type "set",a],[]⟩ >>= _) _ _ _
 refine wpAny_bind ?_
 unfold Builtin.Frozenset.newClass
 dsimp only
 refine wpAny_bind (m:=PySem.isType (.type "set")) (wpAny_pure ?_)
 rw[if_neg (by decide)]
 refine wpAny_bind ?_
 rw[sub_set_self]
 refine wpAny_pure ?_
 rw[if_neg (by decide)]
 refine wpAny_pure ?_
 refine wpAny_bind ?_
 show wpAny _ _ (newSet (.type "set")) _ _ _
 unfold newSet setsByText
 refine wpAny_bind ?_
 refine wpAny_bind (wpAny_askSetting ?_)
 refine wpAny_pure ?_
 refine wpAny_newObj_type ?_
 exact wpAny_pure h
theorem a4w{a l:Addr}{items:Array Value}{ns:List Int}{R:PySem.Fin→Shared→Prop}{E':Value→Shared→Prop}(hh:A.handled=none)(hl:s.heap.IsList l items)(hi:IntsAre items.toList ns)(hn:items.size+1<scanBound)(hal:a≠l)
  (ho:s.heap.get? a=some { cls:=.type "set",data:=.set #[] 0 (SetTable.fresh 0 0 (!w.params.followText "set-order")) })
  (h:∀s',SetR w s'.heap a ns→(∀b o,b≠a→s.heap.get? b=some o→s'.heap.get? b=some o)→s'.gens=s.gens→s'.drawn=s.drawn→s'.os=s.os→R (.done (.ret .none)) s') :
  wpAny (model prog w) A (Builtin.«set.__init__» ⟨[.ref a,.ref l],[]⟩) R E' s:=by
 have tset:s.TypeIs (.ref a) "set" := ⟨_,ho,rfl⟩
 have tlst:s.TypeIs (.ref l) "list" := by obtain⟨o,h1,h2,_⟩:=hl;exact⟨o,h1,h2⟩
 have hfit:(SetTable.fresh 0 0 (!w.params.followText "set-order")).fits (#[]:Array (Int×Value)).size=true:=by
  show(SetTable.fits _ 0)=true
  rw[SetTable.fits.eq_1]
  rfl
 unfold Builtin.«set.__init__»
 refine wpAny_bind (m:=noKeywords "set" _) (wpAny_pure ?_)
 dsimp only
 refine wpAny_bind ?_
 unfold typeNameOfCut shownTypeOf
 refine wpAny_bind ?_
 refine wpAny_bind (wpAny_typeOf tset ?_)
 rw[if_neg (by decide)]
 refine wpAny_pure ?_
 refine wpAny_pure ?_
 refine wpAny_bind (m:=checkCount _ 0 1 _) (wpAny_pure ?_)
 refine wpAny_bind (m:=Builtin.Frozenset.addrOf _) (wpAny_pure ?_)
 refine wpAny_bind ?_
 unfold setUsed
 refine wpAny_bind (wpAny_setState_of ho rfl hfit ?_)
 refine wpAny_pure ?_
 refine wpAny_ite_false rfl ?_
 refine wpAny_bind ?_
 unfold Builtin.Frozenset.updateFrom
 refine wpAny_bind ?_
 unfold Builtin.Frozenset.isAnySet
 refine wpAny_bind (wpAny_isInstance tlst F.sub_list_set ?_)
 show wpAny _ _ (PySem.isInstance (.ref l) (.type "frozenset")) _ _ _
 refine wpAny_isInstance tlst F.sub_list_frozenset ?_
 rw[if_neg (by decide)]
 refine wpAny_bind (wpAny_typeOf tlst ?_)
 rw[if_neg (by decide)]
 refine wpAny_bind (wpAny_pyIter_list hl ?_)
 refine wpAny_bind (wpAny_runValue ?_)
 have hI:s.heap.objs.size≠l:=by
  obtain⟨o,h1,_⟩:=hl
  exact Nat.ne_of_gt (Heap.lt_size h1)
 have hIa:s.heap.objs.size≠a:=Nat.ne_of_gt (Heap.lt_size ho)
 have W:=(Walks.list (prog:=prog) (w:=w) (A:=A.in1) hh s.heap.objs.size l (Ne.symm hI) items).toS
 refine a6D W a (by simp[Ne.symm hIa,hal]) (fun i=>ns.getD i 0) (fun i v e=>hi.int_at i v (by simpa using e)) hn items.size 0 _ rfl (Nat.zero_le _) ⟨?_,?_⟩ ?_ fun s' mv SR=>?_
 ·exact⟨_,Heap.get?_push_size _ rfl,rfl,rfl⟩
 ·exact hl.push _
 ·refine⟨_,#[],0,_,Heap.get?_push_of_some _ ho,⟨rfl,rfl,rfl⟩,rfl,fun e he=>absurd he (by simp),by simp,fun k=>by simp,by decide,hfit,⟨by simp[SetTable.fresh,Rise],rfl,rfl⟩⟩
 ·refine wpAny_pure ?_
  refine wpAny_pure (h s' ?_ (fun b o hb e=>mv.heap b o (by simp[hb];exact Nat.ne_of_lt (Heap.lt_size e)) (Heap.get?_push_of_some _ e)) mv.gens mv.drawn mv.os)
  have e:(List.range items.size).map (fun i=>ns.getD i 0)=ns:=by
   have hlen:items.size=ns.length:=by
    have:∀{vs:List Value} {ns:List Int},IntsAre vs ns→vs.length=ns.length:=by
     intro vs ns h
     induction h with
     | nil=>rfl
     | cons n t _ ih=>simp[ih]
    simpa using this hi
   rw[hlen]
   apply List.ext_getElem
   ·simp
   ·intro i h1 h2
    simp[h2]
  rw[← e]
  exact SR
theorem a4x{l:Addr}{items:Array Value}{ns:List Int}{Q:Value→Shared→Prop}(hh:A.handled=none)(hl:s.heap.IsList l items)(hi:IntsAre items.toList ns)(hn:items.size+1<scanBound)
  (h:∀s',SetR w s'.heap s.heap.objs.size ns→(∀b o,s.heap.get? b=some o→s'.heap.get? b=some o)→s'.gens=s.gens→s'.drawn=s.drawn→s'.os=s.os→Q (.ref s.heap.objs.size) s') :
  wpAny (model prog w) A (call (.type "set") [.ref l]) Q E s:=by
 have ho:(s.heap.push { cls:=.type "set",data:=.set #[] 0 (SetTable.fresh 0 0 (!w.params.followText "set-order")) }).get? s.heap.objs.size=some { cls:=.type "set",data:=.set #[] 0 (SetTable.fresh 0 0 (!w.params.followText "set-order")) }:=Heap.get?_push_size _ rfl
 have hne:s.heap.objs.size≠l:=by
  obtain⟨o,h1,_⟩:=hl
  exact Nat.ne_of_gt (Heap.lt_size h1)
 refine wpAny_call (codeAny_of_tree ?_)
 show wpAny _ _ (pure (PySem.Fin.again (.builtin "type.__call__" ⟨[.type "set",.ref l],[]⟩))) _ _ _
 refine wpAny_pure ⟨Code.quiet_builtin _ (by decide +kernel),codeAny_builtin F.entry_type_call ?_⟩
 rw[Around.under_plain (weight_type_call_type _ _ _) rfl]
 unfold Builtin.«type.__call__»
 dsimp only
 refine wpAny_ite_false (by decide) ?_
 refine wpAny_ite_false (by decide +kernel) ?_
 refine wpAny_bind (wpAny_of_eq (F.typeCall_set_1 _) ?_)
 obtain⟨c,tl,e⟩:=F.called_set.mro
 refine wpAny_bind (wpAny_of_eq e ?_)
 refine wpAny_ite_false (by rfl) ?_
 refine wpAny_bind (wpAny_of_eq F.called_set.made ?_)
 dsimp only
 refine wpAny_bind (wpAny_pure ?_)
 refine wpAny_bind (wpAny_holding (wpAny_call (a0x (Q₁:=_) _ ?_)))
 refine wpAny_bind (wpAny_isInstance (T := "set") (U := "set") ⟨_,ho,rfl⟩ sub_set_self ?_)
 refine wpAny_ite_false (by rfl) ?_
 refine wpAny_bind (wpAny_holding (wpAny_callSpecial?_slot (T := "set") ⟨_,ho,rfl⟩ F.called_set.init (wpAny_call (codeAny_call_builtin F.called_set.init.plain F.entry_set_init (check_set_init_1 ⟨_,ho,rfl⟩ ?_)))))
 refine a4w (A:=A.in1.in1) hh (hl.push _) hi hn hne ho fun s' SR kp hg hd hos=>?_
 dsimp only
 refine wpAny_ite_false (by decide) ?_
 refine wpAny_pure (h s' SR (fun b o e=>kp b o (Nat.ne_of_lt (Heap.lt_size e)) (Heap.get?_push_of_some _ e)) hg hd hos)
end
theorem a1D:entryFor table "set.__iter__" = some Builtin.«frozenset.__iter__» := entryFor_alias (by kernel_rfl) rfl (show Manifest.canonical (String.map (fun c=>if(c.isAlphanum || c == '_' || c == '.')=true then c else '_') "set.__iter__") ++ "" = "frozenset.__iter__" by decide +kernel) (by kernel_rfl)
theorem a1E:entryFor table "set_iterator.__next__" = some Builtin.«set_iterator.__next__» := entryFor_of_fast (by kernel_rfl)
theorem A4:Slot "set_iterator" (Str.ofString "__next__") "set_iterator.__next__" :=
 Slot.of (owner := "set_iterator") (n := "__next__") rfl (by decide +kernel) (by decide +kernel) (by decide +kernel) (.inl (by decide +kernel)) (by rfl) (by decide +kernel)
section
variable {prog:Program}{w:World}{A:Around}{E:Value→Shared→Prop}{s:Shared}
theorem a6E{r:Addr}{Q:Bool→Shared→Prop}(h:s.TypeIs (.ref r) "set")(q:Q false s):wpAny (model prog w) A (Builtin.List.listLengthHint (.ref r)) Q E s:=by
 unfold Builtin.List.listLengthHint
 refine wpAny_bind (wpAny_specialOf h F.slot_set_len.lookup ?_)
 dsimp only
 rw[show splitId "set.__len__" = some ("set","__len__")from by rfl]
 dsimp only
 refine wpAny_bind (wpAny_isInstance h sub_set_self ?_)
 refine wpAny_ite_false rfl ?_
 refine wpAny_ite_true (by decide +kernel) ?_
 refine wpAny_bind (wpAny_typeOf h ?_)
 exact wpAny_pure q
theorem T9{α:Type}:∀{l:List α} {i:Nat} (h:i<l.length),(l[i]::l.eraseIdx i).Perm l
 | x::l,0,_=>.refl _
 | x::l,i+1,h=>by
  have h':i<l.length:=by simpa using h
  show(l[i]::x::l.eraseIdx i).Perm (x::l)
  exact(List.Perm.swap _ _ _).trans ((T9 h').cons x)
theorem a3S{α:Type}(next:Nat→Nat):∀(fuel k:Nat) (left:List α) (out:Array α),left.length≤fuel→(pickOrder.go next fuel k left out).toList.Perm (out.toList++left)
 | 0,k,left,out,h=>by
  have e:left=[]:=List.eq_nil_of_length_eq_zero (by omega)
  rw[pickOrder.go.eq_1,e,List.append_nil]
 | fuel+1,k,left,out,h=>by
  rw[pickOrder.go.eq_def]
  dsimp only
  cases e:left[next k%left.length]? with
  | none =>
   dsimp only
   have e0:left=[]:=by
    cases left with
    | nil=>rfl
    | cons x l =>
     have:next k%(x::l).length<(x::l).length:=Nat.mod_lt _ (by simp)
     rw[List.getElem?_eq_getElem this]at e
     cases e
   rw[e0,List.append_nil]
  | some x =>
   dsimp only
   obtain⟨hlt,hx⟩:=List.getElem?_eq_some_iff.mp e
   refine(a3S next fuel (k+1) (left.eraseIdx (next k%left.length)) (out.push x) ?_).trans ?_
   ·rw[List.length_eraseIdx_of_lt hlt];omega
   ·rw[Array.toList_push,List.append_assoc]
    refine List.Perm.append_left _ ?_
    have:=T9 hlt
    rw[hx]at this
    exact this
theorem a5s{α:Type}(next:Nat→Nat)(xs:Array α):(pickOrder next xs).toList.Perm xs.toList:=by
 have:=a3S next xs.size 0 xs.toList #[] (by simp)
 simpa [pickOrder]using this
theorem a19{α:Type}:∀(n:Nat) (xs:List α) {Q:List α→Shared→Prop} {s:Shared},xs.length≤n→(∀ys d,ys.Perm xs→Q ys { s with drawn:=d })→wpAny (model prog w) A (drawOrder n xs) Q E s
 | 0,xs,Q,s,h,q=>by
  have e:xs=[]:=List.eq_nil_of_length_eq_zero (by omega)
  subst e
  rw[drawOrder.eq_1]
  exact wpAny_pure (q [] s.drawn (.refl _))
 | n+1,[],Q,s,h,q=>by
  rw[drawOrder.eq_2 _ (by omega)]
  exact wpAny_pure (q [] s.drawn (.refl _))
 | n+1,x::xs,Q,s,h,q=>by
  rw[drawOrder.eq_def]
  dsimp only
  refine wpAny_bind ?_
  intro Γ p hΓ
  unfold choose
  rw[Sem.wp_choose]
  refine⟨by simp,?_⟩
  have hlt:(model prog w).w.draws Source.order (s.drawn.get Source.order)%(x::xs).length<(x::xs).length:=Nat.mod_lt _ (by simp)
  generalize (model prog w).w.draws Source.order (s.drawn.get Source.order)%(x::xs).length=i at *
  show Sem.wp _ Γ (pure i) _ _ p _
  refine(wpAny_pure (M:=model prog w) (A:=A) (E:=E) (a:=i) (Q:=fun i s'=>wpAny (model prog w) A (match(x::xs)[i]? with
   | some x_2=>do
    let __do_lift ← drawOrder n ((x::xs).eraseIdx i)
    pure (x_2::__do_lift)
   | none=>unsupported "internal:drawOrder") Q E s') (s:={ s with drawn:=s.drawn.bump Source.order }) ?_) Γ p hΓ
  rw[List.getElem?_eq_getElem hlt]
  dsimp only
  refine wpAny_bind (a19 n _ (by rw[List.length_eraseIdx_of_lt hlt];omega) fun ys d hy=>?_)
  refine wpAny_pure (q _ d ?_)
  exact(hy.cons _).trans (T9 hlt)
end
def O4(first:Value)(i:Nat)(a:Addr)(n ep:Nat):Obj:={ cls:=.type "set_iterator",data:=.fields #[first,.int (i:Int) 0,.ref a,.int (n:Int) 0,.int (ep:Int) 0] }
section
variable {prog:Program}{w:World}{A:Around}{E:Value→Shared→Prop}{s:Shared}
theorem U0{I a:Addr}{es:Array (Int×Value)}{ep i:Nat}{first:Value}{Q:Option Value→Shared→Prop}(hI:s.heap.get? I=some (O4 first i a es.size ep))
  (h:wpAny (model prog w) A.in1 (Builtin.«set_iterator.__next__» ⟨[.ref I],[]⟩) (fun fin s'=>∃v,fin=.done (.ret v)∧Q (some v) s') (fun e s'=>(∃x o,e=.ref x∧s'.heap.get? x=some o∧o.cls=.type "StopIteration")∧Q none s') s) :
  wpAny (model prog w) A (pyNext (.ref I)) Q E s:=by
 unfold pyNext
 refine wpAny_bind (wpAny_attempt (wpAny_callSpecial?_slot (T := "set_iterator") ⟨_,hI,rfl⟩ A4 (wpAny_call_entry A4 ⟨_,hI,rfl⟩ a1E (wpAny_mono h (fun fin s' ⟨v,e,q⟩=>⟨v,e,?_⟩) fun e s' ⟨⟨x,o,e1,e2,e3⟩,q⟩=>?_) (by rfl))))
 ·exact wpAny_pure q
 ·subst e1
  refine wpAny_bind (wpAny_isInstance (T := "StopIteration") ⟨o,e2,e3⟩ isSubtype_stop ?_)
  exact wpAny_ite_true rfl (wpAny_pure q)
theorem a6F{I a:Addr}{o:Obj}{es:Array (Int×Value)}{ep i slot nx:Nat}{t:SetTable}{x:Value}{Q:Option Value→Shared→Prop}(hI:s.heap.get? I=some (O4 (.int (slot:Int) 0) i a es.size ep))(ho:s.heap.get? a=some o)(hd:o.data=.set es ep t)(hf:t.fits es.size=true)
  (hs:∀{A':Around} {E':Value→Shared→Prop} {Q':Option (Value×Nat)→Shared→Prop},Q' (some (x,nx)) s→wpAny (model prog w) A' (setNext a slot i ep) Q' E' s)
  (q:∀h',h'.get? I=some (O4 (.int (nx:Int) 0) (i+1) a es.size ep)→Heap.SameBut I s.heap h'→Q (some x) { s with heap:=h' }):wpAny (model prog w) A (pyNext (.ref I)) Q E s:=by
 refine U0 hI ?_
 unfold Builtin.«set_iterator.__next__»
 refine wpAny_bind (m:=slotArgs "__next__" 0 _) (wpAny_pure ?_)
 dsimp only
 refine wpAny_bind (wpAny_fieldsOf hI rfl ?_)
 dsimp only
 refine wpAny_bind (wpAny_setEntries_of ho hd hf ?_)
 refine wpAny_ite_false (by simp) ?_
 simp only[Int.toNat_natCast]
 refine wpAny_bind (hs ?_)
 dsimp only
 refine wpAny_bind (wpAny_setField_rec hI (by simp) fun h1 g1 s1=>?_)
 refine wpAny_bind (wpAny_setField_rec (s:={ s with heap:=h1 }) g1 (by simp) fun h2 g2 s2=>?_)
 refine wpAny_pure ⟨x,rfl,q h2 ?_ ⟨s2.1.trans s1.1,fun b hb=>(s2.2 b hb).trans (s1.2 b hb)⟩⟩
 rw[g2]
 rfl
theorem a8x{I a:Addr}{o:Obj}{es:Array (Int×Value)}{ep i slot:Nat}{t:SetTable}{Q:Option Value→Shared→Prop}(hh:A.handled=none)(hI:s.heap.get? I=some (O4 (.int (slot:Int) 0) i a es.size ep))(ho:s.heap.get? a=some o)(hd:o.data=.set es ep t)(hf:t.fits es.size=true)
  (hs:∀{A':Around} {E':Value→Shared→Prop} {Q':Option (Value×Nat)→Shared→Prop},Q' none s→wpAny (model prog w) A' (setNext a slot i ep) Q' E' s)
  (q:∀h',(∀b o,b≠I→s.heap.get? b=some o→h'.get? b=some o)→Q none { s with heap:=h' }):wpAny (model prog w) A (pyNext (.ref I)) Q E s:=by
 refine U0 hI ?_
 unfold Builtin.«set_iterator.__next__»
 refine wpAny_bind (m:=slotArgs "__next__" 0 _) (wpAny_pure ?_)
 dsimp only
 refine wpAny_bind (wpAny_fieldsOf hI rfl ?_)
 dsimp only
 refine wpAny_bind (wpAny_setEntries_of ho hd hf ?_)
 refine wpAny_ite_false (by simp) ?_
 simp only[Int.toNat_natCast]
 refine wpAny_bind (hs ?_)
 dsimp only
 refine wpAny_bind (wpAny_setField_rec hI (by simp) fun h1 g1 s1=>?_)
 refine wpAny_bind ?_
 unfold newExc
 refine wpAny_bind (wpAny_newTuple ?_ (Nat.zero_le _))
 refine wpAny_bind ?_
 unfold firstArgMember
 dsimp only
 refine wpAny_bind (wpAny_pure ?_)
 refine wpAny_pure ?_
 refine wpAny_newObj_type ?_
 refine wpAny_raiseNew_none hh ⟨⟨_,_,rfl,Heap.get?_push_size _ rfl,rfl⟩,?_⟩
 exact q _ fun b o hb e=>Heap.get?_push_of_some _ (Heap.get?_push_of_some _ ((s1.2 b hb).trans e))
theorem a4y{I a T:Addr}{o:Obj}{es:Array (Int×Value)}{ep i j:Nat}{t:SetTable}{ps:List Nat}{e:Int×Value}{Q:Option Value→Shared→Prop}(hI:s.heap.get? I=some (O4 (.ref T) i a es.size ep))(ho:s.heap.get? a=some o)(hd:o.data=.set es ep t)(hf:t.fits es.size=true)
  (hT:s.heap.get? T=some (seqObj "tuple" (ps.map fun(i:Nat)=>rawInt (i:Int)).toArray 0)) (hj:ps[i]? = some j) (he:es[j]? = some e)
  (q:∀h',h'.get? I=some (O4 (.ref T) (i+1) a es.size ep)→Heap.SameBut I s.heap h'→Q (some e.2) { s with heap:=h' }):wpAny (model prog w) A (pyNext (.ref I)) Q E s:=by
 refine U0 hI ?_
 unfold Builtin.«set_iterator.__next__»
 refine wpAny_bind (m:=slotArgs "__next__" 0 _) (wpAny_pure ?_)
 dsimp only
 refine wpAny_bind (wpAny_fieldsOf hI rfl ?_)
 dsimp only
 refine wpAny_bind (wpAny_setEntries_of ho hd hf ?_)
 refine wpAny_ite_false (by simp) ?_
 simp only[Int.toNat_natCast]
 refine wpAny_bind (wpAny_seqItems hT rfl ?_)
 have e0:(ps.map fun(i:Nat)=>rawInt (i:Int)).toArray[i]? = some (.int (j:Int) 0):=by
  rw[List.getElem?_toArray,List.getElem?_map,hj]
  rfl
 dsimp only
 rw[e0]
 dsimp only
 refine wpAny_bind ?_
 unfold setNextDrawn
 refine wpAny_bind (wpAny_setState_of ho hd hf ?_)
 dsimp only
 refine wpAny_ite_false (by simp) ?_
 rw[Int.toNat_natCast,he]
 refine wpAny_pure ?_
 refine wpAny_bind (wpAny_setField_rec hI (by simp) fun h1 g1 s1=>?_)
 refine wpAny_pure ⟨e.2,rfl,q h1 ?_ s1⟩
 rw[g1]
 rfl
theorem a5t{I a T:Addr}{o:Obj}{es:Array (Int×Value)}{ep i:Nat}{t:SetTable}{ps:List Nat}{Q:Option Value→Shared→Prop}(hh:A.handled=none)(hI:s.heap.get? I=some (O4 (.ref T) i a es.size ep))(ho:s.heap.get? a=some o)(hd:o.data=.set es ep t)(hf:t.fits es.size=true)
  (hT:s.heap.get? T=some (seqObj "tuple" (ps.map fun(i:Nat)=>rawInt (i:Int)).toArray 0)) (hj:ps[i]? = none)
  (q:∀h',(∀b o,b≠I→s.heap.get? b=some o→h'.get? b=some o)→Q none { s with heap:=h' }):wpAny (model prog w) A (pyNext (.ref I)) Q E s:=by
 refine U0 hI ?_
 unfold Builtin.«set_iterator.__next__»
 refine wpAny_bind (m:=slotArgs "__next__" 0 _) (wpAny_pure ?_)
 dsimp only
 refine wpAny_bind (wpAny_fieldsOf hI rfl ?_)
 dsimp only
 refine wpAny_bind (wpAny_setEntries_of ho hd hf ?_)
 refine wpAny_ite_false (by simp) ?_
 simp only[Int.toNat_natCast]
 refine wpAny_bind (wpAny_seqItems hT rfl ?_)
 have e0:(ps.map fun(i:Nat)=>rawInt (i:Int)).toArray[i]? = none:=by
  rw[List.getElem?_toArray,List.getElem?_map,hj]
  rfl
 dsimp only
 rw[e0]
 dsimp only
 refine wpAny_bind (wpAny_setField_rec hI (by simp) fun h1 g1 s1=>?_)
 refine wpAny_bind (wpAny_setField_rec (s:={ s with heap:=h1 }) g1 (by simp) fun h2 g2 s2=>?_)
 refine wpAny_bind ?_
 unfold newExc
 refine wpAny_bind (wpAny_newTuple ?_ (Nat.zero_le _))
 refine wpAny_bind ?_
 unfold firstArgMember
 dsimp only
 refine wpAny_bind (wpAny_pure ?_)
 refine wpAny_pure ?_
 refine wpAny_newObj_type ?_
 refine wpAny_raiseNew_none hh ⟨⟨_,_,rfl,Heap.get?_push_size _ rfl,rfl⟩,?_⟩
 exact q _ fun b o hb e=>Heap.get?_push_of_some _ (Heap.get?_push_of_some _ ((s2.2 b hb).trans ((s1.2 b hb).trans e)))
end
theorem a2o:entryFor table "set_iterator.__iter__" = some Builtin.«dict_keyiterator.__iter__» := entryFor_alias (by kernel_rfl) rfl (show Manifest.canonical (String.map (fun c=>if(c.isAlphanum || c == '_' || c == '.')=true then c else '_') "set_iterator.__iter__") ++ "" = "dict_keyiterator.__iter__" by decide +kernel) (by kernel_rfl)
theorem Y0:Slot "set_iterator" (Str.ofString "__iter__") "set_iterator.__iter__" :=
 Slot.of (owner := "set_iterator") (n := "__iter__") rfl (by decide +kernel) (by decide +kernel) (by decide +kernel) (.inl (by decide +kernel)) (by rfl) (by decide +kernel)
section
variable {prog:Program}{w:World}{A:Around}{E:Value→Shared→Prop}{s:Shared}
theorem a2S{a:Addr}{o:Obj}{es:Array (Int×Value)}{ep:Nat}{t:SetTable}(ho:s.heap.get? a=some o)(hd:o.data=.set es ep t)(hf:t.fits es.size=true)(bt:w.params.followText "set-order" = true)(slot i:Nat){Q:Option (Value×Nat)→Shared→Prop}
  (q:Q (((pickOrder (w.params.setOrder a ep) es)[i]?).map fun e=>(e.2,slot)) s):wpAny (model prog w) A (setNext a slot i ep) Q E s:=by
 unfold setNext
 refine wpAny_bind (wpAny_setState_of ho hd hf ?_)
 dsimp only
 unfold setsByText
 refine wpAny_bind (wpAny_bind (wpAny_askSetting (wpAny_pure ?_)))
 refine wpAny_ite_true (by show decide (w.params.followText "set-order" = true)=true;rw[bt];rfl) ?_
 refine wpAny_ite_false (by simp) ?_
 refine wpAny_bind ?_
 unfold setWalk
 refine wpAny_bind (wpAny_setState_of ho hd hf ?_)
 dsimp only
 unfold setsByText
 refine wpAny_bind (wpAny_bind (wpAny_askSetting (wpAny_pure ?_)))
 refine wpAny_ite_true (by show decide (w.params.followText "set-order" = true)=true;rw[bt];rfl) ?_
 refine wpAny_bind (wpAny_askSetting ?_)
 refine wpAny_pure ?_
 exact wpAny_pure q
def K6(t:SetTable)(i:Nat):Nat:=if i=0 then 0 else t.place.getD (i-1) 0+1
theorem a4z{t:SetTable}{i:Nat}(hr:Rise t.place)(hi:i≤t.place.size):SetTable.below t.place (K6 t i)=i:=by
 refine a6z hr hi (fun k hk=>?_) (fun k hk hk2=>?_)
 ·unfold K6
  rw[if_neg (by omega)]
  by_cases z:k=i-1
  ·rw[z];omega
  ·have:=hr.lt (i:=k) (j:=i-1) (by omega) (by omega)
   omega
 ·unfold K6
  by_cases z:i=0
  ·rw[if_pos z];omega
  ·rw[if_neg z]
   have:=hr.lt (i:=i-1) (j:=k) (by omega) hk2
   omega
theorem a2p{a:Addr}{o:Obj}{es:Array (Int×Value)}{ep:Nat}{t:SetTable}(ho:s.heap.get? a=some o)(hd:o.data=.set es ep t)(hf:t.fits es.size=true)(bt:w.params.followText "set-order" = false)(hp:(!t.plain && decide (es.size > 1))=false)(T:TbR true t)(i g:Nat)(hi:i≤es.size){Q:Option (Value×Nat)→Shared→Prop}
  (q:Q ((es[i]?).map fun e=>(e.2,K6 t (i+1))) s):wpAny (model prog w) A (setNext a (K6 t i) g ep) Q E s:=by
 have hps:t.place.size=es.size:=by
  rw[SetTable.fits.eq_1,Bool.and_eq_true]at hf
  exact beq_iff_eq.mp hf.1
 unfold setNext
 refine wpAny_bind (wpAny_setState_of ho hd hf ?_)
 dsimp only
 unfold setsByText
 refine wpAny_bind (wpAny_bind (wpAny_askSetting (wpAny_pure ?_)))
 refine wpAny_ite_false (by show decide (w.params.followText "set-order" = true)=false;rw[bt];rfl) ?_
 refine wpAny_ite_false (by show decide ((!t.plain && decide (es.size > 1))=true)=false;rw[hp];rfl) ?_
 show wpAny _ _ ((if(!t.led && !es.isEmpty)=true then unsupported "set:maker-not-led" else pure ()) >>= _) _ _ _
 rw[T.led]
 refine wpAny_bind (wpAny_ite_false rfl (wpAny_pure ?_))
 rw[a4z T.rise (by omega)]
 by_cases z:i<es.size
 ·rw[Array.getElem?_eq_getElem z]at q ⊢
  have z2:i<t.place.size:=by omega
  rw[Array.getElem?_eq_getElem z2]
  refine wpAny_pure ?_
  have e:K6 t (i+1)=t.place[i]+1:=by
   unfold K6
   rw[if_neg (by omega),Nat.add_sub_cancel]
   simp[Array.getD,z2]
  rw[e]at q
  exact q
 ·rw[Array.getElem?_eq_none (by omega)]at q ⊢
  exact wpAny_pure q
theorem a3T{I a:Addr}{first:Value}{i n ep:Nat}{Q:Value→Shared→Prop}(hI:s.heap.get? I=some (O4 first i a n ep))(q:Q (.ref I) s):wpAny (model prog w) A (pyIter (.ref I)) Q E s:=by
 have tI:s.TypeIs (.ref I) "set_iterator" := ⟨_,hI,rfl⟩
 refine wpAny_pyIter_slot tI Y0 (wpAny_call_entry Y0 tI a2o ?_ (by rfl))
 unfold Builtin.«dict_keyiterator.__iter__»
 refine wpAny_bind (m:=slotArgs "__iter__" 0 _) (wpAny_pure ?_)
 exact wpAny_pure ⟨_,rfl,"set_iterator",_,tI,A4.lookup,q⟩
theorem a5u{I a:Addr}{o:Obj}{es:Array (Int×Value)}{ep:Nat}{t:SetTable}{ord:List (Int×Value)}{sl:Nat→Nat}(hne:I≠a)(hd:o.data=.set es ep t)(hf:t.fits es.size=true)(hl:ord.length=es.size)
  (hn:∀(s:Shared) (i:Nat) {A':Around} {E':Value→Shared→Prop} {Q':Option (Value×Nat)→Shared→Prop},s.heap.get? a=some o→i≤es.size→Q' ((ord[i]?).map fun e=>(e.2,sl (i+1))) s→wpAny (model prog w) A' (setNext a (sl i) i ep) Q' E' s) (hh:A.handled=none) :
  WalksS prog w A I [I,a] [I] (fun x y=>y=x) es.size (fun i v=>∃e,ord[i]? = some e∧v=e.2) (fun i s=>s.heap.get? I=some (O4 (.int (sl i:Int) 0) i a es.size ep)∧s.heap.get? a=some o) where
 sub:=fun b hb=>by simp only[List.mem_singleton]at hb;simp[hb]
 grefl:=fun _=>rfl
 gtrans:=fun _ _ _ h1 h2=>h2.trans h1
 frame:=fun i s h' tk ⟨h1,h2⟩ _ k=>⟨k I (by simp) _ h1,k a (by simp) _ h2⟩
 item:=fun i s Q E hi ⟨h1,h2⟩ k=>by
  have e:=List.getElem?_eq_getElem (l:=ord) (i:=i) (by omega)
  refine a6F (x:=ord[i].2) (nx:=sl (i+1)) h1 h2 hd hf (fun q'=>hn s i h2 (by omega) (by rw[e];exact q')) fun h' g' sm=>k _ { s with heap:=h' } ⟨_,e,rfl⟩ ⟨g',(sm.2 a (Ne.symm hne)).trans h2⟩ ⟨fun b o hb eb=>(sm.2 b (fun z=>hb (by simp[z]))).trans eb,rfl,rfl,rfl,Nat.le_refl _⟩
 done:=fun s Q E ⟨h1,h2⟩ k=>by
  have e:=List.getElem?_eq_none (l:=ord) (i:=es.size) (by omega)
  exact a8x hh h1 h2 hd hf (fun q'=>hn s es.size h2 (Nat.le_refl _) (by rw[e];exact q')) fun h' kp=>k { s with heap:=h' } ⟨fun b o hb eb=>kp b o (fun z=>hb (by simp[z])) eb,rfl,rfl,rfl,Nat.le_refl _⟩
 self:=fun i s Q E ⟨h1,_⟩ q=>a3T h1 q
theorem a3q{I a T:Addr}{o:Obj}{es:Array (Int×Value)}{ep:Nat}{t:SetTable}{ps:List Nat}(hne:I≠a)(hnT:I≠T)(hd:o.data=.set es ep t)(hf:t.fits es.size=true)(hp:ps.Perm (List.range es.size))(hh:A.handled=none) :
  WalksS prog w A I [I,a,T] [I] (fun x y=>y=x) es.size (fun i v=>∃e,(ps.map fun j=>es.getD j (0,.none))[i]? = some e∧v=e.2) (fun i s=>s.heap.get? I=some (O4 (.ref T) i a es.size ep)∧s.heap.get? a=some o∧s.heap.get? T=some (seqObj "tuple" (ps.map fun(i:Nat)=>rawInt (i:Int)).toArray 0)) where
 sub:=fun b hb=>by simp only[List.mem_singleton]at hb;simp[hb]
 grefl:=fun _=>rfl
 gtrans:=fun _ _ _ h1 h2=>h2.trans h1
 frame:=fun i s h' tk ⟨h1,h2,h3⟩ _ k=>⟨k I (by simp) _ h1,k a (by simp) _ h2,k T (by simp) _ h3⟩
 item:=fun i s Q E hi ⟨h1,h2,h3⟩ k=>by
  have hlen:ps.length=es.size:=by rw[hp.length_eq,List.length_range]
  have e:=List.getElem?_eq_getElem (l:=ps) (i:=i) (by omega)
  have hj:ps[i]<es.size:=List.mem_range.mp (hp.mem_iff.mp (List.getElem_mem _))
  have e2:es[ps[i]]? = some (es.getD ps[i] (0,.none)):=by rw[Array.getElem?_eq_getElem hj];simp[Array.getD,hj]
  refine a4y h1 h2 hd hf h3 e e2 fun h' g' sm=>k _ { s with heap:=h' } ⟨_,by rw[List.getElem?_map,e];rfl,rfl⟩ ⟨g',(sm.2 a (Ne.symm hne)).trans h2,(sm.2 T (Ne.symm hnT)).trans h3⟩ ⟨fun b o hb eb=>(sm.2 b (fun z=>hb (by simp[z]))).trans eb,rfl,rfl,rfl,Nat.le_refl _⟩
 done:=fun s Q E ⟨h1,h2,h3⟩ k=>by
  have hlen:ps.length=es.size:=by rw[hp.length_eq,List.length_range]
  exact a5t hh h1 h2 hd hf h3 (List.getElem?_eq_none (by omega)) fun h' kp=>k { s with heap:=h' } ⟨fun b o hb eb=>kp b o (fun z=>hb (by simp[z])) eb,rfl,rfl,rfl,Nat.le_refl _⟩
 self:=fun i s Q E ⟨h1,_⟩ q=>a3T h1 q
theorem a6G{a:Addr}{o:Obj}{es:Array (Int×Value)}{ep:Nat}{t:SetTable}{Q:Value→Shared→Prop}(ho:s.heap.get? a=some o)(hx:o.ExactSet)(hd:o.data=.set es ep t)(hf:t.fits es.size=true)(T:TbR (!w.params.followText "set-order") t)(hs:es.size<scanBound)
  (q:∀(I:Addr) (fp:List Addr) (ord:List (Int×Value)) (St:Nat→Shared→Prop) (s':Shared),(∀A',A'.handled=none→WalksS prog w A' I fp [I] (fun x y=>y=x) es.size (fun i v=>∃e,ord[i]? = some e∧v=e.2) St)→St 0 s'→ord.Perm es.toList→(∀b o,s.heap.get? b=some o→s'.heap.get? b=some o∧b≠I)→(∀b∈fp,b=a∨s.heap.get? b=none)→s'.gens=s.gens→s'.os=s.os→s.toks≤s'.toks→(∀b∈fp,∃o,s'.heap.get? b=some o)→Q (.ref I) s') :
  wpAny (model prog w) A (pyIter (.ref a)) Q E s:=by
 have tset:s.TypeIs (.ref a) "set" := ⟨o,ho,hx.1⟩
 have hsl:es.size≤sizeLine:=fits_of_scanBound hs
 refine wpAny_pyIter_slot tset F.slot_set_iter (wpAny_call_entry F.slot_set_iter tset a1D ?_ (F.args_set_iter_1 _))
 unfold Builtin.«frozenset.__iter__»
 refine wpAny_bind (m:=Builtin.Frozenset.slot0 "__iter__" _) (wpAny_pure ?_)
 refine wpAny_bind (m:=Builtin.Frozenset.sizeOf a) (wpAny_bind (wpAny_setEntries_of ho hd hf (wpAny_pure ?_)))
 refine wpAny_bind ?_
 unfold setDrawn
 refine wpAny_bind (wpAny_setState_of ho hd hf ?_)
 dsimp only
 unfold setsByText
 refine wpAny_bind (wpAny_bind (wpAny_askSetting (wpAny_pure ?_)))
 refine wpAny_pure ?_
 show wpAny _ _ (if(!w.params.followText "set-order" && (!t.plain && decide (es.size > 1)))=true then _ else _) _ _ _
 by_cases c:(!w.params.followText "set-order" && (!t.plain && decide (es.size > 1)))=true
 ·rw[if_pos c]
  refine wpAny_bind (a19 es.size (List.range es.size) (by simp) fun ps d hps=>?_)
  have hlen:ps.length=es.size:=by rw[hps.length_eq,List.length_range]
  refine wpAny_bind (wpAny_newTuple ?_ (by rw[List.length_map,hlen];exact hsl))
  have hoT:=Heap.get?_push_of_some (seqObj "tuple" (ps.map fun(i:Nat)=>rawInt (i:Int)).toArray 0) ho
  refine wpAny_bind (wpAny_setEpoch_of hoT hd hf ?_)
  refine wpAny_bind (m:=newFields "set_iterator" _) (wpAny_newObj_type ?_ (by show 5≤_;decide))
  have hIz:(s.heap.push (seqObj "tuple" (ps.map fun(i:Nat)=>rawInt (i:Int)).toArray 0)).objs.size=s.heap.objs.size+1:=size_push' _ _
  have haz:a<s.heap.objs.size:=Heap.lt_size ho
  refine wpAny_pure ⟨_,rfl,"set_iterator",_,⟨_,Heap.get?_push_size _ rfl,rfl⟩,A4.lookup,?_⟩
  have hI:((s.heap.push (seqObj "tuple" (ps.map fun(i:Nat)=>rawInt (i:Int)).toArray 0)).push (O4 (.ref s.heap.objs.size) 0 a es.size ep)).get? (s.heap.push (seqObj "tuple" (ps.map fun(i:Nat)=>rawInt (i:Int)).toArray 0)).objs.size=some (O4 (.ref s.heap.objs.size) 0 a es.size ep):=Heap.get?_push_size _ rfl
  have hT:(s.heap.push (seqObj "tuple" (ps.map fun(i:Nat)=>rawInt (i:Int)).toArray 0)).get? s.heap.objs.size=some (seqObj "tuple" (ps.map fun(i:Nat)=>rawInt (i:Int)).toArray 0):=Heap.get?_push_size _ rfl
  refine q _ [_,a,s.heap.objs.size] (ps.map fun j=>es.getD j (0,.none)) _ _ (fun A' hA'=>a3q (Nat.ne_of_gt (by rw[hIz];exact Nat.lt_succ_of_lt haz)) (Nat.ne_of_gt (by rw[hIz];exact Nat.lt_succ_self _)) hd hf hps hA') ⟨hI,Heap.get?_push_of_some _ hoT,Heap.get?_push_of_some _ hT⟩ ?_ (fun b o e=>⟨Heap.get?_push_of_some _ (Heap.get?_push_of_some _ e),Nat.ne_of_lt (by rw[hIz];exact Nat.lt_succ_of_lt (Heap.lt_size e))⟩) ?_ rfl rfl (Nat.le_refl _) ?_
  ·have:=hps.map fun j=>es.getD j (0,Value.none)
   refine this.trans (.of_eq ?_)
   apply List.ext_getElem
   ·simp
   ·intro i h1 h2
    have:i<es.size:=by simpa using h2
    simp[Array.getD,this]
  ·intro b hb
   simp only[List.mem_cons,List.not_mem_nil,or_false]at hb
   rcases hb with rfl | rfl | rfl
   ·exact .inr (Heap.get?_none_of_le (by rw[hIz];omega))
   ·exact .inl rfl
   ·exact .inr (Heap.get?_none_of_le (Nat.le_refl _))
  ·intro b hb
   simp only[List.mem_cons,List.not_mem_nil,or_false]at hb
   rcases hb with rfl | rfl | rfl
   ·exact⟨_,hI⟩
   ·exact⟨_,Heap.get?_push_of_some _ hoT⟩
   ·exact⟨_,Heap.get?_push_of_some _ hT⟩
 ·rw[if_neg c]
  refine wpAny_bind (wpAny_pure ?_)
  refine wpAny_bind (wpAny_setEpoch_of ho hd hf ?_)
  refine wpAny_bind (m:=newFields "set_iterator" _) (wpAny_newObj_type ?_ (by show 5≤_;decide))
  have haz:a<s.heap.objs.size:=Heap.lt_size ho
  refine wpAny_pure ⟨_,rfl,"set_iterator",_,⟨_,Heap.get?_push_size _ rfl,rfl⟩,A4.lookup,?_⟩
  have hI:(s.heap.push (O4 (.int ((0:Nat):Int) 0) 0 a es.size ep)).get? s.heap.objs.size=some (O4 (.int ((0:Nat):Int) 0) 0 a es.size ep):=Heap.get?_push_size _ rfl
  have fin:∀(ord:List (Int×Value)) (sl:Nat→Nat),sl 0=0→ord.Perm es.toList→(∀(s:Shared) (i:Nat) {A':Around} {E':Value→Shared→Prop} {Q':Option (Value×Nat)→Shared→Prop},s.heap.get? a=some o→i≤es.size→Q' ((ord[i]?).map fun e=>(e.2,sl (i+1))) s→wpAny (model prog w) A' (setNext a (sl i) i ep) Q' E' s)→Q (.ref s.heap.objs.size) { s with heap:=s.heap.push (O4 (.int ((0:Nat):Int) 0) 0 a es.size ep) }:=by
   intro ord sl h0 hp hn
   refine q _ [s.heap.objs.size,a] ord _ _ (fun A' hA'=>a5u (sl:=sl) (Nat.ne_of_gt haz) hd hf (by have:=hp.length_eq;simpa using this) hn hA') ⟨by rw[h0];exact hI,Heap.get?_push_of_some _ ho⟩ hp (fun b o e=>⟨Heap.get?_push_of_some _ e,Nat.ne_of_lt (Heap.lt_size e)⟩) ?_ rfl rfl (Nat.le_refl _) ?_
   ·intro b hb
    simp only[List.mem_cons,List.not_mem_nil,or_false]at hb
    rcases hb with rfl | rfl
    ·exact .inr (Heap.get?_none_of_le (Nat.le_refl _))
    ·exact .inl rfl
   ·intro b hb
    simp only[List.mem_cons,List.not_mem_nil,or_false]at hb
    rcases hb with rfl | rfl
    ·exact⟨_,hI⟩
    ·exact⟨_,Heap.get?_push_of_some _ ho⟩
  cases bt:w.params.followText "set-order" with
  | true =>
   refine fin (pickOrder (w.params.setOrder a ep) es).toList (fun _=>0) rfl (a5s _ _) fun s i A' E' Q' h1 h2 q'=>a2S h1 hd hf bt 0 i ?_
   rw[Array.getElem?_toList]at q'
   exact q'
  | false =>
   rw[bt]at c T
   refine fin es.toList (K6 t) rfl (.refl _) fun s i A' E' Q' h1 h2 q'=>a2p h1 hd hf bt (by simpa using c) T i i h2 ?_
   rw[Array.getElem?_toList]at q'
   exact q'
end
section
variable {prog:Program}{w:World}{A:Around}{E:Value→Shared→Prop}{s:Shared}
theorem a5v{es:List (Int×Value)}(h:∀e∈es,IsI e):IntsAre (es.map (·.2)) (es.map B4):=by
 induction es with
 | nil=>exact .nil
 | cons e es ih =>
  obtain⟨k,t,rfl⟩:=h e List.mem_cons_self
  exact .cons k t (ih fun e m=>h e (List.mem_cons_of_mem _ m))
theorem a3r{a:Addr}{L:List Int}{Q:List Value→Shared→Prop}(S:SetR w s.heap a L)(hh:A.handled=none)
  (h:∀(s':Shared) (vs:List Value) (ks:List Int),(∀b o,s.heap.get? b=some o→s'.heap.get? b=some o)→s'.gens=s.gens→s'.os=s.os→s.heap.objs.size<s'.heap.objs.size→IntsAre vs ks→ks.Nodup→(∀k,k∈ks↔k∈L)→Q vs s') :
  wpAny (model prog w) A (collect (.ref a)) Q E s:=by
 obtain⟨o,es,ep,t,ho,hx,hd,hI,hN,hL,hs,hf,T⟩:=S.ex
 have hsl:es.size≤sizeLine:=fits_of_scanBound hs
 unfold collect
 refine wpAny_bind (wpAny_runValue (codeAny_builtin F.entry_proto_collect ?_))
 rw[Around.under_plainId F.plain_proto_collect _]
 show wpAny _ A.in1 (newList [] >>= fun l=>again (.builtin "list.__iadd__" ⟨[l,.ref a],[]⟩)) _ _ s
 refine wpAny_bind (wpAny_newObj_type ?_)
 refine wpAny_pure ⟨plainId_quiet F.plain_list_iadd _,codeAny_builtin F.entry_list_iadd ?_⟩
 rw[Around.under_plainId F.plain_list_iadd _]
 show wpAny _ A.in1 (Builtin.List.listExtendWith (.ref s.heap.objs.size) (.ref a) (.ref s.heap.objs.size)) _ _ _
 have hS:(s.heap.push { cls:=.type "list",data:=.seq ([]:List Value).toArray }).get? s.heap.objs.size=some (seqObj "list" #[] 0):=Heap.get?_push_size _ rfl
 have ho1:(s.heap.push { cls:=.type "list",data:=.seq ([]:List Value).toArray }).get? a=some o:=Heap.get?_push_of_some _ ho
 have hne:s.heap.objs.size≠a:=Nat.ne_of_gt (Heap.lt_size ho)
 have kp1:∀b o,s.heap.get? b=some o→(s.heap.push { cls:=.type "list",data:=.seq ([]:List Value).toArray }).get? b=some o:=fun b o e=>Heap.get?_push_of_some _ e
 generalize s.heap.push { cls:=.type "list",data:=.seq ([]:List Value).toArray }=h1 at *
 have hlt:∀b o,s.heap.get? b=some o→b≠s.heap.objs.size:=fun b o e=>Nat.ne_of_lt (Heap.lt_size e)
 generalize s.heap.objs.size=D at *
 unfold Builtin.List.listExtendWith
 have tset:({ s with heap:=h1 }:Shared).TypeIs (.ref a) "set" := ⟨o,ho1,hx.1⟩
 refine wpAny_bind (wpAny_typeOf tset ?_)
 refine wpAny_ite_false (by
  show decide ((D == a || _ || _)=true)=false
  rw[beq_false_of_ne hne]
  rfl) ?_
 refine wpAny_bind (a6G (s:={ s with heap:=h1 }) ho1 hx hd hf T hs fun I fp ord St s' W st0 hp kp2 hfp hg hos htk hfo=>?_)
 have tset2:s'.TypeIs (.ref a) "set" := ⟨o,(kp2 a o ho1).1,hx.1⟩
 refine wpAny_bind (wpAny_holding (a6E tset2 ?_))
 refine wpAny_ite_true (by decide +kernel) ?_
 refine wpAny_bind (wpAny_rule ?_)
 have hDs:s'.heap.get? D=some (seqObj "list" #[] 0):=(kp2 D _ hS).1
 have hDf:D ∉ fp:=fun z=>by
  rcases hfp D z with z | z
  ·exact hne z
  ·have z:h1.get? D=none:=z
   rw[hS]at z;cases z
 refine wpAny_bind ?_
 unfold Builtin.List.listTouch
 have sm1:=Heap.SameBut.update s'.heap D (Obj.mapSeq fun x=>x.push Value.none)
 obtain⟨c1,g1⟩:∃c1,(s'.heap.update D (Obj.mapSeq fun x=>x.push Value.none)).get? D=some (seqObj "list" (#[].push Value.none) c1):=⟨_,get?_update_seq hDs fun x=>x.push Value.none⟩
 refine wpAny_bind (listUpdate_at hDs rfl ?_ (Nat.zero_le _) (by decide))
 have sm2:=Heap.SameBut.update (s'.heap.update D (Obj.mapSeq fun x=>x.push Value.none)) D (Obj.mapSeq fun x=>x.pop)
 obtain⟨c2,g2⟩:∃c2,((s'.heap.update D (Obj.mapSeq fun x=>x.push Value.none)).update D (Obj.mapSeq fun x=>x.pop)).get? D=some (seqObj "list" (#[].push Value.none).pop c2):=⟨_,get?_update_seq g1 fun x=>x.pop⟩
 refine listUpdate_at (s:={ s' with heap:=s'.heap.update D (Obj.mapSeq fun x=>x.push Value.none) }) g1 rfl ?_ (by decide) (by decide)
 have kp3:∀b o,b≠D→s'.heap.get? b=some o→((s'.heap.update D (Obj.mapSeq fun x=>x.push Value.none)).update D (Obj.mapSeq fun x=>x.pop)).get? b=some o:=fun b o hb e=>(sm2.2 b hb).trans ((sm1.2 b hb).trans e)
 generalize (s'.heap.update D (Obj.mapSeq fun x=>x.push Value.none)).update D (Obj.mapSeq fun x=>x.pop)=h3 at *
 have hlen:ord.length=es.size:=by have:=hp.length_eq;simpa using this
 refine wpAny_pure ⟨plainId_quiet F.plain_extend_loop _,codeAny_extend_loopS (W A.in1 hh) hsl D hDf (.ref D) es.size 0 { s' with heap:=h3 } #[] c2 rfl (Nat.zero_le _) ((W A.in1 hh).frame 0 s' h3 s'.toks st0 (Nat.le_refl _) fun b hb o e=>kp3 b o (fun z=>hDf (z▸hb)) e) g2 ⟨rfl,fun j v e=>by simp at e⟩ fun s4 acc c' mv hD4 items=>?_⟩
 show wpAny _ A (load D >>= _) _ _ _
 refine wpAny_bind (wpAny_load hD4 ?_)
 have hacc:acc.toList=ord.map (·.2):=by
  apply List.ext_getElem?
  intro j
  by_cases z:j<acc.size
  ·have e:=Array.getElem?_eq_getElem z
   obtain⟨e',h1',h2'⟩:=items.2 j _ e
   rw[Array.getElem?_toList,e,List.getElem?_map,h1',h2']
   rfl
  ·rw[Array.getElem?_toList,Array.getElem?_eq_none (by omega),List.getElem?_eq_none (by rw[List.length_map,hlen,← items.1];omega)]
 have hIo:∀e∈ord,IsI e:=fun e he=>hI e (hp.mem_iff.mp he)
 refine wpAny_pure (h s4 acc.toList (ord.map B4) (fun b o e=>mv.heap b o ?_ (kp3 b o (hlt b o e) (kp2 b o (kp1 b o e)).1)) (mv.gens.trans hg) (mv.os.trans hos) (Heap.lt_size hD4) (by rw[hacc];exact a5v hIo) ((hp.map B4).nodup_iff.mpr hN) fun k=>((hp.map B4).mem_iff).trans (hL k))
 simp only[List.mem_cons,List.not_mem_nil,or_false,not_or]
 exact⟨hlt b o e,(kp2 b o (kp1 b o e)).2⟩
end
theorem Y1:∀{vs:List Value} {ns:List Int},IntsAre vs ns→vs.length=ns.length:=by
 intro vs ns h
 induction h with
 | nil=>rfl
 | cons n t _ ih=>simp[ih]
theorem J6{vs:List Value}{ns:List Int}(h:IntsAre vs ns){i:Nat}(hi:i<vs.length):∃t,vs.getD i Value.none=.int (ns.getD i 0) t:=by
 obtain⟨t,e⟩:=h.int_at i vs[i] (List.getElem?_eq_getElem hi)
 refine⟨t,?_⟩
 rw[List.getD_eq_getElem?_getD,List.getElem?_eq_getElem hi]
 exact e
theorem a2T{vs:List Value}{ns:List Int}(h:IntsAre vs ns):∀v∈vs,∃n t,v=Value.int n t:=by
 induction h with
 | nil=>intro v m;cases m
 | cons n t _ ih =>
  intro v m
  rcases List.mem_cons.mp m with rfl | m
  ·exact⟨n,t,rfl⟩
  ·exact ih v m
section
variable {prog:Program}{w:World}{A:Around}{E:Value→Shared→Prop}{s:Shared}
theorem b0j{ks:List Int}{p:List Nat}(hd:ks.Nodup)(hp:p.Perm (List.range ks.length))(hs:p.Pairwise (fun i j=>decide (ks.getD j 0<ks.getD i 0)=false)):(p.map fun i=>ks.getD i 0).Pairwise (· < ·)∧∀k,k∈(p.map fun i=>ks.getD i 0)↔k∈ks:=by
 have hpm:(p.map fun i=>ks.getD i 0).Perm ks:=by
  have:=hp.map fun i=>ks.getD i 0
  refine this.trans (.of_eq ?_)
  apply List.ext_getElem
  ·simp
  ·intro i h1 h2
   simp[h2]
 have hnd:(p.map fun i=>ks.getD i 0).Nodup:=hpm.nodup_iff.mpr hd
 refine⟨?_,fun k=>hpm.mem_iff⟩
 rw[List.pairwise_map]
 rw[List.nodup_iff_pairwise_ne,List.pairwise_map]at hnd
 refine(hs.and hnd).imp ?_
 intro i j ⟨h1,h2⟩
 have:=of_decide_eq_false h1
 omega
theorem a04:∀{vs:List Value} {ks:List Int} (p:List Nat),IntsAre vs ks→(∀i∈p,i<vs.length)→Vals ((p.map fun i=>ks.getD i 0).map V.int) (p.map fun i=>vs.getD i Value.none)
 | _,_,[],_,_=>.nil
 | vs,ks,i::p,r,h=>by
  obtain⟨t,e⟩:=J6 r (h i (by simp))
  exact .cons ⟨t,e⟩ (a04 p r fun j hj=>h j (by simp[hj]))
end
theorem b0k:bootBuiltins "set" = some (.type "set"):=by decide +kernel
section
variable {X:Cx}
theorem Inv.laidD{pins:List (Addr×Obj)}{σ:St}{H:Hp}{s s':Shared}{a:Addr}{o:HO}(I:Inv X pins σ H s)(k:∀b u,s.heap.get? b=some u→s'.heap.get? b=some u)(hg:s'.gens=s.gens)(hos:s'.os=s.os)(hp:s.heap.objs.size≤a)(new:ObjOk X.prog X.w (upd H a o) s'.heap a o):Inv X pins σ (upd H a o) s':=by
 have J:=I.laid (t':=s'.toks) k hp new
 have hb:AllBare s'.gens:=by rw[hg];exact I.bare
 obtain⟨ok,os,bare,base,loc,cell,free,freeC,pin,hok,len⟩:=J
 exact⟨ok,hos.trans I.os,hb,base,loc,cell,free,freeC,pin,hok,len⟩
end
end L2
namespace HT
open PySem PyProof.Rows
inductive IB:List Value→List Value→List Int→List Int→Prop
 | nil:IB [] [] [] []
 | int (a:Int) (t:Tok) (c:Int) (u:Tok) {vs ws:List Value} {ns ms:List Int} (h:IB vs ws ns ms):IB (.int a t::vs) (.int c u::ws) (a::ns) (c::ms)
 | bl (p q:Bool) {vs ws:List Value} {ns ms:List Int} (h:IB vs ws ns ms):IB (.bool p::vs) (.bool q::ws) (b2i p::ns) (b2i q::ms)
theorem IB.len{vs ws:List Value}{ns ms:List Int}(h:IB vs ws ns ms):vs.length=ws.length:=by
 induction h with
 | nil=>rfl
 | int _ _ _ _ _ ih=>simp[ih]
 | bl _ _ _ ih=>simp[ih]
end HT
namespace L2
open PySem PySem.Spec PyProof.Rows
open PySem.W
section
variable {n:Nat}{lt:Nat→Nat→Bool}
def Prx(n:Nat)(p:Array Nat)(m:Nat):Prop:=(∀i,i<m→ga p i<m)∧∀i,m≤i→i<n→ga p i=i
theorem Prx.up{p:Array Nat}{m k:Nat}(h:Prx n p m)(hk:m≤k)(hn:k≤n):Prx n p k:=by
 refine⟨fun i hi=>?_,fun i h1 h2=>h.2 i (by omega) h2⟩
 by_cases z:i<m
 ·have:=h.1 i z;omega
 ·rw[h.2 i (by omega) (by omega)];exact hi
structure DR(n:Nat)(lt:Nat→Nat→Bool)(p:Array Nat)(k:Nat):Prop where
 pre:Prx n p k
 d1:∀i j,i<j→j<k→lt (ga p i) (ga p j)=false
 d2:∀i j,i<j→j<k→lt (ga p j) (ga p i)=false→ga p j<ga p i
structure DG(n:Nat)(lt:Nat→Nat→Bool)(p:Array Nat)(k q:Nat):Prop where
 pre:Prx n p (k-(q+1))
 d1:∀i j,i<j→j<k→lt (ga p i) (ga p j)=false
 d2:∀i j,i<j→j<k-(q+1)→lt (ga p j) (ga p i)=false→ga p j<ga p i
 d3:∀i,i<k-(q+1)→lt (ga p (k-1)) (ga p i)=true
 d4:∀i,k-(q+1)≤i→i<k→lt (ga p (k-1)) (ga p i)=false
theorem DR.snoc{p:Array Nat}{k:Nat}(T:TPre lt)(d:DR n lt p k)(h:∀i,i<k→lt (ga p k) (ga p i)=true)(hk:k<n):DG n lt p (k+1) 0:=by
 have e:k+1-(0+1)=k:=by omega
 refine⟨by rw[e];exact d.pre,fun i j hij hj=>?_,fun i j hij hj=>by rw[e]at hj;exact d.d2 i j hij hj,fun i hi=>by rw[e]at hi;rw[Nat.add_sub_cancel];exact h i hi,fun i h1 h2=>?_⟩
 ·by_cases z:j<k
  ·exact d.d1 i j hij z
  ·have e:j=k:=by omega
   subst e
   exact T.asy _ _ (h i hij)
 ·have e:i=k:=by omega
  subst e
  rw[Nat.add_sub_cancel];exact T.irr _
theorem DG.alike{p:Array Nat}{k q:Nat}(T:TPre lt)(d:DG n lt p k q)(hq:q+1≤k){i j:Nat}(h1:k-(q+1)≤i)(h2:i<k)(h3:k-(q+1)≤j)(h4:j<k):lt (ga p i) (ga p j)=false:=by
 have a:lt (ga p i) (ga p (k-1))=false:=by
  by_cases z:i=k-1
  ·rw[z];exact T.irr _
  ·exact d.d1 i (k-1) (by omega) (by omega)
 exact T.tr _ _ _ (d.d4 j h3 h4) a
theorem DG.rev{p:Array Nat}{k q:Nat}(T:TPre lt)(hp:Pmn n p)(d:DG n lt p k q)(hq:q+1≤k)(hk:k≤n):DR n lt (kas_rev p (k-(q+1)) k) k:=by
 have hps:=hp.size
 have gr:=b0h (p:=p) (i:=k-(q+1)) (j:=k) (by omega)
 have pi:∀i,k-(q+1)≤i→i<n→ga p i=i:=d.pre.2
 refine⟨⟨fun i hi=>?_,fun i h1 h2=>?_⟩,fun i j hij hj=>?_,fun i j hij hj=>?_⟩
 ·rw[gr]
  split
  ·rw[pi _ (by omega) (by omega)];omega
  ·have:=d.pre.1 i (by omega);omega
 ·rw[gr,if_neg (by omega)];exact pi i (by omega) h2
 ·rw[gr,gr]
  by_cases zj:k-(q+1)≤j
  ·rw[if_pos (show k-(q+1)≤j∧j<k by omega)]
   by_cases zi:k-(q+1)≤i
   ·rw[if_pos (by omega)]
    exact d.alike T hq (by omega) (by omega) (by omega) (by omega)
   ·rw[if_neg (by omega)]
    exact d.d1 _ _ (by omega) (by omega)
  ·rw[if_neg (show ¬(k-(q+1)≤j∧j<k) by omega),if_neg (by omega)]
   exact d.d1 _ _ hij hj
 ·rw[gr,gr]
  by_cases zj:k-(q+1)≤j
  ·rw[if_pos (show k-(q+1)≤j∧j<k by omega)]
   by_cases zi:k-(q+1)≤i
   ·rw[if_pos (by omega)]
    intro _
    rw[pi _ (by omega) (by omega),pi _ (by omega) (by omega)]
    omega
   ·rw[if_neg (by omega)]
    intro z
    have a:=d.alike T hq (i:=k-1) (j:=k-(q+1)+k-1-j) (by omega) (by omega) (by omega) (by omega)
    have b:=T.tr _ _ _ z a
    rw[d.d3 i (by omega)]at b
    cases b
  ·rw[if_neg (show ¬(k-(q+1)≤j∧j<k) by omega),if_neg (by omega)]
   exact d.d2 _ _ hij (by omega)
theorem DG.one{p:Array Nat}{k:Nat}(T:TPre lt)(d:DG n lt p k 0)(hk1:1≤k)(hk:k≤n):DR n lt p k:=by
 refine⟨d.pre.up (by omega) hk,d.d1,fun i j hij hj z=>?_⟩
 by_cases e:j=k-1
 ·subst e
  rw[d.d3 i (by omega)]at z
  cases z
 ·exact d.d2 i j hij (by omega) z
end
theorem SqL.ext{K:W.Frag}{H1 H2:Hp}{a:Addr}{xs:List V}(h:SqL K H1 a xs)(ex:∀a o,H1 a=some o→H2 a=some o):SqL K H2 a xs:=by
 rcases h with(h | ⟨o,h⟩) | h
 ·exact .inl (.inl (ex _ _ h))
 ·exact .inl (.inr ⟨o,ex _ _ h⟩)
 ·exact .inr h
def v9:Bool→Keyed→Array Keyed→Nat→Nat→Nat→StateT SortSt Sem (Option Nat):=sortPriv% PySem.Builtin.gallop
abbrev N6(left:Bool)(key:Keyed)(arr:Array Keyed)(base i:Nat):StateT SortSt Sem (Option Bool):=do
 let x ← elem' arr (base+i)
 if left then lt' x key else return (← lt' key x).map (!·)
theorem a4A(left:Bool)(key:Keyed)(arr:Array Keyed)(base n hint:Nat):v9 left key arr base n hint=(do
 let mut lastofs:=0
 let mut ofs:=1
 let mut lo:=0
 let mut hi:=0
 let some right ← N6 left key arr base hint | return none
 if right then
  let maxofs:=n-hint
  for _ in [0:n]do
   if ofs≥maxofs then break
   let some more ← N6 left key arr base (hint+ofs) | return none
   if !more then break
   lastofs:=ofs
   ofs:=2*ofs+1
  lo:=hint+lastofs+1
  hi:=hint+min ofs maxofs
 else
  let maxofs:=hint+1
  for _ in [0:n]do
   if ofs≥maxofs then break
   let some found ← N6 left key arr base (hint-ofs) | return none
   if found then break
   lastofs:=ofs
   ofs:=2*ofs+1
  lo:=hint+1-min ofs maxofs
  hi:=hint-lastofs
 for _ in [0:n]do
  if lo≥hi then break
  let m:=lo+(hi-lo)/2
  let some more ← N6 left key arr base m | return none
  if more then lo:=m+1 else hi:=m
 return some hi):=rfl
structure TPK(lt:Keyed→Keyed→Bool)(Dm:Keyed→Prop):Prop where
 irr:∀x,Dm x→lt x x=false
 tr:∀x y z,Dm x→Dm y→Dm z→lt y x=false→lt z y=false→lt z x=false
 asy:∀x y,Dm x→Dm y→lt x y=true→lt y x=false
section
variable {prog:Program}{w:World}{A:Around}{E:Value→Shared→Prop}{s:Shared}{κ:SortKind}{lt:Keyed→Keyed→Bool}{Dm:Keyed→Prop}
def u5(prog:Program)(w:World)(A:Around)(s:Shared)(κ:SortKind)(lt:Keyed→Keyed→Bool)(Dm:Keyed→Prop):Prop:=∀x y,Dm x→Dm y→∀Q:Bool→Shared→Prop,Q (lt x y) s→wpAny (model prog w) A (keyLt' κ x.1 y.1) Q (fun _ _=>False) s
theorem Y2{x y:Keyed}{st:SortSt}{Q:Option Bool→SortSt→Prop}(C:u5 prog w A s κ lt Dm)(hk:kindOf st=κ)(hx:Dm x)(hy:Dm y)(h:Q (some (lt x y)) st):wpS (model prog w) A E s (lt' x y) Q st:=by
 rw[lt'_eq]
 refine wpS_bind (wpS_get ?_)
 rw[hk]
 refine wpS_bind (wpS_lift (wpAny_attempt (wpAny_mono (C x y hx hy (fun b s'=>s'=s∧b=lt x y) ⟨rfl,rfl⟩) (fun b s' hb=>?_) fun _ _ z=>z.elim)))
 obtain⟨rfl,rfl⟩:=hb
 exact⟨rfl,wpS_pure h⟩
theorem j5{arr:Array Keyed}{i:Nat}{x:Keyed}{st:SortSt}{Q:Keyed→SortSt→Prop}(hx:arr[i]? = some x)(h:Q x st):wpS (model prog w) A E s (elem' arr i) Q st:=by
 rw[elem'_eq,hx]
 exact wpS_pure h
def bey(lt:Keyed→Keyed→Bool)(left:Bool)(key x:Keyed):Bool:=if left=true then lt x key else !lt key x
theorem a8y{left:Bool}{key x:Keyed}{arr:Array Keyed}{base i:Nat}{st:SortSt}{Q:Option Bool→SortSt→Prop}(C:u5 prog w A s κ lt Dm)(hk:kindOf st=κ)(hkey:Dm key)(hx:arr[base+i]? = some x)(dx:Dm x)(h:Q (some (bey lt left key x)) st):wpS (model prog w) A E s (N6 left key arr base i) Q st:=by
 refine wpS_bind (j5 hx ?_)
 cases left with
 | true=>exact Y2 C hk dx hkey h
 | false=>exact wpS_bind (Y2 C hk hkey dx (wpS_pure h))
theorem L8{β:Type}{n:Nat}{f:Nat→β→StateT SortSt Sem (ForInStep β)}(I:Nat→β→SortSt→Prop)(Q':β→SortSt→Prop){Q:β→SortSt→Prop}{c:β}{st:SortSt}
  (hstep:∀i c st,i<n→I i c st→wpS (model prog w) A E s (f i c) (fun r st'=>match r with | .done c'=>Q' c' st' | .yield c'=>I (i+1) c' st') st)
  (hend:∀c st,I n c st→Q' c st) (h:I 0 c st) (hq:∀c st',Q' c st'→Q c st'):wpS (model prog w) A E s (forIn [:n] c f) Q st :=
 wpS_mono (wpS_forRange I (Q:=Q') (fun i c st _ hi hI=>hstep i c st hi hI) (fun c st hI=>hend c st (by rw[show max 0 n=n by omega]at hI;exact hI)) h) hq
theorem a3U{n lo hi:Nat}{st:SortSt}{B:Nat→StateT SortSt Sem (Option Bool)}{Q:Option (Option Nat)×Nat×Nat→SortSt→Prop}(b:Nat→Bool)(ask:∀i (Q':Option Bool→SortSt→Prop),i<n→Q' (some (b i)) st→wpS (model prog w) A E s (B i) Q' st)
  (mono:∀i j,i≤j→j<n→b j=true→b i=true) (h1:lo≤hi) (h2:hi≤n) (h3:∀i,i<lo→b i=true) (h4:∀i,hi≤i→i<n→b i=false) (h:∀k,k≤n→(∀i,i<k→b i=true)→(∀i,k≤i→i<n→b i=false)→∀l,Q (none,l,k) st) :
  wpS (model prog w) A E s (forIn [:n] ((none,lo,hi):Option (Option Nat)×Nat×Nat) fun x __s =>
        if __s.snd.fst≥__s.snd.snd then pure (ForInStep.done (none,__s.snd.fst,__s.snd.snd))
        else do
         let __x ← B (__s.snd.fst+(__s.snd.snd-__s.snd.fst)/2)
         match __x with
          | some more =>
           if more=true then
            pure (ForInStep.yield (none,__s.snd.fst+(__s.snd.snd-__s.snd.fst)/2+1,__s.snd.snd))
           else pure (ForInStep.yield (none,__s.snd.fst,__s.snd.fst+(__s.snd.snd-__s.snd.fst)/2))
          | x=>pure (ForInStep.done (some none,__s.snd.fst,__s.snd.snd))) Q st:=by
 refine wpS_forRange (fun i c st'=>c.1=none∧st'=st∧c.2.1≤c.2.2∧c.2.2≤n∧(∀i,i<c.2.1→b i=true)∧(∀i,c.2.2≤i→i<n→b i=false)∧c.2.2-c.2.1≤n-i) ?_ ?_ ⟨rfl,rfl,h1,h2,h3,h4,by simp;omega⟩
 ·rintro i ⟨c0,lo,hi⟩ st' _ hi2 ⟨e0,rfl,a1,a2,a3,a4,a5⟩
  dsimp only at *
  by_cases z:lo≥hi
  ·rw[if_pos z]
   refine wpS_pure ?_
   have:lo=hi:=by omega
   subst this
   exact h lo a2 a3 a4 lo
  ·rw[if_neg z]
   refine wpS_bind (ask _ _ (by omega) ?_)
   dsimp only
   cases c:b (lo+(hi-lo)/2)with
   | true =>
    rw[if_pos rfl]
    exact wpS_pure ⟨rfl,rfl,by show lo+(hi-lo)/2+1≤hi;omega,a2,fun j hj=>mono j _ (by have:j<lo+(hi-lo)/2+1:=hj;omega) (by omega) c,a4,by show hi-(lo+(hi-lo)/2+1)≤n-(i+1);omega⟩
   | false =>
    rw[if_neg (by simp)]
    refine wpS_pure ⟨rfl,rfl,by show lo≤lo+(hi-lo)/2;omega,by show lo+(hi-lo)/2≤n;omega,a3,fun j hj hn=>?_,by show lo+(hi-lo)/2-lo≤n-(i+1);omega⟩
    have hj:lo+(hi-lo)/2≤j:=hj
    cases d:b j with
    | false=>rfl
    | true=>rw[mono _ j hj hn d]at c;cases c
 ·rintro⟨c0,lo,hi⟩ st' ⟨e0,rfl,a1,a2,a3,a4,a5⟩
  dsimp only at *
  subst e0
  have:lo=hi:=by
   have:max 0 n=n:=by omega
   omega
  subst this
  exact h lo a2 a3 a4 lo
theorem C6{left:Bool}{key:Keyed}{arr:Array Keyed}{base n hint:Nat}{st:SortSt}{Q:Option Nat→SortSt→Prop}(C:u5 prog w A s κ lt Dm)(hk:kindOf st=κ)(hkey:Dm key)(hh:hint<n)(b:Nat→Bool)(hb:∀i,i<n→∃x,arr[base+i]? = some x∧Dm x∧bey lt left key x=b i)(mono:∀i j,i≤j→j<n→b j=true→b i=true)
  (h:∀k,k≤n→(∀i,i<k→b i=true)→(∀i,k≤i→i<n→b i=false)→Q (some k) st):wpS (model prog w) A E s (v9 left key arr base n hint) Q st:=by
 have ask:∀i (Q':Option Bool→SortSt→Prop),i<n→Q' (some (b i)) st→wpS (model prog w) A E s (N6 left key arr base i) Q' st:=fun i Q' hi hq=>by
  obtain⟨x,hx,dx,e⟩:=hb i hi
  exact a8y C hk hkey hx dx (by rw[e];exact hq)
 rw[a4A]
 refine wpS_bind (ask hint _ hh ?_)
 dsimp only
 have neg:∀i j,i≤j→j<n→b i=false→b j=false:=fun i j h1 h2 h3=>by
  cases d:b j with
  | false=>rfl
  | true=>rw[mono i j h1 h2 d]at h3;cases h3
 cases c:b hint with
 | true =>
  rw[if_pos rfl]
  refine wpS_bind (L8 (fun(i:Nat) (c:Option (Option Nat)×Nat×Nat) st'=>c.1=none∧st'=st∧c.2.1<c.2.2∧i+1≤c.2.2∧hint+c.2.1<n∧b (hint+c.2.1)=true) (fun(c:Option (Option Nat)×Nat×Nat) st'=>c.1=none∧st'=st∧c.2.1<c.2.2∧hint+c.2.1<n∧b (hint+c.2.1)=true∧(hint+c.2.2<n→b (hint+c.2.2)=false)) ?_ ?_ ⟨rfl,rfl,by show 0<1;omega,by show 0+1≤1;omega,by show hint+0<n;omega,c⟩ ?_)
  ·rintro i ⟨c0,l,o⟩ st' hi2 ⟨e0,rfl,a1,a2,a3,a4⟩
   dsimp only at *
   by_cases z:o≥n-hint
   ·rw[if_pos z]
    exact wpS_pure ⟨rfl,rfl,a1,a3,a4,fun y=>absurd y (by show ¬hint+o<n;omega)⟩
   ·rw[if_neg z]
    refine wpS_bind (ask _ _ (by omega) ?_)
    dsimp only
    cases d:b (hint+o)with
    | true =>
     rw[if_neg (by simp)]
     exact wpS_pure ⟨rfl,rfl,by show o<2*o+1;omega,by show i+1+1≤2*o+1;omega,by show hint+o<n;omega,d⟩
    | false =>
     rw[if_pos (by simp)]
     exact wpS_pure ⟨rfl,rfl,a1,a3,a4,fun _=>d⟩
  ·rintro⟨c0,l,o⟩ st' ⟨e0,rfl,a1,a2,a3,a4⟩
   dsimp only at *
   refine⟨e0,rfl,a1,a3,a4,fun y=>absurd y ?_⟩
   omega
  ·rintro⟨c0,l,o⟩ st' ⟨e0,rfl,a1,a3,a4,a5⟩
   dsimp only at *
   subst e0
   dsimp only
   refine wpS_bind (a3U b ask mono (by omega) (by omega) (fun j hj=>mono j (hint+l) (by omega) a3 a4) (fun j hj hn=>neg (hint+o) j (by omega) hn (a5 (by omega))) fun k k1 k2 k3 l=>wpS_pure (h k k1 k2 k3))
 | false =>
  rw[if_neg (by simp)]
  refine wpS_bind (L8 (fun(i:Nat) (c:Option (Option Nat)×Nat×Nat) st'=>c.1=none∧st'=st∧c.2.1<c.2.2∧i+1≤c.2.2∧c.2.1≤hint∧b (hint-c.2.1)=false) (fun(c:Option (Option Nat)×Nat×Nat) st'=>c.1=none∧st'=st∧c.2.1<c.2.2∧c.2.1≤hint∧b (hint-c.2.1)=false∧(c.2.2≤hint→b (hint-c.2.2)=true)) ?_ ?_ ⟨rfl,rfl,by show 0<1;omega,by show 0+1≤1;omega,by show 0≤hint;omega,c⟩ ?_)
  ·rintro i ⟨c0,l,o⟩ st' hi2 ⟨e0,rfl,a1,a2,a3,a4⟩
   dsimp only at *
   by_cases z:o≥hint+1
   ·rw[if_pos z]
    exact wpS_pure ⟨rfl,rfl,a1,a3,a4,fun y=>absurd y (by show ¬o≤hint;omega)⟩
   ·rw[if_neg z]
    refine wpS_bind (ask _ _ (by omega) ?_)
    dsimp only
    cases d:b (hint-o)with
    | true =>
     rw[if_pos rfl]
     exact wpS_pure ⟨rfl,rfl,a1,a3,a4,fun _=>d⟩
    | false =>
     rw[if_neg (by simp)]
     exact wpS_pure ⟨rfl,rfl,by show o<2*o+1;omega,by show i+1+1≤2*o+1;omega,by show o≤hint;omega,d⟩
  ·rintro⟨c0,l,o⟩ st' ⟨e0,rfl,a1,a2,a3,a4⟩
   dsimp only at *
   refine⟨e0,rfl,a1,a3,a4,fun y=>absurd y ?_⟩
   omega
  ·rintro⟨c0,l,o⟩ st' ⟨e0,rfl,a1,a3,a4,a5⟩
   dsimp only at *
   subst e0
   dsimp only
   refine wpS_bind (a3U b ask mono (by omega) (by omega) (fun j hj=>?_) (fun j hj hn=>neg (hint-l) j hj hn a4) fun k k1 k2 k3 l=>wpS_pure (h k k1 k2 k3))
   by_cases y:o≤hint
   ·exact mono j (hint-o) (by omega) (by omega) (a5 y)
   ·omega
end
def w4:Nat→StateT SortSt Sem Unit:=sortPriv% PySem.Builtin.setMinGallop
theorem a0y(g:Nat):w4 g=modify fun s=>SortSt.mk' (kindOf s) (arrOf s) (pendingOf s) g (failedOf s):=rfl
def a0z:Array Keyed→Array Keyed→StateT SortSt Sem (Array Keyed):=sortPriv% PySem.Builtin.mergeLo
abbrev z8(a b out:Array Keyed)(ia ib:Nat):Array Keyed:=out++a.extract ia a.size++b.extract ib b.size
abbrev U1(a b out:Array Keyed)(ia ib:Nat):Array Keyed:=out++b.extract ib b.size++a.extract ia a.size
theorem a3s(a b:Array Keyed):a0z a b=(do
 rule "list.sort.merge-lo"
 let total:=a.size+b.size
 let mut out:Array Keyed := #[← elem' b 0]
 let mut ia:=0
 let mut ib:=1
 if ib == b.size then return z8 a b out ia ib
 if ia+1 == a.size then return U1 a b out ia ib
 let mut minGallop:=gallopOf (← get)
 for _ in [0:total]do
  let mut acount:=0
  let mut bcount:=0
  for _ in [0:total]do
   let some bWins ← lt' (← elem' b ib) (← elem' a ia) | return z8 a b out ia ib
   if bWins then
    out:=out.push (← elem' b ib);ib:=ib+1;bcount:=bcount+1;acount:=0
    if ib == b.size then return z8 a b out ia ib
    if bcount≥minGallop then break
   else
    out:=out.push (← elem' a ia);ia:=ia+1;acount:=acount+1;bcount:=0
    if ia+1 == a.size then return U1 a b out ia ib
    if acount≥minGallop then break
  rule "list.sort.gallop"
  minGallop:=minGallop+1
  for _ in [0:total]do
   if minGallop > 1 then minGallop:=minGallop-1
   w4 minGallop
   let some k ← v9 false (← elem' b ib) a ia (a.size-ia) 0 | return z8 a b out ia ib
   acount:=k
   if k > 0 then
    out:=out++a.extract ia (ia+k);ia:=ia+k
    if ia+1 == a.size then return U1 a b out ia ib
    if ia == a.size then return z8 a b out ia ib
   out:=out.push (← elem' b ib);ib:=ib+1
   if ib == b.size then return z8 a b out ia ib
   let some k ← v9 true (← elem' a ia) b ib (b.size-ib) 0 | return z8 a b out ia ib
   bcount:=k
   if k > 0 then
    out:=out++b.extract ib (ib+k);ib:=ib+k
    if ib == b.size then return z8 a b out ia ib
   out:=out.push (← elem' a ia);ia:=ia+1
   if ia+1 == a.size then return U1 a b out ia ib
   if acount<7 && bcount<7 then break
  minGallop:=minGallop+1
  w4 minGallop
 unsupported "internal:list.sort.merge-bound"):=rfl
def Srt(lt:Keyed→Keyed→Bool)(l:List Keyed):Prop:=l.Pairwise fun x y=>lt y x=false
structure ML(lt:Keyed→Keyed→Bool)(aL bL o ra rb:List Keyed):Prop where
 ex:∃pa pb,aL=pa++ra∧bL=pb++rb∧o.Perm (pa++pb)
 so:Srt lt o
 oa:∀x∈o,∀y∈ra,lt y x=false
 ob:∀x∈o,∀y∈rb,lt y x=false
def i9(lt:Keyed→Keyed→Bool)(aL bL r:List Keyed):Prop:=r.Perm (aL++bL)∧Srt lt r
section
variable {lt:Keyed→Keyed→Bool}{aL bL o ra rb u:List Keyed}{x y:Keyed}
theorem Srt.app{l m:List Keyed}(h1:Srt lt l)(h2:Srt lt m)(h3:∀x∈l,∀y∈m,lt y x=false):Srt lt (l++m):=List.pairwise_append.mpr ⟨h1,h2,h3⟩
theorem Srt.drop{l:List Keyed}(h:Srt lt l)(n:Nat):Srt lt (l.drop n):=List.Pairwise.sublist (List.drop_sublist n l) h
theorem ML.addB(m:ML lt aL bL o ra (y::rb))(hs:Srt lt (y::rb))(h:∀x∈ra,lt x y=false):ML lt aL bL (o++[y]) ra rb:=by
 obtain⟨pa,pb,e1,e2,p⟩:=m.ex
 have hy:=List.pairwise_cons.mp hs
 refine⟨⟨pa,pb++[y],e1,by rw[e2];simp,?_⟩,m.so.app (List.pairwise_singleton _ _) (fun x hx z hz=>?_),fun x hx z hz=>?_,fun x hx z hz=>?_⟩
 ·rw[← List.append_assoc];exact p.append_right [y]
 ·rw[List.mem_singleton.mp hz];exact m.ob x hx y List.mem_cons_self
 ·rcases List.mem_append.mp hx with hx | hx
  ·exact m.oa x hx z hz
  ·rw[List.mem_singleton.mp hx];exact h z hz
 ·rcases List.mem_append.mp hx with hx | hx
  ·exact m.ob x hx z (List.mem_cons_of_mem _ hz)
  ·rw[List.mem_singleton.mp hx];exact hy.1 z hz
theorem ML.addA(m:ML lt aL bL o (x::ra) rb)(hs:Srt lt (x::ra))(h:∀y∈rb,lt y x=false):ML lt aL bL (o++[x]) ra rb:=by
 obtain⟨pa,pb,e1,e2,p⟩:=m.ex
 have hx':=List.pairwise_cons.mp hs
 refine⟨⟨pa++[x],pb,by rw[e1];simp,e2,?_⟩,m.so.app (List.pairwise_singleton _ _) (fun w hw z hz=>?_),fun w hw z hz=>?_,fun w hw z hz=>?_⟩
 ·refine(p.append_right [x]).trans ?_
  rw[List.append_assoc,List.append_assoc]
  exact List.Perm.append_left pa List.perm_append_comm
 ·rw[List.mem_singleton.mp hz];exact m.oa w hw x List.mem_cons_self
 ·rcases List.mem_append.mp hw with hw | hw
  ·exact m.oa w hw z (List.mem_cons_of_mem _ hz)
  ·rw[List.mem_singleton.mp hw];exact hx'.1 z hz
 ·rcases List.mem_append.mp hw with hw | hw
  ·exact m.ob w hw z hz
  ·rw[List.mem_singleton.mp hw];exact h z hz
theorem ML.addAs:∀{u o:List Keyed},ML lt aL bL o (u++ra) rb→Srt lt (u++ra)→(∀x∈u,∀y∈rb,lt y x=false)→ML lt aL bL (o++u) ra rb
 | [],o,m,_,_=>by rw[List.append_nil];exact m
 | x::u,o,m,hs,h=>by
  have:=ML.addAs (u:=u) (ML.addA m hs (h x List.mem_cons_self)) (List.pairwise_cons.mp hs).2 fun z hz=>h z (List.mem_cons_of_mem _ hz)
  rw[List.append_assoc]at this
  exact this
theorem ML.addBs:∀{u o:List Keyed},ML lt aL bL o ra (u++rb)→Srt lt (u++rb)→(∀y∈u,∀x∈ra,lt x y=false)→ML lt aL bL (o++u) ra rb
 | [],o,m,_,_=>by rw[List.append_nil];exact m
 | x::u,o,m,hs,h=>by
  have:=ML.addBs (u:=u) (ML.addB m hs (h x List.mem_cons_self)) (List.pairwise_cons.mp hs).2 fun z hz=>h z (List.mem_cons_of_mem _ hz)
  rw[List.append_assoc]at this
  exact this
theorem ML.finA(m:ML lt aL bL o ra [])(hs:Srt lt ra):i9 lt aL bL (o++ra):=by
 obtain⟨pa,pb,e1,e2,p⟩:=m.ex
 refine⟨?_,m.so.app hs m.oa⟩
 rw[e1,e2,List.append_nil]
 refine(p.append_right ra).trans ?_
 rw[List.append_assoc,List.append_assoc]
 exact List.Perm.append_left pa List.perm_append_comm
theorem ML.finB(m:ML lt aL bL o [] rb)(hs:Srt lt rb):i9 lt aL bL (o++rb):=by
 obtain⟨pa,pb,e1,e2,p⟩:=m.ex
 refine⟨?_,m.so.app hs m.ob⟩
 rw[e1,e2,List.append_nil,← List.append_assoc]
 exact p.append_right rb
theorem ML.finL(m:ML lt aL bL o [x] rb)(hs:Srt lt rb)(h:∀y∈rb,lt x y=false):i9 lt aL bL (o++rb++[x]):=by
 obtain⟨pa,pb,e1,e2,p⟩:=m.ex
 refine⟨?_,(m.so.app hs m.ob).app (List.pairwise_singleton _ _) fun w hw z hz=>?_⟩
 ·rw[e1,e2]
  refine((p.append_right rb).append_right [x]).trans ?_
  simp only[List.append_assoc]
  refine List.Perm.append_left pa ?_
  rw[← List.append_assoc]
  exact List.perm_append_comm
 ·rw[List.mem_singleton.mp hz]
  rcases List.mem_append.mp hw with hw | hw
  ·exact m.oa w hw x List.mem_cons_self
  ·exact h w hw
end
theorem G7(a:Array Keyed)(i:Nat):(a.extract i a.size).toList=a.toList.drop i:=by
 rw[Array.toList_extract,List.extract_eq_take_drop,List.take_of_length_le (by rw[List.length_drop,Array.length_toList];exact Nat.le_refl _)]
theorem a3V(a:Array Keyed)(i k:Nat):(a.extract i (i+k)).toList=(a.toList.drop i).take k:=by
 rw[Array.toList_extract,List.extract_eq_take_drop]
 congr 1
 omega
def SameG(st st':SortSt):Prop:=kindOf st'=kindOf st∧arrOf st'=arrOf st∧pendingOf st'=pendingOf st∧failedOf st'=failedOf st
theorem SameG.refl(st:SortSt):SameG st st:=⟨rfl,rfl,rfl,rfl⟩
theorem SameG.trans{a b c:SortSt}(h:SameG a b)(g:SameG b c):SameG a c:=⟨g.1.trans h.1,g.2.1.trans h.2.1,g.2.2.1.trans h.2.2.1,g.2.2.2.trans h.2.2.2⟩
structure MI(lt:Keyed→Keyed→Bool)(a b out:Array Keyed)(ia ib:Nat):Prop where
 la:ia+1<a.size
 lb:ib<b.size
 ml:ML lt a.toList b.toList out.toList (a.toList.drop ia) (b.toList.drop ib)
structure MP(lt:Keyed→Keyed→Bool)(Dm:Keyed→Prop)(a b:Array Keyed):Prop where
 T:TPK lt Dm
 da:∀x∈a.toList,Dm x
 db:∀x∈b.toList,Dm x
 sa:Srt lt a.toList
 sb:Srt lt b.toList
 la:∀y∈b.toList,∀x,a.toList[a.size-1]? = some x→lt x y=false
section
variable {lt:Keyed→Keyed→Bool}{Dm:Keyed→Prop}{a b out:Array Keyed}{ia ib:Nat}{x y:Keyed}
theorem S4{l:List Keyed}{i:Nat}(h:l[i]? = some x):l.drop i=x::l.drop (i+1):=by
 obtain⟨hi,e⟩:=List.getElem?_eq_some_iff.mp h
 rw[List.drop_eq_getElem_cons hi,e]
theorem m9{a:Array Keyed}{i:Nat}(h:i<a.size):∃x,a[i]? = some x∧a.toList[i]? = some x∧x∈a.toList:=by
 refine⟨a[i],by simp[h],?_,Array.getElem_mem_toList h⟩
 rw[List.getElem?_eq_getElem (by simpa using h)]
 simp
theorem v5{l:List Keyed}{i:Nat}{z:Keyed}(h:z∈l.drop i):∃j,i≤j∧l[j]? = some z:=by
 obtain⟨j,hj⟩:=List.mem_iff_getElem?.mp h
 rw[List.getElem?_drop]at hj
 exact⟨i+j,by omega,hj⟩
theorem m5{l:List Keyed}(T:TPK lt Dm)(hD:∀x∈l,Dm x)(hs:Srt lt l){i j:Nat}(hij:i≤j)(hx:l[i]? = some x)(hy:l[j]? = some y):lt y x=false:=by
 obtain⟨hi,e1⟩:=List.getElem?_eq_some_iff.mp hx
 obtain⟨hj,e2⟩:=List.getElem?_eq_some_iff.mp hy
 by_cases z:i=j
 ·subst z
  rw[hx]at hy;cases hy
  exact T.irr _ (hD _ (List.mem_of_getElem? hx))
 ·rw[← e1,← e2]
  exact List.pairwise_iff_getElem.mp hs i j hi hj (by omega)
theorem MI.good_last{ia ib:Nat}(P:MP lt Dm a b)(m:ML lt a.toList b.toList out.toList (a.toList.drop ia) (b.toList.drop ib))(h:ia+1=a.size):i9 lt a.toList b.toList (U1 a b out ia ib).toList:=by
 obtain⟨x,_,hx,_⟩:=m9 (a:=a) (i:=ia) (by omega)
 have e1:a.toList.drop ia=[x]:=by
  rw[S4 hx,List.drop_eq_nil_of_le (by rw[Array.length_toList];omega)]
 show i9 _ _ _ (out++b.extract ib b.size++a.extract ia a.size).toList
 rw[Array.toList_append,Array.toList_append,G7,G7,e1]
 rw[e1]at m
 refine m.finL (P.sb.drop ib) fun y hy=>P.la y (List.mem_of_mem_drop hy) x ?_
 rw[show a.size-1=ia by omega]
 exact hx
theorem MI.good_doneB{ia ib:Nat}(P:MP lt Dm a b)(m:ML lt a.toList b.toList out.toList (a.toList.drop ia) (b.toList.drop ib))(h:ib=b.size):i9 lt a.toList b.toList (z8 a b out ia ib).toList:=by
 have e1:b.toList.drop ib=[]:=List.drop_eq_nil_of_le (by rw[Array.length_toList];omega)
 show i9 _ _ _ (out++a.extract ia a.size++b.extract ib b.size).toList
 rw[Array.toList_append,Array.toList_append,G7,G7,e1,List.append_nil]
 rw[e1]at m
 exact m.finA (P.sa.drop ia)
theorem MI.good_doneA{ia ib:Nat}(P:MP lt Dm a b)(m:ML lt a.toList b.toList out.toList (a.toList.drop ia) (b.toList.drop ib))(h:ia=a.size):i9 lt a.toList b.toList (z8 a b out ia ib).toList:=by
 have e1:a.toList.drop ia=[]:=List.drop_eq_nil_of_le (by rw[Array.length_toList];omega)
 show i9 _ _ _ (out++a.extract ia a.size++b.extract ib b.size).toList
 rw[Array.toList_append,Array.toList_append,G7,G7,e1,List.append_nil]
 rw[e1]at m
 exact m.finB (P.sb.drop ib)
theorem a6H(P:MP lt Dm a b)(m:ML lt a.toList b.toList out.toList (a.toList.drop ia) (b.toList.drop ib))(hy:b.toList[ib]? = some y)(h:∀x,a.toList[ia]? = some x→lt x y=false):ML lt a.toList b.toList (out.push y).toList (a.toList.drop ia) (b.toList.drop (ib+1)):=by
 rw[S4 hy]at m
 rw[Array.toList_push]
 refine m.addB (by rw[← S4 hy];exact P.sb.drop ib) fun z hz=>?_
 obtain⟨j,hj,e⟩:=v5 hz
 obtain⟨hjl,_⟩:=List.getElem?_eq_some_iff.mp e
 have ei:a.toList[ia]? = some a.toList[ia]:=List.getElem?_eq_getElem (by omega)
 exact P.T.tr _ _ _ (P.db y (List.mem_of_getElem? hy)) (P.da _ (List.mem_of_getElem? ei)) (P.da z (List.mem_of_getElem? e)) (h _ ei) (m5 P.T P.da P.sa hj ei e)
theorem b0l(P:MP lt Dm a b)(m:ML lt a.toList b.toList out.toList (a.toList.drop ia) (b.toList.drop ib))(hx:a.toList[ia]? = some x)(h:∀y,b.toList[ib]? = some y→lt y x=false):ML lt a.toList b.toList (out.push x).toList (a.toList.drop (ia+1)) (b.toList.drop ib):=by
 rw[S4 hx]at m
 rw[Array.toList_push]
 refine m.addA (by rw[← S4 hx];exact P.sa.drop ia) fun z hz=>?_
 obtain⟨j,hj,e⟩:=v5 hz
 obtain⟨hjl,_⟩:=List.getElem?_eq_some_iff.mp e
 have ei:b.toList[ib]? = some b.toList[ib]:=List.getElem?_eq_getElem (by omega)
 exact P.T.tr _ _ _ (P.da x (List.mem_of_getElem? hx)) (P.db _ (List.mem_of_getElem? ei)) (P.db z (List.mem_of_getElem? e)) (h _ ei) (m5 P.T P.db P.sb hj ei e)
theorem U2{l:List Keyed}{i k:Nat}{z:Keyed}(h:z∈(l.drop i).take k):∃j,j<k∧l[i+j]? = some z:=by
 obtain⟨j,hj⟩:=List.mem_iff_getElem?.mp h
 by_cases hk:j<k
 ·rw[List.getElem?_take_of_lt hk,List.getElem?_drop]at hj
  exact⟨j,hk,hj⟩
 ·rw[List.getElem?_eq_none (by rw[List.length_take];omega)]at hj
  cases hj
theorem b1t(P:MP lt Dm a b)(m:ML lt a.toList b.toList out.toList (a.toList.drop ia) (b.toList.drop ib))(hy:b.toList[ib]? = some y)(k:Nat)(h:∀j x,j<k→a.toList[ia+j]? = some x→lt y x=false):ML lt a.toList b.toList (out++a.extract ia (ia+k)).toList (a.toList.drop (ia+k)) (b.toList.drop ib):=by
 have e0:a.toList.drop ia=(a.toList.drop ia).take k++a.toList.drop (ia+k):=by
  rw[show a.toList.drop (ia+k)=(a.toList.drop ia).drop k by rw[List.drop_drop],List.take_append_drop]
 rw[Array.toList_append,a3V]
 refine ML.addAs (by rw[← e0];exact m) (by rw[← e0];exact P.sa.drop ia) fun z hz v hv=>?_
 obtain⟨j,hj,e⟩:=U2 hz
 obtain⟨i,hi,e2⟩:=v5 hv
 exact P.T.tr _ _ _ (P.da z (List.mem_of_getElem? e)) (P.db y (List.mem_of_getElem? hy)) (P.db v (List.mem_of_getElem? e2)) (h j z hj e) (m5 P.T P.db P.sb hi hy e2)
theorem b1u(P:MP lt Dm a b)(m:ML lt a.toList b.toList out.toList (a.toList.drop ia) (b.toList.drop ib))(hx:a.toList[ia]? = some x)(k:Nat)(h:∀j y,j<k→b.toList[ib+j]? = some y→lt x y=false):ML lt a.toList b.toList (out++b.extract ib (ib+k)).toList (a.toList.drop ia) (b.toList.drop (ib+k)):=by
 have e0:b.toList.drop ib=(b.toList.drop ib).take k++b.toList.drop (ib+k):=by
  rw[show b.toList.drop (ib+k)=(b.toList.drop ib).drop k by rw[List.drop_drop],List.take_append_drop]
 rw[Array.toList_append,a3V]
 refine ML.addBs (by rw[← e0];exact m) (by rw[← e0];exact P.sb.drop ib) fun z hz v hv=>?_
 obtain⟨j,hj,e⟩:=U2 hz
 obtain⟨i,hi,e2⟩:=v5 hv
 exact P.T.tr _ _ _ (P.db z (List.mem_of_getElem? e)) (P.da x (List.mem_of_getElem? hx)) (P.da v (List.mem_of_getElem? e2)) (h j z hj e) (m5 P.T P.da P.sa hi hx e2)
end
abbrev GS:=Option (Array Keyed)×Array Keyed×Nat×Nat×Nat×Nat×Nat
abbrev loC(a b out:Array Keyed)(ia ib mg ac bc:Nat):StateT SortSt Sem (ForInStep GS):=do
 let x ← elem' a ia
 if(ia+1+1 == a.size)=true then pure (.done (some (U1 a b (out.push x) (ia+1) ib),out.push x,ia+1,ib,mg,ac,bc))
 else if(decide (ac<7) && decide (bc<7))=true then pure (.done (none,out.push x,ia+1,ib,mg,ac,bc))
 else pure (.yield (none,out.push x,ia+1,ib,mg,ac,bc))
abbrev loB(a b out:Array Keyed)(ia ib mg ac bc:Nat):StateT SortSt Sem (ForInStep GS):=do
 let y ← elem' b ib
 if(ib+1 == b.size)=true then pure (.done (some (z8 a b (out.push y) ia (ib+1)),out.push y,ia,ib+1,mg,ac,bc))
 else do
  let x ← elem' a ia
  let r ← v9 true x b (ib+1) (b.size-(ib+1)) 0
  match r with
  | some k =>
   if k > 0 then
    (if(ib+1+k == b.size)=true then pure (.done (some (z8 a b (out.push y++b.extract (ib+1) (ib+1+k)) ia (ib+1+k)),out.push y++b.extract (ib+1) (ib+1+k),ia,ib+1+k,mg,ac,k))
    else loC a b (out.push y++b.extract (ib+1) (ib+1+k)) ia (ib+1+k) mg ac k)
   else loC a b (out.push y) ia (ib+1) mg ac k
  | _=>pure (.done (some (z8 a b (out.push y) ia (ib+1)),out.push y,ia,ib+1,mg,ac,bc))
abbrev loA(a b out:Array Keyed)(ia ib mg ac bc:Nat):StateT SortSt Sem (ForInStep GS):=do
 let y ← elem' b ib
 let r ← v9 false y a ia (a.size-ia) 0
 match r with
 | some k =>
  if k > 0 then
   (if(ia+k+1 == a.size)=true then pure (.done (some (U1 a b (out++a.extract ia (ia+k)) (ia+k) ib),out++a.extract ia (ia+k),ia+k,ib,mg,k,bc))
   else if(ia+k == a.size)=true then pure (.done (some (z8 a b (out++a.extract ia (ia+k)) (ia+k) ib),out++a.extract ia (ia+k),ia+k,ib,mg,k,bc))
   else loB a b (out++a.extract ia (ia+k)) (ia+k) ib mg k bc)
  else loB a b out ia ib mg k bc
 | _=>pure (.done (some (z8 a b out ia ib),out,ia,ib,mg,ac,bc))
section
variable {prog:Program}{w:World}{A:Around}{E:Value→Shared→Prop}{s:Shared}{κ:SortKind}{lt:Keyed→Keyed→Bool}{Dm:Keyed→Prop}{a b out:Array Keyed}{ia ib mg ac bc p0:Nat}{st0 st:SortSt}
def PQ(lt:Keyed→Keyed→Bool)(a b:Array Keyed)(p0:Nat)(st0:SortSt):ForInStep GS→SortSt→Prop
 | .done c,st'=>SameG st0 st'∧((∃r,c.1=some r∧i9 lt a.toList b.toList r.toList)∨(c.1=none∧MI lt a b c.2.1 c.2.2.1 c.2.2.2.1∧p0≤c.2.2.1+c.2.2.2.1))
 | .yield c,st'=>SameG st0 st'∧c.1=none∧MI lt a b c.2.1 c.2.2.1 c.2.2.2.1∧p0≤c.2.2.1+c.2.2.2.1
theorem b0o(P:MP lt Dm a b)(hg:SameG st0 st)(m:MI lt a b out ia ib)(hp:p0≤ia+ib)(hle:∀x y,a.toList[ia]? = some x→b.toList[ib]? = some y→lt y x=false):wpS (model prog w) A E s (loC a b out ia ib mg ac bc) (PQ lt a b p0 st0) st:=by
 obtain⟨x,hx,hxl,_⟩:=m9 (a:=a) (i:=ia) (by have:=m.la;omega)
 have ml:=b0l P m.ml hxl (fun y hy=>hle x y hxl hy)
 refine wpS_bind (j5 hx ?_)
 by_cases z:(ia+1+1 == a.size)=true
 ·rw[if_pos z]
  exact wpS_pure ⟨hg,.inl ⟨_,rfl,MI.good_last P ml (by simpa using z)⟩⟩
 ·rw[if_neg z]
  have z':ia+1+1≠a.size:=by simpa using z
  have m':MI lt a b (out.push x) (ia+1) ib:=⟨by have:=m.la;omega,m.lb,ml⟩
  split
  ·exact wpS_pure ⟨hg,.inr ⟨rfl,m',by show p0≤ia+1+ib;omega⟩⟩
  ·exact wpS_pure ⟨hg,rfl,m',by show p0≤ia+1+ib;omega⟩
theorem b0p(C:u5 prog w A s κ lt Dm)(P:MP lt Dm a b)(hk:kindOf st=κ)(hg:SameG st0 st)(m:MI lt a b out ia ib)(hp:p0≤ia+ib)(hle:∀x y,a.toList[ia]? = some x→b.toList[ib]? = some y→lt x y=false):wpS (model prog w) A E s (loB a b out ia ib mg ac bc) (PQ lt a b p0 st0) st:=by
 obtain⟨y,hy,hyl,_⟩:=m9 (a:=b) (i:=ib) m.lb
 obtain⟨x,hx,hxl,mx⟩:=m9 (a:=a) (i:=ia) (by have:=m.la;omega)
 have ml:=a6H P m.ml hyl (fun x hx=>hle x y hx hyl)
 have dx:=P.da x mx
 refine wpS_bind (j5 hy ?_)
 by_cases z:(ib+1 == b.size)=true
 ·rw[if_pos z]
  exact wpS_pure ⟨hg,.inl ⟨_,rfl,MI.good_doneB P ml (by simpa using z)⟩⟩
 ·rw[if_neg z]
  have z':ib+1≠b.size:=by simpa using z
  have hlb:ib+1<b.size:=by have:=m.lb;omega
  refine wpS_bind (j5 hx (wpS_bind ?_))
  have at_:∀i,i<b.size-(ib+1)→∃v,b[ib+1+i]? = some v∧b.toList[ib+1+i]? = some v∧v∈b.toList:=fun i hi=>m9 (by omega)
  refine C6 C hk dx (by omega) (fun i=>lt ((b.toList[ib+1+i]?).getD x) x) (fun i hi=>?_) (fun i j hij hj hb=>?_) fun k hk1 hk2 hk3=>?_
  ·obtain⟨v,h1,h2,h3⟩:=at_ i hi
   exact⟨v,h1,P.db v h3,by rw[h2];rfl⟩
  ·obtain⟨v,h1,h2,h3⟩:=at_ i (by omega)
   obtain⟨u,u1,u2,u3⟩:=at_ j hj
   rw[u2]at hb
   rw[h2]
   show lt v x=true
   cases q:lt v x with
   | true=>rfl
   | false =>
    have:=P.T.tr x v u dx (P.db v h3) (P.db u u3) q (m5 P.T P.db P.sb (by omega) h2 u2)
    have hb:lt u x=true:=hb
    rw[this]at hb;cases hb
  ·dsimp only
   have low:∀j v,j<k→b.toList[ib+1+j]? = some v→lt x v=false:=fun j v hj hv=>by
    have:=hk2 j hj
    rw[hv]at this
    exact P.T.asy _ _ (P.db v (List.mem_of_getElem? hv)) dx this
   have high:∀v,b.toList[ib+1+k]? = some v→lt v x=false:=fun v hv=>by
    obtain⟨hl,_⟩:=List.getElem?_eq_some_iff.mp hv
    rw[Array.length_toList]at hl
    have:=hk3 k (Nat.le_refl _) (by omega)
    rw[hv]at this
    exact this
   by_cases k0:k > 0
   ·rw[if_pos k0]
    have ml2:=b1u P ml hxl k low
    by_cases y1:(ib+1+k == b.size)=true
    ·rw[if_pos y1]
     exact wpS_pure ⟨hg,.inl ⟨_,rfl,MI.good_doneB P ml2 (by simpa using y1)⟩⟩
    ·rw[if_neg y1]
     have y1':ib+1+k≠b.size:=by simpa using y1
     exact b0o P hg ⟨m.la,by omega,ml2⟩ (by omega) fun x' y' e1 e2=>by
      rw[hxl]at e1;cases e1
      exact high y' e2
   ·rw[if_neg k0]
    have e0:k=0:=by omega
    subst e0
    exact b0o P hg ⟨m.la,hlb,ml⟩ (by omega) fun x' y' e1 e2=>by
     rw[hxl]at e1;cases e1
     exact high y' e2
theorem b0q(C:u5 prog w A s κ lt Dm)(P:MP lt Dm a b)(hk:kindOf st=κ)(hg:SameG st0 st)(m:MI lt a b out ia ib)(hp:p0≤ia+ib):wpS (model prog w) A E s (loA a b out ia ib mg ac bc) (PQ lt a b p0 st0) st:=by
 obtain⟨y,hy,hyl,my⟩:=m9 (a:=b) (i:=ib) m.lb
 have dy:=P.db y my
 have hla:=m.la
 refine wpS_bind (j5 hy (wpS_bind ?_))
 have at_:∀i,i<a.size-ia→∃v,a[ia+i]? = some v∧a.toList[ia+i]? = some v∧v∈a.toList:=fun i hi=>m9 (by omega)
 refine C6 C hk dy (by omega) (fun i=>!lt y ((a.toList[ia+i]?).getD y)) (fun i hi=>?_) (fun i j hij hj hb=>?_) fun k hk1 hk2 hk3=>?_
 ·obtain⟨v,h1,h2,h3⟩:=at_ i hi
  exact⟨v,h1,P.da v h3,by rw[h2];rfl⟩
 ·obtain⟨v,h1,h2,h3⟩:=at_ i (by omega)
  obtain⟨u,u1,u2,u3⟩:=at_ j hj
  rw[u2]at hb
  rw[h2]
  have hb:(!lt y u)=true:=hb
  have hb':lt y u=false:=by simpa using hb
  show(!lt y v)=true
  rw[P.T.tr v u y (P.da v h3) (P.da u u3) dy (m5 P.T P.da P.sa (by omega) h2 u2) hb']
  rfl
 ·dsimp only
  have low:∀j v,j<k→a.toList[ia+j]? = some v→lt y v=false:=fun j v hj hv=>by
   have:=hk2 j hj
   rw[hv]at this
   have this:(!lt y v)=true:=this
   simpa using this
  have high:∀v,a.toList[ia+k]? = some v→lt v y=false:=fun v hv=>by
   obtain⟨hl,_⟩:=List.getElem?_eq_some_iff.mp hv
   rw[Array.length_toList]at hl
   have:=hk3 k (Nat.le_refl _) (by omega)
   rw[hv]at this
   have this:(!lt y v)=false:=this
   exact P.T.asy _ _ dy (P.da v (List.mem_of_getElem? hv)) (by simpa using this)
  by_cases k0:k > 0
  ·rw[if_pos k0]
   have ml2:=b1t P m.ml hyl k low
   by_cases y1:(ia+k+1 == a.size)=true
   ·rw[if_pos y1]
    exact wpS_pure ⟨hg,.inl ⟨_,rfl,MI.good_last P ml2 (by simpa using y1)⟩⟩
   ·rw[if_neg y1]
    have y1':ia+k+1≠a.size:=by simpa using y1
    by_cases y2:(ia+k == a.size)=true
    ·rw[if_pos y2]
     exact wpS_pure ⟨hg,.inl ⟨_,rfl,MI.good_doneA P ml2 (by simpa using y2)⟩⟩
    ·rw[if_neg y2]
     have y2':ia+k≠a.size:=by simpa using y2
     exact b0p C P hk hg ⟨by omega,m.lb,ml2⟩ (by omega) fun x' y' e1 e2=>by
      rw[hyl]at e2;cases e2
      exact high x' e1
  ·rw[if_neg k0]
   have e0:k=0:=by omega
   subst e0
   exact b0p C P hk hg m (by omega) fun x' y' e1 e2=>by
    rw[hyl]at e2;cases e2
    exact high x' e1
theorem smg{g:Nat}{Q:Unit→SortSt→Prop}(h:∀st',SameG st st'→Q () st'):wpS (model prog w) A E s (w4 g) Q st:=by
 rw[a0y]
 exact wpS_modify (h _ ⟨rfl,rfl,rfl,rfl⟩)
theorem a2U{α:Type}{c:Prop} [Decidable c] {m1 m2:StateT SortSt Sem α} {Q:α→SortSt→Prop} (h1:c→wpS (model prog w) A E s m1 Q st) (h2:¬c→wpS (model prog w) A E s m2 Q st):wpS (model prog w) A E s (if c then m1 else m2) Q st:=by
 by_cases z:c
 ·rw[if_pos z];exact h1 z
 ·rw[if_neg z];exact h2 z
abbrev S1:=Option (Array Keyed)×Array Keyed×Nat×Nat×Nat×Nat
theorem a3t{Q:Array Keyed→SortSt→Prop}(C:u5 prog w A s κ lt Dm)(P:MP lt Dm a b)(hk:kindOf st=κ)(ha:1≤a.size)(hb:1≤b.size)(h0:∀x y,a.toList[0]? = some x→b.toList[0]? = some y→lt x y=false)
  (h:∀r st',SameG st st'→i9 lt a.toList b.toList r.toList→Q r st'):wpS (model prog w) A E s (a0z a b) Q st:=by
 rw[a3s]
 refine wpS_bind (wpS_lift (wpAny_rule ⟨rfl,?_⟩))
 obtain⟨y,hy,hyl,my⟩:=m9 (a:=b) (i:=0) hb
 refine wpS_bind (j5 hy ?_)
 dsimp only
 have m0:ML lt a.toList b.toList [] (a.toList.drop 0) (b.toList.drop 0):=⟨⟨[],[],rfl,rfl,.refl _⟩,.nil,fun x hx=>absurd hx List.not_mem_nil,fun x hx=>absurd hx List.not_mem_nil⟩
 have m1:ML lt a.toList b.toList (#[y]:Array Keyed).toList (a.toList.drop 0) (b.toList.drop 1):=a6H (out := #[]) P m0 hyl fun x hx=>h0 x y hx hyl
 by_cases z:(1 == b.size)=true
 ·rw[if_pos z]
  exact wpS_pure (h _ _ (.refl _) (MI.good_doneB P m1 (by simpa using z)))
 rw[if_neg z]
 have z':1≠b.size:=by simpa using z
 by_cases z2:(0+1 == a.size)=true
 ·rw[if_pos z2]
  exact wpS_pure (h _ _ (.refl _) (MI.good_last P m1 (by simpa using z2)))
 rw[if_neg z2]
 have z2':0+1≠a.size:=by simpa using z2
 refine wpS_bind (wpS_get ?_)
 refine wpS_bind (L8 (fun(i:Nat) (c:Option (Array Keyed)×Array Keyed×Nat×Nat×Nat) st'=>c.1=none∧SameG st st'∧MI lt a b c.2.1 c.2.2.1 c.2.2.2.1∧i+1≤c.2.2.1+c.2.2.2.1)
  (fun(c:Option (Array Keyed)×Array Keyed×Nat×Nat×Nat) st'=>∃r,c.1=some r∧SameG st st'∧i9 lt a.toList b.toList r.toList) ?_ ?_ ⟨rfl,.refl _,⟨by show 0+1<a.size;omega,by show 1<b.size;omega,m1⟩,by show 0+1≤0+1;omega⟩ ?_)
 ·rintro i ⟨c0,out,ia,ib,mg⟩ st1 hi ⟨e0,hg,m,hp⟩
  dsimp only at *
  refine wpS_bind (L8 (fun(j:Nat) (c:S1) st'=>c.1=none∧SameG st st'∧MI lt a b c.2.1 c.2.2.1 c.2.2.2.1∧ia+ib+j≤c.2.2.1+c.2.2.2.1)
   (fun(c:S1) st'=>SameG st st'∧((∃r,c.1=some r∧i9 lt a.toList b.toList r.toList)∨(c.1=none∧MI lt a b c.2.1 c.2.2.1 c.2.2.2.1∧ia+ib+1≤c.2.2.1+c.2.2.2.1))) ?_ ?_ ⟨rfl,hg,m,Nat.le_refl _⟩ ?_)
  ·rintro j ⟨d0,out',ja,jb,ac,bc⟩ st2 hj ⟨f0,hg2,m2,hp2⟩
   dsimp only at *
   obtain⟨y2,hy2,hyl2,my2⟩:=m9 (a:=b) (i:=jb) m2.lb
   obtain⟨x2,hx2,hxl2,mx2⟩:=m9 (a:=a) (i:=ja) (by have:=m2.la;omega)
   refine wpS_bind (j5 hy2 (wpS_bind (j5 hx2 (wpS_bind (Y2 C (hg2.1.trans hk) (P.db _ my2) (P.da _ mx2) ?_)))))
   dsimp only
   have hla:=m2.la
   have hlb:=m2.lb
   cases bw:lt y2 x2 with
   | true =>
    rw[if_pos rfl]
    have ml:=a6H P m2.ml hyl2 (fun x hx=>by rw[hxl2]at hx;cases hx;exact P.T.asy _ _ (P.db _ my2) (P.da _ mx2) bw)
    refine wpS_bind (j5 hy2 ?_)
    by_cases q:(jb+1 == b.size)=true
    ·rw[if_pos q]
     exact wpS_pure ⟨hg2,.inl ⟨_,rfl,MI.good_doneB P ml (by simpa using q)⟩⟩
    ·rw[if_neg q]
     have q':jb+1≠b.size:=by simpa using q
     have m3:MI lt a b (out'.push y2) ja (jb+1):=⟨hla,by omega,ml⟩
     split
     ·exact wpS_pure ⟨hg2,.inr ⟨rfl,m3,by show ia+ib+1≤ja+(jb+1);omega⟩⟩
     ·exact wpS_pure ⟨rfl,hg2,m3,by show ia+ib+(j+1)≤ja+(jb+1);omega⟩
   | false =>
    rw[if_neg (by simp)]
    have ml:=b0l P m2.ml hxl2 (fun y hy=>by rw[hyl2]at hy;cases hy;exact bw)
    refine wpS_bind (j5 hx2 ?_)
    by_cases q:(ja+1+1 == a.size)=true
    ·rw[if_pos q]
     exact wpS_pure ⟨hg2,.inl ⟨_,rfl,MI.good_last P ml (by simpa using q)⟩⟩
    ·rw[if_neg q]
     have q':ja+1+1≠a.size:=by simpa using q
     have m3:MI lt a b (out'.push x2) (ja+1) jb:=⟨by omega,hlb,ml⟩
     split
     ·exact wpS_pure ⟨hg2,.inr ⟨rfl,m3,by show ia+ib+1≤ja+1+jb;omega⟩⟩
     ·exact wpS_pure ⟨rfl,hg2,m3,by show ia+ib+(j+1)≤ja+1+jb;omega⟩
  ·rintro⟨d0,out',ja,jb,ac,bc⟩ st2 ⟨f0,hg2,m2,hp2⟩
   dsimp only at *
   exact⟨hg2,.inr ⟨f0,m2,by show ia+ib+1≤ja+jb;omega⟩⟩
  ·rintro⟨d0,out',ja,jb,ac,bc⟩ st2 ⟨hg2,⟨r,f0,gr⟩ | ⟨f0,m2,hp2⟩⟩
   ·dsimp only at *
    subst f0
    exact wpS_pure ⟨r,rfl,hg2,gr⟩
   ·dsimp only at *
    subst f0
    dsimp only
    refine wpS_bind (wpS_lift (wpAny_rule ⟨rfl,?_⟩))
    refine wpS_bind (L8 (fun(j:Nat) (c:GS) st'=>SameG st st'∧c.1=none∧MI lt a b c.2.1 c.2.2.1 c.2.2.2.1∧ja+jb≤c.2.2.1+c.2.2.2.1)
     (fun(c:GS) st'=>SameG st st'∧((∃r,c.1=some r∧i9 lt a.toList b.toList r.toList)∨(c.1=none∧MI lt a b c.2.1 c.2.2.1 c.2.2.2.1∧ja+jb≤c.2.2.1+c.2.2.2.1))) ?_ ?_ ⟨hg2,rfl,m2,Nat.le_refl _⟩ ?_)
    ·rintro j ⟨g0,out2,ka,kb,mg2,ac2,bc2⟩ st3 hj ⟨hg3,f0,m3,hp3⟩
     refine a2U (fun _=>?_) (fun _=>?_)
     ·refine wpS_bind (smg fun st4 g4=>?_)
      exact wpS_mono (b0q (mg:=mg2-1) (ac:=ac2) (bc:=bc2) C P ((hg3.trans g4).1.trans hk) (hg3.trans g4) m3 hp3) (fun r st' q=>by cases r<;>exact q)
     ·refine wpS_bind (smg fun st4 g4=>?_)
      exact wpS_mono (b0q (mg:=mg2) (ac:=ac2) (bc:=bc2) C P ((hg3.trans g4).1.trans hk) (hg3.trans g4) m3 hp3) (fun r st' q=>by cases r<;>exact q)
    ·rintro⟨g0,out2,ka,kb,mg2,ac2,bc2⟩ st3 ⟨hg3,f0,m3,hp3⟩
     exact⟨hg3,.inr ⟨f0,m3,hp3⟩⟩
    ·rintro⟨g0,out2,ka,kb,mg2,ac2,bc2⟩ st3 ⟨hg3,⟨r,f0,gr⟩ | ⟨f0,m3,hp3⟩⟩
     ·have f0:g0=some r:=f0
      subst f0
      exact wpS_pure ⟨r,rfl,hg3,gr⟩
     ·have f0:g0=none:=f0
      have hp3:ja+jb≤ka+kb:=hp3
      subst f0
      refine wpS_bind (smg fun st4 g4=>?_)
      exact wpS_pure ⟨rfl,hg3.trans g4,m3,by show i+1+1≤ka+kb;omega⟩
 ·rintro⟨c0,out,ia,ib,mg⟩ st1 ⟨e0,hg,m,hp⟩
  exfalso
  have h1:=m.la
  have h2:=m.lb
  dsimp only at *
  omega
 ·rintro⟨c0,out,ia,ib,mg⟩ st1 ⟨r,e0,hg,gr⟩
  dsimp only at *
  subst e0
  exact wpS_pure (h r st1 hg gr)
end
def a0A:Array Keyed→Array Keyed→StateT SortSt Sem (Array Keyed):=sortPriv% PySem.Builtin.mergeHi
abbrev z9(a b out:Array Keyed)(na nb:Nat):Array Keyed:=a.extract 0 na++b.extract 0 nb++out.reverse
abbrev O5(a b out:Array Keyed)(na nb:Nat):Array Keyed:=b.extract 0 nb++a.extract 0 na++out.reverse
theorem a3u(a b:Array Keyed):a0A a b=(do
 rule "list.sort.merge-hi"
 let total:=a.size+b.size
 let mut na:=a.size-1
 let mut nb:=b.size
 let mut out:Array Keyed := #[← elem' a na]
 if na == 0 then return z9 a b out na nb
 if nb == 1 then return O5 a b out na nb
 let mut minGallop:=gallopOf (← get)
 for _ in [0:total]do
  let mut acount:=0
  let mut bcount:=0
  for _ in [0:total]do
   let some aWins ← lt' (← elem' b (nb-1)) (← elem' a (na-1)) | return z9 a b out na nb
   if aWins then
    na:=na-1;out:=out.push (← elem' a na);acount:=acount+1;bcount:=0
    if na == 0 then return z9 a b out na nb
    if acount≥minGallop then break
   else
    nb:=nb-1;out:=out.push (← elem' b nb);bcount:=bcount+1;acount:=0
    if nb == 1 then return O5 a b out na nb
    if bcount≥minGallop then break
  rule "list.sort.gallop"
  minGallop:=minGallop+1
  for _ in [0:total]do
   if minGallop > 1 then minGallop:=minGallop-1
   w4 minGallop
   let some at_ ← v9 false (← elem' b (nb-1)) a 0 na (na-1) | return z9 a b out na nb
   let k:=na-at_
   acount:=k
   if k > 0 then
    out:=out++(a.extract at_ na).reverse;na:=at_
    if na == 0 then return z9 a b out na nb
   nb:=nb-1;out:=out.push (← elem' b nb)
   if nb == 1 then return O5 a b out na nb
   let some at_ ← v9 true (← elem' a (na-1)) b 0 nb (nb-1) | return z9 a b out na nb
   let k:=nb-at_
   bcount:=k
   if k > 0 then
    out:=out++(b.extract at_ nb).reverse;nb:=at_
    if nb == 1 then return O5 a b out na nb
    if nb == 0 then return z9 a b out na nb
   na:=na-1;out:=out.push (← elem' a na)
   if na == 0 then return z9 a b out na nb
   if acount<7 && bcount<7 then break
  minGallop:=minGallop+1
  w4 minGallop
 unsupported "internal:list.sort.merge-bound"):=rfl
structure MR(lt:Keyed→Keyed→Bool)(aL bL o ra rb:List Keyed):Prop where
 ex:∃pa pb,aL=ra++pa∧bL=rb++pb∧o.Perm (pa++pb)
 so:Srt lt o
 oa:∀x∈o,∀y∈ra,lt x y=false
 ob:∀x∈o,∀y∈rb,lt x y=false
section
variable {lt:Keyed→Keyed→Bool}{aL bL o ra rb u:List Keyed}{x y:Keyed}
theorem Srt.left{l m:List Keyed}(h:Srt lt (l++m)):Srt lt l:=(List.pairwise_append.mp h).1
theorem MR.addA(m:MR lt aL bL o (ra++[x]) rb)(hs:Srt lt (ra++[x]))(h:∀y∈rb,lt x y=false):MR lt aL bL (x::o) ra rb:=by
 obtain⟨pa,pb,e1,e2,p⟩:=m.ex
 have hx:=(List.pairwise_append.mp hs).2.2
 refine⟨⟨x::pa,pb,by rw[e1];simp,e2,p.cons x⟩,List.pairwise_cons.mpr ⟨fun z hz=>m.oa z hz x (by simp),m.so⟩,fun w hw z hz=>?_,fun w hw z hz=>?_⟩
 ·rcases List.mem_cons.mp hw with rfl | hw
  ·exact hx z hz w List.mem_cons_self
  ·exact m.oa w hw z (List.mem_append_left _ hz)
 ·rcases List.mem_cons.mp hw with rfl | hw
  ·exact h z hz
  ·exact m.ob w hw z hz
theorem MR.addB(m:MR lt aL bL o ra (rb++[y]))(hs:Srt lt (rb++[y]))(h:∀x∈ra,lt y x=false):MR lt aL bL (y::o) ra rb:=by
 obtain⟨pa,pb,e1,e2,p⟩:=m.ex
 have hy:=(List.pairwise_append.mp hs).2.2
 refine⟨⟨pa,y::pb,e1,by rw[e2];simp,(p.cons y).trans List.perm_middle.symm⟩,List.pairwise_cons.mpr ⟨fun z hz=>m.ob z hz y (by simp),m.so⟩,fun w hw z hz=>?_,fun w hw z hz=>?_⟩
 ·rcases List.mem_cons.mp hw with rfl | hw
  ·exact h z hz
  ·exact m.oa w hw z hz
 ·rcases List.mem_cons.mp hw with rfl | hw
  ·exact hy z hz w List.mem_cons_self
  ·exact m.ob w hw z (List.mem_append_left _ hz)
theorem MR.addAs:∀{u ra:List Keyed},MR lt aL bL o (ra++u) rb→Srt lt (ra++u)→(∀x∈u,∀y∈rb,lt x y=false)→MR lt aL bL (u++o) ra rb
 | [],ra,m,_,_=>by rw[List.append_nil]at m;exact m
 | x::u,ra,m,hs,h=>by
  have e:ra++x::u=(ra++[x])++u:=by simp
  rw[e]at m hs
  exact MR.addA (MR.addAs m hs fun z hz=>h z (List.mem_cons_of_mem _ hz)) hs.left (h x List.mem_cons_self)
theorem MR.addBs:∀{u rb:List Keyed},MR lt aL bL o ra (rb++u)→Srt lt (rb++u)→(∀y∈u,∀x∈ra,lt y x=false)→MR lt aL bL (u++o) ra rb
 | [],rb,m,_,_=>by rw[List.append_nil]at m;exact m
 | x::u,rb,m,hs,h=>by
  have e:rb++x::u=(rb++[x])++u:=by simp
  rw[e]at m hs
  exact MR.addB (MR.addBs m hs fun z hz=>h z (List.mem_cons_of_mem _ hz)) hs.left (h x List.mem_cons_self)
theorem MR.finB(m:MR lt aL bL o [] rb)(hs:Srt lt rb):i9 lt aL bL (rb++o):=by
 obtain⟨pa,pb,e1,e2,p⟩:=m.ex
 refine⟨?_,hs.app m.so fun x hx y hy=>m.ob y hy x hx⟩
 rw[e1,e2,List.nil_append]
 refine(p.append_left rb).trans ?_
 rw[← List.append_assoc,← List.append_assoc]
 exact List.Perm.append_right pb List.perm_append_comm
theorem MR.finA(m:MR lt aL bL o ra [])(hs:Srt lt ra):i9 lt aL bL (ra++o):=by
 obtain⟨pa,pb,e1,e2,p⟩:=m.ex
 refine⟨?_,hs.app m.so fun x hx y hy=>m.oa y hy x hx⟩
 rw[e1,e2,List.nil_append,List.append_assoc]
 exact p.append_left ra
theorem MR.finF(m:MR lt aL bL o ra [y])(hs:Srt lt ra)(h:∀x∈ra,lt x y=false):i9 lt aL bL ([y]++ra++o):=by
 obtain⟨pa,pb,e1,e2,p⟩:=m.ex
 refine⟨?_,?_⟩
 ·rw[e1,e2]
  refine(p.append_left ([y]++ra)).trans ?_
  refine List.Perm.trans ?_ (List.perm_append_comm (l₁:=ra++pa) (l₂:=[y]++pb)).symm
  simp only[List.append_assoc]
  refine List.Perm.append_left [y] ?_
  rw[← List.append_assoc]
  exact List.perm_append_comm
 ·refine Srt.app (List.pairwise_cons.mpr ⟨fun x hx=>h x hx,hs⟩:Srt lt ([y]++ra)) m.so fun x hx z hz=>?_
  rcases List.mem_append.mp hx with hx | hx
  ·rw[List.mem_singleton.mp hx];exact m.ob z hz y List.mem_cons_self
  ·exact m.oa z hz x hx
end
theorem G8(a:Array Keyed)(i:Nat):(a.extract 0 i).toList=a.toList.take i:=by
 rw[Array.toList_extract,List.extract_eq_take_drop,List.drop_zero,Nat.sub_zero]
theorem a0B(a:Array Keyed)(i j:Nat):(a.extract i j).toList=(a.toList.drop i).take (j-i):=by
 rw[Array.toList_extract,List.extract_eq_take_drop]
structure MH(lt:Keyed→Keyed→Bool)(a b out:Array Keyed)(na nb:Nat):Prop where
 la:0<na∧na≤a.size
 lb:1<nb∧nb≤b.size
 mr:MR lt a.toList b.toList out.toList.reverse (a.toList.take na) (b.toList.take nb)
structure MPh(lt:Keyed→Keyed→Bool)(Dm:Keyed→Prop)(a b:Array Keyed):Prop where
 T:TPK lt Dm
 da:∀x∈a.toList,Dm x
 db:∀x∈b.toList,Dm x
 sa:Srt lt a.toList
 sb:Srt lt b.toList
 fb:∀x∈a.toList,∀y,b.toList[0]? = some y→lt x y=false
section
variable {lt:Keyed→Keyed→Bool}{Dm:Keyed→Prop}{a b out:Array Keyed}{na nb:Nat}{x y:Keyed}
theorem Srt.take{l:List Keyed}(h:Srt lt l)(n:Nat):Srt lt (l.take n):=List.Pairwise.sublist (List.take_sublist n l) h
theorem a3X{l:List Keyed}{i:Nat}(h:l[i]? = some x):l.take (i+1)=l.take i++[x]:=by
 rw[List.take_add_one,h]
 rfl
theorem t4{l:List Keyed}{n:Nat}{z:Keyed}(h:z∈l.take n):∃j,j<n∧l[j]? = some z:=by
 obtain⟨j,hj⟩:=List.mem_iff_getElem?.mp h
 by_cases hk:j<n
 ·rw[List.getElem?_take_of_lt hk]at hj
  exact⟨j,hk,hj⟩
 ·rw[List.getElem?_eq_none (by rw[List.length_take];omega)]at hj
  cases hj
theorem MH.good_doneA(P:MPh lt Dm a b)(m:MR lt a.toList b.toList out.toList.reverse (a.toList.take na) (b.toList.take nb))(h:na=0):i9 lt a.toList b.toList (z9 a b out na nb).toList:=by
 subst h
 show i9 _ _ _ (a.extract 0 0++b.extract 0 nb++out.reverse).toList
 rw[Array.toList_append,Array.toList_append,G8,G8,Array.toList_reverse,List.take_zero,List.nil_append]
 rw[List.take_zero]at m
 exact m.finB (P.sb.take nb)
theorem MH.good_doneB(P:MPh lt Dm a b)(m:MR lt a.toList b.toList out.toList.reverse (a.toList.take na) (b.toList.take nb))(h:nb=0):i9 lt a.toList b.toList (z9 a b out na nb).toList:=by
 subst h
 show i9 _ _ _ (a.extract 0 na++b.extract 0 0++out.reverse).toList
 rw[Array.toList_append,Array.toList_append,G8,G8,Array.toList_reverse,List.take_zero,List.append_nil]
 rw[List.take_zero]at m
 exact m.finA (P.sa.take na)
theorem MH.good_first(P:MPh lt Dm a b)(hb:1≤b.size)(m:MR lt a.toList b.toList out.toList.reverse (a.toList.take na) (b.toList.take nb))(h:nb=1):i9 lt a.toList b.toList (O5 a b out na nb).toList:=by
 subst h
 obtain⟨y,_,hy,_⟩:=m9 (a:=b) (i:=0) hb
 have e1:b.toList.take 1=[y]:=by rw[a3X hy,List.take_zero];rfl
 show i9 _ _ _ (b.extract 0 1++a.extract 0 na++out.reverse).toList
 rw[Array.toList_append,Array.toList_append,G8,G8,Array.toList_reverse,e1]
 rw[e1]at m
 exact m.finF (P.sa.take na) fun x hx=>P.fb x (List.mem_of_mem_take hx) y hy
theorem P9{l:List Keyed}{n:Nat}(h0:0<n)(h:l[n-1]? = some x):l.take n=l.take (n-1)++[x]:=by
 have:=a3X h
 rw[show n-1+1=n by omega]at this
 exact this
theorem a6I(P:MPh lt Dm a b)(ha:0<na)(hb:nb≤b.size)(h0:0<nb)(m:MR lt a.toList b.toList out.toList.reverse (a.toList.take na) (b.toList.take nb))(hx:a.toList[na-1]? = some x)(h:∀y,b.toList[nb-1]? = some y→lt x y=false):MR lt a.toList b.toList (out.push x).toList.reverse (a.toList.take (na-1)) (b.toList.take nb):=by
 rw[P9 ha hx]at m
 rw[Array.toList_push,List.reverse_append]
 refine m.addA (by rw[← P9 ha hx];exact P.sa.take _) fun z hz=>?_
 obtain⟨j,hj,e⟩:=t4 hz
 obtain⟨v0,_,ei,_⟩:=m9 (a:=b) (i:=nb-1) (by omega)
 exact P.T.tr _ _ _ (P.db z (List.mem_of_getElem? e)) (P.db _ (List.mem_of_getElem? ei)) (P.da x (List.mem_of_getElem? hx)) (m5 P.T P.db P.sb (by omega) e ei) (h _ ei)
theorem b0r(P:MPh lt Dm a b)(hb:0<nb)(ha:na≤a.size)(h0:0<na)(m:MR lt a.toList b.toList out.toList.reverse (a.toList.take na) (b.toList.take nb))(hy:b.toList[nb-1]? = some y)(h:∀x,a.toList[na-1]? = some x→lt y x=false):MR lt a.toList b.toList (out.push y).toList.reverse (a.toList.take na) (b.toList.take (nb-1)):=by
 rw[P9 hb hy]at m
 rw[Array.toList_push,List.reverse_append]
 refine m.addB (by rw[← P9 hb hy];exact P.sb.take _) fun z hz=>?_
 obtain⟨j,hj,e⟩:=t4 hz
 obtain⟨v0,_,ei,_⟩:=m9 (a:=a) (i:=na-1) (by omega)
 exact P.T.tr _ _ _ (P.da z (List.mem_of_getElem? e)) (P.da _ (List.mem_of_getElem? ei)) (P.db y (List.mem_of_getElem? hy)) (m5 P.T P.da P.sa (by omega) e ei) (h _ ei)
theorem N0{l:List Keyed}{i n:Nat}(h:i≤n):l.take n=l.take i++(l.drop i).take (n-i):=by
 have e1:=(List.take_append_drop i (l.take n)).symm
 rw[List.take_take,Nat.min_eq_left h,List.drop_take]at e1
 exact e1
theorem b1v(P:MPh lt Dm a b){i:Nat}(hi:i≤na)(m:MR lt a.toList b.toList out.toList.reverse (a.toList.take na) (b.toList.take nb))(hy:b.toList[nb-1]? = some y)(h0:0<nb)(h:∀j x,i≤j→j<na→a.toList[j]? = some x→lt x y=false):MR lt a.toList b.toList (out++(a.extract i na).reverse).toList.reverse (a.toList.take i) (b.toList.take nb):=by
 rw[N0 hi]at m
 rw[Array.toList_append,Array.toList_reverse,List.reverse_append,List.reverse_reverse,a0B]
 refine MR.addAs m (by rw[← N0 hi];exact P.sa.take _) fun z hz v hv=>?_
 obtain⟨j,hj,e⟩:=U2 hz
 obtain⟨k,hk,e2⟩:=t4 hv
 exact P.T.tr _ _ _ (P.db v (List.mem_of_getElem? e2)) (P.db y (List.mem_of_getElem? hy)) (P.da z (List.mem_of_getElem? e)) (m5 P.T P.db P.sb (by omega) e2 hy) (h (i+j) z (by omega) (by omega) e)
theorem b1w(P:MPh lt Dm a b){i:Nat}(hi:i≤nb)(m:MR lt a.toList b.toList out.toList.reverse (a.toList.take na) (b.toList.take nb))(hx:a.toList[na-1]? = some x)(h0:0<na)(h:∀j y,i≤j→j<nb→b.toList[j]? = some y→lt y x=false):MR lt a.toList b.toList (out++(b.extract i nb).reverse).toList.reverse (a.toList.take na) (b.toList.take i):=by
 rw[N0 (l:=b.toList) hi]at m
 rw[Array.toList_append,Array.toList_reverse,List.reverse_append,List.reverse_reverse,a0B]
 refine MR.addBs m (by rw[← N0 hi];exact P.sb.take _) fun z hz v hv=>?_
 obtain⟨j,hj,e⟩:=U2 hz
 obtain⟨k,hk,e2⟩:=t4 hv
 exact P.T.tr _ _ _ (P.da v (List.mem_of_getElem? e2)) (P.da x (List.mem_of_getElem? hx)) (P.db z (List.mem_of_getElem? e)) (m5 P.T P.da P.sa (by omega) e2 hx) (h (i+j) z (by omega) (by omega) e)
end
abbrev GH:=Option (Array Keyed)×Nat×Nat×Array Keyed×Nat×Nat×Nat
abbrev hiC(a b out:Array Keyed)(na nb mg ac bc:Nat):StateT SortSt Sem (ForInStep GH):=do
 let x ← elem' a (na-1)
 if(na-1 == 0)=true then pure (.done (some (z9 a b (out.push x) (na-1) nb),na-1,nb,out.push x,mg,ac,bc))
 else if(decide (ac<7) && decide (bc<7))=true then pure (.done (none,na-1,nb,out.push x,mg,ac,bc))
 else pure (.yield (none,na-1,nb,out.push x,mg,ac,bc))
abbrev hiB(a b out:Array Keyed)(na nb mg ac bc:Nat):StateT SortSt Sem (ForInStep GH):=do
 let y ← elem' b (nb-1)
 if(nb-1 == 1)=true then pure (.done (some (O5 a b (out.push y) na (nb-1)),na,nb-1,out.push y,mg,ac,bc))
 else do
  let x ← elem' a (na-1)
  let r ← v9 true x b 0 (nb-1) (nb-1-1)
  match r with
  | some i =>
   if nb-1-i > 0 then
    (if(i == 1)=true then pure (.done (some (O5 a b (out.push y++(b.extract i (nb-1)).reverse) na i),na,i,out.push y++(b.extract i (nb-1)).reverse,mg,ac,nb-1-i))
    else if(i == 0)=true then pure (.done (some (z9 a b (out.push y++(b.extract i (nb-1)).reverse) na i),na,i,out.push y++(b.extract i (nb-1)).reverse,mg,ac,nb-1-i))
    else hiC a b (out.push y++(b.extract i (nb-1)).reverse) na i mg ac (nb-1-i))
   else hiC a b (out.push y) na (nb-1) mg ac (nb-1-i)
  | _=>pure (.done (some (z9 a b (out.push y) na (nb-1)),na,nb-1,out.push y,mg,ac,bc))
abbrev hiA(a b out:Array Keyed)(na nb mg ac bc:Nat):StateT SortSt Sem (ForInStep GH):=do
 let y ← elem' b (nb-1)
 let r ← v9 false y a 0 na (na-1)
 match r with
 | some i =>
  if na-i > 0 then
   (if(i == 0)=true then pure (.done (some (z9 a b (out++(a.extract i na).reverse) i nb),i,nb,out++(a.extract i na).reverse,mg,na-i,bc))
   else hiB a b (out++(a.extract i na).reverse) i nb mg (na-i) bc)
  else hiB a b out na nb mg (na-i) bc
 | _=>pure (.done (some (z9 a b out na nb),na,nb,out,mg,ac,bc))
section
variable {prog:Program}{w:World}{A:Around}{E:Value→Shared→Prop}{s:Shared}{κ:SortKind}{lt:Keyed→Keyed→Bool}{Dm:Keyed→Prop}{a b out:Array Keyed}{na nb mg ac bc p0:Nat}{st0 st:SortSt}
def PHi(lt:Keyed→Keyed→Bool)(a b:Array Keyed)(p0:Nat)(st0:SortSt):ForInStep GH→SortSt→Prop
 | .done c,st'=>SameG st0 st'∧((∃r,c.1=some r∧i9 lt a.toList b.toList r.toList)∨(c.1=none∧MH lt a b c.2.2.2.1 c.2.1 c.2.2.1∧c.2.1+c.2.2.1≤p0))
 | .yield c,st'=>SameG st0 st'∧c.1=none∧MH lt a b c.2.2.2.1 c.2.1 c.2.2.1∧c.2.1+c.2.2.1≤p0
theorem b0v(P:MPh lt Dm a b)(hg:SameG st0 st)(m:MH lt a b out na nb)(hp:na+nb≤p0)(hle:∀x y,a.toList[na-1]? = some x→b.toList[nb-1]? = some y→lt x y=false):wpS (model prog w) A E s (hiC a b out na nb mg ac bc) (PHi lt a b p0 st0) st:=by
 have la:=m.la
 have lb:=m.lb
 obtain⟨x,hx,hxl,_⟩:=m9 (a:=a) (i:=na-1) (by omega)
 have mr:=a6I P la.1 lb.2 (by omega) m.mr hxl (fun y hy=>hle x y hxl hy)
 refine wpS_bind (j5 hx ?_)
 by_cases z:(na-1 == 0)=true
 ·rw[if_pos z]
  exact wpS_pure ⟨hg,.inl ⟨_,rfl,MH.good_doneA P mr (by simpa using z)⟩⟩
 ·rw[if_neg z]
  have z':na-1≠0:=by simpa using z
  have m':MH lt a b (out.push x) (na-1) nb:=⟨⟨by omega,by omega⟩,lb,mr⟩
  split
  ·exact wpS_pure ⟨hg,.inr ⟨rfl,m',by show na-1+nb≤p0;omega⟩⟩
  ·exact wpS_pure ⟨hg,rfl,m',by show na-1+nb≤p0;omega⟩
theorem b0w(C:u5 prog w A s κ lt Dm)(P:MPh lt Dm a b)(hk:kindOf st=κ)(hg:SameG st0 st)(m:MH lt a b out na nb)(hp:na+nb≤p0)(hle:∀x y,a.toList[na-1]? = some x→b.toList[nb-1]? = some y→lt y x=false):wpS (model prog w) A E s (hiB a b out na nb mg ac bc) (PHi lt a b p0 st0) st:=by
 have la:=m.la
 have lb:=m.lb
 obtain⟨y,hy,hyl,_⟩:=m9 (a:=b) (i:=nb-1) (by omega)
 obtain⟨x,hx,hxl,mx⟩:=m9 (a:=a) (i:=na-1) (by omega)
 have mr:=b0r P (by omega) la.2 la.1 m.mr hyl (fun x hx=>hle x y hx hyl)
 have dx:=P.da x mx
 refine wpS_bind (j5 hy ?_)
 by_cases z:(nb-1 == 1)=true
 ·rw[if_pos z]
  exact wpS_pure ⟨hg,.inl ⟨_,rfl,MH.good_first P (by omega) mr (by simpa using z)⟩⟩
 ·rw[if_neg z]
  have z':nb-1≠1:=by simpa using z
  refine wpS_bind (j5 hx (wpS_bind ?_))
  have at_:∀i,i<nb-1→∃v,b[0+i]? = some v∧b.toList[i]? = some v∧v∈b.toList:=fun i hi=>by
   rw[Nat.zero_add];exact m9 (by omega)
  refine C6 C hk dx (by omega) (fun i=>lt ((b.toList[i]?).getD x) x) (fun i hi=>?_) (fun i j hij hj hb=>?_) fun k hk1 hk2 hk3=>?_
  ·obtain⟨v,h1,h2,h3⟩:=at_ i hi
   exact⟨v,h1,P.db v h3,by rw[h2];rfl⟩
  ·obtain⟨v,h1,h2,h3⟩:=at_ i (by omega)
   obtain⟨u,u1,u2,u3⟩:=at_ j hj
   rw[u2]at hb
   rw[h2]
   show lt v x=true
   cases q:lt v x with
   | true=>rfl
   | false =>
    have:=P.T.tr x v u dx (P.db v h3) (P.db u u3) q (m5 P.T P.db P.sb (by omega) h2 u2)
    have hb:lt u x=true:=hb
    rw[this]at hb;cases hb
  ·dsimp only
   have low:∀j v,j<k→b.toList[j]? = some v→lt x v=false:=fun j v hj hv=>by
    have:=hk2 j hj
    rw[hv]at this
    exact P.T.asy _ _ (P.db v (List.mem_of_getElem? hv)) dx this
   have high:∀j v,k≤j→j<nb-1→b.toList[j]? = some v→lt v x=false:=fun j v h1 h2 hv=>by
    have:=hk3 j h1 h2
    rw[hv]at this
    exact this
   by_cases k0:nb-1-k > 0
   ·rw[if_pos k0]
    have mr2:=b1w P hk1 mr hxl la.1 high
    by_cases y1:(k == 1)=true
    ·rw[if_pos y1]
     exact wpS_pure ⟨hg,.inl ⟨_,rfl,MH.good_first P (by omega) mr2 (by simpa using y1)⟩⟩
    ·rw[if_neg y1]
     have y1':k≠1:=by simpa using y1
     by_cases y2:(k == 0)=true
     ·rw[if_pos y2]
      exact wpS_pure ⟨hg,.inl ⟨_,rfl,MH.good_doneB P mr2 (by simpa using y2)⟩⟩
     ·rw[if_neg y2]
      have y2':k≠0:=by simpa using y2
      exact b0v P hg ⟨la,⟨by omega,by omega⟩,mr2⟩ (by omega) fun x' y' e1 e2=>by
       rw[hxl]at e1;cases e1
       exact low _ y' (by omega) e2
   ·rw[if_neg k0]
    have e0:k=nb-1:=by omega
    subst e0
    exact b0v P hg ⟨la,⟨by omega,by omega⟩,mr⟩ (by omega) fun x' y' e1 e2=>by
     rw[hxl]at e1;cases e1
     exact low _ y' (by omega) e2
theorem b0x(C:u5 prog w A s κ lt Dm)(P:MPh lt Dm a b)(hk:kindOf st=κ)(hg:SameG st0 st)(m:MH lt a b out na nb)(hp:na+nb≤p0):wpS (model prog w) A E s (hiA a b out na nb mg ac bc) (PHi lt a b p0 st0) st:=by
 have la:=m.la
 have lb:=m.lb
 obtain⟨y,hy,hyl,my⟩:=m9 (a:=b) (i:=nb-1) (by omega)
 have dy:=P.db y my
 refine wpS_bind (j5 hy (wpS_bind ?_))
 have at_:∀i,i<na→∃v,a[0+i]? = some v∧a.toList[i]? = some v∧v∈a.toList:=fun i hi=>by
  rw[Nat.zero_add];exact m9 (by omega)
 refine C6 C hk dy (by omega) (fun i=>!lt y ((a.toList[i]?).getD y)) (fun i hi=>?_) (fun i j hij hj hb=>?_) fun k hk1 hk2 hk3=>?_
 ·obtain⟨v,h1,h2,h3⟩:=at_ i hi
  exact⟨v,h1,P.da v h3,by rw[h2];rfl⟩
 ·obtain⟨v,h1,h2,h3⟩:=at_ i (by omega)
  obtain⟨u,u1,u2,u3⟩:=at_ j hj
  rw[u2]at hb
  rw[h2]
  have hb:(!lt y u)=true:=hb
  have hb':lt y u=false:=by simpa using hb
  show(!lt y v)=true
  rw[P.T.tr v u y (P.da v h3) (P.da u u3) dy (m5 P.T P.da P.sa (by omega) h2 u2) hb']
  rfl
 ·dsimp only
  have low:∀j v,j<k→a.toList[j]? = some v→lt y v=false:=fun j v hj hv=>by
   have:=hk2 j hj
   rw[hv]at this
   have this:(!lt y v)=true:=this
   simpa using this
  have high:∀j v,k≤j→j<na→a.toList[j]? = some v→lt v y=false:=fun j v h1 h2 hv=>by
   have:=hk3 j h1 h2
   rw[hv]at this
   have this:(!lt y v)=false:=this
   exact P.T.asy _ _ dy (P.da v (List.mem_of_getElem? hv)) (by simpa using this)
  by_cases k0:na-k > 0
  ·rw[if_pos k0]
   have mr2:=b1v P hk1 m.mr hyl (by omega) high
   by_cases y2:(k == 0)=true
   ·rw[if_pos y2]
    exact wpS_pure ⟨hg,.inl ⟨_,rfl,MH.good_doneA P mr2 (by simpa using y2)⟩⟩
   ·rw[if_neg y2]
    have y2':k≠0:=by simpa using y2
    exact b0w C P hk hg ⟨⟨by omega,by omega⟩,lb,mr2⟩ (by omega) fun x' y' e1 e2=>by
     rw[hyl]at e2;cases e2
     exact low _ x' (by omega) e1
  ·rw[if_neg k0]
   have e0:k=na:=by omega
   subst e0
   exact b0w C P hk hg m (by omega) fun x' y' e1 e2=>by
    rw[hyl]at e2;cases e2
    exact low _ x' (by omega) e1
abbrev S2:=Option (Array Keyed)×Nat×Nat×Array Keyed×Nat×Nat
theorem a3v{Q:Array Keyed→SortSt→Prop}(C:u5 prog w A s κ lt Dm)(P:MPh lt Dm a b)(hk:kindOf st=κ)(ha:1≤a.size)(hb:1≤b.size)(h0:∀x y,a.toList[a.size-1]? = some x→b.toList[b.size-1]? = some y→lt x y=false)
  (h:∀r st',SameG st st'→i9 lt a.toList b.toList r.toList→Q r st'):wpS (model prog w) A E s (a0A a b) Q st:=by
 rw[a3u]
 refine wpS_bind (wpS_lift (wpAny_rule ⟨rfl,?_⟩))
 obtain⟨x,hx,hxl,mx⟩:=m9 (a:=a) (i:=a.size-1) (by omega)
 refine wpS_bind (j5 hx ?_)
 dsimp only
 have m0:MR lt a.toList b.toList (#[]:Array Keyed).toList.reverse (a.toList.take a.size) (b.toList.take b.size):=⟨⟨[],[],by rw[List.take_of_length_le (by rw[Array.length_toList];exact Nat.le_refl _),List.append_nil],by rw[List.take_of_length_le (by rw[Array.length_toList];exact Nat.le_refl _),List.append_nil],.refl _⟩,.nil,fun x hx=>absurd hx List.not_mem_nil,fun x hx=>absurd hx List.not_mem_nil⟩
 have m1:MR lt a.toList b.toList (#[x]:Array Keyed).toList.reverse (a.toList.take (a.size-1)) (b.toList.take b.size):=a6I (out := #[]) P (by omega) (Nat.le_refl _) (by omega) m0 hxl fun y hy=>h0 x y hxl hy
 by_cases z:(a.size-1 == 0)=true
 ·rw[if_pos z]
  exact wpS_pure (h _ _ (.refl _) (MH.good_doneA P m1 (by simpa using z)))
 rw[if_neg z]
 have z':a.size-1≠0:=by simpa using z
 by_cases z2:(b.size == 1)=true
 ·rw[if_pos z2]
  exact wpS_pure (h _ _ (.refl _) (MH.good_first P (by omega) m1 (by simpa using z2)))
 rw[if_neg z2]
 have z2':b.size≠1:=by simpa using z2
 refine wpS_bind (wpS_get ?_)
 refine wpS_bind (L8 (fun(i:Nat) (c:Option (Array Keyed)×Nat×Nat×Array Keyed×Nat) st'=>c.1=none∧SameG st st'∧MH lt a b c.2.2.2.1 c.2.1 c.2.2.1∧c.2.1+c.2.2.1+i+1≤a.size+b.size)
  (fun(c:Option (Array Keyed)×Nat×Nat×Array Keyed×Nat) st'=>∃r,c.1=some r∧SameG st st'∧i9 lt a.toList b.toList r.toList) ?_ ?_ ⟨rfl,.refl _,⟨⟨by show 0<a.size-1;omega,by show a.size-1≤a.size;omega⟩,⟨by show 1<b.size;omega,Nat.le_refl _⟩,m1⟩,by show a.size-1+b.size+0+1≤a.size+b.size;omega⟩ ?_)
 ·rintro i ⟨c0,na,nb,out,mg⟩ st1 hi ⟨e0,hg,m,hp⟩
  dsimp only at *
  refine wpS_bind (L8 (fun(j:Nat) (c:S2) st'=>c.1=none∧SameG st st'∧MH lt a b c.2.2.2.1 c.2.1 c.2.2.1∧c.2.1+c.2.2.1+j≤na+nb)
   (fun(c:S2) st'=>SameG st st'∧((∃r,c.1=some r∧i9 lt a.toList b.toList r.toList)∨(c.1=none∧MH lt a b c.2.2.2.1 c.2.1 c.2.2.1∧c.2.1+c.2.2.1+1≤na+nb))) ?_ ?_ ⟨rfl,hg,m,Nat.le_refl _⟩ ?_)
  ·rintro j ⟨d0,ja,jb,out',ac,bc⟩ st2 hj ⟨f0,hg2,m2,hp2⟩
   dsimp only at *
   have hla:=m2.la
   have hlb:=m2.lb
   obtain⟨y2,hy2,hyl2,my2⟩:=m9 (a:=b) (i:=jb-1) (by omega)
   obtain⟨x2,hx2,hxl2,mx2⟩:=m9 (a:=a) (i:=ja-1) (by omega)
   refine wpS_bind (j5 hy2 (wpS_bind (j5 hx2 (wpS_bind (Y2 C (hg2.1.trans hk) (P.db _ my2) (P.da _ mx2) ?_)))))
   dsimp only
   cases bw:lt y2 x2 with
   | true =>
    rw[if_pos rfl]
    have mr:=a6I P hla.1 hlb.2 (by omega) m2.mr hxl2 (fun y hy=>by rw[hyl2]at hy;cases hy;exact P.T.asy _ _ (P.db _ my2) (P.da _ mx2) bw)
    refine wpS_bind (j5 hx2 ?_)
    by_cases q:(ja-1 == 0)=true
    ·rw[if_pos q]
     exact wpS_pure ⟨hg2,.inl ⟨_,rfl,MH.good_doneA P mr (by simpa using q)⟩⟩
    ·rw[if_neg q]
     have q':ja-1≠0:=by simpa using q
     have m3:MH lt a b (out'.push x2) (ja-1) jb:=⟨⟨by omega,by omega⟩,hlb,mr⟩
     split
     ·exact wpS_pure ⟨hg2,.inr ⟨rfl,m3,by show ja-1+jb+1≤na+nb;omega⟩⟩
     ·exact wpS_pure ⟨rfl,hg2,m3,by show ja-1+jb+(j+1)≤na+nb;omega⟩
   | false =>
    rw[if_neg (by simp)]
    have mr:=b0r P (by omega) hla.2 hla.1 m2.mr hyl2 (fun x hx=>by rw[hxl2]at hx;cases hx;exact bw)
    refine wpS_bind (j5 hy2 ?_)
    by_cases q:(jb-1 == 1)=true
    ·rw[if_pos q]
     exact wpS_pure ⟨hg2,.inl ⟨_,rfl,MH.good_first P (by omega) mr (by simpa using q)⟩⟩
    ·rw[if_neg q]
     have q':jb-1≠1:=by simpa using q
     have m3:MH lt a b (out'.push y2) ja (jb-1):=⟨hla,⟨by omega,by omega⟩,mr⟩
     split
     ·exact wpS_pure ⟨hg2,.inr ⟨rfl,m3,by show ja+(jb-1)+1≤na+nb;omega⟩⟩
     ·exact wpS_pure ⟨rfl,hg2,m3,by show ja+(jb-1)+(j+1)≤na+nb;omega⟩
  ·rintro⟨d0,ja,jb,out',ac,bc⟩ st2 ⟨f0,hg2,m2,hp2⟩
   dsimp only at *
   exact⟨hg2,.inr ⟨f0,m2,by show ja+jb+1≤na+nb;omega⟩⟩
  ·rintro⟨d0,ja,jb,out',ac,bc⟩ st2 ⟨hg2,⟨r,f0,gr⟩ | ⟨f0,m2,hp2⟩⟩
   ·have f0:d0=some r:=f0
    subst f0
    exact wpS_pure ⟨r,rfl,hg2,gr⟩
   ·have f0:d0=none:=f0
    have hp2:ja+jb+1≤na+nb:=hp2
    subst f0
    refine wpS_bind (wpS_lift (wpAny_rule ⟨rfl,?_⟩))
    refine wpS_bind (L8 (fun(j:Nat) (c:GH) st'=>SameG st st'∧c.1=none∧MH lt a b c.2.2.2.1 c.2.1 c.2.2.1∧c.2.1+c.2.2.1≤ja+jb)
     (fun(c:GH) st'=>SameG st st'∧((∃r,c.1=some r∧i9 lt a.toList b.toList r.toList)∨(c.1=none∧MH lt a b c.2.2.2.1 c.2.1 c.2.2.1∧c.2.1+c.2.2.1≤ja+jb))) ?_ ?_ ⟨hg2,rfl,m2,Nat.le_refl _⟩ ?_)
    ·rintro j ⟨g0,ka,kb,out2,mg2,ac2,bc2⟩ st3 hj ⟨hg3,f0,m3,hp3⟩
     refine a2U (fun _=>?_) (fun _=>?_)
     ·refine wpS_bind (smg fun st4 g4=>?_)
      exact wpS_mono (b0x (mg:=mg2-1) (ac:=ac2) (bc:=bc2) C P ((hg3.trans g4).1.trans hk) (hg3.trans g4) m3 hp3) (fun r st' q=>by cases r<;>exact q)
     ·refine wpS_bind (smg fun st4 g4=>?_)
      exact wpS_mono (b0x (mg:=mg2) (ac:=ac2) (bc:=bc2) C P ((hg3.trans g4).1.trans hk) (hg3.trans g4) m3 hp3) (fun r st' q=>by cases r<;>exact q)
    ·rintro⟨g0,ka,kb,out2,mg2,ac2,bc2⟩ st3 ⟨hg3,f0,m3,hp3⟩
     exact⟨hg3,.inr ⟨f0,m3,hp3⟩⟩
    ·rintro⟨g0,ka,kb,out2,mg2,ac2,bc2⟩ st3 ⟨hg3,⟨r,f0,gr⟩ | ⟨f0,m3,hp3⟩⟩
     ·have f0:g0=some r:=f0
      subst f0
      exact wpS_pure ⟨r,rfl,hg3,gr⟩
     ·have f0:g0=none:=f0
      have hp3:ka+kb≤ja+jb:=hp3
      subst f0
      refine wpS_bind (smg fun st4 g4=>?_)
      exact wpS_pure ⟨rfl,hg3.trans g4,m3,by show ka+kb+(i+1)+1≤a.size+b.size;omega⟩
 ·rintro⟨c0,na,nb,out,mg⟩ st1 ⟨e0,hg,m,hp⟩
  exfalso
  have h1:=m.la
  have h2:=m.lb
  dsimp only at *
  omega
 ·rintro⟨c0,na,nb,out,mg⟩ st1 ⟨r,e0,hg,gr⟩
  dsimp only at *
  subst e0
  exact wpS_pure (h r st1 hg gr)
end
theorem a3w(i:Nat):mergeAt' i=(do
 let s ← get
 let (some (sa,na,power),some (sb,nb,_)):=((pendingOf s)[i]?,(pendingOf s)[i+1]?) | unsupported "internal:list.sort.pending"
 set (setPending s (((pendingOf s).setIfInBounds i (sa,na+nb,power)).eraseIdxIfInBounds (i+1)))
 let some k ← v9 false (← elem' (arrOf s) sb) (arrOf s) sa na 0 | return false
 let (sa,na):=(sa+k,na-k)
 if na == 0 then return true
 let some nb ← v9 true (← elem' (arrOf s) (sa+na-1)) (arrOf s) sb nb (nb-1) | return false
 if nb == 0 then return true
 let x:=(arrOf s).extract sa sb
 let y:=(arrOf s).extract sb (sb+nb)
 let merged ← if na≤nb then a0z x y else a0A x y
 modify fun s=>setArr s (merged.toList.zipIdx.foldl (fun a (p,j)=>a.setIfInBounds (sa+j) p) (arrOf s))
 return (failedOf (← get)).isNone):=rfl
theorem a2V(o:Nat):∀(m:List Keyed) (n:Nat) (arr:Array Keyed),o+n+m.length≤arr.size→((m.zipIdx n).foldl (fun a (q:Keyed×Nat)=>a.setIfInBounds (o+q.2) q.1) arr).toList=arr.toList.take (o+n)++m++arr.toList.drop (o+n+m.length)
 | [],n,arr,h=>by simp
 | p::m,n,arr,h=>by
  rw[List.length_cons]at h
  rw[List.zipIdx_cons,List.foldl_cons]
  have ih:=a2V o m (n+1) (arr.setIfInBounds (o+n) p) (by rw[Array.size_setIfInBounds];omega)
  rw[ih,Array.toList_setIfInBounds]
  have hl:o+n<arr.toList.length:=by rw[Array.length_toList];omega
  have e1:(arr.toList.set (o+n) p).take (o+(n+1))=arr.toList.take (o+n)++[p]:=by
   rw[show o+(n+1)=(o+n)+1 by omega]
   exact(List.take_add_one).trans (by rw[List.getElem?_set_self hl,List.take_set_of_le (Nat.le_refl _)];rfl)
  have e2:(arr.toList.set (o+n) p).drop (o+(n+1)+m.length)=arr.toList.drop (o+n+(m.length+1)):=by
   rw[List.drop_set_of_lt (by omega),show o+(n+1)+m.length=o+n+(m.length+1) by omega]
  rw[e1,e2,List.length_cons]
  simp
section
variable {prog:Program}{w:World}{A:Around}{E:Value→Shared→Prop}{s:Shared}{κ:SortKind}{lt:Keyed→Keyed→Bool}{Dm:Keyed→Prop}{st:SortSt}
theorem a2W{arr:Array Keyed}{p u q:List Keyed}{i j:Nat}(e:arr.toList=p++u++q)(hi:p.length=i)(hj:i+u.length=j):(arr.extract i j).toList=u:=by
 rw[a0B,e,List.append_assoc,← hi,List.drop_left',← hj]
 ·rw[show i+u.length-p.length=u.length by omega,List.take_left']
  rfl
 ·rfl
theorem Srt.right{l m:List Keyed}(h:Srt lt (l++m)):Srt lt m:=(List.pairwise_append.mp h).2.1
theorem a5w{arr:Array Keyed}{p u q:List Keyed}{i j:Nat}(e:arr.toList=p++u++q)(hi:p.length=i)(hj:j<u.length):arr[i+j]? = some u[j]:=by
 have h1:arr.toList[i+j]? = some u[j]:=by
  rw[e,List.append_assoc,List.getElem?_append_right (by omega),show i+j-p.length=j by omega,List.getElem?_append_left hj,List.getElem?_eq_getElem hj]
 rw[← Array.getElem?_toList]
 exact h1
theorem a3x{Q:Bool→SortSt→Prop}{i sa na sb nb pw pw':Nat}{pre U V post:List Keyed}(C:u5 prog w A s κ lt Dm)(T:TPK lt Dm)(hk:kindOf st=κ)(hf:failedOf st=none)
  (hp1:(pendingOf st)[i]? = some (sa,na,pw)) (hp2:(pendingOf st)[i+1]? = some (sb,nb,pw')) (e:(arrOf st).toList=pre++U++(V++post)) (l0:pre.length=sa) (l1:U.length=na) (l2:V.length=nb) (hsb:sa+na=sb) (ha:1≤na) (hb:1≤nb)
  (dU:∀x∈U,Dm x) (dV:∀x∈V,Dm x) (sU:Srt lt U) (sV:Srt lt V)
  (h:∀(arr':Array Keyed) (g:Nat) (W:List Keyed),W.Perm (U++V)→Srt lt W→arr'.toList=pre++W++post→Q true (SortSt.mk' κ arr' (((pendingOf st).setIfInBounds i (sa,na+nb,pw)).eraseIdxIfInBounds (i+1)) g none)) :
  wpS (model prog w) A E s (mergeAt' i) Q st:=by
 rw[a3w]
 refine wpS_bind (wpS_get ?_)
 rw[hp1,hp2]
 dsimp only
 refine wpS_bind (wpS_modify (f:=fun _=>setPending st (((pendingOf st).setIfInBounds i (sa,na+nb,pw)).eraseIdxIfInBounds (i+1))) ?_)
 have e':(arrOf st).toList=(pre++U)++V++post:=by rw[e];simp
 have lU:(pre++U).length=sb:=by rw[List.length_append];omega
 have aU:∀j (hj:j<U.length),(arrOf st)[sa+j]? = some U[j]:=fun j hj=>a5w e l0 hj
 have aV:∀j (hj:j<V.length),(arrOf st)[sb+j]? = some V[j]:=fun j hj=>a5w e' lU hj
 have hV0:0<V.length:=by omega
 have hUl:U.length-1<U.length:=by omega
 have dy:Dm V[0]:=dV _ (List.getElem_mem hV0)
 have dl:Dm U[U.length-1]:=dU _ (List.getElem_mem hUl)
 have done:∀st',SameG (setPending st (((pendingOf st).setIfInBounds i (sa,na+nb,pw)).eraseIdxIfInBounds (i+1))) st'→Srt lt (U++V)→Q true st':=fun st' g hs=>by
  have:=h (arrOf st) (gallopOf st') (U++V) (.refl _) hs (by rw[e];simp)
  obtain⟨g1,g2,g3,g4⟩:=g
  have e5:st'=SortSt.mk' κ (arrOf st) (((pendingOf st).setIfInBounds i (sa,na+nb,pw)).eraseIdxIfInBounds (i+1)) (gallopOf st') none:=by
   have a1:kindOf st'=κ:=g1.trans hk
   have a2:arrOf st'=arrOf st:=g2
   have a3:pendingOf st'=(((pendingOf st).setIfInBounds i (sa,na+nb,pw)).eraseIdxIfInBounds (i+1)):=g3
   have a4:failedOf st'=none:=g4.trans hf
   rw[← a1,← a2,← a3,← a4]
  rw[e5]
  exact this
 have x0:=aV 0 hV0
 rw[Nat.add_zero]at x0
 refine wpS_bind (j5 x0 (wpS_bind ?_))
 refine C6 C hk dy (by omega) (fun j=>!lt V[0] (U[j]?.getD V[0])) (fun j hj=>?_) (fun j k hjk hkn hb=>?_) fun k hk1 hk2 hk3=>?_
 ·have hj':j<U.length:=by omega
  exact⟨U[j],aU j hj',dU _ (List.getElem_mem hj'),by rw[List.getElem?_eq_getElem hj'];rfl⟩
 ·have hk':k<U.length:=by omega
  have hj':j<U.length:=by omega
  rw[List.getElem?_eq_getElem hk']at hb
  rw[List.getElem?_eq_getElem hj']
  have hb:(!lt V[0] U[k])=true:=hb
  have hb':lt V[0] U[k]=false:=by simpa using hb
  show(!lt V[0] U[j])=true
  rw[T.tr U[j] U[k] V[0] (dU _ (List.getElem_mem hj')) (dU _ (List.getElem_mem hk')) dy (m5 T dU sU hjk (List.getElem?_eq_getElem hj') (List.getElem?_eq_getElem hk')) hb']
  rfl
 dsimp only
 have low:∀j x,j<k→U[j]? = some x→lt V[0] x=false:=fun j x hj hx=>by
  have:=hk2 j hj
  rw[hx]at this
  have this:(!lt V[0] x)=true:=this
  simpa using this
 have high:∀j x,k≤j→U[j]? = some x→lt V[0] x=true:=fun j x hj hx=>by
  have hjl:=(List.getElem?_eq_some_iff.mp hx).1
  have:=hk3 j hj (by omega)
  rw[hx]at this
  have this:(!lt V[0] x)=false:=this
  simpa using this
 have v0:V[0]? = some V[0]:=List.getElem?_eq_getElem hV0
 by_cases z1:(na-k == 0)=true
 ·rw[if_pos z1]
  have z1':na-k=0:=by simpa using z1
  refine wpS_pure (done _ (.refl _) (sU.app sV fun x hx y hy=>?_))
  obtain⟨j,hj⟩:=List.mem_iff_getElem?.mp hx
  obtain⟨j2,hj2⟩:=List.mem_iff_getElem?.mp hy
  have hjl:=(List.getElem?_eq_some_iff.mp hj).1
  exact T.tr _ _ _ (dU x hx) dy (dV y hy) (low j x (by omega) hj) (m5 T dV sV (Nat.zero_le _) v0 hj2)
 rw[if_neg z1]
 have z1':na-k≠0:=by simpa using z1
 have ul:U[U.length-1]? = some U[U.length-1]:=List.getElem?_eq_getElem hUl
 have xl:=aU (U.length-1) hUl
 rw[show sa+(U.length-1)=sa+k+(na-k)-1 by omega]at xl
 refine wpS_bind (j5 xl (wpS_bind ?_))
 refine C6 C hk dl (by omega) (fun j=>lt (V[j]?.getD U[U.length-1]) U[U.length-1]) (fun j hj=>?_) (fun j k hjk hkn hb=>?_) fun n hn1 hn2 hn3=>?_
 ·have hj':j<V.length:=by omega
  exact⟨V[j],aV j hj',dV _ (List.getElem_mem hj'),by rw[List.getElem?_eq_getElem hj'];rfl⟩
 ·have hk':k<V.length:=by omega
  have hj':j<V.length:=by omega
  rw[List.getElem?_eq_getElem hk']at hb
  rw[List.getElem?_eq_getElem hj']
  have hb:lt V[k] U[U.length-1]=true:=hb
  show lt V[j] U[U.length-1]=true
  cases q:lt V[j] U[U.length-1]with
  | true=>rfl
  | false =>
   have:=T.tr _ V[j] V[k] dl (dV _ (List.getElem_mem hj')) (dV _ (List.getElem_mem hk')) q (m5 T dV sV hjk (List.getElem?_eq_getElem hj') (List.getElem?_eq_getElem hk'))
   rw[this]at hb;cases hb
 dsimp only
 have vlow:∀j y,j<n→V[j]? = some y→lt y U[U.length-1]=true:=fun j y hj hy=>by
  have:=hn2 j hj
  rw[hy]at this
  exact this
 have vhigh:∀j y,n≤j→V[j]? = some y→lt y U[U.length-1]=false:=fun j y hj hy=>by
  have hjl:=(List.getElem?_eq_some_iff.mp hy).1
  have:=hn3 j hj (by omega)
  rw[hy]at this
  exact this
 have ulast:∀x∈U,lt U[U.length-1] x=false:=fun x hx=>by
  obtain⟨j,hj⟩:=List.mem_iff_getElem?.mp hx
  have hjl:=(List.getElem?_eq_some_iff.mp hj).1
  exact m5 T dU sU (by omega) hj ul
 by_cases z2:(n == 0)=true
 ·rw[if_pos z2]
  have z2':n=0:=by simpa using z2
  refine wpS_pure (done _ (.refl _) (sU.app sV fun x hx y hy=>?_))
  obtain⟨j2,hj2⟩:=List.mem_iff_getElem?.mp hy
  exact T.tr _ _ _ (dU x hx) dl (dV y hy) (ulast x hx) (vhigh j2 y (by omega) hj2)
 rw[if_neg z2]
 have z2':n≠0:=by simpa using z2
 -- the parts
 have eU:U=U.take k++U.drop k:=(List.take_append_drop k U).symm
 have eV:V=V.take n++V.drop n:=(List.take_append_drop n V).symm
 have lk:(U.take k).length=k:=by rw[List.length_take];omega
 have ld:(U.drop k).length=na-k:=by rw[List.length_drop];omega
 have ln:(V.take n).length=n:=by rw[List.length_take];omega
 have exl:(arrOf st).toList=(pre++U.take k)++U.drop k++(V++post):=by
  rw[List.append_assoc pre (U.take k) (U.drop k),List.take_append_drop]
  exact e
 have eyl:(arrOf st).toList=(pre++U)++V.take n++(V.drop n++post):=by
  rw[List.append_assoc (pre++U) (V.take n),← List.append_assoc (V.take n),List.take_append_drop]
  exact e
 have ex:((arrOf st).extract (sa+k) sb).toList=U.drop k:=a2W exl (by rw[List.length_append,l0,lk]) (by rw[ld];omega)
 have ey:((arrOf st).extract sb (sb+n)).toList=V.take n:=a2W eyl lU (by rw[ln])
 have d2U:∀x∈U.drop k,Dm x:=fun x hx=>dU x (List.mem_of_mem_drop hx)
 have d2V:∀x∈V.take n,Dm x:=fun x hx=>dV x (List.mem_of_mem_take hx)
 have gtU:∀x∈U.drop k,lt V[0] x=true:=fun x hx=>by
  obtain⟨j,hj,e⟩:=v5 hx
  exact high j x hj e
 have ltV:∀y∈V.take n,lt y U[U.length-1]=true:=fun y hy=>by
  obtain⟨j,hj,e⟩:=t4 hy
  exact vlow j y hj e
 have xlast:(U.drop k)[(U.drop k).length-1]? = some U[U.length-1]:=by
  rw[List.getElem?_drop,ld,show k+(na-k-1)=U.length-1 by omega];exact ul
 have yfst:(V.take n)[0]? = some V[0]:=by rw[List.getElem?_take_of_lt (by omega)];exact v0
 have sx:((arrOf st).extract (sa+k) sb).size=(U.drop k).length:=by rw[← Array.length_toList,ex]
 have sy:((arrOf st).extract sb (sb+n)).size=(V.take n).length:=by rw[← Array.length_toList,ey]
 have fin:∀(r:Array Keyed) (st':SortSt),SameG (setPending st (((pendingOf st).setIfInBounds i (sa,na+nb,pw)).eraseIdxIfInBounds (i+1))) st'→i9 lt ((arrOf st).extract (sa+k) sb).toList ((arrOf st).extract sb (sb+n)).toList r.toList →
   wpS (model prog w) A E s (do
    modify fun s=>setArr s (r.toList.zipIdx.foldl (fun a (p,j)=>a.setIfInBounds (sa+k+j) p) (arrOf s))
    let __do_lift ← get
    pure (failedOf __do_lift).isNone) Q st':=fun r st' g ⟨gp,gs⟩=>by
  rw[ex,ey]at gp
  obtain⟨g1,g2,g3,g4⟩:=g
  refine wpS_bind (wpS_modify ?_)
  refine wpS_bind (wpS_get (wpS_pure ?_))
  have hrl:r.toList.length=(na-k)+n:=by rw[gp.length_eq,List.length_append,ld,ln]
  have hsz:(arrOf st).size=sa+na+(nb+post.length):=by
   rw[← Array.length_toList,e];simp only[List.length_append];omega
  have fs:=a2V (sa+k) r.toList 0 (arrOf st) (by rw[hrl];omega)
  have e1:(arrOf st).toList.take (sa+k+0)=pre++U.take k:=by
   rw[Nat.add_zero,e,List.append_assoc,List.take_append,l0,show sa+k-sa=k by omega,List.take_of_length_le (by omega),List.take_append,show k-U.length=0 by omega,List.take_zero,List.append_nil]
  have e2:(arrOf st).toList.drop (sa+k+0+r.toList.length)=V.drop n++post:=by
   rw[hrl,show sa+k+0+(na-k+n)=sb+n by omega,e',List.append_assoc,List.drop_append,lU,show sb+n-sb=n by omega,List.drop_eq_nil_of_le (by omega),List.nil_append,List.drop_append,show n-V.length=0 by omega,List.drop_zero]
  rw[e1,e2]at fs
  have hW:=h ((r.toList.zipIdx.foldl (fun a (q:Keyed×Nat)=>a.setIfInBounds (sa+k+q.2) q.1) (arrOf st))) (gallopOf st') (U.take k++r.toList++V.drop n) ?_ ?_ ?_
  ·have e5:setArr st' (r.toList.zipIdx.foldl (fun a (q:Keyed×Nat)=>a.setIfInBounds (sa+k+q.2) q.1) (arrOf st'))=SortSt.mk' κ (r.toList.zipIdx.foldl (fun a (q:Keyed×Nat)=>a.setIfInBounds (sa+k+q.2) q.1) (arrOf st)) (((pendingOf st).setIfInBounds i (sa,na+nb,pw)).eraseIdxIfInBounds (i+1)) (gallopOf st') none:=by
    have a1:kindOf st'=κ:=g1.trans hk
    have a2:arrOf st'=arrOf st:=g2
    have a3:pendingOf st'=_:=g3
    have a4:failedOf st'=none:=g4.trans hf
    show SortSt.mk' (kindOf st') _ (pendingOf st') (gallopOf st') (failedOf st')=_
    rw[a1,a2,a3,a4]
   have e6:(failedOf (setArr st' (r.toList.zipIdx.foldl (fun a (q:Keyed×Nat)=>a.setIfInBounds (sa+k+q.2) q.1) (arrOf st')))).isNone=true:=by
    show(failedOf st').isNone=true
    rw[show failedOf st'=none from g4.trans hf];rfl
   show Q (failedOf (setArr st' (r.toList.zipIdx.foldl (fun a (q:Keyed×Nat)=>a.setIfInBounds (sa+k+q.2) q.1) (arrOf st')))).isNone (setArr st' (r.toList.zipIdx.foldl (fun a (q:Keyed×Nat)=>a.setIfInBounds (sa+k+q.2) q.1) (arrOf st')))
   rw[e6,e5]
   exact hW
  ·refine((gp.append_left (U.take k)).append_right (V.drop n)).trans ?_
   have e7:U.take k++(U.drop k++V.take n)++V.drop n=U++V:=by
    rw[← List.append_assoc (U.take k),List.take_append_drop,List.append_assoc,List.take_append_drop]
   rw[e7]
  ·have inR:∀x∈r.toList,x∈U.drop k∨x∈V.take n:=fun x hx=>List.mem_append.mp (gp.mem_iff.mp hx)
   refine Srt.app (Srt.app (sU.take k) gs fun x hx y hy=>?_) (sV.drop n) fun x hx y hy=>?_
   ·obtain⟨j,hj,ej⟩:=t4 hx
    have dx:=dU x (List.mem_of_mem_take hx)
    rcases inR y hy with q | q
    ·obtain⟨j2,hj2,ej2⟩:=v5 q
     exact m5 T dU sU (by omega) ej ej2
    ·obtain⟨j2,hj2,ej2⟩:=t4 q
     exact T.tr _ _ _ dx dy (d2V y q) (low j x hj ej) (m5 T dV sV (Nat.zero_le _) v0 ej2)
   ·obtain⟨j2,hj2,ej2⟩:=v5 hy
    have dY:=dV y (List.mem_of_mem_drop hy)
    rcases List.mem_append.mp hx with hx | hx
    ·have dx:=dU x (List.mem_of_mem_take hx)
     exact T.tr _ _ _ dx dl dY (ulast x (List.mem_of_mem_take hx)) (vhigh j2 y hj2 ej2)
    ·rcases inR x hx with q | q
     ·exact T.tr _ _ _ (d2U x q) dl dY (ulast x (List.mem_of_mem_drop q)) (vhigh j2 y hj2 ej2)
     ·obtain⟨j3,hj3,ej3⟩:=t4 q
      exact m5 T dV sV (by omega) ej3 ej2
  ·show(List.foldl _ (arrOf st) r.toList.zipIdx).toList=_
   refine Eq.trans fs ?_
   simp
 by_cases z3:na-k≤n
 ·rw[if_pos z3]
  refine wpS_bind (a3t C ⟨T,by rw[ex];exact d2U,by rw[ey];exact d2V,by rw[ex];exact sU.drop k,by rw[ey];exact sV.take n,fun y hy x hx=>?_⟩ hk (by rw[sx,ld];omega) (by rw[sy,ln];omega) (fun x y hx hy=>?_) fin)
  ·rw[ey]at hy
   rw[ex,sx,xlast]at hx
   cases hx
   exact T.asy _ _ (d2V y hy) dl (ltV y hy)
  ·rw[ex]at hx
   rw[ey,yfst]at hy
   cases hy
   exact T.asy _ _ dy (d2U x (List.mem_of_getElem? hx)) (gtU x (List.mem_of_getElem? hx))
 ·rw[if_neg z3]
  refine wpS_bind (a3v C ⟨T,by rw[ex];exact d2U,by rw[ey];exact d2V,by rw[ex];exact sU.drop k,by rw[ey];exact sV.take n,fun x hx y hy=>?_⟩ hk (by rw[sx,ld];omega) (by rw[sy,ln];omega) (fun x y hx hy=>?_) fin)
  ·rw[ex]at hx
   rw[ey,yfst]at hy
   cases hy
   exact T.asy _ _ dy (d2U x hx) (gtU x hx)
  ·rw[ex,sx,xlast]at hx
   cases hx
   rw[ey]at hy
   exact T.asy _ _ (d2V y (List.mem_of_getElem? hy)) dl (ltV y (List.mem_of_getElem? hy))
end
theorem a2q(lo nrem:Nat):countRun' lo nrem=(do
 let mut n:=1
 for _ in [1:nrem]do
  let some smaller ← ltAt' (lo+n) (lo+n-1) | return none
  if smaller then break
  n:=n+1
 if n == nrem then return some n
 if n > 1 then
  let some rose ← ltAt' lo (lo+n-1) | return none
  if rose then return some n
  reverseSlice' lo (lo+n)
 rule "list.sort.descending-run"
 n:=n+1
 let mut neq:=0
 for _ in [n:nrem]do
  let some smaller ← ltAt' (lo+n) (lo+n-1) | return none
  if smaller then
   if neq > 0 then reverseSlice' (lo+n-(neq+1)) (lo+n)
   neq:=0
  else
   let some larger ← ltAt' (lo+n-1) (lo+n) | return none
   if larger then break
   neq:=neq+1
  n:=n+1
 if neq > 0 then reverseSlice' (lo+n-(neq+1)) (lo+n)
 reverseSlice' lo (lo+n)
 for _ in [n:nrem]do
  let some smaller ← ltAt' (lo+n) (lo+n-1) | return none
  if smaller then break
  n:=n+1
 return some n):=rfl
theorem a05(lo n ok:Nat):binarySort' lo n ok=(do
 for k in [max ok 1:n]do
  let mut l:=0
  let mut r:=k
  for _ in [0:k]do
   if l≥r then break
   let m:=(l+r)/2
   let some less ← ltAt' (lo+k) (lo+m) | return false
   if less then r:=m else l:=m+1
  moveDown' (lo+k) (lo+l)
 return true):=rfl
def gk(p:Array Keyed)(k:Nat):Keyed:=p.getD k (Value.none,Value.none)
theorem Z8{p:Array Keyed}{k:Nat}(h:k<p.size):p[k]? = some (gk p k):=by unfold gk;simp[Array.getD,h]
theorem a06(p:Array Keyed)(k:Nat):gk p k=(p[k]?).getD (Value.none,Value.none):=by unfold gk;simp[Array.getD_eq_getD_getElem?]
abbrev A0(p:Array Keyed)(i j:Nat):Array Keyed:=mirror p i j ((j-i)/2)
theorem Y3{p:Array Keyed}{i j:Nat}(hj:j≤p.size)(k:Nat):gk (A0 p i j) k=if i≤k∧k<j then gk p (i+j-1-k)else gk p k:=by
 rw[a06,A0,getElem?_mirror_all hj]
 split<;>rw[a06]
theorem a5x{p:Array Keyed}{src d:Nat}(hs:src<p.size)(hd:d≤src)(k:Nat):gk (bubble p src d) k=if k=src-d then gk p src else if src-d<k∧k≤src then gk p (k-1)else gk p k:=by
 rw[a06,getElem?_bubble hs d hd]
 split
 ·rw[a06]
 ·split<;>rw[a06]
structure Rst(a0:Array Keyed)(lo hi:Nat)(a:Array Keyed):Prop where
 pm:a.Perm a0
 out:∀x,(x<lo∨hi≤x)→gk a x=gk a0 x
theorem Rst.refl(a:Array Keyed)(lo hi:Nat):Rst a lo hi a:=⟨.refl _,fun _ _=>rfl⟩
theorem Rst.size{a0 a:Array Keyed}{lo hi:Nat}(h:Rst a0 lo hi a):a.size=a0.size:=h.pm.size_eq
theorem Rst.rev{a0 a:Array Keyed}{lo hi i j:Nat}(h:Rst a0 lo hi a)(hi':lo≤i)(hj:j≤hi)(hs:hi≤a0.size):Rst a0 lo hi (A0 a i j) :=
 ⟨(mirror_perm _ _ _ _).trans h.pm,fun x hx=>by rw[Y3 (by rw[h.size];omega),if_neg (by omega)];exact h.out x hx⟩
theorem Rst.bub{a0 a:Array Keyed}{lo hi src d:Nat}(h:Rst a0 lo hi a)(h1:lo≤src-d)(hd:d≤src)(h2:src<hi)(hs:hi≤a0.size):Rst a0 lo hi (bubble a src d) :=
 ⟨(bubble_perm _ _ _).trans h.pm,fun x hx=>by rw[a5x (by rw[h.size];omega) hd,if_neg (by omega),if_neg (by omega)];exact h.out x hx⟩
structure StR(st0:SortSt)(lo hi:Nat)(st:SortSt):Prop where
 k:kindOf st=kindOf st0
 p:pendingOf st=pendingOf st0
 f:failedOf st=failedOf st0
 r:Rst (arrOf st0) lo hi (arrOf st)
def V8(lt:Keyed→Keyed→Bool)(p:Array Keyed)(lo m:Nat):Prop:=∀i j,i≤j→j<m→lt (gk p (lo+j)) (gk p (lo+i))=false
def DnK(lt:Keyed→Keyed→Bool)(p:Array Keyed)(lo m:Nat):Prop:=∀i j,i≤j→j<m→lt (gk p (lo+i)) (gk p (lo+j))=false
abbrev b18(lo:Nat):Nat→(Option (Option Nat)×Nat)→StateT SortSt Sem (ForInStep (Option (Option Nat)×Nat)):=fun x __s=>do
 let __x ← ltAt' (lo+__s.snd) (lo+__s.snd-1)
 match __x with
  | some smaller =>
   if smaller=true then pure (ForInStep.done (none,__s.snd))
   else pure (ForInStep.yield (none,__s.snd+1))
  | x=>pure (ForInStep.done (some none,__s.snd))
abbrev b19(lo:Nat):Nat→(Option (Option Nat)×Nat×Nat)→StateT SortSt Sem (ForInStep (Option (Option Nat)×Nat×Nat)):=fun x __s=>do
 let __x ← ltAt' (lo+__s.snd.fst) (lo+__s.snd.fst-1)
 match __x with
  | some smaller =>
   if smaller=true then
    if __s.snd.snd > 0 then do
     reverseSlice' (lo+__s.snd.fst-(__s.snd.snd+1)) (lo+__s.snd.fst)
     pure (ForInStep.yield (none,__s.snd.fst+1,0))
    else pure (ForInStep.yield (none,__s.snd.fst+1,0))
   else do
    let __x ← ltAt' (lo+__s.snd.fst-1) (lo+__s.snd.fst)
    match __x with
     | some larger =>
      if larger=true then pure (ForInStep.done (none,__s.snd.fst,__s.snd.snd))
      else pure (ForInStep.yield (none,__s.snd.fst+1,__s.snd.snd+1))
     | x=>pure (ForInStep.done (some none,__s.snd.fst,__s.snd.snd))
  | x=>pure (ForInStep.done (some none,__s.snd.fst,__s.snd.snd))
section
variable {prog:Program}{w:World}{A:Around}{E:Value→Shared→Prop}{s:Shared}{κ:SortKind}{lt:Keyed→Keyed→Bool}{Dm:Keyed→Prop}{st0 st:SortSt}{lo n m:Nat}
theorem StR.dmk(R:StR st0 lo m st)(hD:∀x∈(arrOf st0).toList,Dm x){i:Nat}(hi:i<(arrOf st0).size):Dm (gk (arrOf st) i):=by
 refine hD _ (R.r.pm.mem_iff.mp ?_ |> Array.mem_toList_iff.mpr)
 have hs:i<(arrOf st).size:=by rw[R.r.size];exact hi
 have:=Z8 hs
 rw[Array.getElem?_eq_getElem hs]at this
 rw[← Option.some.inj this]
 exact Array.getElem_mem hs
theorem Y4{i j:Nat}{Q:Option Bool→SortSt→Prop}(C:u5 prog w A s κ lt Dm)(hk:kindOf st=κ)(hi:i<(arrOf st).size)(hj:j<(arrOf st).size)(di:Dm (gk (arrOf st) i))(dj:Dm (gk (arrOf st) j))(h:Q (some (lt (gk (arrOf st) i) (gk (arrOf st) j))) st):wpS (model prog w) A E s (ltAt' i j) Q st:=by
 rw[ltAt'_eq]
 refine wpS_bind (wpS_get ?_)
 exact wpS_bind (j5 (Z8 hi) (wpS_bind (j5 (Z8 hj) (Y2 C hk di dj h))))
theorem K7{i j:Nat}{Q:Unit→SortSt→Prop}(h:Q () (setArr st (A0 (arrOf st) i j))):wpS (model prog w) A E s (reverseSlice' i j) Q st:=by
 rw[reverseSlice'_eq]
 exact wpS_modify h
theorem StR.rev{hi i j:Nat}(R:StR st0 lo hi st)(h1:lo≤i)(h2:j≤hi)(hs:hi≤(arrOf st0).size):StR st0 lo hi (setArr st (A0 (arrOf st) i j)):=⟨R.k,R.p,R.f,R.r.rev h1 h2 hs⟩
theorem Y5{a:Nat}{Q:Option (Option Nat)×Nat→SortSt→Prop}(C:u5 prog w A s κ lt Dm)(T:TPK lt Dm)(hk:kindOf st0=κ)(hD:∀x∈(arrOf st0).toList,Dm x)(R:StR st0 lo (lo+n) st)(hs:lo+n≤(arrOf st0).size)(h1:1≤a)(h2:a≤n)(u:V8 lt (arrOf st) lo a)
  (h:∀m,a≤m→m≤n→V8 lt (arrOf st) lo m→(m<n→lt (gk (arrOf st) (lo+m)) (gk (arrOf st) (lo+m-1))=true)→Q (none,m) st):wpS (model prog w) A E s (forIn [a:n] (none,a) (b18 lo)) Q st:=by
 have dm:∀i,i<lo+n→Dm (gk (arrOf st) i):=fun i hi=>R.dmk hD (by omega)
 have sz:=R.r.size
 refine wpS_forRange (fun i (c:Option (Option Nat)×Nat) st'=>c.1=none∧c.2=i∧st'=st∧V8 lt (arrOf st) lo i) ?_ ?_ ⟨rfl,rfl,rfl,u⟩
 ·rintro i ⟨c0,c1⟩ st' hi1 hi2 ⟨e0,e1,rfl,u⟩
  dsimp only at e0 e1
  subst e0 e1
  refine wpS_bind (Y4 C (R.k.trans hk) (by show lo+c1<_;omega) (by show lo+c1-1<_;omega) (dm _ (by show lo+c1<_;omega)) (dm _ (by show lo+c1-1<_;omega)) ?_)
  dsimp only
  cases c:lt (gk (arrOf st') (lo+c1)) (gk (arrOf st') (lo+c1-1))with
  | true =>
   rw[if_pos rfl]
   exact wpS_pure (h c1 hi1 (by omega) u fun _=>c)
  | false =>
   rw[if_neg (by simp)]
   refine wpS_pure ⟨rfl,rfl,rfl,fun i j hij hj=>?_⟩
   by_cases hjk:j<c1
   ·exact u i j hij hjk
   ·have e:j=c1:=by omega
    subst e
    by_cases hik:i=j
    ·subst hik;exact T.irr _ (dm _ (by omega))
    ·have:=u i (j-1) (by omega) (by omega)
     rw[show lo+(j-1)=lo+j-1 by omega]at this
     exact T.tr _ _ _ (dm _ (by omega)) (dm _ (by omega)) (dm _ (by omega)) this c
 ·rintro⟨c0,c1⟩ st' ⟨e0,e1,rfl,u⟩
  dsimp only at e0 e1
  have e2:max a n=n:=by omega
  rw[e2]at e1 u
  subst e0 e1
  exact h c1 h2 (Nat.le_refl _) u fun z=>absurd z (by omega)
theorem U3(hs:lo+m≤(arrOf st).size)(d:DnK lt (arrOf st) lo m):V8 lt (arrOf (setArr st (A0 (arrOf st) lo (lo+m)))) lo m:=fun i j hij hj=>by
 have gr:=Y3 (p:=arrOf st) (i:=lo) (j:=lo+m) hs
 show lt (gk (A0 (arrOf st) lo (lo+m)) (lo+j)) (gk (A0 (arrOf st) lo (lo+m)) (lo+i))=false
 rw[gr,gr,if_pos (by omega),if_pos (by omega),show lo+(lo+m)-1-(lo+j)=lo+(m-1-j) by omega,show lo+(lo+m)-1-(lo+i)=lo+(m-1-i) by omega]
 exact d _ _ (by omega) (by omega)
def Alk(lt:Keyed→Keyed→Bool)(p:Array Keyed)(lo k q:Nat):Prop:=∀i,k-(q+1)≤i→i<k→lt (gk p (lo+(k-1))) (gk p (lo+i))=false∧lt (gk p (lo+i)) (gk p (lo+(k-1)))=false
theorem a2X{hi k q:Nat}(T:TPK lt Dm)(hD:∀x∈(arrOf st0).toList,Dm x)(R:StR st0 lo hi st)(hs:hi≤(arrOf st0).size)(hk:lo+k≤hi)(hq:q+1≤k)(d:DnK lt (arrOf st) lo k)(al:Alk lt (arrOf st) lo k q) :
  DnK lt (A0 (arrOf st) (lo+k-(q+1)) (lo+k)) lo k∧∀i,i<k→lt (gk (A0 (arrOf st) (lo+k-(q+1)) (lo+k)) (lo+i)) (gk (arrOf st) (lo+(k-1)))=false:=by
 have sz:=R.r.size
 have dm:∀i,i<k→Dm (gk (arrOf st) (lo+i)):=fun i hi=>R.dmk hD (by omega)
 have gr:=Y3 (p:=arrOf st) (i:=lo+k-(q+1)) (j:=lo+k) (by omega)
 have at_:∀i,i<k→∃j,j<k∧gk (A0 (arrOf st) (lo+k-(q+1)) (lo+k)) (lo+i)=gk (arrOf st) (lo+j)∧(j=i∨(k-(q+1)≤i∧k-(q+1)≤j)):=fun i hi=>by
  rw[gr]
  split
  ·exact⟨k-(q+1)+k-1-i,by omega,by congr 1;omega,.inr ⟨by omega,by omega⟩⟩
  ·exact⟨i,hi,rfl,.inl rfl⟩
 have eqv:∀i,i<k→lt (gk (A0 (arrOf st) (lo+k-(q+1)) (lo+k)) (lo+i)) (gk (arrOf st) (lo+i))=false∧lt (gk (arrOf st) (lo+i)) (gk (A0 (arrOf st) (lo+k-(q+1)) (lo+k)) (lo+i))=false:=fun i hi=>by
  obtain⟨j,hj,e,z⟩:=at_ i hi
  rw[e]
  rcases z with rfl | ⟨z1,z2⟩
  ·exact⟨T.irr _ (dm _ hi),T.irr _ (dm _ hi)⟩
  ·have a:=al i z1 hi
   have b:=al j z2 hj
   exact⟨T.tr _ _ _ (dm _ hi) (dm _ (by omega)) (dm _ hj) a.1 b.2,T.tr _ _ _ (dm _ hj) (dm _ (by omega)) (dm _ hi) b.1 a.2⟩
 have dr:∀i,i<k→Dm (gk (A0 (arrOf st) (lo+k-(q+1)) (lo+k)) (lo+i)):=fun i hi=>by
  obtain⟨j,hj,e,_⟩:=at_ i hi
  rw[e];exact dm j hj
 refine⟨fun i j hij hj=>?_,fun i hi=>?_⟩
 ·exact T.tr _ _ _ (dr j hj) (dm i (by omega)) (dr i (by omega)) (T.tr _ _ _ (dr j hj) (dm j hj) (dm i (by omega)) (eqv j hj).2 (d i j hij hj)) (eqv i (by omega)).1
 ·exact T.tr _ _ _ (dm _ (by omega)) (dm i hi) (dr i hi) (d i (k-1) (by omega) (by omega)) (eqv i hi).1
theorem a5y{a:Nat}{Q:Option (Option Nat)×Nat×Nat→SortSt→Prop}(C:u5 prog w A s κ lt Dm)(T:TPK lt Dm)(hk:kindOf st0=κ)(hD:∀x∈(arrOf st0).toList,Dm x)(R:StR st0 lo (lo+n) st)(hs:lo+n≤(arrOf st0).size)(h1:1≤a)(h2:a≤n)(d:DnK lt (arrOf st) lo a)
  (h:∀k q st',a≤k→k≤n→q+1≤k→StR st0 lo (lo+n) st'→DnK lt (arrOf st') lo k→Alk lt (arrOf st') lo k q→Q (none,k,q) st'):wpS (model prog w) A E s (forIn [a:n] (none,a,0) (b19 lo)) Q st:=by
 refine wpS_forRange (fun i (c:Option (Option Nat)×Nat×Nat) st'=>c.1=none∧c.2.1=i∧c.2.2+1≤i∧StR st0 lo (lo+n) st'∧DnK lt (arrOf st') lo i∧Alk lt (arrOf st') lo i c.2.2) ?_ ?_ ⟨rfl,rfl,h1,R,d,fun i h1 h2=>?_⟩
 ·rintro i ⟨c0,k,q⟩ st1 hi1 hi2 ⟨e0,e1,hq,R1,d1,al⟩
  dsimp only at e0 e1 hq al
  subst e0 e1
  have sz:=R1.r.size
  have dm:∀i,i<lo+n→Dm (gk (arrOf st1) i):=fun i hi=>R1.dmk hD (by omega)
  refine wpS_bind (Y4 C (R1.k.trans hk) (by show lo+k<_;omega) (by show lo+k-1<_;omega) (dm _ (by show lo+k<_;omega)) (dm _ (by show lo+k-1<_;omega)) ?_)
  dsimp only
  have ek:lo+k-1=lo+(k-1):=by omega
  rw[ek]
  have ext:∀p':Array Keyed,(∀i,i<k+1→Dm (gk p' (lo+i)))→DnK lt p' lo k→(∀i,i<k→lt (gk p' (lo+i)) (gk p' (lo+k))=false)→DnK lt p' lo (k+1):=fun p' dp d' c i j hij hj=>by
   by_cases hjk:j<k
   ·exact d' i j hij hjk
   ·have e:j=k:=by omega
    subst e
    by_cases hik:i=j
    ·subst hik;exact T.irr _ (dp _ (by omega))
    ·exact c i (by omega)
  have one:∀p':Array Keyed,(∀i,i<k+1→Dm (gk p' (lo+i)))→Alk lt p' lo (k+1) 0:=fun p' dp i h1 h2=>by
   have e:i=k+1-1:=by omega
   rw[e];exact⟨T.irr _ (dp _ (by omega)),T.irr _ (dp _ (by omega))⟩
  cases c:lt (gk (arrOf st1) (lo+k)) (gk (arrOf st1) (lo+(k-1)))with
  | true =>
   rw[if_pos rfl]
   have c':=T.asy _ _ (dm _ (by omega)) (dm _ (by omega)) c
   by_cases hq0:q > 0
   ·rw[if_pos hq0]
    obtain⟨dr,low⟩:=a2X T hD R1 hs (by omega) hq d1 al
    have R2:=R1.rev (i:=lo+k-(q+1)) (j:=lo+k) (by omega) (by omega) hs
    have gr:=Y3 (p:=arrOf st1) (i:=lo+k-(q+1)) (j:=lo+k) (by omega)
    have gkk:gk (A0 (arrOf st1) (lo+k-(q+1)) (lo+k)) (lo+k)=gk (arrOf st1) (lo+k):=by rw[gr,if_neg (by omega)]
    have dp:∀i,i<k+1→Dm (gk (A0 (arrOf st1) (lo+k-(q+1)) (lo+k)) (lo+i)):=fun i hi=>R2.dmk hD (by omega)
    refine wpS_bind (K7 (wpS_pure ⟨rfl,rfl,by show 0+1≤k+1;omega,R2,?_,one _ dp⟩))
    exact ext _ dp dr fun i hi=>by
     rw[gkk]
     exact T.tr _ _ _ (dm _ (by omega)) (dm _ (by omega)) (dp i (by omega)) c' (low i hi)
   ·rw[if_neg hq0]
    have dp:∀i,i<k+1→Dm (gk (arrOf st1) (lo+i)):=fun i hi=>dm _ (by omega)
    exact wpS_pure ⟨rfl,rfl,by show 0+1≤k+1;omega,R1,ext _ dp d1 fun i hi=>T.tr _ _ _ (dm _ (by omega)) (dm _ (by omega)) (dm _ (by omega)) c' (d1 i (k-1) (by omega) (by omega)),one _ dp⟩
  | false =>
   rw[if_neg (by simp)]
   refine wpS_bind (Y4 C (R1.k.trans hk) (by omega) (by omega) (dm _ (by omega)) (dm _ (by omega)) ?_)
   dsimp only
   cases e:lt (gk (arrOf st1) (lo+(k-1))) (gk (arrOf st1) (lo+k))with
   | true =>
    rw[if_pos rfl]
    exact wpS_pure (h k q st1 hi1 (by omega) hq R1 d1 al)
   | false =>
    rw[if_neg (by simp)]
    refine wpS_pure ⟨rfl,rfl,by show q+1+1≤k+1;omega,R1,ext _ (fun i hi=>dm _ (by omega)) d1 (fun i hi=>T.tr _ _ _ (dm _ (by omega)) (dm _ (by omega)) (dm _ (by omega)) e (d1 i (k-1) (by omega) (by omega))),fun i h1 h2=>?_⟩
    have h1:k+1-(q+1+1)≤i:=h1
    rw[Nat.add_sub_cancel]
    by_cases hik:i=k
    ·subst hik;exact⟨T.irr _ (dm _ (by omega)),T.irr _ (dm _ (by omega))⟩
    ·have a:=al i (by omega) (by omega)
     exact⟨T.tr _ _ _ (dm _ (by omega)) (dm _ (by omega)) (dm _ (by omega)) a.1 c,T.tr _ _ _ (dm _ (by omega)) (dm _ (by omega)) (dm _ (by omega)) e a.2⟩
 ·rintro⟨c0,k,q⟩ st1 ⟨e0,e1,hq,R1,d1,al⟩
  dsimp only at e0 e1 hq al
  have e2:max a n=n:=by omega
  rw[e2]at e1 hq d1 al
  subst e0 e1
  exact h k q st1 h2 (Nat.le_refl _) hq R1 d1 al
 ·have h1':a-(0+1)≤i:=h1
  have e:i=a-1:=by omega
  subst e
  exact⟨T.irr _ (R.dmk hD (by omega)),T.irr _ (R.dmk hD (by omega))⟩
theorem a5z{Q:Option Nat→SortSt→Prop}(C:u5 prog w A s κ lt Dm)(T:TPK lt Dm)(hk:kindOf st=κ)(hD:∀x∈(arrOf st).toList,Dm x)(hs:lo+n≤(arrOf st).size)(hn:1≤n)
  (h:∀k st',1≤k→k≤n→StR st lo (lo+n) st'→V8 lt (arrOf st') lo k→Q (some k) st'):wpS (model prog w) A E s (countRun' lo n) Q st:=by
 have R:StR st lo (lo+n) st:=⟨rfl,rfl,rfl,.refl _ _ _⟩
 have dm:∀i,i<lo+n→Dm (gk (arrOf st) i):=fun i hi=>R.dmk hD (by omega)
 rw[a2q]
 refine wpS_bind (Y5 C T hk hD R hs (Nat.le_refl _) hn (fun i j hij hj=>?_) fun m m1 m2 u z=>?_)
 ·have e:i=j:=by omega
  rw[e];exact T.irr _ (dm _ (by omega))
 dsimp only
 by_cases y:(m == n)=true
 ·rw[if_pos y]
  exact wpS_pure (h m st m1 m2 R u)
 rw[if_neg y]
 have y':m≠n:=by simpa using y
 have zl:=z (by omega)
 rw[show lo+m-1=lo+(m-1) by omega]at zl
 by_cases m0:m > 1
 ·rw[if_pos m0]
  refine wpS_bind (Y4 C hk (by omega) (by omega) (dm _ (by omega)) (dm _ (by omega)) ?_)
  dsimp only
  rw[show lo+m-1=lo+(m-1) by omega]
  cases c:lt (gk (arrOf st) lo) (gk (arrOf st) (lo+(m-1)))with
  | true =>
   rw[if_pos rfl]
   exact wpS_pure (h m st m1 m2 R u)
  | false =>
   rw[if_neg (by simp)]
   refine wpS_bind (K7 ?_)
   have R2:=R.rev (i:=lo) (j:=lo+m) (Nat.le_refl _) (by omega) hs
   have gr:=Y3 (p:=arrOf st) (i:=lo) (j:=lo+m) (by omega)
   have c0:lt (gk (arrOf st) (lo+0)) (gk (arrOf st) (lo+(m-1)))=false:=c
   have all:∀a b,a<m→b<m→lt (gk (arrOf st) (lo+a)) (gk (arrOf st) (lo+b))=false:=fun a b ha hb =>
    T.tr _ _ _ (dm _ (by omega)) (dm _ (by omega)) (dm _ (by omega)) (u b (m-1) (by omega) (by omega)) (T.tr _ _ _ (dm _ (by omega)) (dm _ (by omega)) (dm _ (by omega)) c0 (u 0 a (by omega) ha))
   have dn:DnK lt (arrOf (setArr st (A0 (arrOf st) lo (lo+m)))) lo (m+1):=fun i j hij hj=>by
    show lt (gk (A0 (arrOf st) lo (lo+m)) (lo+i)) (gk (A0 (arrOf st) lo (lo+m)) (lo+j))=false
    rw[gr,gr]
    by_cases hjm:j<m
    ·rw[if_pos (by omega),if_pos (by omega),show lo+(lo+m)-1-(lo+i)=lo+(m-1-i) by omega,show lo+(lo+m)-1-(lo+j)=lo+(m-1-j) by omega]
     exact all _ _ (by omega) (by omega)
    ·have e:j=m:=by omega
     subst e
     rw[if_neg (show ¬(lo≤lo+j∧lo+j<lo+j) by omega)]
     by_cases hij':i=j
     ·subst hij';rw[if_neg (by omega)];exact T.irr _ (dm _ (by omega))
     ·rw[if_pos (by omega),show lo+(lo+j)-1-(lo+i)=lo+(j-1-i) by omega]
      exact T.tr _ _ _ (dm _ (by omega)) (dm _ (by omega)) (dm _ (by omega)) (T.asy _ _ (dm _ (by omega)) (dm _ (by omega)) zl) (all _ _ (by omega) (by omega))
   refine wpS_bind (wpS_lift (wpAny_rule ⟨rfl,?_⟩))
   refine wpS_bind (a5y C T hk hD R2 hs (by omega) (by omega) dn fun k q st1 k1 k2 hq R1 d1 al=>?_)
   have sz:=R1.r.size
   dsimp only
   by_cases q0:q > 0
   ·rw[if_pos q0]
    obtain⟨dr,_⟩:=a2X T hD R1 hs (by omega) hq d1 al
    have R3:=R1.rev (i:=lo+k-(q+1)) (j:=lo+k) (by omega) (by omega) hs
    have sz3:=R3.r.size
    have R4:=R3.rev (i:=lo) (j:=lo+k) (Nat.le_refl _) (by omega) hs
    refine wpS_bind (K7 (wpS_bind (K7 (wpS_bind (Y5 C T hk hD R4 hs (by omega) k2 (U3 (by omega) dr) fun k4 a1 a2 u _=>wpS_pure (h k4 _ (by omega) a2 R4 u))))))
   ·rw[if_neg q0]
    have R4:=R1.rev (i:=lo) (j:=lo+k) (Nat.le_refl _) (by omega) hs
    refine wpS_bind (K7 (wpS_bind (Y5 C T hk hD R4 hs (by omega) k2 (U3 (by omega) d1) fun k4 a1 a2 u _=>wpS_pure (h k4 _ (by omega) a2 R4 u))))
 ·rw[if_neg m0]
  have e:m=1:=by omega
  subst e
  have dn:DnK lt (arrOf st) lo (1+1):=fun i j hij hj=>by
   by_cases hij':i=j
   ·subst hij';exact T.irr _ (dm _ (by omega))
   ·have e1:i=0:=by omega
    have e2:j=1:=by omega
    subst e1 e2
    exact T.asy _ _ (dm _ (by omega)) (dm _ (by omega)) zl
  refine wpS_bind (wpS_lift (wpAny_rule ⟨rfl,?_⟩))
  refine wpS_bind (a5y C T hk hD R hs (by omega) (by omega) dn fun k q st1 k1 k2 hq R1 d1 al=>?_)
  have sz:=R1.r.size
  dsimp only
  by_cases q0:q > 0
  ·rw[if_pos q0]
   obtain⟨dr,_⟩:=a2X T hD R1 hs (by omega) hq d1 al
   have R3:=R1.rev (i:=lo+k-(q+1)) (j:=lo+k) (by omega) (by omega) hs
   have sz3:=R3.r.size
   have R4:=R3.rev (i:=lo) (j:=lo+k) (Nat.le_refl _) (by omega) hs
   refine wpS_bind (K7 (wpS_bind (K7 (wpS_bind (Y5 C T hk hD R4 hs (by omega) k2 (U3 (by omega) dr) fun k4 a1 a2 u _=>wpS_pure (h k4 _ (by omega) a2 R4 u))))))
  ·rw[if_neg q0]
   have R4:=R1.rev (i:=lo) (j:=lo+k) (Nat.le_refl _) (by omega) hs
   refine wpS_bind (K7 (wpS_bind (Y5 C T hk hD R4 hs (by omega) k2 (U3 (by omega) d1) fun k4 a1 a2 u _=>wpS_pure (h k4 _ (by omega) a2 R4 u))))
end
section
variable {prog:Program}{w:World}{A:Around}{E:Value→Shared→Prop}{s:Shared}{κ:SortKind}{lt:Keyed→Keyed→Bool}{Dm:Keyed→Prop}{st0 st:SortSt}{lo n ok hi:Nat}
theorem a6J{Q:Bool→SortSt→Prop}(C:u5 prog w A s κ lt Dm)(T:TPK lt Dm)(hk:kindOf st0=κ)(hD:∀x∈(arrOf st0).toList,Dm x)(R:StR st0 lo hi st)(hs:hi≤(arrOf st0).size)(hn:lo+n≤hi)(h1:1≤ok)(h2:ok≤n)(u:V8 lt (arrOf st) lo ok)
  (h:∀st',StR st0 lo hi st'→V8 lt (arrOf st') lo n→Q true st'):wpS (model prog w) A E s (binarySort' lo n ok) Q st:=by
 rw[a05]
 rw[show max ok 1=ok by omega]
 refine wpS_bind (wpS_mono (wpS_forRange (fun k (c:Option Bool×Unit) st'=>c.1=none∧StR st0 lo hi st'∧V8 lt (arrOf st') lo k) (Q:=fun(c:Option Bool×Unit) st'=>c.1=none∧StR st0 lo hi st'∧V8 lt (arrOf st') lo n) ?_ ?_ ⟨rfl,R,u⟩) ?_)
 ·rintro k ⟨c0,c1⟩ st1 hk1 hk2 ⟨e0,R1,u1⟩
  have sz:=R1.r.size
  have dm:∀i,i<n→Dm (gk (arrOf st1) (lo+i)):=fun i hi=>R1.dmk hD (by omega)
  refine wpS_bind (L8 (fun(i:Nat) (c:Option Bool×Nat×Nat) st'=>c.1=none∧st'=st1∧c.2.1≤c.2.2∧c.2.2≤k∧(∀i,i<c.2.1→lt (gk (arrOf st1) (lo+k)) (gk (arrOf st1) (lo+i))=false)∧(∀i,c.2.2≤i→i<k→lt (gk (arrOf st1) (lo+i)) (gk (arrOf st1) (lo+k))=false)∧c.2.2-c.2.1≤k-i)
   (fun(c:Option Bool×Nat×Nat) st'=>c.1=none∧st'=st1∧c.2.1≤k∧(∀i,i<c.2.1→lt (gk (arrOf st1) (lo+k)) (gk (arrOf st1) (lo+i))=false)∧(∀i,c.2.1≤i→i<k→lt (gk (arrOf st1) (lo+i)) (gk (arrOf st1) (lo+k))=false)) ?_ ?_ ⟨rfl,rfl,Nat.zero_le _,Nat.le_refl _,fun i hi=>absurd hi (Nat.not_lt_zero _),fun i h1 h2=>by have h1:k≤i:=h1;omega,by show k-0≤k-0;omega⟩ ?_)
  ·rintro i ⟨d0,l,r⟩ st2 hi ⟨f0,rfl,a1,a2,a3,a4,a5⟩
   dsimp only at *
   by_cases z:l≥r
   ·rw[if_pos z]
    exact wpS_pure ⟨rfl,rfl,by show l≤k;omega,a3,fun i h1 h2=>a4 i (by have h1:l≤i:=h1;omega) h2⟩
   ·rw[if_neg z]
    refine wpS_bind (Y4 C (R1.k.trans hk) (by omega) (by omega) (dm _ (by omega)) (dm _ (by omega)) ?_)
    dsimp only
    cases c:lt (gk (arrOf st2) (lo+k)) (gk (arrOf st2) (lo+(l+r)/2))with
    | true =>
     rw[if_pos rfl]
     refine wpS_pure ⟨rfl,rfl,by show l≤(l+r)/2;omega,by show(l+r)/2≤k;omega,a3,fun i h1 h2=>?_,by show(l+r)/2-l≤k-(i+1);omega⟩
     have h1:(l+r)/2≤i:=h1
     exact T.tr _ _ _ (dm _ (by omega)) (dm _ (by omega)) (dm _ (by omega)) (T.asy _ _ (dm _ (by omega)) (dm _ (by omega)) c) (u1 ((l+r)/2) i h1 h2)
    | false =>
     rw[if_neg (by simp)]
     refine wpS_pure ⟨rfl,rfl,by show(l+r)/2+1≤r;omega,a2,fun i h1=>?_,a4,by show r-((l+r)/2+1)≤k-(i+1);omega⟩
     have h1:i<(l+r)/2+1:=h1
     exact T.tr _ _ _ (dm _ (by omega)) (dm _ (by omega)) (dm _ (by omega)) (u1 i ((l+r)/2) (by omega) (by omega)) c
  ·rintro⟨d0,l,r⟩ st2 ⟨f0,rfl,a1,a2,a3,a4,a5⟩
   dsimp only at *
   exact⟨f0,rfl,by show l≤k;omega,a3,fun i h1 h2=>a4 i (by have h1:l≤i:=h1;omega) h2⟩
  ·rintro⟨d0,l,r⟩ st2 ⟨f0,rfl,a1,a3,a4⟩
   dsimp only at *
   subst f0
   dsimp only
   rw[moveDown'_eq]
   refine wpS_bind (wpS_modify (wpS_pure ?_))
   have R2:StR st0 lo hi (setArr st2 (bubble (arrOf st2) (lo+k) (lo+k-(lo+l)))):=⟨R1.k,R1.p,R1.f,R1.r.bub (by omega) (by omega) (by omega) hs⟩
   refine⟨rfl,R2,fun i j hij hj=>?_⟩
   have gb:=a5x (p:=arrOf st2) (src:=lo+k) (d:=lo+k-(lo+l)) (by omega) (by omega)
   show lt (gk (bubble (arrOf st2) (lo+k) (lo+k-(lo+l))) (lo+j)) (gk (bubble (arrOf st2) (lo+k) (lo+k-(lo+l))) (lo+i))=false
   rw[gb,gb,show lo+k-(lo+k-(lo+l))=lo+l by omega]
   by_cases e:i=j
   ·subst e
    split
    ·exact T.irr _ (dm _ (by omega))
    ·split
     ·rw[show lo+i-1=lo+(i-1) by omega];exact T.irr _ (dm _ (by omega))
     ·exact T.irr _ (dm _ (by omega))
   by_cases hjl:j=l
   ·rw[if_pos (by omega),if_neg (by omega),if_neg (by omega)];exact a3 i (by omega)
   ·rw[if_neg (show ¬lo+j=lo+l by omega)]
    by_cases hil:i=l
    ·rw[if_pos (by omega),if_pos (by omega),show lo+j-1=lo+(j-1) by omega];exact a4 (j-1) (by omega) (by omega)
    ·rw[if_neg (show ¬lo+i=lo+l by omega)]
     by_cases h1:l<j∧j≤k
     ·rw[if_pos (show lo+l<lo+j∧lo+j≤lo+k by omega),show lo+j-1=lo+(j-1) by omega]
      by_cases h2:l<i∧i≤k
      ·rw[if_pos (show lo+l<lo+i∧lo+i≤lo+k by omega),show lo+i-1=lo+(i-1) by omega];exact u1 _ _ (by omega) (by omega)
      ·rw[if_neg (show ¬(lo+l<lo+i∧lo+i≤lo+k) by omega)];exact u1 _ _ (by omega) (by omega)
     ·rw[if_neg (show ¬(lo+l<lo+j∧lo+j≤lo+k) by omega),if_neg (show ¬(lo+l<lo+i∧lo+i≤lo+k) by omega)];exact u1 _ _ hij (by omega)
 ·rintro⟨c0,c1⟩ st1 ⟨e0,R1,u1⟩
  have e2:max ok n=n:=by omega
  rw[e2]at u1
  exact⟨e0,R1,u1⟩
 ·rintro⟨c0,c1⟩ st1 ⟨e0,R1,u1⟩
  dsimp only at e0
  subst e0
  exact wpS_pure (h st1 R1 u1)
end
def PRun(lt:Keyed→Keyed→Bool):List (Nat×Nat×Nat)→List (List Keyed)→Nat→Prop
 | [],[],_=>True
 | p::ps,S::ss,o=>p.1=o∧p.2.1=S.length∧1≤S.length∧Srt lt S∧PRun lt ps ss (o+S.length)
 | _,_,_=>False
section
variable {lt:Keyed→Keyed→Bool}
theorem PRun.len:∀{pl:List (Nat×Nat×Nat)} {segs:List (List Keyed)} {o:Nat},PRun lt pl segs o→pl.length=segs.length∧pl.length≤segs.flatten.length
 | [],[],_,_=>⟨rfl,Nat.le_refl _⟩
 | p::ps,S::ss,o,h=>by
  obtain⟨_,_,h1,_,h2⟩:=h
  have:=PRun.len h2
  simp only[List.length_cons,List.flatten_cons,List.length_append]
  omega
 | [],_::_,_,h=>h.elim
 | _::_,[],_,h=>h.elim
theorem PRun.snoc:∀{pl:List (Nat×Nat×Nat)} {segs:List (List Keyed)} {o:Nat} {c:Nat×Nat×Nat} {S:List Keyed},PRun lt pl segs o→c.1=o+segs.flatten.length→c.2.1=S.length→1≤S.length→Srt lt S→PRun lt (pl++[c]) (segs++[S]) o
 | [],[],o,c,S,_,h1,h2,h3,h4=>⟨by simpa using h1,h2,h3,h4,trivial⟩
 | p::ps,U::ss,o,c,S,h,h1,h2,h3,h4=>by
  obtain⟨a1,a2,a3,a4,a5⟩:=h
  refine⟨a1,a2,a3,a4,PRun.snoc a5 ?_ h2 h3 h4⟩
  rw[h1];simp only[List.flatten_cons,List.length_append];omega
 | [],_::_,_,_,_,h,_,_,_,_=>h.elim
 | _::_,[],_,_,_,h,_,_,_,_=>h.elim
theorem PRun.pow:∀{pl ql:List (Nat×Nat×Nat)} {segs:List (List Keyed)} {o:Nat},PRun lt pl segs o→pl.map (fun p=>(p.1,p.2.1))=ql.map (fun p=>(p.1,p.2.1))→PRun lt ql segs o
 | [],[],[],_,_,_=>trivial
 | p::ps,q::qs,S::ss,o,h,e=>by
  obtain⟨a1,a2,a3,a4,a5⟩:=h
  simp only[List.map_cons]at e
  injection e with e1 e2
  injection e1 with e1 e3
  exact⟨e1▸a1,e3▸a2,a3,a4,PRun.pow a5 e2⟩
 | [],_::_,_,_,_,e=>by cases e
 | _::_,[],_,_,_,e=>by cases e
 | [],[],_::_,_,h,_=>h.elim
 | _::_,_::_,[],_,h,_=>h.elim
theorem PRun.split:∀{pl:List (Nat×Nat×Nat)} {segs:List (List Keyed)} {o i:Nat},PRun lt pl segs o→i+1<pl.length→∃p1 a b p2 s1 U V s2,pl=p1++a::b::p2∧p1.length=i∧segs=s1++U::V::s2∧a.1=o+s1.flatten.length∧a.2.1=U.length∧b.1=a.1+U.length∧b.2.1=V.length∧1≤U.length∧1≤V.length∧Srt lt U∧Srt lt V ∧
  ∀(W:List Keyed) (c:Nat×Nat×Nat),W.length=U.length+V.length→Srt lt W→c.1=a.1→c.2.1=W.length→PRun lt (p1++c::p2) (s1++W::s2) o
 | p::q::ps,S::S'::ss,o,0,h,_=>by
  obtain⟨a1,a2,a3,a4,b1,b2,b3,b4,b5⟩:=h
  refine⟨[],p,q,ps,[],S,S',ss,rfl,rfl,rfl,by simpa using a1,a2,by omega,b2,a3,b3,a4,b4,fun W c hW hs h1 h2=>⟨by rw[h1];exact a1,h2,by omega,hs,?_⟩⟩
  rw[hW,← Nat.add_assoc]
  exact b5
 | p::ps,S::ss,o,i+1,h,hi=>by
  obtain⟨a1,a2,a3,a4,a5⟩:=h
  obtain⟨p1,a,b,p2,s1,U,V,s2,e1,e2,e3,e4,e5,e6,e7,e8,e9,e10,e11,e12⟩:=PRun.split a5 (i:=i) (by rw[List.length_cons]at hi;omega)
  refine⟨p::p1,a,b,p2,S::s1,U,V,s2,by rw[e1];rfl,by rw[List.length_cons,e2],by rw[e3];rfl,by rw[e4];simp only[List.flatten_cons,List.length_append];omega,e5,e6,e7,e8,e9,e10,e11,fun W c hW hs h1 h2=>⟨a1,a2,a3,a4,e12 W c hW hs h1 h2⟩⟩
 | [p],[S],o,0,h,hi=>by simp at hi
 | [p],S::S'::ss,o,0,h,hi=>by simp at hi
 | p::q::ps,[S],o,0,h,_=>by obtain⟨_,_,_,_,h⟩:=h;exact h.elim
 | [],[],_,_,_,hi=>by simp at hi
 | [],_::_,_,_,h,_=>h.elim
 | _::_,[],_,_,h,_=>h.elim
end
structure SI(lt:Keyed→Keyed→Bool)(st0 st:SortSt)(lo:Nat)(b7:List Keyed):Prop where
 k:kindOf st=kindOf st0
 f:failedOf st=none
 pm:(arrOf st).Perm (arrOf st0)
 run:∃segs,(arrOf st).toList=segs.flatten++b7∧segs.flatten.length=lo∧PRun lt (pendingOf st).toList segs 0
section
variable {prog:Program}{w:World}{A:Around}{E:Value→Shared→Prop}{s:Shared}{κ:SortKind}{lt:Keyed→Keyed→Bool}{Dm:Keyed→Prop}{st0 st:SortSt}{lo:Nat}{b7:List Keyed}
theorem SI.psz(I:SI lt st0 st lo b7):(pendingOf st).size≤lo:=by
 obtain⟨segs,_,e2,pr⟩:=I.run
 have:=pr.len.2
 rw[Array.length_toList]at this
 omega
theorem a7U{i:Nat}{Q:Bool→SortSt→Prop}(C:u5 prog w A s κ lt Dm)(T:TPK lt Dm)(hk:kindOf st0=κ)(hD:∀x∈(arrOf st0).toList,Dm x)(I:SI lt st0 st lo b7)(hi:i+1<(pendingOf st).size)(h:∀st',SI lt st0 st' lo b7→(pendingOf st').size+1=(pendingOf st).size→Q true st'):wpS (model prog w) A E s (mergeAt' i) Q st:=by
 obtain⟨segs,e1,e2,pr⟩:=I.run
 obtain⟨p1,a,b,p2,s1,U,V,s2,f1,f2,f3,f4,f5,f6,f7,f8,f9,f10,f11,f12⟩:=pr.split (i:=i) (by rw[Array.length_toList];exact hi)
 obtain⟨sa,na,pw⟩:=a
 obtain⟨sb,nb,pw'⟩:=b
 dsimp only at f4 f5 f6 f7 f12
 have dmA:∀x∈(arrOf st).toList,Dm x:=fun x hx=>hD x (Array.mem_toList_iff.mpr (I.pm.mem_iff.mp (Array.mem_toList_iff.mp hx)))
 have g1:(pendingOf st)[i]? = some (sa,na,pw):=by
  rw[← Array.getElem?_toList,f1,List.getElem?_append_right (by omega),f2,Nat.sub_self];rfl
 have g2:(pendingOf st)[i+1]? = some (sb,nb,pw'):=by
  rw[← Array.getElem?_toList,f1,List.getElem?_append_right (by omega),f2,show i+1-i=1 by omega];rfl
 have e:(arrOf st).toList=s1.flatten++U++(V++(s2.flatten++b7)):=by
  rw[e1,f3];simp
 refine a3x (pre:=s1.flatten) (U:=U) (V:=V) (post:=s2.flatten++b7) C T (I.k.trans hk) I.f g1 g2 e (by omega) f5.symm f7.symm (by omega) (by omega) (by omega) (fun x hx=>dmA x (by rw[e];simp[hx])) (fun x hx=>dmA x (by rw[e];simp[hx])) f10 f11 fun arr' g W hW hs ea=>?_
 have lW:W.length=U.length+V.length:=by rw[hW.length_eq,List.length_append]
 have ep:(((pendingOf st).setIfInBounds i (sa,na+nb,pw)).eraseIdxIfInBounds (i+1)).toList=p1++(sa,na+nb,pw)::p2:=by
  rw[Array.toList_eraseIdxIfInBounds,Array.toList_setIfInBounds,f1,List.set_append_right _ _ (by omega),f2,Nat.sub_self,List.set_cons_zero,List.eraseIdx_append_of_length_le (by omega),f2,show i+1-i=1 by omega]
  rfl
 refine h _ ⟨I.k.symm▸(by rw[I.k];exact hk.symm),rfl,?_,s1++W::s2,?_,?_,?_⟩ ?_
 ·refine Array.Perm.trans ?_ I.pm
  refine Array.perm_iff_toList_perm.mpr ?_
  show arr'.toList.Perm _
  rw[ea,e]
  refine List.Perm.trans ?_ (List.Perm.of_eq (by simp:s1.flatten++(U++V)++(s2.flatten++b7)=_))
  exact(hW.append_left _).append_right _
 ·show arr'.toList=_
  rw[ea];simp
 ·rw[← e2,f3]
  simp only[List.flatten_append,List.flatten_cons,List.length_append,lW]
  omega
 ·show PRun lt (((pendingOf st).setIfInBounds i (sa,na+nb,pw)).eraseIdxIfInBounds (i+1)).toList _ 0
  rw[ep]
  exact f12 W _ lW hs rfl (by show na+nb=_;omega)
 ·show(((pendingOf st).setIfInBounds i (sa,na+nb,pw)).eraseIdxIfInBounds (i+1)).size+1=_
  rw[← Array.length_toList,ep,← Array.length_toList (xs:=pendingOf st),f1]
  simp
  omega
end
abbrev b1_(pw:Nat):Nat→(Option Unit×Unit)→StateT SortSt Sem (ForInStep (Option Unit×Unit)):=fun x __s_1=>do
 let __do_lift_3 ← get
 match if(pendingOf __do_lift_3).size > 1 then(pendingOf __do_lift_3)[(pendingOf __do_lift_3).size-2]? else none with
  | some (fst,fst_1,older) =>
   if older≤pw then pure (ForInStep.done (none,()))
   else do
    let __do_lift ← mergeAt' ((pendingOf __do_lift_3).size-2)
    if(!__do_lift)=true then pure (ForInStep.done (some (),()))else pure (ForInStep.yield (none,()))
  | x=>pure (ForInStep.done (none,()))
section
variable {prog:Program}{w:World}{A:Around}{E:Value→Shared→Prop}{s:Shared}{κ:SortKind}{lt:Keyed→Keyed→Bool}{Dm:Keyed→Prop}{st0 st:SortSt}{lo n:Nat}{b7:List Keyed}
theorem a5A{N pw:Nat}{Q:Option Unit×Unit→SortSt→Prop}(C:u5 prog w A s κ lt Dm)(T:TPK lt Dm)(hk:kindOf st0=κ)(hD:∀x∈(arrOf st0).toList,Dm x)(I:SI lt st0 st lo b7)(h0:1≤(pendingOf st).size)(h:∀st',SI lt st0 st' lo b7→1≤(pendingOf st').size→Q (none,()) st'):wpS (model prog w) A E s (forIn [:N] (none,()) (b1_ pw)) Q st:=by
 refine L8 (fun i (c:Option Unit×Unit) st'=>c.1=none∧SI lt st0 st' lo b7∧1≤(pendingOf st').size) (fun(c:Option Unit×Unit) st'=>c.1=none∧SI lt st0 st' lo b7∧1≤(pendingOf st').size) ?_ (fun c st h=>h) ⟨rfl,I,h0⟩ ?_
 ·rintro i ⟨c0,c1⟩ st1 hi ⟨e0,I1,h1⟩
  refine wpS_bind (wpS_get ?_)
  by_cases z:(pendingOf st1).size > 1
  ·rw[if_pos z]
   have hz:(pendingOf st1).size-2<(pendingOf st1).size:=by omega
   rw[Array.getElem?_eq_getElem hz]
   obtain⟨q1,q2,q3⟩:=(pendingOf st1)[(pendingOf st1).size-2]
   dsimp only
   refine a2U (fun _=>wpS_pure ⟨rfl,I1,h1⟩) (fun _=>?_)
   refine wpS_bind (a7U C T hk hD I1 (by omega) fun st2 I2 h2=>?_)
   exact wpS_pure ⟨rfl,I2,by omega⟩
  ·rw[if_neg z]
   exact wpS_pure ⟨rfl,I1,h1⟩
 ·rintro⟨c0,c1⟩ st1 ⟨e0,I1,h1⟩
  dsimp only at e0
  subst e0
  exact h st1 I1 h1
theorem a8z{a b:Array Keyed}{m:Nat}(hs:a.size=b.size)(h:∀x,x<m→gk a x=gk b x):a.toList.take m=b.toList.take m:=by
 apply List.ext_getElem?
 intro i
 by_cases hi:i<m
 ·rw[List.getElem?_take_of_lt hi,List.getElem?_take_of_lt hi,Array.getElem?_toList,Array.getElem?_toList]
  by_cases hz:i<a.size
  ·rw[Z8 hz,Z8 (by omega),h i hi]
  ·rw[Array.getElem?_eq_none (by omega),Array.getElem?_eq_none (by omega)]
 ·rw[List.getElem?_eq_none (by rw[List.length_take];omega),List.getElem?_eq_none (by rw[List.length_take];omega)]
theorem SI.add(I:SI lt st0 st lo b7){st1:SortSt}(R:StR st lo (arrOf st).size st1)(hn:1≤n)(hl:lo+n≤(arrOf st).size)(u:V8 lt (arrOf st1) lo n):∃S rest',SI lt st0 st1 lo (S++rest')∧S.length=n∧Srt lt S:=by
 obtain⟨segs,e1,e2,pr⟩:=I.run
 have sz:=R.r.size
 have et:(arrOf st1).toList.take lo=segs.flatten:=by
  rw[a8z sz (fun x hx=>R.r.out x (.inl hx)),e1,← e2,List.take_left]
 have e3:(arrOf st1).toList=segs.flatten++(arrOf st1).toList.drop lo:=by rw[← et,List.take_append_drop]
 refine⟨((arrOf st1).toList.drop lo).take n,((arrOf st1).toList.drop lo).drop n,⟨R.k.trans I.k,R.f.trans I.f,R.r.pm.trans I.pm,segs,by rw[List.take_append_drop];exact e3,e2,by rw[R.p];exact pr⟩,by rw[List.length_take,List.length_drop,Array.length_toList];omega,?_⟩
 refine List.pairwise_iff_getElem.mpr fun i j hi hj hij=>?_
 have hi':=hi
 have hj':=hj
 rw[List.length_take,List.length_drop,Array.length_toList]at hi' hj'
 have at_:∀k,k<n→∀(h:k<(((arrOf st1).toList.drop lo).take n).length),(((arrOf st1).toList.drop lo).take n)[k]=gk (arrOf st1) (lo+k):=fun k hk h=>by
  have e4:(((arrOf st1).toList.drop lo).take n)[k]? = some (gk (arrOf st1) (lo+k)):=by
   rw[List.getElem?_take_of_lt hk,List.getElem?_drop,Array.getElem?_toList,Z8 (by omega)]
  rw[List.getElem?_eq_getElem h]at e4
  exact Option.some.inj e4
 rw[at_ i (by omega) hi,at_ j (by omega) hj]
 exact u i j (by omega) (by omega)
theorem SI.push{S:List Keyed}{pw:Nat}(I:SI lt st0 st lo (S++b7))(hn:S.length=n)(h1:1≤n)(hs:Srt lt S):SI lt st0 (setPending st ((pendingOf st).push (lo,n,pw))) (lo+n) b7:=by
 obtain⟨segs,e1,e2,pr⟩:=I.run
 refine⟨I.k,I.f,I.pm,segs++[S],by show(arrOf st).toList=_;rw[e1];simp,by simp only[List.flatten_append,List.flatten_cons,List.flatten_nil,List.length_append,List.length_nil];omega,?_⟩
 show PRun lt ((pendingOf st).push (lo,n,pw)).toList _ 0
 rw[Array.toList_push]
 exact pr.snoc (by show lo=_;omega) (by show n=_;omega) (by omega) hs
theorem SI.pow{f:Nat×Nat×Nat→Nat×Nat×Nat}{i:Nat}(hf:∀p,((f p).1,(f p).2.1)=(p.1,p.2.1))(I:SI lt st0 st lo b7):SI lt st0 (setPending st ((pendingOf st).modify i f)) lo b7:=by
 obtain⟨segs,e1,e2,pr⟩:=I.run
 refine⟨I.k,I.f,I.pm,segs,e1,e2,?_⟩
 show PRun lt ((pendingOf st).modify i f).toList _ 0
 refine pr.pow ?_
 apply List.ext_getElem?
 intro j
 rw[List.getElem?_map,List.getElem?_map,Array.getElem?_toList,Array.getElem?_toList,Array.getElem?_modify]
 split
 ·rename_i z
  cases q:(pendingOf st)[j]? with
  | none=>rfl
  | some p=>simp[hf p]
 ·rfl
end
section
variable {prog:Program}{w:World}{A:Around}{E:Value→Shared→Prop}{s:Shared}{κ:SortKind}{lt:Keyed→Keyed→Bool}{Dm:Keyed→Prop}{st:SortSt}
theorem a6K{p:Prop} [Decidable p] (a:Nat):(if p then a-1 else a)≤a:=by
 split<;>omega
theorem a3y{Q:Unit→SortSt→Prop}(C:u5 prog w A s κ lt Dm)(T:TPK lt Dm)(hk:kindOf st=κ)(hf:failedOf st=none)(hp:pendingOf st = #[])(hD:∀x∈(arrOf st).toList,Dm x)
  (h:∀st',(arrOf st').Perm (arrOf st)→failedOf st'=none→Srt lt (arrOf st').toList→Q () st'):wpS (model prog w) A E s sortRuns' Q st:=by
 rw[sortRuns'_eq]
 refine wpS_bind (wpS_get ?_)
 dsimp only
 have I0:SI lt st st 0 (arrOf st).toList:=⟨rfl,hf,.refl _,[],rfl,rfl,by rw[hp];trivial⟩
 refine wpS_bind (L8 (fun(i:Nat) (c:Option Unit×Nat) st'=>c.1=none∧i≤c.2∧c.2≤(arrOf st).size∧∃b7,SI lt st st' c.2 b7) (fun(c:Option Unit×Nat) st'=>c.1=none∧∃b7,SI lt st st' (arrOf st).size b7) ?_ ?_ ⟨rfl,Nat.le_refl _,Nat.zero_le _,_,I0⟩ ?_)
 ·rintro i ⟨c0,lo⟩ st1 hi ⟨e0,h1,h2,b7,I⟩
  dsimp only at e0 h1 h2 I
  by_cases z:lo≥(arrOf st).size
  ·rw[if_pos z]
   have e:lo=(arrOf st).size:=by omega
   subst e
   exact wpS_pure ⟨rfl,b7,I⟩
  ·rw[if_neg z]
   have sz:(arrOf st1).size=(arrOf st).size:=I.pm.size_eq
   have hD1:∀x∈(arrOf st1).toList,Dm x:=fun x hx=>hD x (Array.mem_toList_iff.mpr (I.pm.mem_iff.mp (Array.mem_toList_iff.mp hx)))
   refine wpS_bind (a5z C T (I.k.trans hk) hD1 (by omega) (by omega) fun k st2 k1 k2 R u=>?_)
   dsimp only
   have k2:k≤(arrOf st).size-lo:=k2
   have R:StR st1 lo (lo+((arrOf st).size-lo)) st2:=R
   have u:V8 lt (arrOf st2) lo k:=u
   rw[show lo+((arrOf st).size-lo)=(arrOf st1).size by omega]at R
   -- what follows a run of n
   have go:∀(n:Nat) (st3:SortSt),1≤n→lo+n≤(arrOf st).size→StR st1 lo (arrOf st1).size st3→V8 lt (arrOf st3) lo n →
     ∃S rest',SI lt st st3 lo (S++rest')∧S.length=n∧Srt lt S:=fun n st3 n1 n2 R3 u3=>I.add R3 n1 (by omega) u3
   by_cases zr:k<minRun' (arrOf st).size (arrOf st).size 0
   ·rw[if_pos zr]
    refine wpS_bind (wpS_lift (wpAny_rule ⟨rfl,?_⟩))
    refine wpS_bind (a6J C T (I.k.trans hk) hD1 R (Nat.le_refl _) (by omega) k1 (by omega) u fun st3 R3 u3=>?_)
    rw[if_neg (by simp)]
    obtain⟨S,rest',I3,hS,sS⟩:=go _ st3 (by omega) (by omega) R3 u3
    refine wpS_bind (wpS_get ?_)
    have n1':1≤min ((arrOf st).size-lo) (minRun' (arrOf st).size (arrOf st).size 0):=by omega
    have n2':lo+min ((arrOf st).size-lo) (minRun' (arrOf st).size (arrOf st).size 0)≤(arrOf st).size:=by omega
    generalize min ((arrOf st).size-lo) (minRun' (arrOf st).size (arrOf st).size 0)=n at *
    cases hb:(pendingOf st3).back? with
    | none =>
     dsimp only
     refine wpS_bind (wpS_modify (wpS_pure ⟨rfl,by show i+1≤lo+n;omega,by show lo+n≤_;omega,rest',I3.push hS (by omega) sS⟩))
    | some q =>
     obtain⟨s1,n1,pw0⟩:=q
     dsimp only
     have hps:1≤(pendingOf st3).size:=by
      by_cases y:(pendingOf st3).size=0
      ·rw[Array.back?_eq_getElem?,y]at hb
       rw[Array.getElem?_eq_none (by omega)]at hb
       cases hb
      ·omega
     refine wpS_bind (a5A C T hk hD I3 hps fun st4 I4 h4=>?_)
     dsimp only
     refine wpS_bind (wpS_modify (wpS_bind (wpS_modify (wpS_pure ⟨rfl,by show i+1≤lo+n;omega,by show lo+n≤_;omega,rest',SI.push (SI.pow (f:=fun x=>(x.1,x.2.1,power' (arrOf st).size (2*s1+n1) (2*s1+n1+n1+n) (arrOf st).size)) (fun p=>rfl) I4) hS (by omega) sS⟩))))
   ·rw[if_neg zr]
    obtain⟨S,rest',I3,hS,sS⟩:=go _ st2 k1 (by omega) R u
    refine wpS_bind (wpS_get ?_)
    cases hb:(pendingOf st2).back? with
    | none =>
     dsimp only
     refine wpS_bind (wpS_modify (wpS_pure ⟨rfl,by show i+1≤lo+k;omega,by show lo+k≤_;omega,rest',I3.push hS (by omega) sS⟩))
    | some q =>
     obtain⟨s1,n1,pw0⟩:=q
     dsimp only
     have hps:1≤(pendingOf st2).size:=by
      by_cases y:(pendingOf st2).size=0
      ·rw[Array.back?_eq_getElem?,y]at hb
       rw[Array.getElem?_eq_none (by omega)]at hb
       cases hb
      ·omega
     refine wpS_bind (a5A C T hk hD I3 hps fun st4 I4 h4=>?_)
     dsimp only
     refine wpS_bind (wpS_modify (wpS_bind (wpS_modify (wpS_pure ⟨rfl,by show i+1≤lo+k;omega,by show lo+k≤_;omega,rest',SI.push (SI.pow (f:=fun x=>(x.1,x.2.1,power' (arrOf st).size (2*s1+n1) (2*s1+n1+n1+k) (arrOf st).size)) (fun p=>rfl) I4) hS (by omega) sS⟩))))
 ·rintro⟨c0,lo⟩ st1 ⟨e0,h1,h2,b7,I⟩
  dsimp only at e0 h1 h2 I
  have e:lo=(arrOf st).size:=by omega
  subst e
  exact⟨e0,b7,I⟩
 ·rintro⟨c0,lo⟩ st1 ⟨e0,b7,I⟩
  dsimp only at e0
  subst e0
  dsimp only
  refine wpS_bind (L8 (fun(i:Nat) (c:Option Unit×Unit) st'=>c.1=none∧SI lt st st' (arrOf st).size b7∧(pendingOf st').size+i≤(arrOf st).size+1) (fun(c:Option Unit×Unit) st'=>c.1=none∧SI lt st st' (arrOf st).size b7∧(pendingOf st').size≤1) ?_ ?_ ⟨rfl,I,by have:=I.psz;show(pendingOf st1).size+0≤_;omega⟩ ?_)
  ·rintro i ⟨d0,d1⟩ st2 hi ⟨f0,I2,h2⟩
   dsimp only at f0 h2
   refine wpS_bind (wpS_get ?_)
   by_cases z:(pendingOf st2).size≤1
   ·rw[if_pos z]
    exact wpS_pure ⟨rfl,I2,z⟩
   ·rw[if_neg z]
    have key:∀j,j+1<(pendingOf st2).size→wpS (model prog w) A E s (do
      let __do_lift ← mergeAt' j
      if(!__do_lift)=true then pure (ForInStep.done (some (),()))else pure (ForInStep.yield (none,()))) (fun(r:ForInStep (Option Unit×Unit)) st'=>match r with
       | .done c'=>c'.1=none∧SI lt st st' (arrOf st).size b7∧(pendingOf st').size≤1
       | .yield c'=>c'.1=none∧SI lt st st' (arrOf st).size b7∧(pendingOf st').size+(i+1)≤(arrOf st).size+1) st2:=fun j hj =>
     wpS_bind (a7U C T hk hD I2 hj fun st3 I3 h3=>wpS_pure ⟨rfl,I3,by show(pendingOf st3).size+(i+1)≤_;omega⟩)
    refine wpS_mono (key _ ?_) fun r st' q=>by cases r<;>exact q
    exact Nat.lt_of_le_of_lt (Nat.add_le_add_right (a6K _) 1) (by omega)
  ·rintro⟨d0,d1⟩ st2 ⟨f0,I2,h2⟩
   dsimp only at f0 h2
   exact⟨f0,I2,by show(pendingOf st2).size≤1;omega⟩
  ·rintro⟨d0,d1⟩ st2 ⟨f0,I2,h2⟩
   dsimp only at f0
   subst f0
   refine wpS_pure (h st2 I2.pm I2.f ?_)
   obtain⟨segs,e1,e2,pr⟩:=I2.run
   have sz:(arrOf st2).toList.length=(arrOf st).size:=by rw[Array.length_toList];exact I2.pm.size_eq
   have er:b7=[]:=by
    have:=congrArg List.length e1
    rw[List.length_append,sz,e2]at this
    exact List.eq_nil_of_length_eq_zero (by omega)
   have hl:=pr.len.1
   rw[Array.length_toList]at hl
   rw[e1,er,List.append_nil]
   match segs,pr,hl with
   | [],_,_=>exact List.Pairwise.nil
   | [S],pr,_ =>
    match hq:(pendingOf st2).toList,pr with
    | p::ps,pr =>
     obtain⟨_,_,_,hs,_⟩:=pr
     simpa using hs
   | _::_::_,_,hl=>simp at hl;omega
end
theorem a5B{α β:Type}(f:α→β){a:List β}{b:List β}(h:a.Perm b):∀l:List α,b=l.map f→∃m:List α,m.Perm l∧a=m.map f:=by
 induction h with
 | nil=>intro l e;exact⟨l,.refl _,e⟩
 | cons x p ih =>
  intro l e
  cases l with
  | nil=>cases e
  | cons y l =>
   rw[List.map_cons]at e
   injection e with e1 e2
   obtain⟨m,p1,q1⟩:=ih l e2
   exact⟨y::m,p1.cons y,by rw[List.map_cons,e1,q1]⟩
 | swap x y r =>
  intro l e
  match l,e with
  | a::b::l,e =>
   rw[List.map_cons,List.map_cons]at e
   injection e with e1 e2
   injection e2 with e2 e3
   exact⟨b::a::l,.swap _ _ _,by rw[List.map_cons,List.map_cons,e1,e2,e3]⟩
 | trans p q ih1 ih2 =>
  intro l e
  obtain⟨m1,p1,q1⟩:=ih2 l e
  obtain⟨m2,p2,q2⟩:=ih1 m1 q1
  exact⟨m2,p2.trans p1,q2⟩
def L9(x:Keyed):Int:=match x.1 with
 | .int n _=>n
 | _=>0
section
variable {prog:Program}{w:World}{A:Around}{E:Value→Shared→Prop}{s:Shared}
theorem a4B{D:Addr}{h1:Heap}{vs:List Value}{ks:List Int}{Q:Value→Shared→Prop}(hoL:h1.get? D=some (seqObj "list" vs.toArray 0))(hk:IntsAre vs ks)(h64:vs.length<1000)(keep:∀b o,s.heap.get? b=some o→h1.get? b=some o)(nD:∀b o,s.heap.get? b=some o→b≠D)
  (h:∀(h':Heap) (p:List Nat) (c:Nat),(∀b o,s.heap.get? b=some o→h'.get? b=some o)→h'.get? D=some (seqObj "list" (p.map fun i=>vs.getD i Value.none).toArray c)→p.Perm (List.range vs.length) →
   p.Pairwise (fun i j=>decide (ks.getD j 0<ks.getD i 0)=false)→Q (.ref D) { s with heap:=h' }) :
  wpAny (model prog w) A.in1 (holding [.ref D] (call (.builtin "list.sort") [.ref D] []) >>= fun _=>(ret (.ref D):Sem PySem.Fin)) (fun fin s'=>∃v,fin=.done (.ret v)∧Q v s') E { s with heap:=h1 }:=by
 refine wpAny_bind (wpAny_holding (wpAny_call_entry slot_list_sort ⟨_,hoL,rfl⟩ entry_list_sort ?body (args_list_sort _)))
 case body =>
  have hD:D<h1.objs.size:=Heap.lt_size hoL
  have s1:=Heap.SameBut.update h1 D (Obj.mapSeq fun _=>(#[]:Array Value))
  obtain⟨e1,ho1⟩:∃e1,(h1.update D (Obj.mapSeq fun _=>(#[]:Array Value))).get? D=some (seqObj "list" #[] e1):=⟨_,get?_update_seq hoL fun _ => #[]⟩
  have keep2:∀b o,s.heap.get? b=some o→(((h1.update D (Obj.mapSeq fun _=>(#[]:Array Value))).push (seqObj "tuple" vs.toArray 0)).push (seqObj "list" #[] 0)).get? b=some o:=fun b o q=>by
   have hb:b≠D:=nD b o q
   exact Heap.get?_push_of_some _ (Heap.get?_push_of_some _ ((s1.2 b hb).trans (keep b o q)))
  have ho6:(((h1.update D (Obj.mapSeq fun _=>(#[]:Array Value))).push (seqObj "tuple" vs.toArray 0)).push (seqObj "list" #[] 0)).get? D=some (seqObj "list" #[] e1):=Heap.get?_push_of_some _ (Heap.get?_push_of_some _ ho1)
  rw[list_sort_plain]
  refine wpAny_bind (listItems_at (s:={ s with heap:=h1 }) hoL rfl ?_)
  refine wpAny_bind (listUpdate_at (s:={ s with heap:=h1 }) hoL rfl ?_ (by rw[List.size_toArray,sizeLine_eq];omega) (Nat.zero_le _))
  refine wpAny_bind (seqEpoch_at ho1 rfl ?_)
  refine wpAny_bind (wpAny_newTuple ?_ (by show vs.length≤_;rw[sizeLine_eq];omega))
  refine wpAny_bind (wpAny_newList ?_ (Nat.zero_le _))
  refine wpAny_holding ?_
  show wpAny (model prog w) _ _ _ E { s with heap:=((h1.update D (Obj.mapSeq fun _=>(#[]:Array Value))).push (seqObj "tuple" vs.toArray 0)).push (seqObj "list" #[] 0) }
  dsimp only
  generalize ((h1.update D (Obj.mapSeq fun _=>(#[]:Array Value))).push (seqObj "tuple" vs.toArray 0)).push (seqObj "list" #[] 0)=h2 at keep2 ho6 ⊢
  have last:∀(st':SortSt) (p:List Nat),(arrOf st').map (·.2)=(p.map fun i=>vs.getD i Value.none).toArray→failedOf st'=none→p.Perm (List.range vs.length)→p.Pairwise (fun i j=>decide (ks.getD j 0<ks.getD i 0)=false) →
    wpAny (model prog w) A.in1.in1 (do
     let touched:=(← seqEpoch D) != e1
     Builtin.List.listUpdate (.ref D) fun _=>(arrOf st').map (·.2)
     if let some e:=failedOf st' then rule "list.sort.comparison-raised";throw e
     if touched then rule "list.sort.modified";raiseError "ValueError" "list modified during sort"
     ret .none:Sem PySem.Fin) (fun fin s'=>∃v,fin=.done (.ret v)∧wpAny (model prog w) A.in1 (pure (.done (.ret (.ref D))):Sem PySem.Fin) (fun fin s'=>∃v,fin=.done (.ret v)∧Q v s') E s') E { s with heap:=h2 }:=by
   intro st' p hout hf hp hs
   have hsz3:((p.map fun i=>vs.getD i Value.none).toArray).size=vs.length:=by rw[List.size_toArray,List.length_map,hp.length_eq,List.length_range]
   have s2:=Heap.SameBut.update h2 D (Obj.mapSeq fun _=>(p.map fun i=>vs.getD i Value.none).toArray)
   obtain⟨c2,hc2⟩:∃c2,(h2.update D (Obj.mapSeq fun _=>(p.map fun i=>vs.getD i Value.none).toArray)).get? D=some (seqObj "list" (p.map fun i=>vs.getD i Value.none).toArray c2):=⟨_,get?_update_seq ho6 fun _=>_⟩
   rw[hout,hf]
   refine wpAny_bind (seqEpoch_at ho6 rfl ?_)
   refine wpAny_bind (listUpdate_at (s:={ s with heap:=h2 }) ho6 rfl ?_ (Nat.zero_le _) (Nat.le_trans (Nat.le_of_eq hsz3) (by rw[sizeLine_eq];omega)))
   simp only[bne_self_eq_false,Bool.false_eq_true,if_false]
   exact wpAny_pure ⟨_,rfl,wpAny_pure ⟨_,rfl,h _ p c2 (fun b o q=>by
    have hb:b≠D:=nD b o q
    exact(s2.2 b hb).trans (keep2 b o q)) hc2 hp hs⟩⟩
  by_cases h2':vs.toArray.size<2
  ·rw[if_pos h2',if_pos h2']
   refine wpAny_bind (wpAny_pure ?_)
   rw[StateT.run_pure]
   refine wpAny_bind (wpAny_pure ?_)
   have hlen:vs.length<2:=by simpa using h2'
   refine last (SortSt.mk' general' (vs.toArray.zip vs.toArray) #[] 7 none) (List.range vs.length) ?_ rfl (List.Perm.refl _) ?_
   ·show(vs.toArray.zip vs.toArray).map (·.2)=_
    match vs,hlen with
    | [],_=>simp
    | [_],_=>simp
   ·match hn:vs.length,hlen with
    | 0,_=>exact .nil
    | 1,_=>exact List.pairwise_singleton _ _
  ·rw[if_neg h2',if_neg h2']
   have hlen:2≤vs.length:=by simp at h2';omega
   refine wpAny_bind (kas_kind (T:=.type "int") hlen (fun v hv=>by obtain⟨i,t,rfl⟩:=a2T hk v hv;exact .of_pure rfl) (by decide +kernel) (by decide +kernel) ?_)
   have hz:(vs.toArray.zip vs.toArray).toList=(List.range vs.length).map fun i=>(vs.getD i Value.none,vs.getD i Value.none):=by
    apply List.ext_getElem?
    intro i
    rw[List.getElem?_map,ksk_zip,List.toList_toArray]
    by_cases hi:i<vs.length
    ·have h2:vs[i]? = some (vs.getD i Value.none):=by rw[List.getD_eq_getElem?_getD,List.getElem?_eq_getElem hi];rfl
     rw[List.getElem?_range hi]
     exact List.getElem?_zip_eq_some.mpr ⟨h2,h2⟩
    ·rw[List.getElem?_eq_none (by simp;omega),List.getElem?_eq_none (by simp;omega)]
     rfl
   have T:TPK (fun x y=>decide (L9 x<L9 y)) (fun x=>∃n t,x.1=Value.int n t):=⟨fun x _=>by simp,fun x y z _ _ _ h1 h2=>by
    have h1:=of_decide_eq_false h1
    have h2:=of_decide_eq_false h2
    exact decide_eq_false (by omega),fun x y _ _ h=>by
    have h:=of_decide_eq_true h
    exact decide_eq_false (by omega)⟩
   have CO:u5 prog w A.in1.in1 { s with heap:=h2 } oneType' (fun x y=>decide (L9 x<L9 y)) (fun x=>∃n t,x.1=Value.int n t):=fun x y hx hy Q hQ=>by
    obtain⟨n,t,e1⟩:=hx
    obtain⟨m,u,e2⟩:=hy
    have hQ:Q (decide (L9 x<L9 y)) { s with heap:=h2 }:=hQ
    unfold L9 at hQ
    rw[e1,e2]at hQ ⊢
    exact kat_lt_int hQ
   refine wpAny_bind (wpAny_mono (a3y (E:=E) (st:=SortSt.mk' oneType' (vs.toArray.zip vs.toArray) #[] 7 none) (Q:=fun _ st'=>(arrOf st').Perm (vs.toArray.zip vs.toArray)∧failedOf st'=none∧Srt (fun x y=>decide (L9 x<L9 y)) (arrOf st').toList) CO T rfl rfl rfl (fun x hx=>?_) fun st' a1 a2 a3=>⟨a1,a2,a3⟩) ?_ fun _ _ x=>x)
   ·have hx:x∈(vs.toArray.zip vs.toArray).toList:=hx
    rw[hz]at hx
    obtain⟨i,hi,e⟩:=List.mem_map.mp hx
    obtain⟨t,e2⟩:=J6 hk (List.mem_range.mp hi)
    exact⟨_,t,by rw[← e];exact e2⟩
   ·rintro⟨⟨⟩,st'⟩ s' ⟨rfl,hP,hf,hS⟩
    have hP':=Array.perm_iff_toList_perm.mp hP
    rw[hz]at hP'
    obtain⟨p,hp,ep⟩:=a5B (fun i=>(vs.getD i Value.none,vs.getD i Value.none)) hP' (List.range vs.length) rfl
    have hlt:∀i∈p,i<vs.length:=fun i hi=>List.mem_range.mp (hp.mem_iff.mp hi)
    refine last st' p ?_ hf hp ?_
    ·apply Array.toList_inj.mp
     rw[Array.toList_map,show(arrOf st').toList=_ from ep,List.map_map]
     rfl
    ·rw[show(arrOf st').toList=_ from ep]at hS
     have hS:=List.pairwise_map.mp hS
     exact List.Pairwise.imp_of_mem (fun{a b} ha hb hab=>by
      have hab:decide (L9 (vs.getD b Value.none,vs.getD b Value.none)<L9 (vs.getD a Value.none,vs.getD a Value.none))=false:=hab
      obtain⟨t1,e1⟩:=J6 hk (hlt a ha)
      obtain⟨t2,e2⟩:=J6 hk (hlt b hb)
      unfold L9 at hab
      rw[e1,e2]at hab
      exact hab) hS
theorem a3z{a:Addr}{L:List Int}{Q:Value→Shared→Prop}(S:SetR w s.heap a L)(hh:A.handled=none)(h64:L.length<1000)
  (h:∀(s':Shared) (D:Addr) (vs:List Value) (ks:List Int) (c:Nat),(∀b o,s.heap.get? b=some o→s'.heap.get? b=some o)→s'.gens=s.gens→s'.os=s.os→s.heap.objs.size≤D→s'.heap.get? D=some (seqObj "list" vs.toArray c)→Vals (ks.map V.int) vs→vs.length<1000→ks.Pairwise (· < ·)→(∀k,k∈ks↔k∈L)→Q (.ref D) s') :
  wpAny (model prog w) A (call (.builtin "sorted") [.ref a]) Q E s:=by
 refine Calls.call_function_entry kind_sorted plain_sorted entry_sorted (args_sorted1 _) ?_
 unfold Builtin.«sorted»
 refine wpAny_bind (m:=checkCount "sorted" 1 1 _) (wpAny_pure ?_)
 refine wpAny_bind (a3r (A:=A.in1) S hh fun s1 vs ks kp hg hos hsz hi hd hL=>?_)
 have hle:vs.length<1000:=by
  have:=a0w ks L hd fun x m=>(hL x).mp m
  rw[Y1 hi]
  omega
 refine wpAny_bind (wpAny_newList ?_ (by rw[sizeLine_eq];omega))
 refine a4B (s:=s1) (h1:=s1.heap.push (seqObj "list" vs.toArray 0)) (Heap.get?_push_size _ rfl) hi hle (fun b o e=>Heap.get?_push_of_some _ e) (fun b o e=>Nat.ne_of_lt (Heap.lt_size e)) fun h' p c kp2 hD hp hs=>?_
 have hp2:p.Perm (List.range ks.length):=by rw[← Y1 hi];exact hp
 obtain⟨q1,q2⟩:=b0j hd hp2 hs
 exact h { s1 with heap:=h' } s1.heap.objs.size _ _ c (fun b o e=>kp2 b o (kp b o e)) hg hos (Nat.le_of_lt hsz) hD (a04 p hi fun i m=>List.mem_range.mp (hp.mem_iff.mp m)) (by rw[List.length_map,hp.length_eq,List.length_range];exact hle) q1 fun k=>(q2 k).trans (hL k)
end
def a3Y(K:W.Frag)(ta:TA):TE:=fun σ H Q=>ta σ H fun xs H1=>∃(a:Addr) (ns:List Int),xs=[.ref a]∧SqL K H1 a (ns.map V.int)∧ns.length<1000 ∧
 ∀l (ks:List Int),H1 l=none→ks.Pairwise (· < ·)→(∀k,k∈ks↔k∈ns)→Q (.ref l) (upd H1 l (.lst (ks.map V.int)))
section
variable {X:Cx}
theorem a5C{e:Expr}{p p2 pos pos2:Pos}{ta:TA}(hcalm:X.calm=true)(hg:Gl X "sorted")(hm:X.mg "sorted" = none)(hg2:Gl X "set")(hm2:X.mg "set" = none)(ha:PA X [e] ta)
  (he:starEach [Expr.Call (.Name "set" p2) [e] [] pos2] X.env=(false,eval (.Call (.Name "set" p2) [e] [] pos2) X.env)::starEach [] X.env:=by rfl) (hplain:(backTo pos (starEach [] X.env)).any (·.1)=false:=by rfl)
  (he2:starEach [e] X.env=(false,eval e X.env)::starEach [] X.env:=by rfl) (hpl2:(backTo pos2 (starEach [] X.env)).any (·.1)=false:=by rfl) :
  PE X (.Call (.Name "sorted" p) [.Call (.Name "set" p2) [e] [] pos2] [] pos) (a3Y X.K ta):=by
 intro pins s σ H Q I h
 have hh:X.A.handled=none:=I.ok.hd hcalm
 refine wpAny_Call_Name_kw (O1 I hg hm a5o ?_)
 refine PyProof.Rows.callWith_builtin1 ?_ he hplain
 rw[he]
 show wpAny _ _ (spliced ((false,eval (.Call (.Name "set" p2) [e] [] pos2) X.env)::backTo pos (starEach [] X.env))) _ _ s
 refine Calls.spliced_cons ?_
 refine wpAny_Call_Name_kw (O1 I hg2 hm2 b0k ?_)
 refine PyProof.Rows.callWith_type1 (h7 (ha pos2 pins s σ H _ I h) fun us s1 ⟨vs,H1,I1,r1,a,ns,e1,hq,h64,q⟩=>?_) he2 hpl2
 subst e1
 obtain⟨u,rfl,ru⟩:=r1.one
 cases (show u=Value.ref a from ru)
 obtain⟨its,rv,pl,hz⟩:=I1.list hq
 obtain⟨ps,rfl,ep⟩:=T8 rv
 have hi:=X9 ps
 have hln:ps.length=ns.length:=by rw[← ep];simp
 refine a4x (A:=X.A) hh pl.isList (by simpa using hi) (by simp[hln];show _<4096;omega) fun s2 SR kp hg2 hd2 ho2=>?_
 refine Calls.spliced_nil ?_
 refine a3z SR hh (by rw[ep];exact h64) fun s3 D vs ks c kp2 hg3 ho3 hD hDo rvs hlen hpw hmem=>?_
 have hsz:s1.heap.objs.size≤D:=by
  obtain⟨o,es,ep',t,ho,_⟩:=SR.ex
  exact Nat.le_trans (Nat.le_of_lt (Heap.lt_size ho)) hD
 refine⟨.ref D,upd H1 D (.lst (ks.map V.int)),I1.laidD (s':=s3) (fun b o e=>kp2 b o (kp b o e)) (hg3.trans hg2) (ho3.trans ho2) hsz ?_,rfl,q D ks (I1.hok.fresh hsz) hpw fun k=>by rw[hmem k,ep]⟩
 refine⟨?_,vs,c,rvs,hDo⟩
 rw[rvs.length,sizeLine_eq]
 omega
end
section
variable {κ:Type} [DecidableEq κ]
def M0(kvs:List (κ×V))(k:κ):Option V:=(kvs.find? fun kv=>decide (kv.1=k)).map (·.2)
def Q8(kvs:List (κ×V))(k:κ)(v:V):List (κ×V) :=
 if(kvs.any fun kv=>decide (kv.1=k))=true then kvs.map (fun kv=>if kv.1=k then(kv.1,v)else kv)else kvs++[(k,v)]
def a7V(kvs:List (κ×V))(k:κ):List (κ×V):=kvs.filter fun kv=>decide (kv.1≠k)
theorem a0C{p:κ×V}{r:List (κ×V)}{k:κ}(e:p.1=k):M0 (p::r) k=some p.2:=by simp[M0,List.find?_cons,e]
theorem a0D{p:κ×V}{r:List (κ×V)}{k:κ}(e:¬p.1=k):M0 (p::r) k=M0 r k:=by simp[M0,List.find?_cons,e]
theorem a2Y(k:κ):∀kvs:List (κ×V),(kvs.any fun kv=>decide (kv.1=k))=(M0 kvs k).isSome
 | []=>rfl
 | p::r=>by
  rw[List.any_cons]
  by_cases e:p.1=k
  ·simp only[a0C e,decide_eq_true e,Bool.true_or,Option.isSome_some]
  ·rw[a0D e,decide_eq_false e,Bool.false_or];exact a2Y k r
theorem RelO.isSome_eq{o:Option V}{u:Option Value}(r:RelO o u):o.isSome=u.isSome:=by
 cases o with
 | none=>cases u with
  | none=>rfl
  | some _=>exact(show False from r).elim
 | some _=>cases u with
  | none=>exact(show False from r).elim
  | some _=>rfl
theorem RelO.getD{o:Option V}{u:Option Value}{d:V}{d':Value}(r:RelO o u)(rd:RelV d d'):RelV (o.getD d) (u.getD d'):=by
 cases o with
 | none=>cases u with
  | none=>exact rd
  | some _=>exact(show False from r).elim
 | some _=>cases u with
  | none=>exact(show False from r).elim
  | some _=>exact r
theorem KV.val{kvs:List (κ×V)}{vs:List (κ×Value)}(r:KV kvs vs)(k:κ):RelO (M0 kvs k) (valueAt vs k):=by
 unfold KV at r
 induction r with
 | nil=>exact True.intro
 | @cons p q ps qs h t ih =>
  obtain⟨h1,h2⟩:=h
  by_cases e:p.1=k
  ·have e':q.1=k:=h1.symm.trans e
   have b:valueAt (q::qs) k=some q.2:=by simp[valueAt,List.find?_cons,e']
   rw[a0C e,b];exact h2
  ·have e':¬q.1=k:=fun z=>e (h1.trans z)
   have b:valueAt (q::qs) k=valueAt qs k:=by simp[valueAt,List.find?_cons,e']
   rw[a0D e,b];exact ih
theorem KV.any{kvs:List (κ×V)}{vs:List (κ×Value)}(r:KV kvs vs)(k:κ):(kvs.any fun kv=>decide (kv.1=k))=vs.any fun kv=>decide (kv.1=k):=by
 unfold KV at r
 induction r with
 | nil=>rfl
 | cons h t ih=>rw[List.any_cons,List.any_cons,ih,h.1]
theorem KV.repl{kvs:List (κ×V)}{vs:List (κ×Value)}(r:KV kvs vs)(k:κ){y:V}{u:Value}(ry:RelV y u) :
  KV (kvs.map fun kv=>if kv.1=k then(kv.1,y)else kv) (vs.map fun kv=>if kv.1=k then(kv.1,u)else kv):=by
 unfold KV at r ⊢
 induction r with
 | nil=>exact .nil
 | @cons p q ps qs h t ih =>
  rw[List.map_cons,List.map_cons]
  refine .cons ?_ ih
  obtain⟨h1,h2⟩:=h
  by_cases e:p.1=k
  ·rw[if_pos e,if_pos (h1.symm.trans e)];exact⟨h1,ry⟩
  ·rw[if_neg e,if_neg (fun z=>e (h1.trans z))];exact⟨h1,h2⟩
theorem KV.put{kvs:List (κ×V)}{vs:List (κ×Value)}(r:KV kvs vs)(k:κ){y:V}{u:Value}(ry:RelV y u):KV (Q8 kvs k y) (stored vs k u):=by
 unfold Q8 stored
 rw[r.any k]
 by_cases e:(vs.any fun kv=>decide (kv.1=k))=true
 ·rw[if_pos e,if_pos e];exact r.repl k ry
 ·rw[if_neg e,if_neg e];exact Paired.snoc r ⟨rfl,ry⟩
theorem KV.drop{kvs:List (κ×V)}{vs:List (κ×Value)}(r:KV kvs vs)(k:κ):KV (a7V kvs k) (without vs k):=by
 unfold KV at r ⊢
 unfold a7V without
 induction r with
 | nil=>exact .nil
 | @cons p q ps qs h t ih =>
  obtain⟨h1,h2⟩:=h
  rw[List.filter_cons,List.filter_cons]
  by_cases e:p.1=k
  ·have a:¬decide (p.1≠k)=true:=by simp[e]
   have b:¬decide (q.1≠k)=true:=by simp[h1.symm.trans e]
   rw[if_neg a,if_neg b];exact ih
  ·have e':¬q.1=k:=fun z=>e (h1.trans z)
   have a:decide (p.1≠k)=true:=by simp[e]
   have b:decide (q.1≠k)=true:=by simp[e']
   rw[if_pos a,if_pos b];exact .cons ⟨h1,h2⟩ ih
theorem KV.keys{kvs:List (κ×V)}{vs:List (κ×Value)}(r:KV kvs vs):kvs.map (·.1)=vs.map (·.1):=by
 unfold KV at r
 induction r with
 | nil=>rfl
 | cons h t ih=>rw[List.map_cons,List.map_cons,ih,h.1]
theorem KV.length{kvs:List (κ×V)}{vs:List (κ×Value)}(r:KV kvs vs):kvs.length=vs.length:=Paired.length r
end
abbrev KT(H:Hp):List (List j4×V)→List (List j4×Addr×Value)→Prop:=Paired fun p q=>p.1=q.1∧H q.2.1=some (.tup (p.1.map kV))∧RelV p.2 q.2.2
theorem KT.val{H:Hp}{kvs:List (List j4×V)}{xs:List (List j4×Addr×Value)}(r:KT H kvs xs)(k:List j4):RelO (M0 kvs k) ((atKey xs k).map (·.2)):=by
 induction r with
 | nil=>exact True.intro
 | @cons p q ps qs h t ih =>
  obtain⟨h1,_,h2⟩:=h
  by_cases e:p.1=k
  ·have e':q.1=k:=h1.symm.trans e
   have b:atKey (q::qs) k=some q.2:=by simp[atKey,List.find?_cons,e']
   rw[a0C e,b];exact h2
  ·have e':¬q.1=k:=fun z=>e (h1.trans z)
   have b:atKey (q::qs) k=atKey qs k:=by simp[atKey,List.find?_cons,e']
   rw[a0D e,b];exact ih
theorem KT.repl{H:Hp}{kvs:List (List j4×V)}{xs:List (List j4×Addr×Value)}(r:KT H kvs xs)(k:List j4){y:V}{u:Value}(ry:RelV y u) :
  KT H (kvs.map fun kv=>if kv.1=k then(kv.1,y)else kv) (xs.map (putAt k u)):=by
 induction r with
 | nil=>exact .nil
 | @cons p q ps qs h t ih =>
  rw[List.map_cons,List.map_cons]
  refine .cons ?_ ih
  obtain⟨h1,h2,h3⟩:=h
  unfold putAt
  by_cases e:p.1=k
  ·rw[if_pos e,if_pos (h1.symm.trans e)];exact⟨h1,h2,ry⟩
  ·rw[if_neg e,if_neg (fun z=>e (h1.trans z))];exact⟨h1,h2,h3⟩
theorem KT.put{H:Hp}{kvs:List (List j4×V)}{xs:List (List j4×Addr×Value)}(r:KT H kvs xs)(k:List j4){b:Addr}{y:V}{u:Value}(hb:H b=some (.tup (k.map kV)))(ry:RelV y u) :
  KT H (Q8 kvs k y) (storedH xs k b u):=by
 have e:(kvs.any fun kv=>decide (kv.1=k))=(atKey xs k).isSome:=by
  rw[a2Y,(r.val k).isSome_eq,Option.isSome_map]
 unfold Q8 storedH
 rw[e]
 by_cases q:(atKey xs k).isSome=true
 ·rw[if_pos q,if_pos q];exact r.repl k ry
 ·rw[if_neg q,if_neg q];exact Paired.snoc r ⟨rfl,hb,ry⟩
theorem KT.keeps{H H':Hp}{kvs:List (List j4×V)}{xs:List (List j4×Addr×Value)}(r:KT H kvs xs)(ht:∀b ys,H b=some (.tup ys)→H' b=some (.tup ys)):KT H' kvs xs :=
 Paired.mapP r fun _ _ z=>⟨z.1,ht _ _ z.2.1,z.2.2⟩
def DGet(H:Hp)(a:Addr)(y:V)(r:Option V):Prop :=
 (∃kvs k,Rd H a (.dK kvs)∧y=kV k∧r=M0 kvs k)∨∃kvs k b,Rd H a (.dT kvs)∧y=.ref b∧H b=some (.tup (k.map kV))∧r=M0 kvs k
def DPut(H:Hp)(a:Addr)(y v:V)(H':Hp):Prop :=
 (∃kvs k,H a=some (.dK kvs)∧y=kV k∧kvs.length<sizeLine∧H'=upd H a (.dK (Q8 kvs k v))) ∨
 ∃kvs k b,H a=some (.dT kvs)∧y=.ref b∧H b=some (.tup (k.map kV))∧kvs.length<sizeLine∧H'=upd H a (.dT (Q8 kvs k v))
theorem DGet.k{H:Hp}{a:Addr}{kvs:List (j4×V)}{k:j4}(e:H a=some (.dK kvs)):DGet H a (kV k) (M0 kvs k):=.inl ⟨kvs,k,.inl e,rfl,rfl⟩
theorem DGet.t{H:Hp}{a b:Addr}{kvs:List (List j4×V)}{k:List j4}(e:H a=some (.dT kvs))(eb:H b=some (.tup (k.map kV))):DGet H a (.ref b) (M0 kvs k):=.inr ⟨kvs,k,b,.inl e,rfl,eb,rfl⟩
theorem DPut.k{H:Hp}{a:Addr}{kvs:List (j4×V)}{k:j4}{v:V}(e:H a=some (.dK kvs))(hl:kvs.length<sizeLine):DPut H a (kV k) v (upd H a (.dK (Q8 kvs k v))):=.inl ⟨kvs,k,e,rfl,hl,rfl⟩
theorem DPut.t{H:Hp}{a b:Addr}{kvs:List (List j4×V)}{k:List j4}{v:V}(e:H a=some (.dT kvs))(eb:H b=some (.tup (k.map kV)))(hl:kvs.length<sizeLine) :
  DPut H a (.ref b) v (upd H a (.dT (Q8 kvs k v))):=.inr ⟨kvs,k,b,e,rfl,eb,hl,rfl⟩
def b0y(kvs more:List (j4×V)):List (j4×V):=more.foldl (fun acc kv=>Q8 acc kv.1 kv.2) kvs
theorem KV.merge:∀{more:List (j4×V)} {rs:List (j4×Value)} {kvs:List (j4×V)} {vs:List (j4×Value)},KV more rs→KV kvs vs→KV (b0y kvs more) (merged vs rs):=by
 intro more rs kvs vs r
 unfold KV at r
 induction r generalizing kvs vs with
 | nil=>intro q;exact q
 | @cons p q ps qs h t ih =>
  intro r0
  have e:KV (Q8 kvs p.1 p.2) (stored vs q.1 q.2):=by
   have:=r0.put p.1 h.2
   rw[← h.1];exact this
  exact ih e
end L2
namespace PySem.W
open PySem PySem.Spec PySem.Calls PyProof.Rows
def onlyVE:List Value→Bool
 | .ref _::r=>onlyVE r
 | l=>l == L2.vErr
theorem a1_(self:Value):∀l:List Value,onlyVE l=true→refuseLoop self "__setattr__" l=pure ()
 | [],e=>by cases (show([] == L2.vErr)=true from e)
 | y::r,e=>by
  unfold onlyVE at e
  split at e
  ·rename_i c r' q
   cases q
   rw[refuseLoop_ref]
   exact a1_ self _ e
  ·rw[beq_iff_eq.mp e]
   exact PySem.F.store_ValueError.passes self
structure ExcS(K:Frag)(C:Addr)(f:Str):Prop where
 sa:findIn K (.ref C) "__setattr__" = some (some (.builtin "object.__setattr__"))
 mr:((clsIn K C).any fun cd=>onlyVE cd.mro)=true
 mo:mroIn K C (.type "object")=some true
 hd:hasDictIn K C=true
 na:findIn K (.ref C) f=some none
section
variable {prog:Program}{w:World}{A:Around}{E:Value→Shared→Prop}{s:Shared}{K:Frag}{x C:Addr}{o:Obj}{vs:Array Value}{f:Str}{v:Value}
theorem a8A{tk:Tok}{R:Result→Shared→Prop}(X:K.In s.heap)(T:ExcS K C f)(hx:s.heap.get? x=some o)(hc:o.cls=.ref C)(hd:o.dict=none)(hf:o.data=.fields vs)
  (q:∀h' tk',h'.get? x=some { o with dict:=some s.heap.objs.size }→h'.Ns1 s.heap.objs.size (fun y=>if y=f then some v else none)→(∀b ob,b≠x→s.heap.get? b=some ob→h'.get? b=some ob)→R (.ok (.ret .none)) { s with heap:=h',toks:=tk' }) :
  codeAny (model prog w) A (.call (.builtin "object.__setattr__") ⟨[.ref x,.str f tk,v],[]⟩) R s:=by
 obtain⟨cd,hcd,ho⟩:=any_some T.mr
 obtain⟨cd',hcd',hhd⟩:=any_some T.hd
 rw[hcd]at hcd';cases hcd'
 have LT:Looks (model prog w) s.heap (typeOf (.ref x)) (.ref C):=hc▸(Looks.ld hx).andThen .now
 have SF:=PySem.F.store_object
 have sub:Looks (model prog w) s.heap (isInstance (.ref x) (.type "object")) true:=LT.andThen (looks_mroIn X T.mo)
 have hm:Looks (model prog w) s.heap (mroOf (.ref C)) cd.mro:=(looks_clsIn X hcd).andThen .now
 refine codeAny_call_builtin SF.slot.plain SF.entry (@check_slot (model prog w) _ _ s "object.__setattr__" "object" "__setattr__" (.ref x) [.str f tk,v] [] _ SF.kind SF.split sub (SF.args (.ref x) (.str f tk) v) ?_)
 show wpAny _ _ (Builtin.«object.__setattr__» ⟨[.ref x,.str f tk,v],[]⟩) _ _ _
 rw[osa_eq,refuse_eq]
 refine wpAny_bind (wpAny_bind (LT.here (wpAny_bind (hm.here ?_))))
 rw[a1_ _ _ ho]
 refine wpAny_pure (wpAny_bind (LT.here (wpAny_bind ((looks_findIn X T.na).here (wpAny_bind (wpAny_pure ?_))))))
 show wpAny _ _ (Builtin.ObjectAttr.storeInOwnDict (.ref x) (.ref C) (.str f tk) f v false) _ _ _
 refine wpAny_bind (wpAny_pure (wpAny_bind ?_))
 unfold Builtin.ObjectAttr.ownDictForStores instanceDict
 refine wpAny_bind (wpAny_loadPart hx ?_)
 rw[hc]
 refine wpAny_bind ((looks_clsIn X hcd).here ?_)
 rw[if_neg (by rw[hhd];decide)]
 dsimp only
 rw[hd]
 dsimp only
 rw[if_neg (by simp[typeHasDict]),hf]
 dsimp only
 have hx₁:(s.heap.push { cls:=.type "dict",data:=.dict #[] }).get? x=some o:=Heap.get?_push_of_some _ hx
 have hxs:x≠s.heap.objs.size:=Nat.ne_of_lt (Heap.lt_size hx)
 refine wpAny_bind (wpAny_alloc' ?_)
 refine wpAny_bind (wpAny_update' hx₁ ?_)
 refine wpAny_pure ?_
 have hgd:((s.heap.push { cls:=.type "dict",data:=.dict #[] }).update x fun o=>{ cls:=o.cls,dict:=some s.heap.objs.size,data:=o.data,slots:=o.slots }).get? s.heap.objs.size
   = some { cls:=.type "dict",data:=.dict #[] } :=
  (Heap.get?_update_ne _ _ _ _ hxs.symm).trans (Heap.get?_push_at rfl rfl)
 have hnd:((s.heap.push { cls:=.type "dict",data:=.dict #[] }).update x fun o=>{ cls:=o.cls,dict:=some s.heap.objs.size,data:=o.data,slots:=o.slots }).Ns s.heap.objs.size (fun _=>none) :=
  ⟨_,#[],_,hgd,rfl,fun e he=>absurd he (by simp),fun _=>rfl⟩
 show wpAny _ _ (Builtin.ObjectAttr.storeInDict s.heap.objs.size (.str f tk) f v) _ _ _
 unfold Builtin.ObjectAttr.storeInDict Builtin.ObjectAttr.newKeyGuard
 refine wpAny_bind (wpAny_pure (wpAny_bind (wpAny_nsSet1 (Heap.Ns1.of_empty hnd) fun h' hn' hs=>?_)))
 obtain⟨oD,esD,epD,hoD,hdD,hcD⟩:=hn'.count (Within.cons f v Within.nil)
 refine wpAny_bind (wpAny_lookBehind hoD (by rw[hdD];exact pastItsLine_dict (Nat.le_trans hcD (by rw[List.length_cons,List.length_nil,sizeLine_eq];omega))) ?_)
 refine wpAny_pure (q h' _ ?_ hn' fun b ob hb e=>?_)
 ·refine(hs.2 x hxs).trans (Heap.get?_update_self _ hx₁ ?_)
  rw[show({ cls:=o.cls,dict:=some s.heap.objs.size,data:=o.data,slots:=o.slots }:Obj).isFreed=false from Obj.isFreed_of_fields hf]
 ·exact(hs.2 b (Nat.ne_of_lt (Heap.lt_size e))).trans ((Heap.get?_update_ne _ _ _ _ hb).trans (Heap.get?_push_of_some _ e))
theorem exc_setattr{Q:Unit→Shared→Prop}(X:K.In s.heap)(T:ExcS K C f)(hx:s.heap.get? x=some o)(hc:o.cls=.ref C)(hd:o.dict=none)(hf:o.data=.fields vs)
  (q:∀h' tk',h'.get? x=some { o with dict:=some s.heap.objs.size }→h'.Ns1 s.heap.objs.size (fun y=>if y=f then some v else none)→(∀b ob,b≠x→s.heap.get? b=some ob→h'.get? b=some ob)→Q () { s with heap:=h',toks:=tk' }) :
  wpAny (model prog w) A (setAttr (.ref x) f v) Q E s:=by
 have I:InstAt s.heap x o C none:=⟨hx,hc,by unfold notCls;rw[hf],by rw[hd];trivial⟩
 exact set_plain X I T.sa (a8A (s:={ s with toks:=s.toks+1 }) X T hx hc hd hf q)
end
end PySem.W
namespace PySem.W
open PySem PySem.Spec PySem.Calls PyProof.Rows
section
variable {prog:Program}{w:World}{A:Around}{E:Value→Shared→Prop}{h:Heap}{g:Array GenState}{d:Drawn}{t:Nat}{os:OsState}{K:Frag}
variable {nm q:Str}{C N:Addr}{bs bm bmB:List Value}{hdct:Bool}{sn:List Str}{sub:List Value}{ab:Bool}{col:Option Bool}{dd:Option Addr}{k0 k1 k2 k3 k5:Option Value}{B newId initId:String}
abbrev a1F(C tu:Addr):Obj:={ cls:=.ref C,data:=.fields #[.ref tu,.none,.none,.none,.bool false,.none] }
theorem a1G(X:K.In h)(F:ExcBaseFacts B newId initId bmB)(T:OwnTail h bmB bm){b7:List Value}{fI:Addr}{Q:Fin→Shared→Prop}
  (hC:h.get? C=some (excClassObj nm q C N bs bm hdct sn sub ab col dd k0 k1 k2 k3 k5 newId)) (hi:findIn K (.ref C) "__init__" = some (some (.ref fI))) (hf:typeIn K (.ref fI)=some (.type "function"))
  (hq:∀h' e,Heap.MadeExcOf h h' e (.ref C) b7→h.objs.size≤e→wpAny (model prog w) A (call (.ref fI) (.ref e::b7)) (fun r s'=>r=.none∧Q (.done (.ret (.ref e))) s') E ⟨h',g,d,t,os⟩) (hrest:b7.length≤sizeLine) :
  wpAny (model prog w) A (Builtin.«type.__call__» ⟨.ref C::b7,[]⟩) Q E ⟨h,g,d,t,os⟩:=by
 repeat (first | with_reducible refine wpAny_loadPart_at hC ?_ | with_reducible refine wpAny_madeBy_exc hC ?_ | wp_step)
 refine codeAny_call_builtin_code (Code.quiet_builtin _ F.quiet) (wpAny_check_new_subT F T hC ?_)
 refine codeAny_exc_new_subT F T hC ?_ hrest
 show wpAny _ _ _ _ _ _
 have kp:∀b o,h.get? b=some o→((h.push { cls:=.type "tuple",data:=.seq b7.toArray }).push (a1F C h.objs.size)).get? b=some o:=fun b o e=>Heap.get?_push_of_some _ (Heap.get?_push_of_some _ e)
 have hC₁:=kp _ _ hC
 have X₁:=X.keeps kp
 have hget:((h.push { cls:=.type "tuple",data:=.seq b7.toArray }).push (a1F C h.objs.size)).get? (h.objs.size+1)=some (a1F C h.objs.size):=by heap_get
 have hcC:(Value.ref C::bm).contains (.ref C)=true:=by simp
 unfold isInstance
 repeat (first | with_reducible refine wpAny_loadPart_at hget ?_ | (with_reducible refine wpAny_isSubtype_exc hC₁ ?_;rw[hcC]) | wp_step)
 show wpAny _ _ (typeLookup (.ref C) _) _ _ _
 refine Looks.here (s:=⟨_,g,d,t,os⟩) (looks_findIn X₁ hi) ?_
 refine wpAny_holding (wpAny_bind (Looks.here (s:=⟨_,g,d,t,os⟩) (bind_fn X₁ _ hf) ?_))
 refine wpAny_bind (wpAny_mono (hq _ (h.objs.size+1) ⟨kp,Heap.get?_none_of_le (Nat.le_succ _),h.objs.size,hget,Heap.get?_none_of_le (Nat.le_refl _),?_⟩ (Nat.le_succ _)) (fun r s' hr=>?_) fun _ _ x=>x)
 ·exact Heap.get?_push_of_some _ (Heap.get?_push_at rfl rfl)
 ·obtain⟨rfl,hQ⟩:=hr
  wp_walk
  exact hQ
theorem call_excI(X:K.In h)(F:ExcBaseFacts B newId initId bmB)(T:OwnTail h bmB bm){b7:List Value}{fI:Addr}{Q:Value→Shared→Prop}
  (hC:h.get? C=some (excClassObj nm q C N bs bm hdct sn sub ab col dd k0 k1 k2 k3 k5 newId)) (hi:findIn K (.ref C) "__init__" = some (some (.ref fI))) (hf:typeIn K (.ref fI)=some (.type "function"))
  (hq:∀h' e,Heap.MadeExcOf h h' e (.ref C) b7→h.objs.size≤e→wpAny (model prog w) (A.under (.builtin "type.__call__" ⟨.ref C::b7,[]⟩)) (call (.ref fI) (.ref e::b7)) (fun r s'=>r=.none∧Q (.ref e) s') E ⟨h',g,d,t,os⟩) (hrest:b7.length≤sizeLine) :
  wpAny (model prog w) A (call (.ref C) b7) Q E ⟨h,g,d,t,os⟩:=by
 have f1:=tc_lookup
 have f2:=tc_bind (.ref C)
 have hT:(⟨h,g,d,t,os⟩:Shared).TypeIs (.ref C) "type" := ⟨_,hC,rfl⟩
 refine wpAny_call (codeAny_of_tree ?_)
 show wpAny _ _ (callAny (.ref C) _) _ _ _
 repeat (any_goals (first | assumption | with_reducible refine wpAny_loadPart_at hC ?_ | wp_step))
 refine⟨rfl,?_⟩
 exact codeAny_call_builtin_at (Code.quiet_builtin _ (by decide +kernel)) entry_typeCall (wpAny_check_type_call_sub hC (a1G X F T hC hi hf (fun h' e hm he=>hq h' e hm he) hrest))
theorem raise_madeI{M:Model}{env:Env}{s:Shared}{x:Sem Value}{Q:Flow→Shared→Prop}(hbase:bm.contains (.type "BaseException")=true)(hh:A.handled=none)
  (hx:wpAny M A x (fun v s₁=>∃e oe,v=.ref e∧s₁.heap.get? C=some (excClassObj nm q C N bs bm hdct sn sub ab col dd k0 k1 k2 k3 k5 newId)∧s₁.heap.get? e=some oe∧oe.cls=.ref C∧(∃tu,oe.data=.fields #[.ref tu,.none,.none,.none,.bool false,.none])∧E (.ref e) s₁) E s) :
  wpAny M A (raiseStmt env (some x) none) Q E s:=by
 have hcB:(Value.ref C::bm).contains (.type "BaseException")=true:=by rw[List.contains_cons,hbase,Bool.or_true]
 unfold raiseStmt
 refine wpAny_bind (wpAny_mono hx (fun v s₁ h₁=>?_) fun _ _ x=>x)
 obtain⟨e,oe,rfl,hC,he,hc,⟨tu,hdt⟩,hE⟩:=h₁
 obtain⟨oc,od,odt,osl⟩:=oe
 dsimp only at hc hdt
 subst hc hdt
 obtain⟨hp,g,d,tk,os⟩:=s₁
 repeat (first | with_reducible refine wpAny_loadPart_at he ?_ | with_reducible refine wpAny_loadPart_at hC ?_ | (with_reducible refine wpAny_isSubtype_exc hC ?_;rw[hcB]) | wp_step)
 exact wpAny_raiseNew_none hh hE
end
end PySem.W
namespace L2
open PySem PySem.Spec PyProof.Rows
def D7(a C:Addr)(od:Option Addr):HO:=.ext fun h=>∃o tu,h.get? a=some o∧o.cls=.ref C∧o.dict=od∧o.data=.fields #[.ref tu,.none,.none,.none,.bool false,.none]
section
variable {X:Cx}{pins:List (Addr×Obj)}{σ:St}{H:Hp}{s:Shared}{a C:Addr}{f:Str}
theorem a3Z{P:Program}{w:World}{H:Hp}{h:Heap}{o:Obj}{tu:Addr}{od:Option Addr}(e:h.get? a=some o)(hc:o.cls=.ref C)(hd:o.dict=od)(hf:o.data=.fields #[.ref tu,.none,.none,.none,.bool false,.none]):ObjOk P w H h a (D7 a C od) :=
 ⟨⟨o,tu,e,hc,hd,hf⟩,⟨o,e⟩,fun h1 h2 ⟨o1,t1,z1,z2,z3,z4⟩ k=>⟨o1,t1,k o1 z1,z2,z3,z4⟩⟩
theorem a8B{y:V}{u:Value}{A:Around}{E:Value→Shared→Prop}{Q:Unit→Shared→Prop}(I:Inv X pins σ H s)(e:H a=some (D7 a C none))(T:W.ExcS X.K C f)(ry:RelV y u)
  (h:∀dx s',H dx=none→dx≠a→Inv X pins σ (upd (upd H a (D7 a C (some dx))) dx (.xd [(f,y)])) s'→Q () s'):wpAny (model X.prog X.w) A (setAttr (.ref a) f u) Q E s:=by
 obtain⟨⟨o,tu,hx,hc,hd,hf⟩,_⟩:=(show ObjOk X.prog X.w H s.heap a (D7 a C none)from I.hok a _ e)
 refine W.exc_setattr I.kIn T hx hc hd hf fun h' tk' g1 g2 g3=>?_
 have ns:s.heap.objs.size≠a:=fun z=>absurd (Heap.lt_size hx) (by rw[z];exact Nat.lt_irrefl _)
 refine h s.heap.objs.size _ (I.hok.fresh (Nat.le_refl _)) ns ?_
 have hfr:({ o with dict:=some s.heap.objs.size }:Obj).isFreed=false:=Obj.isFreed_of_fields hf
 have u1:=Heap.get?_update_self (h:=s.heap) (fun o=>{ o with dict:=some s.heap.objs.size }) hx hfr
 have far:∀b,b≠a→(s.heap.update a fun o=>{ o with dict:=some s.heap.objs.size }).get? b=s.heap.get? b:=fun b n=>Heap.get?_update_other _ _ (Ne.symm n)
 have I1:Inv X pins σ (upd H a (D7 a C (some s.heap.objs.size))) { s with heap:=s.heap.update a fun o=>{ o with dict:=some s.heap.objs.size } } :=
  I.write (x:=a) (e:=a) (t':=s.toks) (by rw[e];exact True.intro) (.inl rfl) (fun b q hb z=>(far b hb).trans z) ⟨_,u1⟩ (a3Z u1 hc rfl hf)
 refine I1.laid (a:=s.heap.objs.size) (t':=tk') (fun b q z=>?_) ?_ ⟨_,g2,fun g=>?_⟩
 ·by_cases hb:b=a
  ·subst hb;rw[u1]at z;cases z;exact g1
  ·rw[far b hb]at z;exact g3 b q hb z
 ·exact Nat.le_of_eq (by simp[Heap.update])
 ·show RelO ([(f,y)].lookup g) (if g=f then some u else none)
  by_cases z:g=f
  ·subst z
   rw[if_pos rfl,List.lookup_cons,beq_self_eq_true]
   exact ry
  ·rw[if_neg z,List.lookup_cons,beq_false_of_ne z]
   exact True.intro
def sXF(K:W.Frag)(ta tv:TE)(f:Str):TS:=fun D σ H=>tv σ H fun y H1=>ta σ H1 fun x H2=>∃a C,x=.ref a∧H2 a=some (D7 a C none)∧W.ExcS K C f∧∀dx,H2 dx=none→dx≠a→D.nx σ (upd (upd H2 a (D7 a C (some dx))) dx (.xd [(f,y)]))
theorem b1x{o value:Expr}{pos pos':Pos}{ta tv:TE}(ha:PE X o ta)(hv:PE X value tv)(hs:swapsWith value (some (.Attribute o f pos')) pos.line X.env=pure false):PS X (.Assign [.Attribute o f pos'] value pos) (sXF X.K ta tv f):=by
 intro pins s σ H D I h
 refine plainObj_wpAny_Assign_Attribute (h7 (hv pins s σ H _ I h) fun u s1 ⟨y,H1,I1,ry,q⟩=>h7 (ha pins s1 σ H1 _ I1 q) fun ov s2 ⟨x,H2,I2,rx,a,C,ex,ea,T,q2⟩=>?_) hs
 subst ex
 obtain rfl:ov=Value.ref a:=rx
 exact a8B I2 ea T ry fun dx s3 n1 n2 I3=>⟨σ,_,I3,q2 dx n1 n2⟩
def U4(H:Hp)(a:Addr):Hp:=fun b=>if b=a then none else H b
theorem Inv.untrack{φ:Heap→Prop}(I:Inv X pins σ H s)(e:H a=some (.ext φ)):Inv X pins σ (U4 H a) s:=by
 have ne:∀{b:Addr} {o:HO},H b=some o→(∀ψ,o≠.ext ψ)→U4 H a b=some o:=fun{b o} q n=>by
  unfold U4
  rw[if_neg (fun z=>by rw[z,e]at q;cases q;exact n φ rfl)]
  exact q
 have none':∀{b:Addr},H b=none→U4 H a b=none:=fun{b} q=>by unfold U4;split<;>first | rfl | exact q
 refine⟨I.ok,I.os,I.bare,⟨I.base.keep,I.base.slot,fun b o e1 n hx=>none' (I.base.free b o e1 n hx),I.base.there,fun b xs q=>ne (I.base.tups b xs q) (fun _ z=>nomatch z),fun b o u q=>ne (I.base.frzs b o u q) (fun _ z=>nomatch z),fun b ps q=>?_⟩,I.loc,I.cell,none' I.free,fun y c q=>none' (I.freeC y c q),fun p hp=>?_,fun b u q=>?_,I.len⟩
 ·obtain⟨more,q1⟩:=I.base.tbls b ps q
  exact⟨more,ne q1 (fun _ z=>nomatch z)⟩
 ·obtain⟨h1,h2,h3,h4,h5⟩:=I.pin p hp
  exact⟨h1,none' h2,h3,h4,h5⟩
 ·have q1:H b=some u:=by
   unfold U4 at q
   split at q
   ·cases q
   ·exact q
  exact(I.hok b u q1).stay (fun _ _ _ z=>z) (fun c z=>ne z (fun _ z=>nomatch z)) (fun c xs z=>ne z (fun _ z=>nomatch z)) fun c ob u z=>ne z (fun _ z=>nomatch z)
end
def a07(K:W.Frag)(C:Addr):Bool:=match K.lookup C with
 | some ⟨.type "type",_,.cls cd,sl⟩=>(match cd.mro,sl.toList with
  | .ref C'::bm,[_,_,_,_,some (.builtin n),_]=>C' == C && n == "ValueError.__new__" && !cd.hasDel && W.tailIn K vErr bm
  | _,_=>false)
 | _=>false
theorem a6L{K:W.Frag}{h₀:Heap}{C:Addr}(KX:K.In h₀)(q:a07 K C=true) :
  ∃bm N nm q bs hdct sn sub ab col dd k0 k1 k2 k3 k5,h₀.get? C=some (excClassObj nm q C N bs bm hdct sn sub ab col dd k0 k1 k2 k3 k5 "ValueError.__new__")∧OwnTail h₀ vErr bm:=by
 unfold a07 at q
 split at q
 ·rename_i dd cd sl ho
  split at q
  ·rename_i C' bm k0 k1 k2 k3 n k5 hm hs
   simp only[Bool.and_eq_true,beq_iff_eq,Bool.not_eq_true']at q
   obtain⟨⟨⟨rfl,rfl⟩,hdel⟩,ht⟩:=q
   obtain⟨nm,bs,mro,ns,qn,hd,sn,sub,ab,col,U4⟩:=cd
   dsimp only at hm hdel
   subst hm hdel
   have hsl:sl = #[k0,k1,k2,k3,some (.builtin "ValueError.__new__"),k5]:=by
    obtain⟨l⟩:=sl
    simp only at hs
    rw[hs]
   subst hsl
   exact⟨bm,ns,nm,qn,bs,hd,sn,sub,ab,col,dd,k0,k1,k2,k3,k5,KX _ _ ho,W.tail_of_in KX ht⟩
  ·cases q
 ·cases q
def a1H(C:Addr)(f:Str):Sp:=fun vs H Q _=>∃a v,vs=[.ref a,v]∧H a=some (D7 a C none)∧∀dx,H dx=none→dx≠a→Q .non (upd (upd H a (D7 a C (some dx))) dx (.xd [(f,v)]))
structure MkX(K:W.Frag)(C fI:Addr):Prop where
 obj:a07 K C=true
 init:W.findIn K (.ref C) "__init__" = some (some (.ref fI))
 fn:W.typeIn K (.ref fI)=some (.type "function")
section
variable {X:Cx}{E:XK}{k:Nat}
def a1I(C:Addr)(f:Str)(E:XK)(ta:TA):TS:=fun _ σ H=>ta σ H fun vs H1=>∃v,vs=[v]∧∀dx,H1 dx=none→E (.ref C) (some (2*dx+1)) (upd H1 dx (.xd [(f,v)]))
theorem a5D{x f:Str}{C fI:Addr}{fd:FuncData}{ps:List Str}{e₀:Expr}{b7:List Expr}{np cpos pos:Pos}{ta:TA}(acc:XAcc X E)(M:MkX X.K C fI)(F:FnOk X.prog X.w X.K X.mg X.base (m4 X.prog X.w) k fI fd ps (a1H C f))(hr:Room (k+1) X.A)(hb:Binds X.K fd ps [])
  (hg:Gl X x) (hm:X.mg x=some (.ref C)) (ha:PA X (e₀::b7) ta)
  (hc:X.calm=true:=by rfl) (hex:X.ex=[]:=by rfl)
  (he:starEach (e₀::b7) X.env=(false,eval e₀ X.env)::starEach b7 X.env:=by rfl) (hplain:(backTo cpos (starEach b7 X.env)).any (·.1)=false:=by rfl) (hd:(x == ("__debug__" : Str))=false:=by decide) :
  PS X (.Raise (some (.Call (.Name x np) (e₀::b7) [] cpos)) none pos) (a1I C f E ta):=by
 intro pins s σ H D I h
 obtain⟨tl,N,nm,qn,bs,hdct,sn,sub,ab,col,dd,k0,k1,k2,k3,k5,hC,T⟩:=a6L I.mod.kin M.obj
 have hp:=ha cpos pins s σ H _ I h
 rw[he]at hp
 have pl:(backTo cpos (starEach (e₀::b7) X.env)).any (·.1)=false:=by rw[he];show(false || (backTo cpos (starEach b7 X.env)).any (·.1))=false;rw[hplain];rfl
 rw[arm_exec_Raise]
 simp only[evalOpt,Option.map]
 refine wpAny_bind (wpAny_standAt (W.raise_madeI (C:=C) (nm:=nm) (q:=qn) (N:=N) (bs:=bs) (bm:=tl) (hdct:=hdct) (sn:=sn) (sub:=sub) (ab:=ab) (col:=col) (dd:=dd) (k0:=k0) (k1:=k1) (k2:=k2) (k3:=k3) (k5:=k5) (newId := "ValueError.__new__") (T.hasType PySem.F.excBase_ValueError.hasBase) (I.ok.hd hc) ?_))
 refine wpAny_bind (wpAny_mono (wpAny_Call_ofName (wpAny_mono (N5 I hg hm (Q:=fun f s1=>f=.ref C∧s1=s) ⟨rfl,rfl⟩ hd) (fun f s1 h1=>?_) fun _ _ x=>x)) (fun v s3 h3=>wpAny_bind (wpAny_standAt (wpAny_pure h3))) fun _ _ x=>x)
 obtain⟨rfl,rfl⟩:=h1
 unfold callWith
 refine wpAny_bind (wpAny_holding (wpAny_mono (Q:=fun us s2=>∃v H2,us.kw=[]∧Inv X pins σ H2 s2∧Vals [v] us.pos∧∀dx,H2 dx=none→E (.ref C) (some (2*dx+1)) (upd H2 dx (.xd [(f,v)]))) ?_ (fun us s2 h2=>wpAny_bind (wpAny_standAt ?_)) fun _ _ x=>x))
 ·rw[he]
  exact Calls.evalArgs_plain (h7 hp fun us s2 ⟨vs,H2,I2,rv,v,ev,hE⟩=>⟨v,H2,rfl,I2,by rw[← ev];exact rv,hE⟩)
 obtain⟨upos,ukw⟩:=us
 obtain⟨v,H2,ekw,I2,rv,hE⟩:=h2
 obtain rfl:ukw=[]:=ekw
 have C2:=I2.bk _ _ hC
 have T2:=T.keeps I2.bk
 have hlen:upos.length≤sizeLine:=by rw[← rv.length,sizeLine_eq];show 1≤_;omega
 have K2:=I2.kIn
 obtain⟨hp2,g2,d2,tk2,os2⟩:=s2
 simp only[pl]
 refine wpAny_bind (wpAny_keeperOf_exc C2 ?_)
 refine wpAny_bind (W.call_excI (K:=X.K) K2 PySem.F.excBase_ValueError T2 C2 M.init M.fn (fun h' e m me=>?_) hlen)
 obtain⟨tu,ht,_,_⟩:=m.there
 have fe:H2 e=none:=I2.hok.fresh me
 have I3:Inv X pins σ (upd H2 e (D7 e C none)) ⟨h',g2,d2,tk2,os2⟩:=I2.laid (a:=e) (t':=tk2) m.keeps me (a3Z ht rfl rfl rfl)
 have sp3:a1H C f [.ref e,v] (upd H2 e (D7 e C none)) (fun r H'=>r=.non∧∃dx,H2 dx=none∧dx≠e∧H'=upd (upd (upd H2 e (D7 e C none)) e (D7 e C (some dx))) dx (.xd [(f,v)])) E :=
  ⟨e,v,rfl,c8,fun dx n1 n2=>⟨rfl,dx,by rw[a7 n2]at n1;exact n1,n2,rfl⟩⟩
 have r3:Vals [V.ref e,v] (Value.ref e::upos):=.cons rfl rv
 have hl:(Value.ref e::upos++[]).length=ps.length:=by
  have z:=r3.length
  rw[F.len _ _ _ _ sp3]at z
  rw[List.append_nil]
  exact z.symm
 have hb3:=hb ⟨h',g2,d2,tk2,os2⟩ (Value.ref e::upos) I3.kIn hl
 rw[List.append_nil]at hb3
 refine wpAny_call (codeAny_mono (F.run _ X.stack _ _ ⟨Value.ref e::upos,[]⟩ (Value.ref e::upos) _ _ E (hr.make C upos []) (I3.env0.make C upos []) hb3 r3 sp3) fun r s' hq'=>?_)
 cases r with
 | error e'=>exact acc.passes pins σ _ _ e' s' I3 hq'
 | ok fl =>
  cases fl with
  | next=>exact False.elim hq'
  | brk=>exact False.elim hq'
  | cont=>exact False.elim hq'
  | ret u =>
   obtain⟨v0,H',I4,rv0,ev,dx,n1,n2,eH⟩:=I3.after hq'
   subst ev
   refine⟨rv0,wpAny_bind (wpAny_holding (wpAny_point (wpAny_pure ?_)))⟩
   have He:H' e=some (D7 e C (some dx)):=by rw[eH,a7 (Ne.symm n2),c8]
   have I5:=I4.untrack He
   have eD:U4 H' e=upd H2 dx (.xd [(f,v)]):=by
    funext b
    unfold U4
    by_cases z:b=e
    ·rw[if_pos z,z,a7 (Ne.symm n2)];exact fe.symm
    ·rw[if_neg z,eH]
     by_cases z2:b=dx
     ·rw[z2,c8,c8]
     ·rw[a7 z2,a7 z2,a7 z,a7 z]
   rw[eD]at I5
   obtain⟨⟨oe,tu',ge,gc,gd,gf⟩,_⟩:=(show ObjOk X.prog X.w H' s'.heap e (D7 e C (some dx))from I4.hok e _ He)
   refine⟨e,oe,rfl,I4.bk _ _ hC,ge,gc,⟨tu',gf⟩,?_⟩
   have odd:¬(2*dx+1)%2=0:=by
    show ¬(2*dx+1:Nat)%2=0
    rw[Nat.mul_add_mod];decide
   refine acc pins σ _ s' e (.ref C) (some (2*dx+1)) (W.hideAll s'.heap (e::x8 X.stack)) .new I5 ⟨by rw[a7 (Ne.symm n2)];exact fe,fun b o q=>W.of_hideAll _ q,W.hideAll_none _ List.mem_cons_self,W.funFrames_hide I5.stack fun env he b hb=>List.mem_cons_of_mem _ (List.mem_filterMap.mpr ⟨env,he,hb⟩),fun b o q i n=>?_,⟨oe,_,ge,gc,gf,rfl,?_,?_⟩⟩ (hE dx n1)
   ·refine W.hideAll_get _ q fun z=>?_
    rcases List.mem_cons.mp z with z | z
    ·subst z
     have gone:∀o',(⟨hp2,g2,d2,tk2,os2⟩:Shared).heap.get? b=some o'→False:=fun o' w=>absurd (Heap.lt_size w) (Nat.not_lt.mpr me)
     rcases i with i | ⟨hx,o',i⟩ | ⟨p,hp',w⟩
     ·exact i (by rw[a7 (Ne.symm n2)];exact fe)
     ·obtain⟨o2,w⟩:=I2.base.there b o' i hx
      exact gone _ w
     ·exact gone _ (by rw[← w];exact(I2.pin p hp').1)
    ·exact n z
   ·show some Value.none=some (if(2*dx+1)%2=0 then _ else Value.none)
    rw[if_neg odd]
   ·show oe.dict=(if(2*dx+1)%2=0 then none else some ((2*dx+1)/2))
    rw[if_neg odd,gd]
    congr 1
    show dx=(2*dx+1:Nat)/2
    rw[Nat.mul_add_div (by decide)]
    simp
end
end L2
namespace PySem.W
open PySem PySem.Spec PySem.Calls PyProof.Rows
section
variable {prog:Program}{w:World}{A:Around}{E:Value→Shared→Prop}{h:Heap}{g:Array GenState}{d:Drawn}{t:Nat}{os:OsState}{K:Frag}{x C:Addr}{o od:Obj}{f:Str}{v:Value}
theorem a2Z{tk:Tok}{Q:Fin→Shared→Prop}(X:K.In h)(I:InstAt h x o C (some od))(hf:findObj K C (some od) f=some (.value v))(q:Q (.done (.ret v)) ⟨h,g,d,t,os⟩) :
  wpAny (model prog w) A (Builtin.«object.__getattribute__» ⟨[.ref x,.str f tk],[]⟩) Q E ⟨h,g,d,t,os⟩:=by
 have L0:=I.type (M:=model prog w)
 have L1:=looks_find (M:=model prog w) X I hf
 refine wpAny_bind (wpAny_pure (wpAny_bind (wpAny_pure (wpAny_bind (L0.at (wpAny_bind (L1.at ?_)))))))
 exact wpAny_pure q
theorem exc_at_by{tk:Tok}{b b2:Bool}{Q:Value→Shared→Prop}(X:K.In h)(T:ExcT K C)(I:InstAt h x o C (some od))(hf:findObj K C (some od) f=some (.value v))(hh:handedIn v=true)(hq:Q v ⟨h,g,d,t,os⟩):wpAny (model prog w) A (getAttrBy (.ref x) (.str f tk) b b2) Q E ⟨h,g,d,t,os⟩:=by
 have L0:=I.type (M:=model prog w)
 have L1:=looks_findIn (M:=model prog w) X T.ga
 have L2:=looks_findIn (M:=model prog w) X T.gt
 have f3:=F.attr_ValueError.ga.bind (.ref x)
 have hx2:(Value.builtin "BaseException.__getattribute__" == Value.builtin "object.__getattribute__")=false:=by decide +kernel
 have hx1:(onTheHeap (Value.ref C) && Value.builtin "BaseException.__getattribute__" == Value.builtin "object.__getattribute__")=false:=by rw[hx2];rfl
 have hd:=handedOut_of hh
 have hx3:¬(b2 && onTheHeap (Value.builtin "BaseException.__getattribute__"))=true:=by cases b2<;>exact Bool.false_ne_true
 repeat (any_goals (first | assumption | (with_reducible refine L0.at ?_) | (with_reducible refine wpAny_bind (L0.at ?_)) | (with_reducible refine L1.at ?_) | (with_reducible refine wpAny_bind (L1.at ?_)) | (with_reducible refine L2.at ?_) | (with_reducible refine wpAny_bind (L2.at ?_)) | wp_step))
 refine codeAny_call_builtin F.attr_ValueError.ga.plain F.entry_bexc_ga (X7 X T I.at_ I.cls (a2Z X I hf ?_))
 show wpAny (model prog w) A (handedOut v) Q E _
 rw[hd]
 exact wpAny_pure hq
end
end PySem.W
namespace L2
open PySem PySem.Spec PyProof.Rows
def b0z(K:W.Frag)(ta:TE)(f:Str):TE:=fun σ H Q=>ta σ H fun x H1=>∃a C dx y,x=.ref a∧H1 a=some (B3 a (.ref C) (some (2*dx+1)))∧H1 dx=some (.xd [(f,y)])∧W.ExcT K C∧W.hasDictIn K C=true∧W.findIn K (.ref C) f=some none∧Q y H1
section
variable {X:Cx}{e:Expr}{f:Str}{pos:Pos}{ta:TE}
theorem a6M(dx:Nat):X6 (some (2*dx+1))=some dx:=by
 show(if(2*dx+1)%2=0 then none else some ((2*dx+1)/2))=some dx
 rw[if_neg (by rw[Nat.mul_add_mod];decide),Nat.mul_add_div (by decide)]
 simp
theorem b0A(he:PE X e ta)(hb:attributeBase e f X.env (eval e X.env)=eval e X.env):PE X (.Attribute e f pos) (b0z X.K ta f):=by
 intro pins s σ H Q I h
 refine a8h hb (h7 (he pins s σ H _ I h) fun u s1 ⟨x,H1,I1,rx,a,C,dx,y,ex,ea,ed,T,hh,hn,q⟩=>?_)
 subst ex
 obtain rfl:u=Value.ref a:=rx
 obtain⟨⟨o,vs,hx,hc,hdt,_,hdi⟩,_⟩:=(show ObjOk X.prog X.w H1 s1.heap a (B3 a (.ref C) (some (2*dx+1)))from I1.hok a _ ea)
 obtain⟨mA,hns,r⟩:=(show ObjOk X.prog X.w H1 s1.heap dx (.xd [(f,y)])from I1.hok dx _ ed)
 rw[a6M]at hdi
 obtain⟨u,hu,ru⟩:=RelO.some_of (v:=y) (o:=mA f) (by have:=r f;rw[List.lookup_cons,beq_self_eq_true]at this;exact this)
 obtain⟨od,god,hl⟩:=a1Z hns
 have J:W.InstAt s1.heap a o C (some od):=⟨hx,hc,by unfold W.notCls;rw[hdt],by rw[hdi];exact god⟩
 have K1:=I1.kIn
 obtain⟨hp,g,d,t,os⟩:=s1
 unfold getAttr
 refine wpAny_bind (wpAny_mkText ?_)
 refine W.exc_at_by K1 T J (W.findObj_own hh hn rfl (by rw[hl,hu])) (a5f ru) ?_
 exact⟨y,H1,I1.tok _,ru,q⟩
end
open PySem.W
abbrev DK:=Sum (List j4) (List (List j4))
def dkO(ks:DK)(xs:List V):HO:=match ks with
 | .inl ks=>.dK (ks.zip xs)
 | .inr ks=>.dT (ks.zip xs)
def dkN:DK→Nat
 | .inl ks=>ks.length
 | .inr ks=>ks.length
theorem a30{ks:DK}{xs ys:List V}:dkO ks xs≠.lst ys:=by cases ks<;>exact fun z=>nomatch z
inductive D where
 | non | bl (b:Bool) | int (i:Int) | str (x:Str) | ty (n:String) | cls (n:Str) | tup (ds:List D) | lst (ds:List D) | scr (ns:List Int) | exc (c:Str) | obj (c:Str) (ns:List Str) (ds:List D) | dic (ks:DK) (ds:List D) | exv (c f:Str) (d:D)
mutual
def Rp(K:W.Frag)(cl:Str→Addr)(F:Hp):D→V→Prop
 | .non,v=>v=.non
 | .bl b,v=>v=.bl b
 | .int i,v=>v=.int i
 | .str x,v=>v=.str x
 | .ty n,v=>v=.ty n
 | .cls n,v=>v=.ref (cl n)
 | .tup ds,v=>∃a xs,v=.ref a∧F a=some (.tup xs)∧Rps K cl F ds xs
 | .lst ds,v=>∃a xs,v=.ref a∧F a=some (.lst xs)∧Rps K cl F ds xs
 | .scr ns,v=>∃a,v=.ref a∧Scr K F a (ns.map V.int)
 | .exc c,v=>∃a cx,v=.ref a∧F a=some (B3 a (.ref (cl c)) cx)
 | .obj c ns ds,v=>∃a dx xs,v=.ref a∧F a=some (.ins (cl c) dx (ns.zip xs))∧ns.length=xs.length∧Rps K cl F ds xs
 | .dic ks ds,v=>∃a xs,v=.ref a∧F a=some (dkO ks xs)∧dkN ks=xs.length∧Rps K cl F ds xs
 | .exv c f d,v=>∃a dx y,v=.ref a∧F a=some (B3 a (.ref (cl c)) (some (2*dx+1)))∧F dx=some (.xd [(f,y)])∧Rp K cl F d y
def Rps(K:W.Frag)(cl:Str→Addr)(F:Hp):List D→List V→Prop
 | [],vs=>vs=[]
 | d::ds,vs=>∃v r,vs=v::r∧Rp K cl F d v∧Rps K cl F ds r
end
section
variable {K:W.Frag}{cl:Str→Addr}{F F' H H':Hp}
mutual
theorem Rp.mono(g:Same F F'):∀(d:D) (v:V),Rp K cl F d v→Rp K cl F' d v
 | .non,_,h=>by simpa only[Rp]using h
 | .bl _,_,h=>by simpa only[Rp]using h
 | .int _,_,h=>by simpa only[Rp]using h
 | .str _,_,h=>by simpa only[Rp]using h
 | .ty _,_,h=>by simpa only[Rp]using h
 | .cls _,_,h=>by simpa only[Rp]using h
 | .tup ds,v,h=>by
  simp only[Rp]at h ⊢
  obtain⟨a,xs,e,h1,h2⟩:=h
  exact⟨a,xs,e,g _ _ h1,Rps.mono g ds xs h2⟩
 | .lst ds,v,h=>by
  simp only[Rp]at h ⊢
  obtain⟨a,xs,e,h1,h2⟩:=h
  exact⟨a,xs,e,g _ _ h1,Rps.mono g ds xs h2⟩
 | .scr ns,v,h=>by
  simp only[Rp]at h ⊢
  obtain⟨a,e,h1⟩:=h
  exact⟨a,e,h1.same g⟩
 | .exc c,v,h=>by
  simp only[Rp]at h ⊢
  obtain⟨a,cx,e,h1⟩:=h
  exact⟨a,cx,e,g _ _ h1⟩
 | .obj c ns ds,v,h=>by
  simp only[Rp]at h ⊢
  obtain⟨a,dx,xs,e,h1,hl,h2⟩:=h
  exact⟨a,dx,xs,e,g _ _ h1,hl,Rps.mono g ds xs h2⟩
 | .dic ks ds,v,h=>by
  simp only[Rp]at h ⊢
  obtain⟨a,xs,e,h1,hl,h2⟩:=h
  exact⟨a,xs,e,g _ _ h1,hl,Rps.mono g ds xs h2⟩
 | .exv c f d,v,h=>by
  simp only[Rp]at h ⊢
  obtain⟨a,dx,y,e,h1,h2,h3⟩:=h
  exact⟨a,dx,y,e,g _ _ h1,g _ _ h2,Rp.mono g d y h3⟩
theorem Rps.mono(g:Same F F'):∀(ds:List D) (vs:List V),Rps K cl F ds vs→Rps K cl F' ds vs
 | [],_,h=>by simpa only[Rps]using h
 | d::ds,vs,h=>by
  simp only[Rps]at h ⊢
  obtain⟨v,r,e,h1,h2⟩:=h
  exact⟨v,r,e,Rp.mono g d v h1,Rps.mono g ds r h2⟩
end
theorem Rps.nil:Rps K cl F [] []:=by simp only[Rps]
theorem Rps.cons{d:D}{v:V}{ds:List D}{vs:List V}(h:Rp K cl F d v)(t:Rps K cl F ds vs):Rps K cl F (d::ds) (v::vs):=by simp only[Rps];exact⟨v,vs,rfl,h,t⟩
theorem Rps.inv{d:D}{ds:List D}{vs:List V}(h:Rps K cl F (d::ds) vs):∃v r,vs=v::r∧Rp K cl F d v∧Rps K cl F ds r:=by simpa only[Rps]using h
theorem Rps.inv0{vs:List V}(h:Rps K cl F [] vs):vs=[]:=by simpa only[Rps]using h
theorem Rps.length:∀{ds:List D} {vs:List V},Rps K cl F ds vs→ds.length=vs.length
 | [],vs,h=>by rw[h.inv0];rfl
 | d::ds,vs,h=>by obtain⟨v,r,rfl,_,t⟩:=h.inv;simp[t.length]
theorem Rps.get:∀{ds:List D} {vs:List V} {i:Nat} {d:D},Rps K cl F ds vs→ds[i]? = some d→∃v,vs[i]? = some v∧Rp K cl F d v
 | [],_,_,_,_,e=>by simp at e
 | d::ds,vs,0,x,h,e=>by
  obtain⟨v,r,rfl,h1,_⟩:=h.inv
  simp at e;subst e
  exact⟨v,rfl,h1⟩
 | d::ds,vs,i+1,x,h,e=>by
  obtain⟨v,r,rfl,_,t⟩:=h.inv
  obtain⟨u,h1,h2⟩:=t.get (i:=i) (d:=x) (by simpa using e)
  exact⟨u,by simpa using h1,h2⟩
theorem Rps.get'{ds:List D}{vs:List V}{i:Nat}{v:V}(h:Rps K cl F ds vs)(e:vs[i]? = some v):∃d,ds[i]? = some d∧Rp K cl F d v:=by
 have hi:i<ds.length:=by
  have:=(List.getElem?_eq_some_iff.mp e).1
  rw[h.length];exact this
 obtain⟨u,h1,h2⟩:=h.get (List.getElem?_eq_getElem hi)
 rw[e]at h1;cases h1
 exact⟨_,List.getElem?_eq_getElem hi,h2⟩
theorem Rps.append:∀{ds es:List D} {vs us:List V},Rps K cl F ds vs→Rps K cl F es us→Rps K cl F (ds++es) (vs++us)
 | [],_,_,_,h,t=>by rw[h.inv0];exact t
 | d::ds,_,_,_,h,t=>by obtain⟨v,r,rfl,h1,h2⟩:=h.inv;exact .cons h1 (h2.append t)
theorem Rps.one{d:D}{v:V}(h:Rp K cl F d v):Rps K cl F [d] [v]:=.cons h .nil
theorem Rps.set{d:D}{v:V}(r:Rp K cl F d v):∀{ds:List D} {vs:List V} (i:Nat),Rps K cl F ds vs→Rps K cl F (ds.set i d) (vs.set i v)
 | [],_,_,h=>by rw[h.inv0];exact .nil
 | _::_,_,0,h=>by obtain⟨_,_,rfl,_,h2⟩:=h.inv;exact .cons r h2
 | _::_,_,i+1,h=>by obtain⟨_,_,rfl,h1,h2⟩:=h.inv;exact .cons h1 (h2.set r i)
theorem Rps.drop:∀{ds:List D} {vs:List V} (n:Nat),Rps K cl F ds vs→Rps K cl F (ds.drop n) (vs.drop n)
 | _,_,0,h=>h
 | [],_,_+1,h=>by rw[h.inv0];exact .nil
 | _::_,_,n+1,h=>by obtain⟨_,_,rfl,_,h2⟩:=h.inv;exact h2.drop n
theorem Rps.take:∀{ds:List D} {vs:List V} (n:Nat),Rps K cl F ds vs→Rps K cl F (ds.take n) (vs.take n)
 | _,_,0,h=>.nil
 | [],_,_+1,h=>by rw[h.inv0];exact .nil
 | _::_,_,n+1,h=>by obtain⟨_,_,rfl,h1,h2⟩:=h.inv;exact .cons h1 (h2.take n)
theorem Rps.ints:∀{ns:List Int} {vs:List V},Rps K cl F (ns.map D.int) vs→vs=ns.map V.int
 | [],_,h=>h.inv0
 | n::ns,_,h=>by
  obtain⟨v,r,rfl,h1,h2⟩:=h.inv
  rw[h2.ints]
  simp only[Rp]at h1
  rw[h1];rfl
theorem Rps.ofInts:∀{ns:List Int},Rps K cl F (ns.map D.int) (ns.map V.int)
 | []=>.nil
 | _::_=>.cons (by simp only[Rp]) Rps.ofInts
theorem Rps.strs:∀{bs:List Str} {vs:List V},Rps K cl F (bs.map D.str) vs→vs=bs.map V.str
 | [],_,h=>h.inv0
 | n::ns,_,h=>by
  obtain⟨v,r,rfl,h1,h2⟩:=h.inv
  rw[h2.strs]
  simp only[Rp]at h1
  rw[h1];rfl
end
inductive Sl where | no | fz (d:D) | ow (ds:List D) | hd (ds:List D) | od (ks:DK) (ds:List D) | hk (ks:DK) (ds:List D)
abbrev DE:=List Sl
def Mu(env:DE)(i:Nat):Prop:=∃ds:List D,env[i]? = some (.ow ds)∨env[i]? = some (.hd ds)
def isO:Sl→Prop
 | .ow _=>True
 | .od _ _=>True
 | _=>False
def K8:Sl→DK→List D→Prop
 | .od ks ds,ks',ds'=>ks=ks'∧ds=ds'
 | .hk ks ds,ks',ds'=>ks=ks'∧ds=ds'
 | _,_,_=>False
def Ow(σ:St)(env:DE)(a:Addr):Prop:=∃(i:Nat) (s:Sl),isO s∧env[i]? = some s∧σ[i]? = some (some (V.ref a))
structure RelOd(K:W.Frag)(cl:Str→Addr)(σ:St)(H F:Hp)(env:DE):Prop where
 at_:∀(i:Nat) (s:Sl) (ks:DK) (ds:List D),env[i]? = some s→K8 s ks ds→∃a xs,σ[i]? = some (some (.ref a))∧H a=some (dkO ks xs)∧F a=none∧dkN ks=xs.length∧Rps K cl F ds xs
 inj:∀(i j:Nat) (s t:Sl) (ks ls:DK) (ds es:List D) (a:Addr),env[i]? = some s→K8 s ks ds→env[j]? = some t→K8 t ls es→σ[i]? = some (some (.ref a))→σ[j]? = some (some (.ref a))→i=j
structure Rel(K:W.Frag)(cl:Str→Addr)(σ:St)(H F:Hp)(env:DE):Prop where
 sub:Same F H
 len:σ.length=env.length
 fz:∀(i:Nat) (d:D),env[i]? = some (.fz d)→∃v,σ[i]? = some (some v)∧Rp K cl F d v
 mu:∀(i:Nat) (ds:List D),(env[i]? = some (.ow ds)∨env[i]? = some (.hd ds))→∃a xs,σ[i]? = some (some (.ref a))∧H a=some (.lst xs)∧F a=none∧Rps K cl F ds xs
 inj:∀(i j:Nat) (a:Addr),Mu env i→Mu env j→σ[i]? = some (some (.ref a))→σ[j]? = some (some (.ref a))→i=j
 od:RelOd K cl σ H F env
structure Frm(σ:St)(H F:Hp)(env:DE)(σ':St)(H' F':Hp)(env':DE):Prop where
 fz:Same F F'
 hid:∀a o,H a=some o→F a=none→¬Ow σ env a→H' a=some o∧F' a=none∧¬Ow σ' env' a
 keep:∀(i:Nat) (ds:List D),env[i]? = some (.hd ds)→env'[i]? = some (.hd ds)∧σ'[i]? = σ[i]?
 dom:∀a,H' a=none→H a=none
structure Gr(H F H' F':Hp):Prop where
 fz:Same F F'
 sub:Same F' H'
 hid:∀a o,H a=some o→F a=none→H' a=some o∧F' a=none
section
variable {K:W.Frag}{cl:Str→Addr}{σ σ' σ'':St}{H H' H'' F F' F'':Hp}{env env' env'':DE}
theorem RelOd.to(R:RelOd K cl σ H F env)(he:∀(i:Nat) (s:Sl) (ks:DK) (ds:List D),env'[i]? = some s→K8 s ks ds→∃t,env[i]? = some t∧K8 t ks ds∧σ'[i]? = σ[i]?)
  (hh:∀(i:Nat) (a:Addr) (ks:DK) (xs:List V),σ[i]? = some (some (.ref a))→H a=some (dkO ks xs)→F a=none→H' a=some (dkO ks xs)∧F' a=none) (sF:Same F F'):RelOd K cl σ' H' F' env' :=
 ⟨fun i s ks ds h d=>by
  obtain⟨t,h1,d1,e1⟩:=he i s ks ds h d
  obtain⟨a,xs,e,hH,hF,hn,r⟩:=R.at_ i t ks ds h1 d1
  obtain⟨h2,f2⟩:=hh i a ks xs e hH hF
  exact⟨a,xs,by rw[e1];exact e,h2,f2,hn,r.mono sF⟩,
  fun i j s t ks ls ds es a hi di hj dj ei ej=>by
  obtain⟨s1,h1,d1,e1⟩:=he i s ks ds hi di
  obtain⟨t1,h2,d2,e2⟩:=he j t ls es hj dj
  exact R.inj i j s1 t1 ks ls ds es a h1 d1 h2 d2 (by rw[← e1];exact ei) (by rw[← e2];exact ej)⟩
theorem RelOd.gr(R:RelOd K cl σ H F env)(g:Gr H F H' F'):RelOd K cl σ H' F' env:=R.to (fun i s ks ds h d=>⟨s,h,d,rfl⟩) (fun _ a ks xs _ h f=>g.hid a _ h f) g.fz
theorem RelOd.set{i:Nat}{s:Sl}{v:Option V}(R:RelOd K cl σ H F env)(n:∀ks ds,¬K8 s ks ds):RelOd K cl (σ.set i v) H F (env.set i s) :=
 R.to (fun j t ks ds h d=>by
  by_cases z:j=i
  ·subst z
   have hj:j<env.length:=by have:=(List.getElem?_eq_some_iff.mp h).1;rwa [List.length_set]at this
   rw[List.getElem?_set_self hj]at h;cases h;exact absurd d (n ks ds)
  ·rw[List.getElem?_set_ne (Ne.symm z)]at h
   exact⟨t,h,d,List.getElem?_set_ne (Ne.symm z)⟩) (fun _ a ks xs _ h f=>⟨h,f⟩) (Same.refl _)
theorem RelOd.setE{i:Nat}{s:Sl}(R:RelOd K cl σ H F env)(n:∀ks ds,¬K8 s ks ds):RelOd K cl σ H F (env.set i s) :=
 R.to (fun j t ks ds h d=>by
  by_cases z:j=i
  ·subst z
   have hj:j<env.length:=by have:=(List.getElem?_eq_some_iff.mp h).1;rwa [List.length_set]at this
   rw[List.getElem?_set_self hj]at h;cases h;exact absurd d (n ks ds)
  ·rw[List.getElem?_set_ne (Ne.symm z)]at h
   exact⟨t,h,d,rfl⟩) (fun _ a ks xs _ h f=>⟨h,f⟩) (Same.refl _)
theorem RelOd.lst(R:RelOd K cl σ H F env)(hh:∀(a:Addr) (o:HO),(∀xs,o≠.lst xs)→H a=some o→F a=none→H' a=some o∧F' a=none)(sF:Same F F'):RelOd K cl σ H' F' env :=
 R.to (fun i s ks ds h d=>⟨s,h,d,rfl⟩) (fun _ a ks xs _ h f=>hh a _ (fun _=>a30) h f) sF
theorem RelOd.own(R:RelOd K cl σ H F env)(hh:∀(i:Nat) (s:Sl) (ks:DK) (ds:List D) (a:Addr) (xs:List V),env[i]? = some s→K8 s ks ds→σ[i]? = some (some (.ref a))→H a=some (dkO ks xs)→F a=none→H' a=some (dkO ks xs)∧F' a=none)(sF:Same F F'):RelOd K cl σ H' F' env :=
 ⟨fun i s ks ds h d=>by
  obtain⟨a,xs,e,hH,hF,hn,r⟩:=R.at_ i s ks ds h d
  obtain⟨h2,f2⟩:=hh i s ks ds a xs h d e hH hF
  exact⟨a,xs,e,h2,f2,hn,r.mono sF⟩,R.inj⟩
theorem RelOd.frzL{a:Addr}{xs:List V}{o:HO}(R:RelOd K cl σ H F env)(hH:H a=some (.lst xs))(hF:F a=none):RelOd K cl σ H (upd F a o) env :=
 R.lst (fun c u n h f=>⟨h,by rw[a7 (fun z=>by rw[z,hH]at h;exact n xs (Option.some.inj h).symm)];exact f⟩) (G6 hF _)
theorem RelOd.updL{a:Addr}{xs:List V}{o:HO}(R:RelOd K cl σ H F env)(hH:H a=some (.lst xs)):RelOd K cl σ (upd H a o) F env :=
 R.lst (fun c u n h f=>⟨by rw[a7 (fun z=>by rw[z,hH]at h;exact n xs (Option.some.inj h).symm)];exact h,f⟩) (Same.refl _)
theorem RelOd.newO{a:Addr}{o:HO}(R:RelOd K cl σ H F env)(hH:H a=none):RelOd K cl σ (upd H a o) F env :=
 R.lst (fun c u n h f=>⟨by rw[a7 (fun z=>by rw[z,hH]at h;cases h)];exact h,f⟩) (Same.refl _)
theorem RelOd.none(n:∀(i:Nat) (s:Sl) ks ds,env[i]? = some s→¬K8 s ks ds):RelOd K cl σ H F env:=⟨fun i s ks ds h d=>absurd d (n i s ks ds h),fun i j s t ks ls ds es a h d=>absurd d (n i s ks ds h)⟩
theorem a08{d:D}:∀ks ds,¬K8 (.fz d) ks ds:=fun _ _ h=>h
theorem U5{d:List D}:∀ks ds,¬K8 (.ow d) ks ds:=fun _ _ h=>h
theorem a09{d:List D}:∀ks ds,¬K8 (.hd d) ks ds:=fun _ _ h=>h
theorem a4C:∀ks ds,¬K8 .no ks ds:=fun _ _ h=>h
theorem Frm.refl:Frm σ H F env σ H F env:=⟨Same.refl _,fun _ _ h f o=>⟨h,f,o⟩,fun _ _ h=>⟨h,rfl⟩,fun _ h=>h⟩
theorem Frm.trans(a:Frm σ H F env σ' H' F' env')(b:Frm σ' H' F' env' σ'' H'' F'' env''):Frm σ H F env σ'' H'' F'' env'' :=
 ⟨a.fz.trans b.fz,fun x o h f w=>by obtain⟨h1,f1,w1⟩:=a.hid x o h f w;exact b.hid x o h1 f1 w1,
  fun i ds h=>by obtain⟨h1,e1⟩:=a.keep i ds h;obtain⟨h2,e2⟩:=b.keep i ds h1;exact⟨h2,e2.trans e1⟩,fun x h=>a.dom x (b.dom x h)⟩
theorem Gr.dom(g:Gr H F H' F')(a:Addr)(h:H' a=none):H a=none:=by
 cases e:H a with
 | none=>rfl
 | some o =>
  cases f:F a with
  | none=>rw[(g.hid a o e f).1]at h;cases h
  | some u=>rw[g.sub _ _ (g.fz _ _ f)]at h;cases h
theorem Rel.gr(R:Rel K cl σ H F env)(g:Gr H F H' F'):Rel K cl σ H' F' env :=
 ⟨g.sub,R.len,fun i d h=>by obtain⟨v,e,r⟩:=R.fz i d h;exact⟨v,e,r.mono g.fz⟩,
  fun i ds h=>by obtain⟨a,xs,e,hH,hF,r⟩:=R.mu i ds h;obtain⟨h1,f1⟩:=g.hid a _ hH hF;exact⟨a,xs,e,h1,f1,r.mono g.fz⟩,R.inj,R.od.gr g⟩
theorem Rel.frm(R:Rel K cl σ H F env)(g:Gr H F H' F'):Frm σ H F env σ H' F' env :=
 ⟨g.fz,fun a o h f w=>by obtain⟨h1,f1⟩:=g.hid a o h f;exact⟨h1,f1,w⟩,fun _ _ h=>⟨h,rfl⟩,g.dom⟩
theorem Gr.refl(s:Same F H):Gr H F H F:=⟨Same.refl _,s,fun _ _ h f=>⟨h,f⟩⟩
theorem Gr.trans(a:Gr H F H' F')(b:Gr H' F' H'' F''):Gr H F H'' F'':=⟨a.fz.trans b.fz,b.sub,fun x o h f=>by obtain⟨h1,f1⟩:=a.hid x o h f;exact b.hid x o h1 f1⟩
theorem Gr.new{p:Addr}{o:HO}(s:Same F H)(hp:H p=none):Gr H F (upd H p o) (upd F p o):=by
 have fp:F p=none:=s.free hp
 refine⟨G6 fp o,fun b u e=>?_,fun a u e f=>?_⟩
 ·by_cases z:b=p
  ·subst z;rw[c8]at e ⊢;exact e
  ·rw[a7 z]at e ⊢;exact s _ _ e
 ·have z:a≠p:=fun z=>by rw[z,hp]at e;cases e
  rw[a7 z,a7 z];exact⟨e,f⟩
theorem Rel.freeze{i:Nat}{ds:List D}(R:Rel K cl σ H F env)(h:env[i]? = some (.ow ds)):∃a F',σ[i]? = some (some (.ref a))∧Frm σ H F env σ H F' (env.set i (.fz (.lst ds)))∧Rel K cl σ H F' (env.set i (.fz (.lst ds)))∧Rp K cl F' (.lst ds) (.ref a):=by
 obtain⟨a,xs,e,hH,hF,r⟩:=R.mu i ds (.inl h)
 have hi:i<env.length:=(List.getElem?_eq_some_iff.mp h).1
 have sF:Same F (upd F a (.lst xs)):=G6 hF _
 have oth:∀j,j≠i→(env.set i (.fz (.lst ds)))[j]? = env[j]?:=fun j hj=>List.getElem?_set_ne (Ne.symm hj)
 have self:(env.set i (.fz (.lst ds)))[i]? = some (.fz (.lst ds)):=List.getElem?_set_self hi
 have mui:∀j,Mu (env.set i (.fz (.lst ds))) j→j≠i∧Mu env j:=fun j ⟨es,q⟩=>by
  by_cases z:j=i
  ·subst z;rw[self]at q;rcases q with q | q<;>cases q
  ·rw[oth j z]at q;exact⟨z,es,q⟩
 have rl:Rp K cl (upd F a (.lst xs)) (.lst ds) (.ref a):=by simp only[Rp];exact⟨a,xs,rfl,c8,r.mono sF⟩
 refine⟨a,upd F a (.lst xs),e,⟨sF,fun b o hb fb w=>?_,fun j es q=>?_,fun _ h=>h⟩,⟨fun b o q=>?_,by rw[List.length_set];exact R.len,fun j d q=>?_,fun j es q=>?_,fun j k b hj hk e1 e2=>R.inj j k b (mui j hj).2 (mui k hk).2 e1 e2,(R.od.lst (fun c u n h f=>⟨h,by rw[a7 (fun z=>by rw[z,hH]at h;exact n xs (Option.some.inj h).symm)];exact f⟩) sF).setE a08⟩,rl⟩
 ·have z:b≠a:=fun z=>w ⟨i,.ow ds,True.intro,h,by rw[z];exact e⟩
  refine⟨hb,by rw[a7 z];exact fb,fun⟨j,es,oo,q,e1⟩=>?_⟩
  by_cases y:j=i
  ·subst y;rw[self]at q;cases q;exact oo
  ·rw[oth j y]at q;exact w ⟨j,es,oo,q,e1⟩
 ·have z:j≠i:=fun z=>by subst z;rw[h]at q;cases q
  exact⟨by rw[oth j z];exact q,rfl⟩
 ·by_cases z:b=a
  ·subst z;rw[c8]at q;cases q;exact hH
  ·rw[a7 z]at q;exact R.sub _ _ q
 ·by_cases z:j=i
  ·subst z;rw[self]at q;cases q;exact⟨_,e,rl⟩
  ·rw[oth j z]at q;obtain⟨v,e1,r1⟩:=R.fz j d q;exact⟨v,e1,r1.mono sF⟩
 ·have z:j≠i:=(mui j ⟨es,q⟩).1
  rw[oth j z]at q
  obtain⟨b,ys,e1,h1,f1,r1⟩:=R.mu j es q
  have nb:b≠a:=fun y=>z (R.inj j i b ⟨es,q⟩ ⟨ds,.inl h⟩ e1 (by rw[y];exact e))
  exact⟨b,ys,e1,h1,by rw[a7 nb];exact f1,r1.mono sF⟩
theorem Rel.put{i:Nat}{d:D}{v:V}(R:Rel K cl σ H F env)(hi:i<env.length)(nh:∀ds,env[i]?≠some (.hd ds))(r:Rp K cl F d v):Rel K cl (σ.set i (some v)) H F (env.set i (.fz d)):=by
 refine⟨R.sub,by rw[List.length_set,List.length_set];exact R.len,fun j e q=>?_,fun j es q=>?_,fun j k b hj hk e1 e2=>?_,R.od.set a08⟩
 ·by_cases z:j=i
  ·subst z
   rw[List.getElem?_set_self hi]at q;cases q
   exact⟨v,List.getElem?_set_self (by rw[R.len];exact hi),r⟩
  ·rw[List.getElem?_set_ne (Ne.symm z)]at q
   obtain⟨u,e1,r1⟩:=R.fz j e q
   exact⟨u,by rw[List.getElem?_set_ne (Ne.symm z)];exact e1,r1⟩
 ·have z:j≠i:=fun z=>by
   subst z
   rw[List.getElem?_set_self hi]at q
   rcases q with q | q<;>cases q
  rw[List.getElem?_set_ne (Ne.symm z)]at q
  obtain⟨a,xs,e1,h1,f1,r1⟩:=R.mu j es q
  exact⟨a,xs,by rw[List.getElem?_set_ne (Ne.symm z)];exact e1,h1,f1,r1⟩
 ·have nz:∀j,Mu (env.set i (.fz d)) j→j≠i∧Mu env j:=fun j ⟨es,q⟩=>by
   by_cases z:j=i
   ·subst z
    rw[List.getElem?_set_self hi]at q
    rcases q with q | q<;>cases q
   ·rw[List.getElem?_set_ne (Ne.symm z)]at q;exact⟨z,es,q⟩
  obtain⟨zj,mj⟩:=nz j hj
  obtain⟨zk,mk⟩:=nz k hk
  rw[List.getElem?_set_ne (Ne.symm zj)]at e1
  rw[List.getElem?_set_ne (Ne.symm zk)]at e2
  exact R.inj j k b mj mk e1 e2
theorem Rel.putO{i:Nat}{ds:List D}{a:Addr}{xs:List V}(R:Rel K cl σ H F env)(hi:i<env.length)(hH:H a=some (.lst xs))(hF:F a=none)(na:∀j,Mu env j→σ[j]?≠some (some (.ref a)))(r:Rps K cl F ds xs):Rel K cl (σ.set i (some (.ref a))) H F (env.set i (.ow ds)):=by
 have his:i<σ.length:=by rw[R.len];exact hi
 have nz:∀j,j≠i→Mu (env.set i (.ow ds)) j→Mu env j:=fun j z ⟨es,q⟩=>by
  rw[List.getElem?_set_ne (Ne.symm z)]at q;exact⟨es,q⟩
 refine⟨R.sub,by rw[List.length_set,List.length_set];exact R.len,fun j e q=>?_,fun j es q=>?_,fun j k b hj hk e1 e2=>?_,R.od.set U5⟩
 ·have z:j≠i:=fun z=>by subst z;rw[List.getElem?_set_self hi]at q;cases q
  rw[List.getElem?_set_ne (Ne.symm z)]at q
  obtain⟨u,e1,r1⟩:=R.fz j e q
  exact⟨u,by rw[List.getElem?_set_ne (Ne.symm z)];exact e1,r1⟩
 ·by_cases z:j=i
  ·subst z
   rw[List.getElem?_set_self hi]at q
   rcases q with q | q
   ·cases q;exact⟨a,xs,List.getElem?_set_self his,hH,hF,r⟩
   ·cases q
  ·rw[List.getElem?_set_ne (Ne.symm z)]at q
   obtain⟨b,ys,e1,h1,f1,r1⟩:=R.mu j es q
   exact⟨b,ys,by rw[List.getElem?_set_ne (Ne.symm z)];exact e1,h1,f1,r1⟩
 ·by_cases zj:j=i
  ·by_cases zk:k=i
   ·rw[zj,zk]
   ·subst zj
    rw[List.getElem?_set_self his]at e1
    rw[List.getElem?_set_ne (Ne.symm zk)]at e2
    cases e1
    exact absurd e2 (na k (nz k zk hk))
  ·rw[List.getElem?_set_ne (Ne.symm zj)]at e1
   by_cases zk:k=i
   ·subst zk
    rw[List.getElem?_set_self his]at e2
    cases e2
    exact absurd e1 (na j (nz j zj hj))
   ·rw[List.getElem?_set_ne (Ne.symm zk)]at e2
    exact R.inj j k b (nz j zj hj) (nz k zk hk) e1 e2
theorem Frm.put{i:Nat}{d:D}{x:Option V}(nh:∀ds,env[i]?≠some (.hd ds)):Frm σ H F env (σ.set i x) H F (env.set i (.fz d)):=by
 refine⟨Same.refl _,fun a o h f w=>⟨h,f,fun⟨j,ds,oo,q,e⟩=>?_⟩,fun j ds q=>?_,fun _ h=>h⟩
 ·by_cases z:j=i
  ·subst z
   have hj:j<env.length:=by have:=(List.getElem?_eq_some_iff.mp q).1;rwa [List.length_set]at this
   rw[List.getElem?_set_self hj]at q
   cases q;exact oo
  ·rw[List.getElem?_set_ne (Ne.symm z)]at q e
   exact w ⟨j,ds,oo,q,e⟩
 ·have z:j≠i:=fun z=>by subst z;exact nh ds q
  rw[List.getElem?_set_ne (Ne.symm z),List.getElem?_set_ne (Ne.symm z)]
  exact⟨q,rfl⟩
theorem Frm.putO{i:Nat}{s0:Sl}{a:Addr}(f:Frm σ H F env σ' H' F' env')(ha:H a=none)(nh:∀ds,env'[i]?≠some (.hd ds)):Frm σ H F env (σ'.set i (some (.ref a))) H' F' (env'.set i s0):=by
 refine⟨f.fz,fun b o h g w=>?_,fun j ds q=>?_,f.dom⟩
 ·obtain⟨h1,f1,w1⟩:=f.hid b o h g w
  refine⟨h1,f1,fun⟨j,ds,oo,q,e⟩=>?_⟩
  by_cases z:j=i
  ·subst z
   have hj:j<σ'.length:=by have:=(List.getElem?_eq_some_iff.mp e).1;rwa [List.length_set]at this
   rw[List.getElem?_set_self hj]at e
   cases e
   rw[ha]at h;cases h
  ·rw[List.getElem?_set_ne (Ne.symm z)]at q e
   exact w1 ⟨j,ds,oo,q,e⟩
 ·obtain⟨q1,e1⟩:=f.keep j ds q
  have z:j≠i:=fun z=>by subst z;exact nh ds q1
  rw[List.getElem?_set_ne (Ne.symm z),List.getElem?_set_ne (Ne.symm z)]
  exact⟨q1,e1⟩
end
inductive XN where | p (c:Str) | v (c f:Str) (d:D)
instance:Coe Str XN:=⟨.p⟩
def XN.nm:XN→Str
 | .p c=>c
 | .v c _ _=>c
def XN.d:XN→D
 | .p c=>.exc c
 | .v c f d=>.exv c f d
def Xf(K:W.Frag)(cl:Str→Addr)(F:Hp):XN→Option Addr→Prop
 | .p _,cx=>cx=none
 | .v _ f d,cx=>∃dx y,cx=some (2*dx+1)∧F dx=some (.xd [(f,y)])∧Rp K cl F d y
inductive R(α:Type) where | ok (a:α) (e:DE) | ex (c:XN)
inductive RS where | nx (e:DE) | rt (d:D) | ro (ds:List D) | rz (dss:List (List D)) | rp (n:Int) (ds:List D) | bk (e:DE) | ct (e:DE) | ex (c:XN)
def bnd{α β:Type}(x:Option (R α))(k:α→DE→Option (R β)):Option (R β):=match x with
 | none=>none
 | some (.ok a e)=>k a e
 | some (.ex c)=>some (.ex c)
def D9{α:Type}(x:Option (R α))(k:α→DE→Option RS):Option RS:=match x with
 | none=>none
 | some (.ok a e)=>k a e
 | some (.ex c)=>some (.ex c)
def opt{α:Type}(x:Option α)(e:DE):Option (R α):=match x with
 | none=>none
 | some a=>some (.ok a e)
@[simp] theorem Y6{α β:Type}(a:α)(e:DE)(k:α→DE→Option (R β)):bnd (some (.ok a e)) k=k a e:=rfl
@[simp] theorem b0B{α β:Type}(c:XN)(k:α→DE→Option (R β)):bnd (some (.ex c)) k=some (.ex c):=rfl
@[simp] theorem b0C{α β:Type}(k:α→DE→Option (R β)):bnd (none:Option (R α)) k=none:=rfl
@[simp] theorem a20{α:Type}(a:α)(e:DE)(k:α→DE→Option RS):D9 (some (.ok a e)) k=k a e:=rfl
@[simp] theorem b0D{α:Type}(c:XN)(k:α→DE→Option RS):D9 (some (.ex c)) k=some (.ex c):=rfl
@[simp] theorem b0E{α:Type}(k:α→DE→Option RS):D9 (none:Option (R α)) k=none:=rfl
@[simp] theorem U6{α:Type}(a:α)(e:DE):opt (some a) e=some (.ok a e):=rfl
@[simp] theorem U7{α:Type}(e:DE):opt (none:Option α) e=none:=rfl
structure FX(σ:St)(H F:Hp)(env:DE)(H' F':Hp):Prop where
 fz:Same F F'
 sub:Same F' H'
 hid:∀a o,H a=some o→F a=none→¬Ow σ env a→H' a=some o∧F' a=none
 dom:∀a,H' a=none→H a=none
section
variable {K:W.Frag}{cl:Str→Addr}{E:XK}{σ σ':St}{H H' H1 F F' F1:Hp}{env env' env1:DE}{α β γ δ:Type}
theorem Frm.fx{H2 F2:Hp}(a:Frm σ H F env σ' H1 F1 env1)(b:FX σ' H1 F1 env1 H2 F2):FX σ H F env H2 F2 :=
 ⟨a.fz.trans b.fz,b.sub,fun x o h f w=>by obtain⟨h1,f1,w1⟩:=a.hid x o h f w;exact b.hid x o h1 f1 w1,fun x h=>a.dom x (b.dom x h)⟩
theorem Frm.toFX(a:Frm σ H F env σ' H1 F1 env1)(s:Same F1 H1):FX σ H F env H1 F1:=⟨a.fz,s,fun x o h f w=>by obtain⟨h1,f1,_⟩:=a.hid x o h f w;exact⟨h1,f1⟩,a.dom⟩
abbrev Py(α β:Type):=α→St→Hp→Hp→Hp→DE→β→Prop
def PM(P:Py α β):Prop:=∀a σ H0 H1 H' F' e b,(∀x:Addr,H1 x=none→H0 x=none)→P a σ H1 H' F' e b→P a σ H0 H' F' e b
def Ct(K:W.Frag)(cl:Str→Addr)(E:XK)(P:Py α β)(r:Option (R α))(σ:St)(H F:Hp)(env:DE)(Q:β→Hp→Prop):Prop:=match r with
 | none=>False
 | some (.ok a e)=>∀b H' F',Frm σ H F env σ H' F' e→Rel K cl σ H' F' e→P a σ H H' F' e b→Q b H'
 | some (.ex c)=>∀H' F',FX σ H F env H' F'→∀cx,Xf K cl F' c cx→E (.ref (cl c.nm)) cx H'
def Rz(K:W.Frag)(cl:Str→Addr)(F' H':Hp)(nw:Addr→Prop)(dss:List (List D))(as:List Addr):Prop:=as.Nodup∧as.length=dss.length∧∀(k:Nat) (a:Addr) (ds:List D),as[k]? = some a→dss[k]? = some ds→∃xs,H' a=some (.lst xs)∧F' a=none∧nw a∧Rps K cl F' ds xs
theorem Rz.imp{nw nw':Addr→Prop}{dss:List (List D)}{as:List Addr}(h:Rz K cl F' H' nw dss as)(i:∀a xs,H' a=some (.lst xs)→F' a=none→nw a→nw' a):Rz K cl F' H' nw' dss as :=
 ⟨h.1,h.2.1,fun k a ds e1 e2=>by obtain⟨xs,h1,h2,h3,h4⟩:=h.2.2 k a ds e1 e2;exact⟨xs,h1,h2,i a xs h1 h2 h3,h4⟩⟩
def Cs(K:W.Frag)(cl:Str→Addr)(E:XK)(r:Option RS)(σ:St)(H F:Hp)(env:DE)(N:Ends):Prop:=match r with
 | none=>False
 | some (.nx e)=>∀σ' H' F',Frm σ H F env σ' H' F' e→Rel K cl σ' H' F' e→N.nx σ' H'
 | some (.bk e)=>∀σ' H' F',Frm σ H F env σ' H' F' e→Rel K cl σ' H' F' e→N.bk σ' H'
 | some (.ct e)=>∀σ' H' F',Frm σ H F env σ' H' F' e→Rel K cl σ' H' F' e→N.ct σ' H'
 | some (.rt d)=>∀v H' F',FX σ H F env H' F'→Rp K cl F' d v→N.rt v H'
 | some (.ro ds)=>∀a xs H' F',FX σ H F env H' F'→H' a=some (.lst xs)→F' a=none→(∀o,H a=some o→Ow σ env a)→Rps K cl F' ds xs→N.rt (.ref a) H'
 | some (.rz dss)=>∀p as H' F',FX σ H F env H' F'→H p=none→H' p=some (.tup (as.map V.ref))→F' p=none→Rz K cl F' H' (fun a=>∀o,H a=some o→Ow σ env a) dss as→N.rt (.ref p) H'
 | some (.rp n ds)=>∀p a xs H' F',FX σ H F env H' F'→H p=none→H' p=some (.tup [.int n,.ref a])→F' p=none→H' a=some (.lst xs)→F' a=none→(∀o,H a=some o→Ow σ env a)→Rps K cl F' ds xs→N.rt (.ref p) H'
 | some (.ex c)=>∀H' F',FX σ H F env H' F'→∀cx,Xf K cl F' c cx→E (.ref (cl c.nm)) cx H'
theorem Ct.mono{P:Py α β}{r:Option (R α)}{Q Q':β→Hp→Prop}(h:Ct K cl E P r σ H F env Q)(q:∀b H',Q b H'→Q' b H'):Ct K cl E P r σ H F env Q':=by
 unfold Ct at h ⊢
 split at h
 ·exact h
 ·exact fun b H' F' f R p=>q _ _ (h b H' F' f R p)
 ·exact h
theorem Ct.from{P2:Py γ δ}{r:Option (R γ)}{Q:δ→Hp→Prop}(f:Frm σ H F env σ H1 F1 env1)(pm:PM P2)(h:Ct K cl E P2 r σ H F env Q):Ct K cl E P2 r σ H1 F1 env1 Q:=by
 unfold Ct at h ⊢
 split at h
 ·exact h
 ·exact fun b H' F' f2 R2 p2=>h b H' F' (f.trans f2) R2 (pm _ _ _ _ _ _ _ _ f.dom p2)
 ·exact fun H' F' x=>h H' F' (f.fx x)
theorem Ct.bnd{P1:Py α β}{P2:Py γ δ}{r:Option (R α)}{k:α→DE→Option (R γ)}{Q:δ→Hp→Prop}(h:Ct K cl E P2 (bnd r k) σ H F env Q)(pm:PM P2) :
  Ct K cl E P1 r σ H F env fun b H1=>∃F1 env1 a,Same F F1∧Rel K cl σ H1 F1 env1∧P1 a σ H H1 F1 env1 b∧Ct K cl E P2 (k a env1) σ H1 F1 env1 Q:=by
 unfold Ct
 rcases r with _ | ⟨a,e⟩ | c
 ·exact h
 ·intro b H1 F1 f R p
  refine⟨F1,e,a,f.fz,R,p,?_⟩
  have h:Ct K cl E P2 (k a e) σ H F env Q:=h
  exact Ct.from f pm h
 ·exact h
theorem Cs.from{r:Option RS}{N:Ends}(f:Frm σ H F env σ' H1 F1 env1)(h:Cs K cl E r σ H F env N):Cs K cl E r σ' H1 F1 env1 N:=by
 unfold Cs at h ⊢
 split at h
 ·exact h
 ·exact fun σ' H' F' f2 R2=>h σ' H' F' (f.trans f2) R2
 ·exact fun σ' H' F' f2 R2=>h σ' H' F' (f.trans f2) R2
 ·exact fun σ' H' F' f2 R2=>h σ' H' F' (f.trans f2) R2
 ·exact fun v H' F' x p=>h v H' F' (f.fx x) p
 ·refine fun a xs H' F' x ha fa nw p=>h a xs H' F' (f.fx x) ha fa (fun o e=>?_) p
  refine Classical.byContradiction fun w=>?_
  cases q:F a with
  | none =>
   obtain⟨h1,f1,w1⟩:=f.hid a o e q w
   exact w1 (nw o h1)
  | some u=>rw[x.fz _ _ (f.fz _ _ q)]at fa;cases fa
 ·refine fun p as H' F' x hp ht fp rz=>h p as H' F' (f.fx x) (f.dom p hp) ht fp (rz.imp fun a xs ha fa nw o e=>?_)
  refine Classical.byContradiction fun w=>?_
  cases q:F a with
  | none =>
   obtain⟨h1,f1,w1⟩:=f.hid a o e q w
   exact w1 (nw o h1)
  | some u=>rw[x.fz _ _ (f.fz _ _ q)]at fa;cases fa
 ·refine fun p a xs H' F' x hp ht fp ha fa nw r=>h p a xs H' F' (f.fx x) (f.dom p hp) ht fp ha fa (fun o e=>?_) r
  refine Classical.byContradiction fun w=>?_
  cases q:F a with
  | none =>
   obtain⟨h1,f1,w1⟩:=f.hid a o e q w
   exact w1 (nw o h1)
  | some u=>rw[x.fz _ _ (f.fz _ _ q)]at fa;cases fa
 ·exact fun H' F' x=>h H' F' (f.fx x)
theorem Cs.bnd{P1:Py α β}{r:Option (R α)}{k:α→DE→Option RS}{N:Ends}(h:Cs K cl E (D9 r k) σ H F env N) :
  Ct K cl E P1 r σ H F env fun b H1=>∃F1 env1 a,Frm σ H F env σ H1 F1 env1∧Rel K cl σ H1 F1 env1∧P1 a σ H H1 F1 env1 b∧Cs K cl E (k a env1) σ H F env N:=by
 unfold Ct
 rcases r with _ | ⟨a,e⟩ | c
 ·exact h
 ·intro b H1 F1 f R p
  exact⟨F1,e,a,f,R,p,h⟩
 ·exact h
end
def PZ(K:W.Frag)(cl:Str→Addr):Py D V:=fun d _ _ _ F' _ v=>Rp K cl F' d v
def PAs(K:W.Frag)(cl:Str→Addr):Py (List D) (List V):=fun ds _ _ _ F' _ vs=>Rps K cl F' ds vs
def PB:Py Bool Bool:=fun b _ _ _ _ _ c=>c=b
def PI':Py (Option Int) (Option Int):=fun b _ _ _ _ _ c=>c=b
def PN(K:W.Frag)(cl:Str→Addr):Py (List D) V:=fun ds σ H H' F' e v=>∃a xs,v=.ref a∧H a=none∧H' a=some (.lst xs)∧F' a=none∧(∀j,Mu e j→σ[j]?≠some (some (.ref a)))∧Rps K cl F' ds xs
theorem M1{K cl}:PM (PZ K cl):=fun _ _ _ _ _ _ _ _ _ h=>h
theorem b0F{K cl}:PM (PAs K cl):=fun _ _ _ _ _ _ _ _ _ h=>h
theorem a6N:PM PB:=fun _ _ _ _ _ _ _ _ _ h=>h
theorem b2a:PM PI':=fun _ _ _ _ _ _ _ _ _ h=>h
theorem a0E{K cl}:PM (PN K cl):=fun _ _ _ _ _ _ _ _ g ⟨a,xs,e,h,r⟩=>⟨a,xs,e,g a h,r⟩
abbrev ZF:=DE→Option (R D)
abbrev NF:=DE→Option (R (List D))
abbrev AF:=DE→Option (R (List D))
abbrev BF:=DE→Option (R Bool)
abbrev OF:=DE→Option (R (Option Int))
abbrev SF:=DE→Option RS
section
variable (K:W.Frag)(cl:Str→Addr)(E:XK)
def k8(t:TE)(f:ZF):Prop:=∀σ H Q env F,Rel K cl σ H F env→Ct K cl E (PZ K cl) (f env) σ H F env Q→t σ H Q
def Q0(t:TE)(f:NF):Prop:=∀σ H Q env F,Rel K cl σ H F env→Ct K cl E (PN K cl) (f env) σ H F env Q→t σ H Q
def K9(t:TA)(f:AF):Prop:=∀σ H Q env F,Rel K cl σ H F env→Ct K cl E (PAs K cl) (f env) σ H F env Q→t σ H Q
def M6(t:TT)(f:BF):Prop:=∀σ H Q env F,Rel K cl σ H F env→Ct K cl E PB (f env) σ H F env Q→t σ H Q
def RfO(t:TO)(f:OF):Prop:=∀σ H Q env F,Rel K cl σ H F env→Ct K cl E PI' (f env) σ H F env Q→t σ H Q
def RfS(t:TS)(f:SF):Prop:=∀(N:Ends) σ H env F,Rel K cl σ H F env→Cs K cl E (f env) σ H F env N→t N σ H
end
def eC(d:D):ZF:=fun e=>some (.ok d e)
def eV(i:Nat):ZF:=fun e=>match e[i]? with
 | some (.fz d)=>some (.ok d e)
 | some (.ow ds)=>some (.ok (.lst ds) (e.set i (.fz (.lst ds))))
 | _=>none
def look(e:DE)(i:Nat):Option D:=match e[i]? with
 | some (.fz d)=>some d
 | some (.ow ds)=>some (.lst ds)
 | some (.hd ds)=>some (.lst ds)
 | _=>none
def Rb(K:W.Frag)(cl:Str→Addr)(F H:Hp)(d:D)(v:V):Prop:=Rp K cl F d v∨∃a xs ds,v=.ref a∧d=.lst ds∧H a=some (.lst xs)∧Rps K cl F ds xs
section
variable {K:W.Frag}{cl:Str→Addr}{E:XK}{σ:St}{H F:Hp}{env:DE}
theorem Rel.look{i:Nat}{d:D}(R:Rel K cl σ H F env)(h:look env i=some d):∃v,σ[i]? = some (some v)∧Rb K cl F H d v:=by
 unfold L2.look at h
 split at h
 ·rename_i q;cases h;obtain⟨v,e,r⟩:=R.fz i d q;exact⟨v,e,.inl r⟩
 ·rename_i ds q;cases h;obtain⟨a,xs,e,hH,_,r⟩:=R.mu i ds (.inl q);exact⟨_,e,.inr ⟨a,xs,ds,rfl,rfl,hH,r⟩⟩
 ·rename_i ds q;cases h;obtain⟨a,xs,e,hH,_,r⟩:=R.mu i ds (.inr q);exact⟨_,e,.inr ⟨a,xs,ds,rfl,rfl,hH,r⟩⟩
 ·cases h
theorem b9{v:V}{d:D}(h:∀F,Rp K cl F d v:=by intro F;simp only[Rp]):k8 K cl E (tC v) (eC d):=fun σ H Q env F R h'=>h' v H F Frm.refl R (h F)
theorem b6{i:Nat}:k8 K cl E (D0 i) (eV i):=by
 intro σ H Q env F R h
 unfold eV at h
 split at h
 ·rename_i d q
  obtain⟨v,e,r⟩:=R.fz i d q
  exact⟨v,e,h v H F Frm.refl R r⟩
 ·rename_i ds q
  obtain⟨a,F',e,fr,R',r⟩:=R.freeze q
  exact⟨_,e,h _ H F' fr R' r⟩
 ·exact h.elim
end
def OpOk(K:W.Frag)(cl:Str→Addr)(r:R2)(g:D→D→Option D):Prop:=∀x y d e z H F Q,Same F H→Rb K cl F H d x→Rb K cl F H e y→g d e=some z→(∀v H' F',Gr H F H' F'→Rp K cl F' z v→Q v H')→r x y H Q
def eB(g:D→D→Option D)(f k:ZF):ZF:=fun e=>bnd (f e) fun d e1=>bnd (k e1) fun d' e2=>opt (g d d') e2
def O6(g:D→D→Option D)(i:Nat)(k:ZF):ZF:=fun e=>match look e i with
 | none=>none
 | some _=>bnd (k e) fun d' e2=>match look e2 i with
  | some d=>opt (g d d') e2
  | none=>none
section
variable {K:W.Frag}{cl:Str→Addr}{E:XK}{r:R2}{g:D→D→Option D}{ta tb:TE}{f k:ZF}{i j:Nat}
theorem OpOk.fin{σ:St}{H F:Hp}{env:DE}{x y:V}{d e:D}{Q:VK}(ok:OpOk K cl r g)(R:Rel K cl σ H F env)(hx:Rb K cl F H d x)(hy:Rb K cl F H e y)(h:Ct K cl E (PZ K cl) (opt (g d e) env) σ H F env Q):r x y H Q:=by
 cases hz:g d e with
 | none=>rw[hz]at h;exact h.elim
 | some z =>
  rw[hz]at h
  exact ok x y d e z H F Q R.sub hx hy hz fun v H' F' gr p=>h v H' F' (R.frm gr) (R.gr gr) p
theorem d7(ok:OpOk K cl r g)(ha:k8 K cl E ta f)(hb:k8 K cl E tb k):k8 K cl E (tOp r ta tb) (eB g f k):=by
 intro σ H Q env F R h
 refine ha σ H _ env F R ((Ct.bnd h M1).mono fun x H1 ⟨F1,e1,d,s1,R1,p1,h1⟩=>?_)
 refine hb σ H1 _ e1 F1 R1 ((Ct.bnd h1 M1).mono fun y H2 ⟨F2,e2,e,s2,R2,p2,h2⟩=>?_)
 exact ok.fin R2 (.inl (Rp.mono s2 _ _ p1)) (.inl p2) h2
theorem S5(ok:OpOk K cl r g)(hb:k8 K cl E tb k):k8 K cl E (tOp r (D0 i) tb) (O6 g i k):=by
 intro σ H Q env F R h
 unfold O6 at h
 cases q:look env i with
 | none=>rw[q]at h;exact h.elim
 | some d0 =>
  rw[q]at h
  obtain⟨x,e0,_⟩:=R.look q
  refine⟨x,e0,hb σ H _ env F R ((Ct.bnd h M1).mono fun y H2 ⟨F2,e2,e,s2,R2,p2,h2⟩=>?_)⟩
  cases q2:look e2 i with
  | none=>rw[q2]at h2;exact h2.elim
  | some d =>
   rw[q2]at h2
   obtain⟨x',e',rb⟩:=R2.look q2
   rw[e0]at e';cases e'
   exact ok.fin R2 rb (.inl p2) h2
end
section
variable {K:W.Frag}{cl:Str→Addr}{E:XK}
theorem Rb.int{F H:Hp}{i:Int}{v:V}(h:Rb K cl F H (.int i) v):v=.int i:=by
 rcases h with h | ⟨_,_,_,_,z,_⟩
 ·simpa only[Rp]using h
 ·cases z
theorem Rb.bl{F H:Hp}{i:Bool}{v:V}(h:Rb K cl F H (.bl i) v):v=.bl i:=by
 rcases h with h | ⟨_,_,_,_,z,_⟩
 ·simpa only[Rp]using h
 ·cases z
theorem Rb.str{F H:Hp}{i:Str}{v:V}(h:Rb K cl F H (.str i) v):v=.str i:=by
 rcases h with h | ⟨_,_,_,_,z,_⟩
 ·simpa only[Rp]using h
 ·cases z
theorem Rb.non{F H:Hp}{v:V}(h:Rb K cl F H .non v):v=.non:=by
 rcases h with h | ⟨_,_,_,_,z,_⟩
 ·simpa only[Rp]using h
 ·cases z
theorem Rb.lst{F H:Hp}{ds:List D}{v:V}(s:Same F H)(h:Rb K cl F H (.lst ds) v):∃a xs,v=.ref a∧H a=some (.lst xs)∧Rps K cl F ds xs:=by
 rcases h with h | ⟨a,xs,ds',e,z,h,r⟩
 ·simp only[Rp]at h
  obtain⟨a,xs,e,h,r⟩:=h
  exact⟨a,xs,e,s _ _ h,r⟩
 ·cases z;exact⟨a,xs,e,h,r⟩
theorem Rb.tup{F H:Hp}{ds:List D}{v:V}(s:Same F H)(h:Rb K cl F H (.tup ds) v):∃a xs,v=.ref a∧H a=some (.tup xs)∧Rps K cl F ds xs:=by
 rcases h with h | ⟨_,_,_,_,z,_⟩
 ·simp only[Rp]at h
  obtain⟨a,xs,e,h,r⟩:=h
  exact⟨a,xs,e,s _ _ h,r⟩
 ·cases z
theorem Rb.scr{F H:Hp}{ns:List Int}{v:V}(s:Same F H)(h:Rb K cl F H (.scr ns) v):∃a,v=.ref a∧Scr K H a (ns.map V.int):=by
 rcases h with h | ⟨_,_,_,_,z,_⟩
 ·simp only[Rp]at h
  obtain⟨a,e,h⟩:=h
  exact⟨a,e,h.same s⟩
 ·cases z
def gI(C:Int→Int→Prop) [∀i j,Decidable (C i j)] (g:Int→Int→D):D→D→Option D
 | .int i,.int j=>if C i j then some (g i j)else none
 | _,_=>none
def gI0(g:Int→Int→D):D→D→Option D
 | .int i,.int j=>some (g i j)
 | _,_=>none
theorem a4D{C:Int→Int→Prop} [∀i j,Decidable (C i j)] {g:Int→Int→V} {g':Int→Int→D} (hg:∀F i j,Rp K cl F (g' i j) (g i j)):OpOk K cl (rI C g) (gI C g'):=by
 intro x y d e z H F Q s hx hy h q
 unfold gI at h
 split at h
 ·rename_i i j
  split at h
  ·rename_i c;cases h
   exact⟨i,j,hx.int,hy.int,c,q _ H F (.refl s) (hg F i j)⟩
  ·cases h
 ·cases h
theorem a2w{g:Int→Int→V}{g':Int→Int→D}(hg:∀F i j,Rp K cl F (g' i j) (g i j)):OpOk K cl (X1 g) (gI0 g'):=by
 intro x y d e z H F Q s hx hy h q
 unfold gI0 at h
 split at h
 ·rename_i i j
  cases h
  exact⟨i,j,hx.int,hy.int,q _ H F (.refl s) (hg F i j)⟩
 ·cases h
end
section
variable {K:W.Frag}{cl:Str→Addr}{E:XK}{σ:St}{H F:Hp}{env:DE}
theorem Rel.newN{p:Addr}{o:HO}(R:Rel K cl σ H F env)(hp:H p=none):Rel K cl σ (upd H p o) F env∧Frm σ H F env σ (upd H p o) F env:=by
 have fp:F p=none:=R.sub.free hp
 have ne:∀a u,H a=some u→a≠p:=fun a u h z=>by rw[z,hp]at h;cases h
 refine⟨⟨R.sub.trans (G6 hp _),R.len,R.fz,fun i ds h=>?_,R.inj,R.od.newO hp⟩,⟨Same.refl _,fun a u h f w=>?_,fun _ _ h=>⟨h,rfl⟩,fun a h=>?_⟩⟩
 ·obtain⟨a,xs,e,hH,hF,r⟩:=R.mu i ds h
  exact⟨a,xs,e,by rw[a7 (ne _ _ hH)];exact hH,hF,r⟩
 ·exact⟨by rw[a7 (ne _ _ h)];exact h,f,w⟩
 ·by_cases z:a=p
  ·rw[z];exact hp
  ·rw[a7 z]at h;exact h
theorem Ct.newN{p:Addr}{xs:List V}{ds:List D}{Q:VK}(R:Rel K cl σ H F env)(hp:H p=none)(r:Rps K cl F ds xs)(h:Ct K cl E (PN K cl) (some (.ok ds env)) σ H F env Q):Q (.ref p) (upd H p (.lst xs)):=by
 obtain⟨R',f⟩:=R.newN (o:=.lst xs) hp
 refine h _ _ F f R' ⟨p,xs,rfl,hp,c8,R.sub.free hp,fun j mj e=>?_,r⟩
 obtain⟨ds',q⟩:=mj
 obtain⟨a,ys,e1,hH,_⟩:=R.mu j ds' q
 rw[e]at e1;cases e1
 rw[hp]at hH;cases hH
def zN(f:NF):ZF:=fun e=>bnd (f e) fun ds e1=>some (.ok (.lst ds) e1)
theorem Q1{t:TE}{f:NF}(h:Q0 K cl E t f):k8 K cl E t (zN f):=by
 intro σ H Q env F R q
 refine h σ H Q env F R ?_
 unfold zN at q
 rcases hf:f env with _ | ⟨ds,e1⟩ | c
 ·rw[hf]at q;exact q
 ·rw[hf]at q
  rintro b H' F' fr R' ⟨a,xs,rfl,hn,hH,hF,nm,r⟩
  have sF:Same F' (upd F' a (.lst xs)):=G6 hF _
  refine q _ H' (upd F' a (.lst xs)) ⟨fr.fz.trans sF,fun b o hb fb w=>?_,fr.keep,fr.dom⟩ ⟨fun b o z=>?_,R'.len,fun i d z=>?_,fun i es z=>?_,R'.inj,R'.od.frzL hH hF⟩ (by show Rp K cl _ (.lst ds) _;simp only[Rp];exact⟨a,xs,rfl,c8,r.mono sF⟩)
  ·obtain⟨h1,f1,w1⟩:=fr.hid b o hb fb w
   have nb:b≠a:=fun z=>by rw[z,hn]at hb;cases hb
   exact⟨h1,by rw[a7 nb];exact f1,w1⟩
  ·by_cases y:b=a
   ·subst y;rw[c8]at z;cases z;exact hH
   ·rw[a7 y]at z;exact R'.sub _ _ z
  ·obtain⟨v,e,r1⟩:=R'.fz i d z
   exact⟨v,e,r1.mono sF⟩
  ·obtain⟨b,ys,e,h1,f1,r1⟩:=R'.mu i es z
   have nb:b≠a:=fun y=>nm i ⟨es,z⟩ (by rw[e,y])
   exact⟨b,ys,e,h1,by rw[a7 nb];exact f1,r1.mono sF⟩
 ·rw[hf]at q;exact q
def aN:AF:=fun e=>some (.ok [] e)
def aC(f:ZF)(k:AF):AF:=fun e=>bnd (f e) fun d e1=>bnd (k e1) fun ds e2=>some (.ok (d::ds) e2)
theorem c7:K9 K cl E X2 aN:=fun σ H Q env F R h=>h [] H F Frm.refl R .nil
theorem a8{te:TE}{ta:TA}{f:ZF}{k:AF}(hf:k8 K cl E te f)(hk:K9 K cl E ta k):K9 K cl E (M8 te ta) (aC f k):=by
 intro σ H Q env F R h
 refine hf σ H _ env F R ((Ct.bnd h b0F).mono fun x H1 ⟨F1,e1,d,s1,R1,p1,h1⟩=>?_)
 refine hk σ H1 _ e1 F1 R1 ((Ct.bnd h1 b0F).mono fun xs H2 ⟨F2,e2,ds,s2,R2,p2,h2⟩=>?_)
 exact h2 (x::xs) H2 F2 Frm.refl R2 (.cons (Rp.mono s2 _ _ p1) p2)
def eT(f:AF):ZF:=fun e=>bnd (f e) fun ds e1=>if ds.length≤sizeLine then some (.ok (.tup ds) e1)else none
def eL(f:AF):NF:=fun e=>bnd (f e) fun ds e1=>if ds.length≤sizeLine then some (.ok ds e1)else none
theorem a1J{ta:TA}{f:AF}(hf:K9 K cl E ta f):k8 K cl E (a92 ta) (eT f):=by
 intro σ H Q env F R h
 refine hf σ H _ env F R ((Ct.bnd h M1).mono fun xs H1 ⟨F1,e1,ds,s1,R1,p1,h1⟩=>?_)
 have hl:ds.length=xs.length:=Rps.length p1
 split at h1
 ·rename_i z
  refine⟨by rw[← hl];exact z,fun p hp=>?_⟩
  have g:Gr H1 F1 (upd H1 p (.tup xs)) (upd F1 p (.tup xs)):=.new R1.sub hp
  exact h1 _ _ _ (R1.frm g) (R1.gr g) (by show Rp K cl _ (.tup ds) _;simp only[Rp];exact⟨p,xs,rfl,c8,Rps.mono g.fz _ _ p1⟩)
 ·exact h1.elim
theorem Q9{ta:TA}{f:AF}(hf:K9 K cl E ta f):Q0 K cl E (a93 ta) (eL f):=by
 intro σ H Q env F R h
 refine hf σ H _ env F R ((Ct.bnd h a0E).mono fun xs H1 ⟨F1,e1,ds,s1,R1,p1,h1⟩=>?_)
 have hl:ds.length=xs.length:=Rps.length p1
 split at h1
 ·rename_i z
  exact⟨by rw[← hl];exact z,fun p hp=>Ct.newN R1 hp p1 h1⟩
 ·exact h1.elim
def bZ(f:ZF):BF:=fun e=>bnd (f e) fun d e1=>match d with
 | .bl b=>some (.ok b e1)
 | _=>none
theorem Z9{t:TE}{f:ZF}(hf:k8 K cl E t f):M6 K cl E (tB t) (bZ f):=by
 intro σ H Q env F R h
 refine hf σ H _ env F R ((Ct.bnd h a6N).mono fun x H1 ⟨F1,e1,d,s1,R1,p1,h1⟩=>?_)
 split at h1
 ·rename_i b
  have:x=.bl b:=by have:=(show Rp K cl F1 (.bl b) x from p1);simpa only[Rp]using this
  exact⟨b,this,h1 b H1 F1 Frm.refl R1 rfl⟩
 ·exact h1.elim
theorem F5{t:TE}{f:ZF}(hf:k8 K cl E t f):M6 K cl E (a7G t) (bZ f):=Z9 hf
def U8(f:BF):BF:=fun e=>bnd (f e) fun b e1=>some (.ok (!b) e1)
def a6O(f k:BF):BF:=fun e=>bnd (f e) fun b e1=>if b=true then k e1 else some (.ok false e1)
theorem a1K{t:TT}{f:BF}(hf:M6 K cl E t f):M6 K cl E (a9V t) (U8 f):=by
 intro σ H Q env F R h
 refine hf σ H _ env F R ((Ct.bnd h a6N).mono fun x H1 ⟨F1,e1,d,s1,R1,p1,h1⟩=>?_)
 cases (show x=d from p1)
 exact h1 _ H1 F1 Frm.refl R1 rfl
theorem a8C{t u:TT}{f k:BF}(hf:M6 K cl E t f)(hk:M6 K cl E u k):M6 K cl E (a9U t u) (a6O f k):=by
 intro σ H Q env F R h
 refine hf σ H _ env F R ((Ct.bnd h a6N).mono fun x H1 ⟨F1,e1,d,s1,R1,p1,h1⟩=>?_)
 cases (show x=d from p1)
 by_cases z:x=true
 ·rw[if_pos z]at h1 ⊢;exact hk σ H1 Q e1 F1 R1 h1
 ·rw[if_neg z]at h1 ⊢;exact h1 _ H1 F1 Frm.refl R1 rfl
def a6P(f:ZF):ZF:=fun e=>bnd (f e) fun d e1=>match d with
 | .bl b=>some (.ok (.bl (!b)) e1)
 | _=>none
def Y7(f k:ZF):ZF:=fun e=>bnd (f e) fun d e1=>match d with
 | .bl b=>if b=true then k e1 else some (.ok (.bl false) e1)
 | _=>none
theorem b0G{t:TE}{f:ZF}(hf:k8 K cl E t f):k8 K cl E (a7A t) (a6P f):=by
 intro σ H Q env F R h
 refine hf σ H _ env F R ((Ct.bnd h M1).mono fun x H1 ⟨F1,e1,d,s1,R1,p1,h1⟩=>?_)
 split at h1
 ·rename_i b
  have:x=.bl b:=by have:=(show Rp K cl F1 (.bl b) x from p1);simpa only[Rp]using this
  exact⟨b,this,h1 _ H1 F1 Frm.refl R1 (by show Rp K cl F1 (.bl _) _;simp only[Rp])⟩
 ·exact h1.elim
theorem a0_{t u:TE}{f k:ZF}(hf:k8 K cl E t f)(hk:k8 K cl E u k):k8 K cl E (a7z t u) (Y7 f k):=by
 intro σ H Q env F R h
 refine hf σ H _ env F R ((Ct.bnd h M1).mono fun x H1 ⟨F1,e1,d,s1,R1,p1,h1⟩=>?_)
 split at h1
 ·rename_i b
  have:x=.bl b:=by have:=(show Rp K cl F1 (.bl b) x from p1);simpa only[Rp]using this
  refine⟨b,this,?_⟩
  by_cases z:b=true
  ·rw[if_pos z]at h1 ⊢;exact hk σ H1 Q e1 F1 R1 h1
  ·rw[if_neg z]at h1 ⊢;exact h1 _ H1 F1 Frm.refl R1 (by show Rp K cl F1 (.bl _) _;simp only[Rp])
 ·exact h1.elim
def nIf(c:BF)(f k:NF):NF:=fun e=>bnd (c e) fun b e1=>if b=true then f e1 else k e1
theorem b0I{c:TT}{t u:TE}{b:BF}{f k:NF}(hc:M6 K cl E c b)(hf:Q0 K cl E t f)(hk:Q0 K cl E u k):Q0 K cl E (tIf c t u) (nIf b f k):=by
 intro σ H Q env F R h
 refine hc σ H _ env F R ((Ct.bnd h a0E).mono fun x H1 ⟨F1,e1,d,s1,R1,p1,h1⟩=>?_)
 cases (show x=d from p1)
 by_cases z:x=true
 ·rw[if_pos z]at h1 ⊢;exact hf σ H1 Q e1 F1 R1 h1
 ·rw[if_neg z]at h1 ⊢;exact hk σ H1 Q e1 F1 R1 h1
def b0J(K:W.Frag)(cl:Str→Addr)(r:V→Hp→VK→Prop)(g:D→Option D):Prop:=∀x d z H F Q,Same F H→Rb K cl F H d x→g d=some z→(∀v H' F',Gr H F H' F'→Rp K cl F' z v→Q v H')→r x H Q
def eU(g:D→Option D)(f:ZF):ZF:=fun e=>bnd (f e) fun d e1=>opt (g d) e1
theorem b2b{r:V→Hp→VK→Prop}{g:D→Option D}{t:TE}{f:ZF}(ok:b0J K cl r g)(hf:k8 K cl E t f):k8 K cl E (tUn r t) (eU g f):=by
 intro σ H Q env F R h
 refine hf σ H _ env F R ((Ct.bnd h M1).mono fun x H1 ⟨F1,e1,d,s1,R1,p1,h1⟩=>?_)
 cases hz:g d with
 | none=>rw[hz]at h1;exact h1.elim
 | some z =>
  rw[hz]at h1
  exact ok x d z H1 F1 Q R1.sub (.inl p1) hz fun v H' F' gr p=>h1 v H' F' (R1.frm gr) (R1.gr gr) p
def a4E(K:W.Frag)(cl:Str→Addr)(r:List V→Hp→VK→Prop)(g:List D→Option D):Prop:=∀xs ds z H F Q,Same F H→Rps K cl F ds xs→g ds=some z→(∀v H' F',Gr H F H' F'→Rp K cl F' z v→Q v H')→r xs H Q
def CbOk1(K:W.Frag)(cl:Str→Addr)(r:List V→Hp→VK→Prop)(g:D→Option D):Prop:=∀x d z H F Q,Same F H→Rb K cl F H d x→g d=some z→(∀v H' F',Gr H F H' F'→Rp K cl F' z v→Q v H')→r [x] H Q
def y6(g:List D→Option D)(f:AF):ZF:=fun e=>bnd (f e) fun ds e1=>opt (g ds) e1
def eCV(g:D→Option D)(i:Nat):ZF:=fun e=>match look e i with
 | some d=>opt (g d) e
 | none=>none
theorem F6{r:List V→Hp→VK→Prop}{g:List D→Option D}{t:TA}{f:AF}(ok:a4E K cl r g)(hf:K9 K cl E t f):k8 K cl E (tCB r t) (y6 g f):=by
 intro σ H Q env F R h
 refine hf σ H _ env F R ((Ct.bnd h M1).mono fun x H1 ⟨F1,e1,d,s1,R1,p1,h1⟩=>?_)
 cases hz:g d with
 | none=>rw[hz]at h1;exact h1.elim
 | some z =>
  rw[hz]at h1
  exact ok x d z H1 F1 Q R1.sub p1 hz fun v H' F' gr p=>h1 v H' F' (R1.frm gr) (R1.gr gr) p
theorem a4F{r:List V→Hp→VK→Prop}{g:D→Option D}{i:Nat}(ok:CbOk1 K cl r g):k8 K cl E (tCB r (M8 (D0 i) X2)) (eCV g i):=by
 intro σ H Q env F R h
 unfold eCV at h
 cases q:look env i with
 | none=>rw[q]at h;exact h.elim
 | some d =>
  rw[q]at h
  obtain⟨x,e,rb⟩:=R.look q
  refine⟨x,e,?_⟩
  cases hz:g d with
  | none=>simp only[hz,U7]at h;exact h.elim
  | some z =>
   simp only[hz,U6]at h
   exact ok x d z H F Q R.sub rb hz fun v H' F' gr p=>h v H' F' (R.frm gr) (R.gr gr) p
def g1(g:D→Option D):List D→Option D
 | [d]=>g d
 | _=>none
theorem CbOk1.cb{r:List V→Hp→VK→Prop}{g:D→Option D}(ok:CbOk1 K cl r g):a4E K cl r (g1 g):=by
 intro xs ds z H F Q s hx h q
 unfold g1 at h
 split at h
 ·obtain⟨v,r,rfl,h1,h2⟩:=hx.inv
  rw[h2.inv0]
  exact ok v _ z H F Q s (.inl h1) h q
 ·cases h
def b0K(K:W.Frag)(cl:Str→Addr)(r:List V→Hp→VK→Prop)(g:D→Option (List D)):Prop:=∀x d zs H F Q,Same F H→Rb K cl F H d x→g d=some zs→(∀p xs,H p=none→Rps K cl F zs xs→Q (.ref p) (upd H p (.lst xs)))→r [x] H Q
def V9(g:D→Option (List D))(i:Nat):NF:=fun e=>match look e i with
 | some d=>opt (g d) e
 | none=>none
theorem a21{r:List V→Hp→VK→Prop}{g:D→Option (List D)}{i:Nat}(ok:b0K K cl r g):Q0 K cl E (tCB r (M8 (D0 i) X2)) (V9 g i):=by
 intro σ H Q env F R h
 unfold V9 at h
 cases q:look env i with
 | none=>rw[q]at h;exact h.elim
 | some d =>
  rw[q]at h
  obtain⟨x,e,rb⟩:=R.look q
  refine⟨x,e,?_⟩
  cases hz:g d with
  | none=>simp only[hz,U7]at h;exact h.elim
  | some z =>
   simp only[hz,U6]at h
   exact ok x d z H F Q R.sub rb hz fun p xs hp r=>Ct.newN R hp r h
end
section
variable {K:W.Frag}{cl:Str→Addr}{E:XK}{σ:St}{H F:Hp}{env:DE}
instance decMul(i j:Int):Decidable (IntMulOk i j):=by unfold IntMulOk;infer_instance
instance decPow(i j:Int):Decidable (a1v i j):=by unfold a1v;infer_instance
abbrev t7:=gI0 fun i j=>.int (i+j)
abbrev a0F:=gI IntMulOk fun i j=>.int (i*j)
abbrev R5:=gI (fun _ j=>0<j∧j.natAbs.log2<9000) fun i j=>.int (i/j)
abbrev A7:=gI (fun _ j=>0<j) fun i j=>.int (i%j)
abbrev O7:=gI a1v fun i j=>.int (i ^ j.toNat)
abbrev gLt:=gI0 fun i j=>.bl (decide (i<j))
abbrev gLe:=gI0 fun i j=>.bl (decide (i≤j))
abbrev gGt:=gI0 fun i j=>.bl (decide (j<i))
theorem B5:OpOk K cl (X1 fun i j=>.int (i+j)) t7:=a2w fun F i j=>by simp only[Rp]
theorem a5E:OpOk K cl (rI IntMulOk fun i j=>.int (i*j)) a0F:=a4D fun F i j=>by simp only[Rp]
theorem a1a:OpOk K cl (rI (fun _ j=>0<j∧j.natAbs.log2<9000) fun i j=>.int (i/j)) R5:=a4D fun F i j=>by simp only[Rp]
theorem L3:OpOk K cl (rI (fun _ j=>0<j) fun i j=>.int (i%j)) A7:=a4D fun F i j=>by simp only[Rp]
theorem a5F:OpOk K cl (rI a1v fun i j=>.int (i ^ j.toNat)) O7:=a4D fun F i j=>by simp only[Rp]
theorem b1y:OpOk K cl (X1 fun i j=>.bl (decide (i<j))) gLt:=a2w fun F i j=>by simp only[Rp]
theorem b1z:OpOk K cl (X1 fun i j=>.bl (decide (i≤j))) gLe:=a2w fun F i j=>by simp only[Rp]
theorem a2x:OpOk K cl (X1 fun i j=>.bl (decide (j<i))) gGt:=a2w fun F i j=>by simp only[Rp]
def toV:D→Option V
 | .non=>some .non
 | .bl b=>some (.bl b)
 | .int i=>some (.int i)
 | .str x=>some (.str x)
 | _=>none
theorem Rb.toV{d:D}{v u:V}(h:Rb K cl F H d v)(e:toV d=some u):v=u:=by
 cases d with
 | non=>cases e;exact h.non
 | bl b=>cases e;exact h.bl
 | int i=>cases e;exact h.int
 | str x=>cases e;exact h.str
 | _=>cases e
def B6(neg:Bool)(d e:D):Option D:=match toV d,toV e with
 | some x,some y=>if a4k x y=true then some (.bl (if neg then !decide (x=y)else decide (x=y)))else none
 | _,_=>none
theorem U9:OpOk K cl rEq (B6 false):=by
 intro x y d e z H F Q s hx hy h q
 unfold B6 at h
 split at h
 ·rename_i u w hu hw
  split at h
  ·rename_i c;cases h
   rw[hx.toV hu,hy.toV hw]
   exact⟨c,q _ H F (.refl s) (by simp only[Rp];rfl)⟩
  ·cases h
 ·cases h
theorem a7Y:OpOk K cl rNe (B6 true):=by
 intro x y d e z H F Q s hx hy h q
 unfold B6 at h
 split at h
 ·rename_i u w hu hw
  split at h
  ·rename_i c;cases h
   rw[hx.toV hu,hy.toV hw]
   exact⟨c,q _ H F (.refl s) (by simp only[Rp];rfl)⟩
  ·cases h
 ·cases h
@[simp] theorem a8D(neg:Bool)(a b:Int):B6 neg (.int a) (.int b)=some (.bl (if neg then !decide (a=b)else decide (a=b))):=by
 unfold B6 toV
 simp only[a4k,if_true,V.int.injEq]
def a22(neg:Bool)(d e:D):Option D:=match d,e with
 | .non,.non=>some (.bl (!neg))
 | _,.non=>some (.bl neg)
 | _,_=>none
theorem Rb.notNon{d:D}{v:V}(h:Rb K cl F H d v)(n:d≠.non):v≠.non:=by
 rcases h with h | ⟨_,_,_,rfl,_⟩
 ·cases d<;>simp only[Rp]at h
  ·exact absurd rfl n
  all_goals first | (rw[h];intro z;cases z) | (obtain⟨_,_,rfl,_⟩:=h;intro z;cases z) | (obtain⟨_,rfl,_⟩:=h;intro z;cases z) | (obtain⟨_,_,_,rfl,_⟩:=h;intro z;cases z)
 ·intro z;cases z
theorem a8E:OpOk K cl (fun x y H Q=>y=.non∧Q (.bl (!decide (x=.non))) H) (a22 true):=by
 intro x y d e z H F Q s hx hy h q
 unfold a22 at h
 split at h
 ·cases h;rw[hx.non];exact⟨hy.non,q _ H F (.refl s) (by simp[Rp])⟩
 ·rename_i n;cases h
  exact⟨hy.non,q _ H F (.refl s) (by simp only[Rp];rw[decide_eq_false (hx.notNon n)];rfl)⟩
 ·cases h
theorem Rps.atI{ds:List D}{xs:List V}{i:Int}{d:D}(h:Rps K cl F ds xs)(e:atI ds i=some d):∃v,L2.atI xs i=some v∧Rp K cl F d v:=by
 unfold L2.atI at e ⊢
 rw[← h.length]
 cases q:X5 ds.length i with
 | none=>rw[q]at e;cases e
 | some j=>rw[q]at e;exact h.get e
def O8(d e:D):Option D:=match d,e with
 | .lst ds,.int i=>atI ds i
 | .scr ns,.int i=>(atI ns i).map .int
 | _,_=>none
def A8(d e:D):Option D:=match d,e with
 | .tup ds,.int i=>atI ds i
 | _,_=>none
theorem a8F{α β:Type}(f:α→β)(xs:List α)(i:Int):atI (xs.map f) i=(atI xs i).map f:=by
 unfold L2.atI
 rw[List.length_map]
 cases X5 xs.length i with
 | none=>rfl
 | some j=>simp
theorem a1b:OpOk K cl (a6m K) O8:=by
 intro x y d e z H F Q s hx hy h q
 unfold O8 at h
 split at h
 ·obtain⟨a,xs,rfl,hH,r⟩:=hx.lst s
  obtain⟨v,e,p⟩:=r.atI h
  exact⟨a,xs,_,v,rfl,hy.int,.of hH,e,q v H F (.refl s) p⟩
 ·rename_i ns i
  obtain⟨a,rfl,hS⟩:=hx.scr s
  cases hz:atI ns i with
  | none=>rw[hz]at h;cases h
  | some n =>
   rw[hz]at h;cases h
   exact⟨a,_,_,.int n,rfl,hy.int,hS.seq,by rw[a8F,hz];rfl,q _ H F (.refl s) (by simp only[Rp])⟩
 ·cases h
theorem F7:OpOk K cl (a6n K) A8:=by
 intro x y d e z H F Q s hx hy h q
 unfold A8 at h
 split at h
 ·obtain⟨a,xs,rfl,hH,r⟩:=hx.tup s
  obtain⟨v,e,p⟩:=r.atI h
  exact⟨a,xs,_,v,rfl,hy.int,.of hH,e,q v H F (.refl s) p⟩
 ·cases h
def O9:D→D→Bool
 | .non,.non=>true
 | .bl a,.bl b=>a == b
 | .bl a,.int b=>(if a then 1 else 0) == b
 | .int a,.bl b=>a == (if b then 1 else 0)
 | .int a,.int b=>a == b
 | .str a,.str b=>a == b
 | _,_=>false
def a4G:List D→List D→Bool
 | [],[]=>true
 | x::xs,y::ys=>O9 x y && a4G xs ys
 | _,_=>false
def g9:D→Bool
 | .non=>true
 | .bl _=>true
 | .int _=>true
 | .str _=>true
 | _=>false
theorem Rp.flat{d:D}{v:V}(h:Rp K cl F d v)(f:g9 d=true):toV d=some v∧a2v v=true:=by
 cases d<;>simp only[Rp]at h<;>first | (subst h;exact⟨rfl,rfl⟩) | cases f
theorem Rps.flat:∀{ds:List D} {vs:List V},Rps K cl F ds vs→ds.all g9=true→vs.all a2v=true
 | [],_,h,_=>by rw[h.inv0];rfl
 | d::ds,_,h,f=>by
  obtain⟨v,r,rfl,h1,h2⟩:=h.inv
  rw[List.all_cons,Bool.and_eq_true]at f
  rw[List.all_cons,(h1.flat f.1).2,h2.flat f.2];rfl
theorem Rp.eq{d e:D}{v u:V}(h:Rp K cl F d v)(g:Rp K cl F e u)(fd:g9 d=true)(fe:g9 e=true):eqV v u=O9 d e:=by
 have h1:=(h.flat fd).1
 have h2:=(g.flat fe).1
 cases d<;>cases e<;>first | (cases h1;cases h2;rfl) | (cases fd;done) | (cases fe;done)
theorem Rps.eq:∀{ds es:List D} {vs us:List V},Rps K cl F ds vs→Rps K cl F es us→ds.all g9=true→es.all g9=true→a6t vs us=a4G ds es
 | [],[],_,_,h,g,_,_=>by rw[h.inv0,g.inv0];rfl
 | [],_::_,_,_,h,g,_,_=>by rw[h.inv0];obtain⟨_,_,rfl,_,_⟩:=g.inv;rfl
 | _::_,[],_,_,h,g,_,_=>by rw[g.inv0];obtain⟨_,_,rfl,_,_⟩:=h.inv;rfl
 | d::ds,e::es,_,_,h,g,fd,fe=>by
  obtain⟨v,r,rfl,h1,h2⟩:=h.inv
  obtain⟨u,r',rfl,g1,g2⟩:=g.inv
  rw[List.all_cons,Bool.and_eq_true]at fd fe
  unfold a6t a4G
  rw[h1.eq g1 fd.1 fe.1,h2.eq g2 fd.2 fe.2]
def R6:D→Option D
 | .lst ds=>some (.int ds.length)
 | .tup ds=>some (.int ds.length)
 | .scr ns=>some (.int ns.length)
 | _=>none
theorem a1c:CbOk1 K cl (a3P K) R6:=by
 intro x d z H F Q s hx h q
 unfold R6 at h
 split at h
 ·cases h
  obtain⟨a,xs,rfl,hH,r⟩:=hx.lst s
  exact⟨a,xs,rfl,.inl (.of hH),q _ H F (.refl s) (by simp only[Rp];rw[r.length])⟩
 ·cases h
  obtain⟨a,xs,rfl,hH,r⟩:=hx.tup s
  exact⟨a,xs,rfl,.inr (.of hH),q _ H F (.refl s) (by simp only[Rp];rw[r.length])⟩
 ·cases h
  obtain⟨a,rfl,hS⟩:=hx.scr s
  exact⟨a,_,rfl,.inl hS.seq,q _ H F (.refl s) (by simp only[Rp];rw[List.length_map])⟩
 ·cases h
def D4:D→Option (List D)
 | .lst ds=>some ds
 | .tup ds=>some ds
 | .scr ns=>some (ns.map .int)
 | _=>none
theorem a1L:b0K K cl (a3Q K) D4:=by
 intro x d zs H F Q s hx h q
 unfold D4 at h
 split at h
 ·cases h
  obtain⟨a,xs,rfl,hH,r⟩:=hx.lst s
  exact⟨a,xs,rfl,.inl (.of hH),fun p hp=>q p _ hp r⟩
 ·cases h
  obtain⟨a,xs,rfl,hH,r⟩:=hx.tup s
  exact⟨a,xs,rfl,.inr (.of hH),fun p hp=>q p _ hp r⟩
 ·cases h
  obtain⟨a,rfl,hS⟩:=hx.scr s
  exact⟨a,_,rfl,.inl hS.seq,fun p hp=>q p _ hp Rps.ofInts⟩
 ·cases h
end
inductive R1 where | ret (d:D) | own (ds:List D) | owz (dss:List (List D)) | owp (n:Int) (ds:List D) | ex (c:XN)
def g6(K:W.Frag)(cl:Str→Addr)(g:List D→Option R1):Sp:=fun vs H Q E=>∃ds F,Same F H∧Rps K cl F ds vs∧match g ds with
 | none=>False
 | some (.ret d)=>∀v H' F',Gr H F H' F'→Rp K cl F' d v→Q v H'
 | some (.own es)=>∀a xs H' F',Gr H F H' F'→H a=none→H' a=some (.lst xs)→F' a=none→Rps K cl F' es xs→Q (.ref a) H'
 | some (.owz dss)=>∀p as H' F',Gr H F H' F'→H p=none→H' p=some (.tup (as.map V.ref))→F' p=none→Rz K cl F' H' (fun a=>H a=none) dss as→Q (.ref p) H'
 | some (.owp n es)=>∀p a xs H' F',Gr H F H' F'→H p=none→H' p=some (.tup [.int n,.ref a])→F' p=none→H a=none→H' a=some (.lst xs)→F' a=none→Rps K cl F' es xs→Q (.ref p) H'
 | some (.ex c)=>∀H' F',Gr H F H' F'→∀cx,Xf K cl F' c cx→E (.ref (cl c.nm)) cx H'
def toZ(r:Option R1)(e:DE):Option (R D):=match r with
 | none=>none
 | some (.ret d)=>some (.ok d e)
 | some (.own ds)=>some (.ok (.lst ds) e)
 | some (.owz _)=>none
 | some (.owp _ _)=>none
 | some (.ex c)=>some (.ex c)
def V0(r:Option R1)(e:DE):Option (R D):=match r with
 | some (.ret d)=>some (.ok d e)
 | some (.own ds)=>some (.ok (.lst ds) e)
 | _=>none
def p8(g:List D→Option R1)(f:AF):ZF:=fun e=>bnd (f e) fun ds e1=>toZ (g ds) e1
def i0(g:List D→Option R1)(f:AF):ZF:=fun e=>bnd (f e) fun ds e1=>V0 (g ds) e1
def put(i:Nat)(s:Sl)(e:DE):Option RS:=match e[i]? with
 | none=>none
 | some (.hd _)=>none
 | some _=>some (.nx (e.set i s))
def V1(i:Nat)(r:Option R1)(e:DE):Option RS:=match r with
 | none=>none
 | some (.ret d)=>put i (.fz d) e
 | some (.own ds)=>put i (.ow ds) e
 | some (.owz _)=>none
 | some (.owp _ _)=>none
 | some (.ex c)=>some (.ex c)
def a1d(i:Nat)(r:Option R1)(e:DE):Option RS:=match r with
 | some (.ret d)=>put i (.fz d) e
 | some (.own ds)=>put i (.ow ds) e
 | _=>none
def a0a(r:Option R1):Option RS:=match r with
 | none=>none
 | some (.ret d)=>some (.rt d)
 | some (.own ds)=>some (.ro ds)
 | some (.owz dss)=>some (.rz dss)
 | some (.owp n ds)=>some (.rp n ds)
 | some (.ex c)=>some (.ex c)
def a1e(r:Option R1):Option RS:=match r with
 | some (.ret d)=>some (.rt d)
 | some (.own ds)=>some (.ro ds)
 | _=>none
def x9:SF:=fun e=>some (.nx e)
def b8(f k:SF):SF:=fun e=>match f e with
 | some (.nx e1)=>k e1
 | r=>r
def u6(i:Nat)(f:ZF):SF:=fun e=>D9 (f e) fun d e1=>put i (.fz d) e1
def y3(i:Nat)(f:NF):SF:=fun e=>D9 (f e) fun ds e1=>put i (.ow ds) e1
def a1f(i:Nat)(g:List D→Option R1)(f:AF):SF:=fun e=>D9 (f e) fun ds e1=>a1d i (g ds) e1
def m8(f:ZF):SF:=fun e=>D9 (f e) fun d _=>some (.rt d)
def a4H(f:NF):SF:=fun e=>D9 (f e) fun ds _=>some (.ro ds)
def J7(g:List D→Option R1)(f:AF):SF:=fun e=>D9 (f e) fun ds _=>a0a (g ds)
def a1g(g:List D→Option R1)(f:AF):SF:=fun e=>D9 (f e) fun ds _=>a1e (g ds)
def a0b(i:Nat):SF:=fun e=>match e[i]? with
 | some (.fz d)=>some (.rt d)
 | some (.ow ds)=>some (.ro ds)
 | _=>none
def y0(c:BF)(f k:SF):SF:=fun e=>D9 (c e) fun b e1=>if b=true then f e1 else k e1
def S6(f:ZF):SF:=fun e=>D9 (f e) fun _ e1=>some (.nx e1)
def a1h(c:Str)(f:AF):SF:=fun e=>D9 (f e) fun ds _=>if ds.length≤sizeLine then some (.ex (.p c))else none
def a24(i:Nat)(f:ZF):SF:=fun e=>match look e i with
 | some (.lst _)=>D9 (f e) fun d e1=>match e1[i]? with
  | some (.ow ds)=>if ds.length<sizeLine then some (.nx (e1.set i (.ow (ds++[d]))))else none
  | _=>none
 | _=>none
section
variable {K:W.Frag}{cl:Str→Addr}{E:XK}{σ:St}{H F:Hp}{env:DE}
theorem Gr.fx{H' F':Hp}(g:Gr H F H' F'):FX σ H F env H' F':=⟨g.fz,g.sub,fun a o h f _=>g.hid a o h f,g.dom⟩
theorem a5G{g:List D→Option R1}{ds:List D}{vs:List V}{Q:VK}(R:Rel K cl σ H F env)(p:Rps K cl F ds vs)(h:Ct K cl E (PZ K cl) (toZ (g ds) env) σ H F env Q):g6 K cl g (vs++[]) H Q E:=by
 rw[List.append_nil]
 refine⟨ds,F,R.sub,p,?_⟩
 unfold toZ at h
 split at h
 ·exact h.elim
 ·exact fun v H' F' gr r=>h v H' F' (R.frm gr) (R.gr gr) r
 ·rename_i es _
  intro a xs H' F' gr ha hH hF r
  have sF:Same F' (upd F' a (.lst xs)):=G6 hF _
  have gr':Gr H F H' (upd F' a (.lst xs)):=by
   refine⟨gr.fz.trans sF,fun b o z=>?_,fun b o hb fb=>?_⟩
   ·by_cases y:b=a
    ·subst y;rw[c8]at z;cases z;exact hH
    ·rw[a7 y]at z;exact gr.sub _ _ z
   ·obtain⟨h1,f1⟩:=gr.hid b o hb fb
    have nb:b≠a:=fun z=>by rw[z,ha]at hb;cases hb
    exact⟨h1,by rw[a7 nb];exact f1⟩
  exact h _ H' _ (R.frm gr') (R.gr gr') (by show Rp K cl _ (.lst es) _;simp only[Rp];exact⟨a,xs,rfl,c8,r.mono sF⟩)
 ·exact h.elim
 ·exact h.elim
 ·exact fun H' F' gr=>h H' F' gr.fx
theorem a8G{r:Option R1}{e:DE}{P:Py D V}{Q:VK}(h:Ct K cl E P (V0 r e) σ H F env Q):toZ r e=V0 r e∧∀c,r≠some (.ex c):=by
 unfold V0 at h
 split at h
 ·exact⟨rfl,fun c z=>by cases z⟩
 ·exact⟨rfl,fun c z=>by cases z⟩
 ·exact h.elim
theorem E1{g:List D→Option R1}{t:TA}{f:AF}(hf:K9 K cl E t f):k8 K cl E (M9 (g6 K cl g) [] E t) (p8 g f):=by
 intro σ H Q env F R h
 refine hf σ H _ env F R ((Ct.bnd h M1).mono fun vs H1 ⟨F1,e1,ds,s1,R1,p1,h1⟩=>a5G R1 p1 h1)
theorem x6{g:List D→Option R1}{t:TA}{f:AF}(hf:K9 K cl E t f):k8 K cl E (M9 (g6 K cl g) [] E0 t) (i0 g f):=by
 intro σ H Q env F R h
 refine hf σ H _ env F R ((Ct.bnd h M1).mono fun vs H1 ⟨F1,e1,ds,s1,R1,p1,h1⟩=>?_)
 refine a5G R1 p1 ?_
 obtain⟨z,n⟩:=a8G h1
 rw[z]
 unfold Ct at h1 ⊢
 split at h1
 ·exact h1
 ·exact h1
 ·rename_i c q
  exact absurd q (by unfold V0;split<;>intro y<;>cases y)
theorem C7:RfS K cl E a7B x9:=fun N σ H env F R h=>h σ H F Frm.refl R
theorem g5{t u:TS}{f k:SF}(hf:RfS K cl E t f)(hk:RfS K cl E u k):RfS K cl E (a9Y t u) (b8 f k):=by
 intro N σ H env F R h
 refine hf _ σ H env F R ?_
 unfold b8 at h
 split at h
 ·rename_i e1 q
  rw[q]
  intro σ' H' F' fr R'
  exact hk N σ' H' e1 F' R' (h.from fr)
 ·rename_i n
  unfold Cs at h ⊢
  split at h
  ·exact h
  ·rename_i e q;exact absurd q (n e)
  all_goals exact h
theorem Y8{i:Nat}{s:Sl}{e:DE}{N:Ends}{σ0:St}{H0 F0:Hp}{env0:DE}(h:Cs K cl E (put i s e) σ0 H0 F0 env0 N):i<e.length∧(∀ds,e[i]?≠some (.hd ds))∧Cs K cl E (some (.nx (e.set i s))) σ0 H0 F0 env0 N:=by
 unfold put at h
 split at h
 ·exact h.elim
 ·exact h.elim
 ·rename_i z n q
  exact⟨(List.getElem?_eq_some_iff.mp q).1,fun ds y=>by rw[q]at y;cases y;exact n ds rfl,h⟩
theorem B7{i:Nat}{t:TE}{f:ZF}(hf:k8 K cl E t f):RfS K cl E (a1u t (Z6 i)) (u6 i f):=by
 intro N σ H env F R h
 refine hf σ H _ env F R ((Cs.bnd h).mono fun x H1 ⟨F1,e1,d,fr,R1,p1,h1⟩=>?_)
 obtain⟨hi,nh,h2⟩:=Y8 h1
 exact h2 _ H1 F1 (fr.trans (Frm.put nh)) (R1.put hi nh p1)
theorem N7{i:Nat}{t:TE}{f:NF}(hf:Q0 K cl E t f):RfS K cl E (a1u t (Z6 i)) (y3 i f):=by
 intro N σ H env F R h
 refine hf σ H _ env F R ((Cs.bnd h).mono fun x H1 ⟨F1,e1,ds,fr,R1,p1,h1⟩=>?_)
 obtain⟨a,xs,rfl,hn,hH,hF,nm,r⟩:=p1
 obtain⟨hi,nh,h2⟩:=Y8 h1
 exact h2 _ H1 F1 (fr.putO hn nh) (R1.putO hi hH hF nm r)
theorem w9{t:TE}{f:ZF}(hf:k8 K cl E t f):RfS K cl E (a1s t) (m8 f):=by
 intro N σ H env F R h
 exact hf σ H _ env F R ((Cs.bnd h).mono fun x H1 ⟨F1,e1,d,fr,R1,p1,h1⟩=>h1 x H1 F1 (fr.toFX R1.sub) p1)
theorem a8H{t:TE}{f:NF}(hf:Q0 K cl E t f):RfS K cl E (a1s t) (a4H f):=by
 intro N σ H env F R h
 refine hf σ H _ env F R ((Cs.bnd h).mono fun x H1 ⟨F1,e1,ds,fr,R1,p1,h1⟩=>?_)
 obtain⟨a,xs,rfl,hn,hH,hF,nm,r⟩:=p1
 exact h1 a xs H1 F1 (fr.toFX R1.sub) hH hF (fun o e=>by rw[hn]at e;cases e) r
theorem a8I{i:Nat}:RfS K cl E (a1s (D0 i)) (a0b i):=by
 intro N σ H env F R h
 unfold a0b at h
 split at h
 ·rename_i d q
  obtain⟨v,e,r⟩:=R.fz i d q
  exact⟨v,e,h v H F (Frm.refl.toFX R.sub) r⟩
 ·rename_i ds q
  obtain⟨a,xs,e,hH,hF,r⟩:=R.mu i ds (.inl q)
  exact⟨_,e,h a xs H F (Frm.refl.toFX R.sub) hH hF (fun o _=>⟨i,.ow ds,True.intro,q,e⟩) r⟩
 ·exact h.elim
theorem y8{c:TT}{t u:TS}{b:BF}{f k:SF}(hc:M6 K cl E c b)(hf:RfS K cl E t f)(hk:RfS K cl E u k):RfS K cl E (a9Z c t u) (y0 b f k):=by
 intro N σ H env F R h
 refine hc σ H _ env F R ((Cs.bnd h).mono fun x H1 ⟨F1,e1,d,fr,R1,p1,h1⟩=>?_)
 cases (show x=d from p1)
 by_cases z:x=true
 ·rw[if_pos z]at h1 ⊢;exact hf N σ H1 e1 F1 R1 (h1.from fr)
 ·rw[if_neg z]at h1 ⊢;exact hk N σ H1 e1 F1 R1 (h1.from fr)
theorem a2y{t:TE}{f:ZF}(hf:k8 K cl E t f):RfS K cl E (a2t t) (S6 f):=by
 intro N σ H env F R h
 exact hf σ H _ env F R ((Cs.bnd h).mono fun x H1 ⟨F1,e1,d,fr,R1,p1,h1⟩=>h1 σ H1 F1 fr R1)
theorem a25{c:Str}{t:TA}{f:AF}(hf:K9 K cl E t f):RfS K cl E (a5k (cl c) E t) (a1h c f):=by
 intro N σ H env F R h
 refine hf σ H _ env F R ((Cs.bnd h).mono fun xs H1 ⟨F1,e1,ds,fr,R1,p1,h1⟩=>?_)
 have hl:ds.length=xs.length:=Rps.length p1
 split at h1
 ·rename_i z
  exact⟨by rw[← hl];exact z,h1 H1 F1 (fr.toFX R1.sub) none rfl⟩
 ·exact h1.elim
theorem a6Q{i:Nat}{g:List D→Option R1}{t:TA}{f:AF}(hf:K9 K cl E t f):RfS K cl E (a1u (M9 (g6 K cl g) [] E0 t) (Z6 i)) (a1f i g f):=by
 intro N σ H env F R h
 refine hf σ H _ env F R ((Cs.bnd h).mono fun vs H1 ⟨F1,e1,ds,fr,R1,p1,h1⟩=>?_)
 show g6 K cl g (vs++[]) H1 _ E0
 rw[List.append_nil]
 refine⟨ds,F1,R1.sub,p1,?_⟩
 unfold a1d at h1
 split at h1
 ·rename_i q;rw[q]
  obtain⟨hi,nh,h2⟩:=Y8 h1
  exact fun v H' F' gr r=>h2 _ H' F' ((fr.trans (R1.frm gr)).trans (Frm.put nh)) ((R1.gr gr).put hi nh r)
 ·rename_i q;rw[q]
  obtain⟨hi,nh,h2⟩:=Y8 h1
  intro a xs H' F' gr ha hH hF r
  refine h2 _ H' F' ((fr.trans (R1.frm gr)).putO (fr.dom a ha) nh) ((R1.gr gr).putO hi hH hF (fun j mj e=>?_) r)
  obtain⟨es,q⟩:=mj
  obtain⟨b,ys,e',hb,_⟩:=R1.mu j es q
  rw[e]at e';cases e'
  rw[ha]at hb;cases hb
 ·exact h1.elim
theorem a0c{g:List D→Option R1}{t:TA}{f:AF}(hf:K9 K cl E t f):RfS K cl E (a1s (M9 (g6 K cl g) [] E t)) (J7 g f):=by
 intro N σ H env F R h
 refine hf σ H _ env F R ((Cs.bnd h).mono fun vs H1 ⟨F1,e1,ds,fr,R1,p1,h1⟩=>?_)
 show g6 K cl g (vs++[]) H1 _ E
 rw[List.append_nil]
 refine⟨ds,F1,R1.sub,p1,?_⟩
 unfold a0a at h1
 split at h1
 ·exact h1.elim
 ·exact fun v H' F' gr r=>h1 v H' F' (fr.fx gr.fx) r
 ·exact fun a xs H' F' gr ha hH hF r=>h1 a xs H' F' (fr.fx gr.fx) hH hF (fun o e=>by rw[fr.dom a ha]at e;cases e) r
 ·exact fun p as H' F' gr hp ht fp rz=>h1 p as H' F' (fr.fx gr.fx) (fr.dom p hp) ht fp (rz.imp fun a xs _ _ ha o e=>by rw[fr.dom a ha]at e;cases e)
 ·exact fun p a xs H' F' gr hp ht fp ha hH hF r=>h1 p a xs H' F' (fr.fx gr.fx) (fr.dom p hp) ht fp hH hF (fun o e=>by rw[fr.dom a ha]at e;cases e) r
 ·exact fun H' F' gr=>h1 H' F' (fr.fx gr.fx)
theorem a6R{g:List D→Option R1}{t:TA}{f:AF}(hf:K9 K cl E t f):RfS K cl E (a1s (M9 (g6 K cl g) [] E0 t)) (a1g g f):=by
 intro N σ H env F R h
 refine hf σ H _ env F R ((Cs.bnd h).mono fun vs H1 ⟨F1,e1,ds,fr,R1,p1,h1⟩=>?_)
 show g6 K cl g (vs++[]) H1 _ E0
 rw[List.append_nil]
 refine⟨ds,F1,R1.sub,p1,?_⟩
 unfold a1e at h1
 split at h1
 ·rename_i q;rw[q]
  exact fun v H' F' gr r=>h1 v H' F' (fr.fx gr.fx) r
 ·rename_i q;rw[q]
  exact fun a xs H' F' gr ha hH hF r=>h1 a xs H' F' (fr.fx gr.fx) hH hF (fun o e=>by rw[fr.dom a ha]at e;cases e) r
 ·exact h1.elim
theorem Rel.change{i:Nat}{ds es:List D}{a:Addr}{ys:List V}(R:Rel K cl σ H F env)(h:env[i]? = some (.ow ds))(e:σ[i]? = some (some (.ref a)))(r:Rps K cl F es ys) :
  Rel K cl σ (upd H a (.lst ys)) F (env.set i (.ow es))∧Frm σ H F env σ (upd H a (.lst ys)) F (env.set i (.ow es)):=by
 obtain⟨a',xs,e',hH,hF,_⟩:=R.mu i ds (.inl h)
 rw[e]at e';cases e'
 have hi:i<env.length:=(List.getElem?_eq_some_iff.mp h).1
 have self:(env.set i (.ow es))[i]? = some (.ow es):=List.getElem?_set_self hi
 have oth:∀j,j≠i→(env.set i (.ow es))[j]? = env[j]?:=fun j hj=>List.getElem?_set_ne (Ne.symm hj)
 have mui:∀j,Mu (env.set i (.ow es)) j→Mu env j:=fun j ⟨fs,q⟩=>by
  by_cases z:j=i
  ·subst z;exact⟨ds,.inl h⟩
  ·rw[oth j z]at q;exact⟨fs,q⟩
 refine⟨⟨fun b o q=>?_,by rw[List.length_set];exact R.len,fun j d q=>?_,fun j fs q=>?_,fun j k b hj hk=>R.inj j k b (mui j hj) (mui k hk),(R.od.updL hH).setE U5⟩,⟨Same.refl _,fun b o hb fb w=>?_,fun j fs q=>?_,fun b q=>?_⟩⟩
 ·have z:b≠a:=fun z=>by rw[z,hF]at q;cases q
  rw[a7 z];exact R.sub _ _ q
 ·have z:j≠i:=fun z=>by subst z;rw[self]at q;cases q
  rw[oth j z]at q;exact R.fz j d q
 ·by_cases z:j=i
  ·subst z
   rw[self]at q
   rcases q with q | q
   ·cases q;exact⟨a,ys,e,c8,hF,r⟩
   ·cases q
  ·rw[oth j z]at q
   obtain⟨b,zs,e1,h1,f1,r1⟩:=R.mu j fs q
   have nb:b≠a:=fun y=>z (R.inj j i b ⟨fs,q⟩ ⟨ds,.inl h⟩ e1 (by rw[y];exact e))
   exact⟨b,zs,e1,by rw[a7 nb];exact h1,f1,r1⟩
 ·have z:b≠a:=fun z=>w ⟨i,.ow ds,True.intro,h,by rw[z];exact e⟩
  refine⟨by rw[a7 z];exact hb,fb,fun⟨j,fs,oo,q,e1⟩=>?_⟩
  by_cases y:j=i
  ·subst y;rw[e]at e1;cases e1;exact z rfl
  ·rw[oth j y]at q;exact w ⟨j,fs,oo,q,e1⟩
 ·have z:j≠i:=fun z=>by subst z;rw[h]at q;cases q
  exact⟨by rw[oth j z];exact q,rfl⟩
 ·by_cases z:b=a
  ·rw[z,c8]at q;cases q
  ·rw[a7 z]at q;exact q
theorem b0M{i:Nat}{t:TE}{f:ZF}(hf:k8 K cl E t f):RfS K cl E (a2t (tBM K "list" a3K (D0 i) (M8 t X2))) (a24 i f):=by
 intro N σ H env F R h
 unfold a24 at h
 split at h
 ·rename_i ds0 q
  obtain⟨x,e0,rb⟩:=R.look q
  obtain⟨a0,xs0,rfl,hH0,_⟩:=rb.lst R.sub
  refine⟨_,e0,.inl ⟨rfl,xs0,.of hH0⟩,?_⟩
  ·refine hf σ H _ env F R ((Cs.bnd h).mono fun y H1 ⟨F1,e1,d,fr,R1,p1,h1⟩=>?_)
   split at h1
   ·rename_i ds q1
    split at h1
    ·rename_i c
     obtain⟨a,xs,e,hH,hF,r⟩:=R1.mu i ds (.inl q1)
     rw[e0]at e;cases e
     obtain⟨R2,f2⟩:=R1.change q1 e0 (r.append (.one p1))
     exact⟨_,xs,y,rfl,rfl,hH,by rw[← r.length];exact c,h1 σ _ F1 (fr.trans f2) R2⟩
    ·exact h1.elim
   ·exact h1.elim
 ·exact h.elim
end
abbrev GF:=D→DE→Option DE
def g7(i:Nat):GF:=fun d e=>match e[i]? with
 | none=>none
 | some (.hd _)=>none
 | some _=>some (e.set i (.fz d))
def V2:List GF→List D→DE→Option DE
 | [],[],e=>some e
 | b::bs,d::ds,e=>match b d e with
  | none=>none
  | some e1=>V2 bs ds e1
 | _,_,_=>none
def Y9(bs:List GF):GF:=fun d e=>match d with
 | .tup ds=>V2 bs ds e
 | _=>none
section
variable (K:W.Frag)(cl:Str→Addr)
def G2(k:Nat)(g:TG)(b:GF):Prop:=∀v σ H Q d env env' F,Rel K cl σ H F env→Rp K cl F d v→b d env=some env'→(∀σ',σ'.drop k=σ.drop k→σ'.length=σ.length→Frm σ H F env σ' H F env'→Rel K cl σ' H F env'→Q σ' H)→g v σ H Q
def a4I(k:Nat)(t:W6)(bs:List GF):Prop:=∀vs σ H Q ds env env' F,Rel K cl σ H F env→Rps K cl F ds vs→V2 bs ds env=some env'→(∀σ',σ'.drop k=σ.drop k→σ'.length=σ.length→Frm σ H F env σ' H F env'→Rel K cl σ' H F env'→Q σ' H)→t vs σ H Q
end
section
variable {K:W.Frag}{cl:Str→Addr}{E:XK}{σ:St}{H F:Hp}{env:DE}{k:Nat}
theorem a6S{α:Type}{l:List α}{i k:Nat}{x:α}(h:i<k):(l.set i x).drop k=l.drop k:=by
 apply List.ext_getElem?
 intro j
 rw[List.getElem?_drop,List.getElem?_drop,List.getElem?_set_ne (by omega)]
theorem l3{i:Nat}(hi:i<k):G2 K cl k (Z6 i) (g7 i):=by
 intro v σ H Q d env env' F R p h q
 unfold g7 at h
 split at h
 ·cases h
 ·cases h
 ·rename_i z n e
  cases h
  have nh:∀ds,env[i]?≠some (.hd ds):=fun ds y=>by rw[e]at y;cases y;exact n ds rfl
  exact q _ (a6S hi) List.length_set (Frm.put nh) (R.put (List.getElem?_eq_some_iff.mp e).1 nh p)
theorem a1M:a4I K cl k a90 []:=by
 intro vs σ H Q ds env env' F R p h q
 cases ds with
 | nil=>cases h;exact⟨p.inv0,q σ rfl rfl Frm.refl R⟩
 | cons _ _=>cases h
theorem B8{t:TG}{u:W6}{b:GF}{bs:List GF}(h1:G2 K cl k t b)(h2:a4I K cl k u bs):a4I K cl k (a7C t u) (b::bs):=by
 intro vs σ H Q ds env env' F R p h q
 cases ds with
 | nil=>cases h
 | cons d ds =>
  obtain⟨v,r,rfl,p1,p2⟩:=p.inv
  unfold V2 at h
  split at h
  ·cases h
  ·rename_i e1 hb
   refine⟨v,r,rfl,h1 v σ H _ d env e1 F R p1 hb fun σ1 d1 l1 f1 R1=>?_⟩
   exact h2 r σ1 H _ ds e1 env' F R1 p2 h fun σ2 d2 l2 f2 R2=>q σ2 (d2.trans d1) (l2.trans l1) (f1.trans f2) R2
theorem a2c:∀{bs:List GF} {ds:List D} {e e':DE},V2 bs ds e=some e'→ds.length=bs.length
 | [],[],_,_,_=>rfl
 | [],_::_,_,_,h=>by cases h
 | _::_,[],_,_,h=>by cases h
 | b::bs,d::ds,e,e',h=>by
  unfold V2 at h
  split at h
  ·cases h
  ·simp[a2c h]
theorem a1N{t:W6}{bs:List GF}{n:Nat}(h:a4I K cl k t bs)(hn:bs.length=n):G2 K cl k (a6g K n t) (Y9 bs):=by
 intro v σ H Q d env env' F R p e q
 unfold Y9 at e
 split at e
 ·rename_i ds
  simp only[Rp]at p
  obtain⟨a,xs,rfl,hF,r⟩:=p
  exact⟨a,xs,rfl,.of (R.sub _ _ hF),by rw[← r.length,a2c e,hn],h xs σ H Q ds env env' F R r e q⟩
 ·cases e
def a4J(f:ZF)(b:GF):SF:=fun e=>D9 (f e) fun d e1=>match b d e1 with
 | none=>none
 | some e2=>some (.nx e2)
theorem a5H{t:TE}{g:TG}{f:ZF}{b:GF}(hf:k8 K cl E t f)(hg:G2 K cl k g b):RfS K cl E (a1u t g) (a4J f b):=by
 intro N σ H env F R h
 refine hf σ H _ env F R ((Cs.bnd h).mono fun x H1 ⟨F1,e1,d,fr,R1,p1,h1⟩=>?_)
 split at h1
 ·exact h1.elim
 ·rename_i e2 hb
  exact hg x σ H1 _ d e1 e2 F1 R1 p1 hb fun σ' _ _ f2 R2=>h1 σ' H1 F1 (fr.trans f2) R2
def l4(b:GF)(body:SF):List D→DE→Option RS
 | [],e=>some (.nx e)
 | d::ds,e=>match b d e with
  | none=>none
  | some e1=>match body e1 with
   | some (.nx e2)=>l4 b body ds e2
   | some (.ct e2)=>l4 b body ds e2
   | some (.bk e2)=>some (.nx e2)
   | r=>r
theorem a0G{b:GF}{body:SF}{g:TG}{tb:TS}{d:D}{x:V}{ds:List D}{e1:DE}{N:Ends}{σ1:St}{H1 F1:Hp}{Pv:St→Hp→Prop}(hb:RfS K cl E tb body)(hg:G2 K cl k g b)
  (f1:Frm σ H F env σ1 H1 F1 e1) (R1:Rel K cl σ1 H1 F1 e1) (p:Rp K cl F1 d x) (h:Cs K cl E (l4 b body (d::ds) e1) σ H F env N)
  (hP:∀σ' H' F' e',Frm σ H F env σ' H' F' e'→Rel K cl σ' H' F' e'→Cs K cl E (l4 b body ds e') σ H F env N→Pv σ' H') :
  g x σ1 H1 fun σ2 H2=>tb { N with nx:=Pv,ct:=Pv,bk:=N.nx } σ2 H2:=by
 unfold l4 at h
 split at h
 ·exact h.elim
 ·rename_i e2 hbd
  refine hg x σ1 H1 _ d e1 e2 F1 R1 p hbd fun σ2 _ _ f2 R2=>?_
  refine hb _ σ2 H1 e2 F1 R2 ?_
  split at h
  ·rename_i e3 q;rw[q]
   exact fun σ' H' F' f3 R3=>hP σ' H' F' e3 ((f1.trans f2).trans f3) R3 h
  ·rename_i e3 q;rw[q]
   exact fun σ' H' F' f3 R3=>hP σ' H' F' e3 ((f1.trans f2).trans f3) R3 h
  ·rename_i e3 q;rw[q]
   exact fun σ' H' F' f3 R3=>h σ' H' F' ((f1.trans f2).trans f3) R3
  ·rename_i n1 n2 n3
   have h2:=h.from (f1.trans f2)
   unfold Cs at h2 ⊢
   split at h2
   ·exact h2
   ·rename_i e q;exact absurd q (n1 e)
   ·rename_i e q;exact absurd q (n3 e)
   ·rename_i e q;exact absurd q (n2 e)
   ·exact h2
   ·exact h2
   ·exact h2
   ·exact h2
   ·exact h2
theorem Q2{α:Type}{l:List α}{i:Nat}{x:α}(h:l[i]? = some x):l.drop i=x::l.drop (i+1):=by
 obtain⟨hi,e⟩:=List.getElem?_eq_some_iff.mp h
 rw[← e];exact List.drop_eq_getElem_cons hi
theorem a4K{b:GF}{body:SF}{g:TG}{tb:TS}{ds:List D}{xs:List V}{a:Addr}{N:Ends}(hb:RfS K cl E tb body)(hg:G2 K cl k g b)(R:Rel K cl σ H F env)
  (hl:∀σ' H' F' e',Frm σ H F env σ' H' F' e'→Rel K cl σ' H' F' e'→SqL K H' a xs) (r:Rps K cl F ds xs) (h:Cs K cl E (l4 b body ds env) σ H F env N) :
  ∃W:Nat→Nat→St→Hp→Prop,(∃m,W 0 m σ H)∧∀i m σ H,W i m σ H →
   ((Itl K a).stop i H∧N.nx σ H)∨((Itl K a).go i H∧∃M:St→Hp→Prop,(∀σ' H',M σ' H'→∃m',m'<m∧W (i+1) m' σ' H')∧∀x H',(Itl K a).yld i H x H'→g x σ H' fun σ2 H2=>tb { N with nx:=M,ct:=M,bk:=N.nx } σ2 H2):=by
 refine a6i (xs:=xs) (fun i σ' H'=>∃F' e',Frm σ H F env σ' H' F' e'∧Rel K cl σ' H' F' e'∧Cs K cl E (l4 b body (ds.drop i) e') σ H F env N) ⟨F,env,Frm.refl,R,h⟩ (fun i σ' H' _ ⟨F',e',f,R',_⟩=>hl σ' H' F' e' f R') (fun i x σ' H' hx ⟨F',e',f,R',h'⟩=>?_) (fun σ' H' ⟨F',e',f,R',h'⟩=>?_)
 ·obtain⟨d,hd,p⟩:=r.get' hx
  rw[Q2 hd]at h'
  exact a0G hb hg f R' (Rp.mono f.fz _ _ p) h' fun σ2 H2 F2 e2 f2 R2 h2=>⟨F2,e2,f2,R2,h2⟩
 ·rw[← r.length,List.drop_length]at h'
  exact h' σ' H' F' f R'
def seqL:D→Option (List D)
 | .lst ds=>some ds
 | .scr ns=>some (ns.map .int)
 | _=>none
theorem Rp.seqL{d:D}{ds:List D}{v:V}(p:Rp K cl F d v)(s:L2.seqL d=some ds):∃a xs,v=.ref a∧Rps K cl F ds xs∧∀H',Same F H'→SqL K H' a xs:=by
 unfold L2.seqL at s
 split at s
 ·cases s;simp only[Rp]at p
  obtain⟨a,xs,e,h,r⟩:=p
  exact⟨a,xs,e,r,fun H' g=>.of (g _ _ h)⟩
 ·cases s;simp only[Rp]at p
  obtain⟨a,e,h⟩:=p
  exact⟨a,_,e,Rps.ofInts,fun H' g=>(h.same g).seq⟩
 ·cases s
def a1O(f:ZF)(b:GF)(body:SF):SF:=fun e=>D9 (f e) fun d e1=>match seqL d with
 | none=>none
 | some ds=>l4 b body ds e1
theorem b0N{t:TE}{g:TG}{tb:TS}{f:ZF}{b:GF}{body:SF}(hf:k8 K cl E t f)(hg:G2 K cl k g b)(hb:RfS K cl E tb body):RfS K cl E (a2E (a0U K t) g tb) (a1O f b body):=by
 intro N σ H env F R h
 refine hf σ H _ env F R ((Cs.bnd h).mono fun x H1 ⟨F1,e1,d,fr,R1,p1,h1⟩=>?_)
 split at h1
 ·exact h1.elim
 ·rename_i ds hs
  obtain⟨a,xs,rfl,r,hl⟩:=Rp.seqL p1 hs
  exact⟨a,rfl,⟨xs,hl H1 R1.sub⟩,a4K hb hg R1 (fun σ' H' F' e' f2 R2=>hl H' (f2.fz.trans R2.sub)) r (h1.from fr)⟩
def A9(lo:Int)(n:Nat):List D:=(List.range n).map fun(i:Nat)=>.int (lo+(i:Int))
theorem a2d{lo:Int}{n i:Nat}(h:i<n):(A9 lo n).drop i=.int (lo+i)::(A9 lo n).drop (i+1):=Q2 (by unfold A9;rw[List.getElem?_map,List.getElem?_range h];rfl)
theorem a26{lo:Int}{n:Nat}:(A9 lo n).length=n:=by unfold A9;rw[List.length_map,List.length_range]
theorem b2c{b:GF}{body:SF}{g:TG}{tb:TS}{lo:Int}{n:Nat}{N:Ends}(hb:RfS K cl E tb body)(hg:G2 K cl k g b)(R:Rel K cl σ H F env)(h:Cs K cl E (l4 b body (A9 lo n) env) σ H F env N) :
  ∃W:Nat→Nat→St→Hp→Prop,(∃m,W 0 m σ H)∧∀i m σ H,W i m σ H →
   ((W7 lo n).stop i H∧N.nx σ H)∨((W7 lo n).go i H∧∃M:St→Hp→Prop,(∀σ' H',M σ' H'→∃m',m'<m∧W (i+1) m' σ' H')∧∀x H',(W7 lo n).yld i H x H'→g x σ H' fun σ2 H2=>tb { N with nx:=M,ct:=M,bk:=N.nx } σ2 H2):=by
 refine a5b (fun i σ' H'=>∃F' e',Frm σ H F env σ' H' F' e'∧Rel K cl σ' H' F' e'∧Cs K cl E (l4 b body ((A9 lo n).drop i) e') σ H F env N) ⟨F,env,Frm.refl,R,h⟩ (fun i σ' H' hx ⟨F',e',f,R',h'⟩=>?_) (fun σ' H' ⟨F',e',f,R',h'⟩=>?_)
 ·rw[a2d hx]at h'
  exact a0G hb hg f R' (by simp only[Rp]) h' fun σ2 H2 F2 e2 f2 R2 h2=>⟨F2,e2,f2,R2,h2⟩
 ·rw[show(A9 lo n).drop n=[]from List.drop_eq_nil_of_le (by rw[a26];exact Nat.le_refl _)]at h'
  exact h' σ' H' F' f R'
def F8(ds:List D):Option (Int×Nat):=match ds with
 | [.int j]=>if -(2 ^ 62)≤j∧j<2 ^ 62 then some (0,j.toNat)else none
 | _=>none
theorem a32{ds:List D}{vs:List V}{lo:Int}{n:Nat}(h:F8 ds=some (lo,n))(p:Rps K cl F ds vs):∃j:Int,vs=[.int j]∧-(2 ^ 62)≤j∧j<2 ^ 62∧lo=0∧n=j.toNat:=by
 unfold F8 at h
 split at h
 ·rename_i j
  split at h
  ·rename_i c;cases h
   exact⟨j,(Rps.ints (ns:=[j]) p),c.1,c.2,rfl,rfl⟩
  ·cases h
 ·cases h
def N1(rg:List D→Option (Int×Nat))(f:AF)(b:GF)(body:SF):SF:=fun e=>D9 (f e) fun ds e1=>match rg ds with
 | none=>none
 | some (lo,n)=>l4 b body (A9 lo n) e1
theorem a27{t:TA}{g:TG}{tb:TS}{f:AF}{b:GF}{body:SF}(hf:K9 K cl E t f)(hg:G2 K cl k g b)(hb:RfS K cl E tb body):RfS K cl E (a2E (a4j t) g tb) (N1 F8 f b body):=by
 intro N σ H env F R h
 refine hf σ H _ env F R ((Cs.bnd h).mono fun x H1 ⟨F1,e1,ds,fr,R1,p1,h1⟩=>?_)
 split at h1
 ·exact h1.elim
 ·rename_i lo n hs
  obtain⟨j,e,c1,c2,rfl,rfl⟩:=a32 hs p1
  exact⟨j,e,c1,c2,b2c hb hg R1 (h1.from fr)⟩
end
section
variable {K:W.Frag}{cl:Str→Addr}{E:XK}{σ:St}{H F:Hp}{env:DE}{k:Nat}
def unhide(i:Nat)(ds:List D)(r:Option RS):Option RS:=match r with
 | some (.nx e)=>some (.nx (e.set i (.ow ds)))
 | some (.bk _)=>none
 | some (.ct _)=>none
 | r=>r
theorem Rel.hide{i:Nat}{ds:List D}(R:Rel K cl σ H F env)(h:env[i]? = some (.ow ds)):Rel K cl σ H F (env.set i (.hd ds)):=by
 have hi:i<env.length:=(List.getElem?_eq_some_iff.mp h).1
 have self:(env.set i (.hd ds))[i]? = some (.hd ds):=List.getElem?_set_self hi
 have oth:∀j,j≠i→(env.set i (.hd ds))[j]? = env[j]?:=fun j hj=>List.getElem?_set_ne (Ne.symm hj)
 have mui:∀(j:Nat) (fs:List D),(env.set i (.hd ds))[j]? = some (.ow fs)∨(env.set i (.hd ds))[j]? = some (.hd fs)→env[j]? = some (.ow fs)∨env[j]? = some (.hd fs):=fun j fs q=>by
  by_cases z:j=i
  ·subst z;rw[self]at q;rcases q with q | q<;>cases q;exact .inl h
  ·rw[oth j z]at q;exact q
 refine⟨R.sub,by rw[List.length_set];exact R.len,fun j d q=>?_,fun j fs q=>R.mu j fs (mui j fs q),fun j l b ⟨fs,q⟩ ⟨gs,q'⟩=>R.inj j l b ⟨fs,mui j fs q⟩ ⟨gs,mui l gs q'⟩,R.od.setE a09⟩
 have z:j≠i:=fun z=>by subst z;rw[self]at q;cases q
 rw[oth j z]at q;exact R.fz j d q
theorem Ow.hide{i:Nat}{ds:List D}{a:Addr}(w:Ow σ (env.set i (.hd ds)) a):Ow σ env a:=by
 obtain⟨j,fs,oo,q,e⟩:=w
 by_cases z:j=i
 ·subst z
  have hj:j<env.length:=by have:=(List.getElem?_eq_some_iff.mp q).1;rwa [List.length_set]at this
  rw[List.getElem?_set_self hj]at q;cases q;exact oo.elim
 ·rw[List.getElem?_set_ne (Ne.symm z)]at q;exact⟨j,fs,oo,q,e⟩
theorem Rel.unhide{i:Nat}{ds:List D}(R:Rel K cl σ H F env)(h:env[i]? = some (.hd ds)):Rel K cl σ H F (env.set i (.ow ds)):=by
 have hi:i<env.length:=(List.getElem?_eq_some_iff.mp h).1
 have self:(env.set i (.ow ds))[i]? = some (.ow ds):=List.getElem?_set_self hi
 have oth:∀j,j≠i→(env.set i (.ow ds))[j]? = env[j]?:=fun j hj=>List.getElem?_set_ne (Ne.symm hj)
 have mui:∀(j:Nat) (fs:List D),(env.set i (.ow ds))[j]? = some (.ow fs)∨(env.set i (.ow ds))[j]? = some (.hd fs)→env[j]? = some (.ow fs)∨env[j]? = some (.hd fs):=fun j fs q=>by
  by_cases z:j=i
  ·subst z;rw[self]at q;rcases q with q | q<;>cases q;exact .inr h
  ·rw[oth j z]at q;exact q
 refine⟨R.sub,by rw[List.length_set];exact R.len,fun j d q=>?_,fun j fs q=>R.mu j fs (mui j fs q),fun j l b ⟨fs,q⟩ ⟨gs,q'⟩=>R.inj j l b ⟨fs,mui j fs q⟩ ⟨gs,mui l gs q'⟩,R.od.setE U5⟩
 have z:j≠i:=fun z=>by subst z;rw[self]at q;cases q
 rw[oth j z]at q;exact R.fz j d q
theorem Cs.hide{i:Nat}{ds:List D}{r:Option RS}{N:Ends}(R:Rel K cl σ H F env)(h:env[i]? = some (.ow ds))(c:Cs K cl E (unhide i ds r) σ H F env N):Cs K cl E r σ H F (env.set i (.hd ds)) N:=by
 have hi:i<env.length:=(List.getElem?_eq_some_iff.mp h).1
 have self:(env.set i (.hd ds))[i]? = some (.hd ds):=List.getElem?_set_self hi
 have fx:∀{H' F'},FX σ H F (env.set i (.hd ds)) H' F'→FX σ H F env H' F':=fun x=>⟨x.fz,x.sub,fun a o h f w=>x.hid a o h f fun y=>w y.hide,x.dom⟩
 rcases r with _ | r
 ·exact c
 cases r with
 | nx e =>
  intro σ' H' F' f R'
  obtain⟨q,eσ⟩:=f.keep i ds self
  refine c σ' H' F' ⟨f.fz,fun a o ha fa w=>?_,fun j fs q'=>?_,f.dom⟩ (R'.unhide q)
  ·obtain⟨h1,f1,w1⟩:=f.hid a o ha fa fun y=>w y.hide
   refine⟨h1,f1,fun⟨j,fs,oo,q2,e2⟩=>?_⟩
   by_cases z:j=i
   ·subst z
    rw[eσ]at e2
    exact w ⟨j,.ow ds,True.intro,h,e2⟩
   ·rw[List.getElem?_set_ne (Ne.symm z)]at q2
    exact w1 ⟨j,fs,oo,q2,e2⟩
  ·have z:j≠i:=fun z=>by subst z;rw[h]at q';cases q'
   obtain⟨q2,e2⟩:=f.keep j fs (by rw[List.getElem?_set_ne (Ne.symm z)];exact q')
   exact⟨by rw[List.getElem?_set_ne (Ne.symm z)];exact q2,e2⟩
 | bk e=>exact c.elim
 | ct e=>exact c.elim
 | rt d=>exact fun v H' F' x p=>c v H' F' (fx x) p
 | ro es=>exact fun a xs H' F' x ha fa nw p=>c a xs H' F' (fx x) ha fa (fun o e=>(nw o e).hide) p
 | rp n es=>exact fun p a xs H' F' x hp ht fp ha fa nw r=>c p a xs H' F' (fx x) hp ht fp ha fa (fun o e=>(nw o e).hide) r
 | rz dss=>exact fun p as H' F' x hp ht fp rz=>c p as H' F' (fx x) hp ht fp (rz.imp fun a xs ha fa nw o e=>(nw o e).hide)
 | ex n=>exact fun H' F' x=>c H' F' (fx x)
def a2z(i:Nat)(b:GF)(body:SF):SF:=fun e=>match e[i]? with
 | some (.fz d)=>(match seqL d with
  | none=>none
  | some ds=>l4 b body ds e)
 | some (.ow ds)=>unhide i ds (l4 b body ds (e.set i (.hd ds)))
 | some (.hd ds)=>l4 b body ds e
 | _=>none
theorem Rel.hid_stays{i:Nat}{ds:List D}(R:Rel K cl σ H F env)(h:env[i]? = some (.hd ds)):∃a xs,σ[i]? = some (some (.ref a))∧Rps K cl F ds xs∧H a=some (.lst xs)∧∀σ' H' F' e',Frm σ H F env σ' H' F' e'→H' a=some (.lst xs):=by
 obtain⟨a,xs,e,hH,hF,r⟩:=R.mu i ds (.inr h)
 refine⟨a,xs,e,r,hH,fun σ' H' F' e' f=>(f.hid a _ hH hF fun⟨j,fs,oo,q,e'⟩=>?_).1⟩
 cases fs with
 | ow fs =>
  have z:i=j:=R.inj i j a ⟨ds,.inr h⟩ ⟨fs,.inl q⟩ e e'
  subst z;rw[h]at q;cases q
 | od ks fs =>
  obtain⟨a',xs',e2,h2,_⟩:=R.od.at_ j _ ks fs q ⟨rfl,rfl⟩
  rw[e']at e2;cases e2
  rw[hH]at h2
  exact a30 (Option.some.inj h2).symm
 | no=>exact oo
 | fz _=>exact oo
 | hd _=>exact oo
 | hk _ _=>exact oo
theorem a8J{i:Nat}{g:TG}{tb:TS}{b:GF}{body:SF}(hg:G2 K cl k g b)(hb:RfS K cl E tb body):RfS K cl E (a2E (a0U K (D0 i)) g tb) (a2z i b body):=by
 intro N σ H env F R h
 unfold a2z at h
 split at h
 ·rename_i d q
  split at h
  ·exact h.elim
  ·rename_i ds hs
   obtain⟨v,e,p⟩:=R.fz i d q
   obtain⟨a,xs,rfl,r,hl⟩:=Rp.seqL p hs
   exact⟨_,e,a,rfl,⟨xs,hl H R.sub⟩,a4K hb hg R (fun σ' H' F' e' f2 R2=>hl H' (f2.fz.trans R2.sub)) r h⟩
 ·rename_i ds q
  have hi:i<env.length:=(List.getElem?_eq_some_iff.mp q).1
  have R':=R.hide q
  obtain⟨a,xs,e,r,hH,st⟩:=R'.hid_stays (i:=i) (ds:=ds) (List.getElem?_set_self hi)
  exact⟨_,e,a,rfl,⟨xs,.of hH⟩,a4K hb hg R' (fun σ' H' F' e' f2 R2=>.of (st σ' H' F' e' f2)) r (h.hide R q)⟩
 ·rename_i ds q
  obtain⟨a,xs,e,r,hH,st⟩:=R.hid_stays q
  exact⟨_,e,a,rfl,⟨xs,.of hH⟩,a4K hb hg R (fun σ' H' F' e' f2 R2=>.of (st σ' H' F' e' f2)) r h⟩
 ·exact h.elim
def W0(n:Nat):List D→List D
 | []=>[]
 | d::ds=>.tup [.int n,d]::W0 (n+1) ds
theorem a33:∀{ds:List D} {n i:Nat} {d:D},ds[i]? = some d→(W0 n ds)[i]? = some (.tup [.int (n+i:Nat),d])
 | [],_,_,_,h=>by simp at h
 | _::_,n,0,_,h=>by simp at h;subst h;rfl
 | _::ds,n,i+1,d,h=>by
  have:=a33 (ds:=ds) (n:=n+1) (i:=i) (d:=d) (by simpa using h)
  show(W0 (n+1) ds)[i]? = _
  rw[this,show n+1+i=n+(i+1) by omega]
theorem a34:∀{ds:List D} {n:Nat},(W0 n ds).length=ds.length
 | [],_=>rfl
 | _::ds,n=>by show(W0 (n+1) ds).length+1=ds.length+1;rw[a34]
theorem a6T{b:GF}{body:SF}{g:TG}{tb:TS}{ds:List D}{xs:List V}{a:Addr}{N:Ends}(hb:RfS K cl E tb body)(hg:G2 K cl k g b)(R:Rel K cl σ H F env)
  (hl:∀σ' H' F' e',Frm σ H F env σ' H' F' e'→Rel K cl σ' H' F' e'→SqL K H' a xs) (r:Rps K cl F ds xs) (h:Cs K cl E (l4 b body (W0 0 ds) env) σ H F env N) :
  ∃W:Nat→Nat→St→Hp→Prop,(∃m,W 0 m σ H)∧∀i m σ H,W i m σ H →
   ((Ite K a).stop i H∧N.nx σ H)∨((Ite K a).go i H∧∃M:St→Hp→Prop,(∀σ' H',M σ' H'→∃m',m'<m∧W (i+1) m' σ' H')∧∀x H',(Ite K a).yld i H x H'→g x σ H' fun σ2 H2=>tb { N with nx:=M,ct:=M,bk:=N.nx } σ2 H2):=by
 refine a6v (xs:=xs) (fun i σ' H'=>∃F' e',Frm σ H F env σ' H' F' e'∧Rel K cl σ' H' F' e'∧Cs K cl E (l4 b body ((W0 0 ds).drop i) e') σ H F env N) ⟨F,env,Frm.refl,R,h⟩ (fun i σ' H' _ ⟨F',e',f,R',_⟩=>hl σ' H' F' e' f R') (fun i x σ' H' p hx ⟨F',e',f,R',h'⟩ hp=>?_) (fun σ' H' ⟨F',e',f,R',h'⟩=>?_)
 ·obtain⟨d,hd,pd⟩:=r.get' hx
  rw[Q2 (a33 hd),Nat.zero_add]at h'
  have gr:Gr H' F' (upd H' p (.tup [.int i,x])) (upd F' p (.tup [.int i,x])):=.new R'.sub hp
  refine a0G hb hg (f.trans (R'.frm gr)) (R'.gr gr) ?_ h' fun σ2 H2 F2 e2 f2 R2 h2=>⟨F2,e2,f2,R2,h2⟩
  simp only[Rp]
  exact⟨p,_,rfl,c8,.cons (by simp only[Rp]) (.one (Rp.mono (f.fz.trans gr.fz) _ _ pd))⟩
 ·rw[← r.length,List.drop_eq_nil_of_le (by rw[a34];exact Nat.le_refl _)]at h'
  exact h' σ' H' F' f R'
def a1i(i:Nat)(b:GF)(body:SF):SF:=fun e=>match e[i]? with
 | some (.fz d)=>(match seqL d with
  | none=>none
  | some ds=>l4 b body (W0 0 ds) e)
 | some (.ow ds)=>unhide i ds (l4 b body (W0 0 ds) (e.set i (.hd ds)))
 | some (.hd ds)=>l4 b body (W0 0 ds) e
 | _=>none
theorem a6U{i:Nat}{g:TG}{tb:TS}{b:GF}{body:SF}(hg:G2 K cl k g b)(hb:RfS K cl E tb body):RfS K cl E (a2E (a7O K (M8 (D0 i) X2)) g tb) (a1i i b body):=by
 intro N σ H env F R h
 unfold a1i at h
 split at h
 ·rename_i d q
  split at h
  ·exact h.elim
  ·rename_i ds hs
   obtain⟨v,e,p⟩:=R.fz i d q
   obtain⟨a,xs,rfl,r,hl⟩:=Rp.seqL p hs
   exact⟨_,e,a,rfl,⟨xs,hl H R.sub⟩,a6T hb hg R (fun σ' H' F' e' f2 R2=>hl H' (f2.fz.trans R2.sub)) r h⟩
 ·rename_i ds q
  have hi:i<env.length:=(List.getElem?_eq_some_iff.mp q).1
  have R':=R.hide q
  obtain⟨a,xs,e,r,hH,st⟩:=R'.hid_stays (i:=i) (ds:=ds) (List.getElem?_set_self hi)
  exact⟨_,e,a,rfl,⟨xs,.of hH⟩,a6T hb hg R' (fun σ' H' F' e' f2 R2=>.of (st σ' H' F' e' f2)) r (h.hide R q)⟩
 ·rename_i ds q
  obtain⟨a,xs,e,r,hH,st⟩:=R.hid_stays q
  exact⟨_,e,a,rfl,⟨xs,.of hH⟩,a6T hb hg R (fun σ' H' F' e' f2 R2=>.of (st σ' H' F' e' f2)) r h⟩
 ·exact h.elim
def a1P(e:DE):Bool:=e.all fun s=>match s with
 | .hd _=>false
 | _=>true
def b0O(n i:Nat)(exm:Str→Bool)(body suite:SF):SF:=fun e=>match body e with
 | some (.ex (.v _ _ _))=>none
 | some (.ex (.p c))=>if(exm c && a1P e)=true then(match suite ((List.replicate n Sl.no).set i (.fz (.exc c)))with
   | some (.nx e2)=>put i .no e2
   | some (.rt d)=>some (.rt d)
   | some (.ro ds)=>some (.ro ds)
   | _=>none)else none
 | r=>r
theorem Rel.drop{i:Nat}(R:Rel K cl σ H F env)(nh:∀ds,env[i]?≠some (.hd ds)):Rel K cl (σ.set i none) H F (env.set i .no)∧Frm σ H F env (σ.set i none) H F (env.set i .no):=by
 have key:∀(j:Nat) (s:Sl),(env.set i .no)[j]? = some s→s≠.no→j≠i∧env[j]? = some s:=fun j s q ns=>by
  by_cases z:j=i
  ·subst z
   have hj:j<env.length:=by have:=(List.getElem?_eq_some_iff.mp q).1;rwa [List.length_set]at this
   rw[List.getElem?_set_self hj]at q;cases q;exact absurd rfl ns
  ·rw[List.getElem?_set_ne (Ne.symm z)]at q;exact⟨z,q⟩
 have muk:∀j,Mu (env.set i .no) j→j≠i∧Mu env j:=fun j ⟨ds,q⟩=>by
  rcases q with q | q
  ·obtain⟨z,q⟩:=key j _ q (fun z=>by cases z);exact⟨z,ds,.inl q⟩
  ·obtain⟨z,q⟩:=key j _ q (fun z=>by cases z);exact⟨z,ds,.inr q⟩
 refine⟨⟨R.sub,by rw[List.length_set,List.length_set];exact R.len,fun j d q=>?_,fun j ds q=>?_,fun j l b hj hl e1 e2=>?_,R.od.set a4C⟩,⟨Same.refl _,fun a o h f w=>⟨h,f,fun⟨j,ds,oo,q,e⟩=>?_⟩,fun j ds q=>?_,fun _ h=>h⟩⟩
 ·obtain⟨z,q⟩:=key j _ q (fun z=>by cases z)
  obtain⟨v,e,p⟩:=R.fz j d q
  exact⟨v,by rw[List.getElem?_set_ne (Ne.symm z)];exact e,p⟩
 ·have:j≠i∧(env[j]? = some (.ow ds)∨env[j]? = some (.hd ds)):=by
   rcases q with q | q
   ·obtain⟨z,q⟩:=key j _ q (fun z=>by cases z);exact⟨z,.inl q⟩
   ·obtain⟨z,q⟩:=key j _ q (fun z=>by cases z);exact⟨z,.inr q⟩
  obtain⟨z,q⟩:=this
  obtain⟨a,xs,e,r⟩:=R.mu j ds q
  exact⟨a,xs,by rw[List.getElem?_set_ne (Ne.symm z)];exact e,r⟩
 ·obtain⟨zj,mj⟩:=muk j hj
  obtain⟨zl,ml⟩:=muk l hl
  rw[List.getElem?_set_ne (Ne.symm zj)]at e1
  rw[List.getElem?_set_ne (Ne.symm zl)]at e2
  exact R.inj j l b mj ml e1 e2
 ·obtain⟨z,q⟩:=key j _ q (fun z=>by subst z;exact oo)
  rw[List.getElem?_set_ne (Ne.symm z)]at e
  exact w ⟨j,ds,oo,q,e⟩
 ·have z:j≠i:=fun z=>by subst z;exact nh ds q
  rw[List.getElem?_set_ne (Ne.symm z),List.getElem?_set_ne (Ne.symm z)]
  exact⟨q,rfl⟩
end
section
variable {K:W.Frag}{cl:Str→Addr}{E:XK}{σ:St}{H F:Hp}{env:DE}{k:Nat}
def P0:Option Sl→Sl
 | some (.fz d)=>.fz d
 | some (.ow ds)=>.hd ds
 | some (.hd ds)=>.hd ds
 | some (.od ks ds)=>.hk ks ds
 | some (.hk ks ds)=>.hk ks ds
 | _=>.no
def i4(k:Nat)(js:List Nat)(e:DE):DE:=List.replicate k .no++js.map fun j=>P0 e[j]?
def j0(b:GF)(c:BF)(el:ZF)(ec:DE)(eo:DE):List D→List D→Option (R (List D))
 | [],acc=>some (.ok acc eo)
 | d::ds,acc=>match b d ec with
  | none=>none
  | some e1=>bnd (c e1) fun t e2=>if t=true then bnd (el e2) fun y _=>if acc.length<sizeLine then j0 b c el ec eo ds (acc++[y])else none
   else j0 b c el ec eo ds acc
theorem L4{js:List Nat}{e:DE}{i:Nat}{s:Sl}(h:(i4 k js e)[i]? = some s)(n:s≠.no):k≤i∧∃j,js[i-k]? = some j∧P0 e[j]? = s:=by
 unfold i4 at h
 by_cases z:i<k
 ·rw[List.getElem?_append_left (by rw[List.length_replicate];exact z),List.getElem?_replicate,if_pos z]at h
  cases h;exact absurd rfl n
 ·rw[List.getElem?_append_right (by rw[List.length_replicate];omega),List.length_replicate,List.getElem?_map]at h
  cases q:js[i-k]? with
  | none=>rw[q]at h;cases h
  | some j=>rw[q]at h;cases h;exact⟨by omega,j,rfl,rfl⟩
theorem A1{js:List Nat}{i j:Nat}{v:V}(hk:k≤i)(hj:js[i-k]? = some j)(h:σ[j]? = some (some v)):(i6 k js σ)[i]? = some (some v):=by
 unfold i6
 rw[List.getElem?_append_right (by rw[List.length_replicate];exact hk),List.length_replicate,List.getElem?_map,hj]
 simp[h]
theorem RelOd.comp{js:List Nat}(R:RelOd K cl σ H F env)(nd:js.Nodup):RelOd K cl (i6 k js σ) H F (i4 k js env):=by
 have cap:∀{j:Nat} {s:Sl} {ks:DK} {ds:List D},P0 env[j]? = s→K8 s ks ds→∃t,env[j]? = some t∧K8 t ks ds:=fun{j s ks ds} h d=>by
  unfold P0 at h
  split at h<;>subst h
  ·exact d.elim
  ·exact d.elim
  ·exact d.elim
  ·rename_i q;exact⟨_,q,d⟩
  ·rename_i q;exact⟨_,q,d⟩
  ·exact d.elim
 have get:∀(i:Nat) (s:Sl) (ks:DK) (ds:List D),(i4 k js env)[i]? = some s→K8 s ks ds→k≤i∧∃j t,js[i-k]? = some j∧env[j]? = some t∧K8 t ks ds:=fun i s ks ds h d=>by
  obtain⟨hk,j,hj,c⟩:=L4 h (fun z=>by subst z;exact d)
  obtain⟨t,q,dt⟩:=cap c d
  exact⟨hk,j,t,hj,q,dt⟩
 refine⟨fun i s ks ds h d=>?_,fun i l s t ks ls ds es b hi di hl dl ei el=>?_⟩
 ·obtain⟨hk,j,t,hj,q,dt⟩:=get i s ks ds h d
  obtain⟨a,xs,e,r⟩:=R.at_ j t ks ds q dt
  exact⟨a,xs,A1 hk hj e,r⟩
 ·obtain⟨hk,j,s',hj,q,dt⟩:=get i s ks ds hi di
  obtain⟨hk',m,t',hm,q',dt'⟩:=get l t ls es hl dl
  obtain⟨a,xs,e,_⟩:=R.at_ j s' ks ds q dt
  obtain⟨a',xs',e',_⟩:=R.at_ m t' ls es q' dt'
  have h1:=A1 (k:=k) hk hj e
  have h2:=A1 (k:=k) hk' hm e'
  rw[ei]at h1;cases h1
  rw[el]at h2;cases h2
  have jm:j=m:=R.inj j m s' t' ks ls ds es b q dt q' dt' e e'
  subst jm
  obtain⟨hi',ej⟩:=List.getElem?_eq_some_iff.mp hj
  obtain⟨hl',em⟩:=List.getElem?_eq_some_iff.mp hm
  have:i-k=l-k:=(List.getElem_inj nd).mp (ej.trans em.symm)
  omega
theorem Rel.comp{js:List Nat}(R:Rel K cl σ H F env)(nd:js.Nodup):Rel K cl (i6 k js σ) H F (i4 k js env):=by
 have cap:∀{j:Nat} {ds:List D},P0 env[j]? = .hd ds→env[j]? = some (.ow ds)∨env[j]? = some (.hd ds):=fun{j ds} h=>by
  unfold P0 at h
  split at h
  ·cases h
  ·rename_i q;cases h;exact .inl q
  ·rename_i q;cases h;exact .inr q
  ·cases h
  ·cases h
  ·cases h
 have noow:∀{j:Nat} {ds:List D},P0 env[j]?≠.ow ds:=fun{j ds} h=>by
  unfold P0 at h
  split at h<;>cases h
 have mu':∀(i:Nat) (ds:List D),((i4 k js env)[i]? = some (.ow ds)∨(i4 k js env)[i]? = some (.hd ds))→k≤i∧∃j,js[i-k]? = some j∧(env[j]? = some (.ow ds)∨env[j]? = some (.hd ds)):=fun i ds q=>by
  rcases q with q | q
  ·obtain⟨hk,j,hj,c⟩:=L4 q (fun z=>by cases z);exact absurd c noow
  ·obtain⟨hk,j,hj,c⟩:=L4 q (fun z=>by cases z);exact⟨hk,j,hj,cap c⟩
 refine⟨R.sub,?_,fun i d q=>?_,fun i ds q=>?_,fun i l b ⟨ds,q⟩ ⟨es,q'⟩ e1 e2=>?_,R.od.comp nd⟩
 ·unfold i6 i4
  rw[List.length_append,List.length_append,List.length_replicate,List.length_replicate,List.length_map,List.length_map]
 ·obtain⟨hk,j,hj,c⟩:=L4 q (fun z=>by cases z)
  have:env[j]? = some (.fz d):=by
   unfold P0 at c
   split at c
   ·rename_i q;cases c;exact q
   all_goals cases c
  obtain⟨v,e,p⟩:=R.fz j d this
  exact⟨v,A1 hk hj e,p⟩
 ·obtain⟨hk,j,hj,c⟩:=mu' i ds q
  obtain⟨a,xs,e,r⟩:=R.mu j ds c
  exact⟨a,xs,A1 hk hj e,r⟩
 ·obtain⟨hk,j,hj,c⟩:=mu' i ds q
  obtain⟨hl,m,hm,c'⟩:=mu' l es q'
  obtain⟨a,xs,e,_⟩:=R.mu j ds c
  obtain⟨a',xs',e',_⟩:=R.mu m es c'
  have h1:=A1 (k:=k) hk hj e
  have h2:=A1 (k:=k) hl hm e'
  rw[e1]at h1;cases h1
  rw[e2]at h2;cases h2
  have jm:j=m:=R.inj j m b ⟨ds,c⟩ ⟨es,c'⟩ e e'
  subst jm
  obtain⟨hi',ei⟩:=List.getElem?_eq_some_iff.mp hj
  obtain⟨hl',el⟩:=List.getElem?_eq_some_iff.mp hm
  have:i-k=l-k:=(List.getElem_inj nd).mp (ei.trans el.symm)
  omega
def NoOw(e:DE):Prop:=∀(i:Nat) (s:Sl),isO s→e[i]?≠some s
theorem a5I{js:List Nat}{e:DE}:NoOw (i4 k js e):=fun i s oo q=>by
 obtain⟨hk,j,hj,c⟩:=L4 q (fun z=>by subst z;exact oo)
 unfold P0 at c
 split at c<;>subst c<;>exact oo
theorem NoOw.not{e:DE}(n:NoOw e){σ:St}{a:Addr}:¬Ow σ e a:=fun⟨i,ds,oo,q,_⟩=>n i ds oo q
theorem Frm.gr{σ':St}{H' F':Hp}{env':DE}(f:Frm σ H F env σ' H' F' env')(n:NoOw env)(s:Same F' H'):Gr H F H' F':=⟨f.fz,s,fun a o h g=>by obtain⟨h1,f1,_⟩:=f.hid a o h g n.not;exact⟨h1,f1⟩⟩
theorem FX.gr{H' F':Hp}(f:FX σ H F env H' F')(n:NoOw env):Gr H F H' F':=⟨f.fz,f.sub,fun a o h g=>f.hid a o h g n.not⟩
structure Grow(K:W.Frag)(cl:Str→Addr)(σ:St)(H0 F0:Hp)(env:DE)(B:Addr)(acc:List D)(ys:List V)(H F:Hp):Prop where
 rel:Rel K cl σ H F env
 frm:Frm σ H0 F0 env σ H F env
 new:H0 B=none
 at_:H B=some (.lst ys)
 un:F B=none
 far:∀j,Mu env j→σ[j]?≠some (some (.ref B))
 rps:Rps K cl F acc ys
 stay:∀a o,H0 a=some o→F0 a=none→H a=some o∧F a=none
theorem Grow.start{B:Addr}(R:Rel K cl σ H F env)(hB:H B=none):Grow K cl σ H F env B [] [] (upd H B (.lst [])) F:=by
 obtain⟨R',f⟩:=R.newN (o:=.lst []) hB
 refine⟨R',f,hB,c8,R.sub.free hB,fun j ⟨ds,q⟩ e=>?_,.nil,fun a o h f=>⟨by rw[a7 (fun z=>by rw[z,hB]at h;cases h)];exact h,f⟩⟩
 obtain⟨a,ys,e1,hH,_⟩:=R.mu j ds q
 rw[e]at e1;cases e1
 rw[hB]at hH;cases hH
theorem Grow.gr{B:Addr}{acc:List D}{ys:List V}{H0 F0 H' F':Hp}(g:Grow K cl σ H0 F0 env B acc ys H F)(r:Gr H F H' F'):Grow K cl σ H0 F0 env B acc ys H' F' :=
 ⟨g.rel.gr r,g.frm.trans (g.rel.frm r),g.new,(r.hid B _ g.at_ g.un).1,(r.hid B _ g.at_ g.un).2,g.far,g.rps.mono r.fz,fun a o h f=>by obtain⟨h1,f1⟩:=g.stay a o h f;exact r.hid a o h1 f1⟩
theorem Grow.push{B:Addr}{acc:List D}{ys:List V}{H0 F0:Hp}{d:D}{y:V}(g:Grow K cl σ H0 F0 env B acc ys H F)(p:Rp K cl F d y):Grow K cl σ H0 F0 env B (acc++[d]) (ys++[y]) (upd H B (.lst (ys++[y]))) F:=by
 have ne:∀a o,F a=some o→a≠B:=fun a o h z=>by rw[z,g.un]at h;cases h
 refine⟨⟨fun a o h=>by rw[a7 (ne a o h)];exact g.rel.sub _ _ h,g.rel.len,g.rel.fz,fun j ds q=>?_,g.rel.inj,g.rel.od.updL g.at_⟩,⟨g.frm.fz,fun a o h f w=>?_,g.frm.keep,fun a h=>?_⟩,g.new,c8,g.un,g.far,g.rps.append (.one p),fun a o h f=>by rw[a7 (fun z=>by rw[z,g.new]at h;cases h)];exact g.stay a o h f⟩
 ·obtain⟨a,xs,e,hH,r⟩:=g.rel.mu j ds q
  have z:a≠B:=fun z=>g.far j ⟨ds,q⟩ (by rw[e,z])
  exact⟨a,xs,e,by rw[a7 z];exact hH,r⟩
 ·have z:a≠B:=fun z=>by rw[z,g.new]at h;cases h
  rw[a7 z];exact g.frm.hid a o h f w
 ·by_cases z:a=B
  ·rw[z,c8]at h;cases h
  ·rw[a7 z]at h;exact g.frm.dom a h
theorem a2e{b:GF}{c:BF}{el:ZF}{g:TG}{tf:TT}{te:TE}{js:List Nat}{B:Addr}{d:D}{x:V}{ds acc:List D}{ys:List V}{H0 F0:Hp}{Q:VK}{Pv:List V→Hp→Prop}(nd:js.Nodup)
  (hg:G2 K cl k g b) (hc:M6 K cl E tf c) (he:k8 K cl E te el) (gw:Grow K cl σ H0 F0 env B acc ys H F) (p:Rp K cl F d x)
  (h:Ct K cl E (PN K cl) (j0 b c el (i4 k js env) env (d::ds) acc) σ H0 F0 env Q)
  (hP:∀acc' ys' H' F',Grow K cl σ H0 F0 env B acc' ys' H' F'→Ct K cl E (PN K cl) (j0 b c el (i4 k js env) env ds acc') σ H0 F0 env Q→Pv ys' H') :
  g x (i6 k js σ) H fun σ2 H2=>(σ2.drop k=(i6 k js σ).drop k∧σ2.length=(i6 k js σ).length)∧tf σ2 H2 fun t H3 =>
   if t=true then te σ2 H3 fun y H4=>H4 B=some (.lst ys)∧ys.length<sizeLine∧Pv (ys++[y]) (upd H4 B (.lst (ys++[y])))else Pv ys H3:=by
 unfold j0 at h
 have Rc:Rel K cl (i6 k js σ) H F (i4 k js env):=gw.rel.comp nd
 split at h
 ·exact h.elim
 ·rename_i e1 hb
  refine hg x _ H _ d _ e1 F Rc p hb fun σ2 d2 l2 f2 R2=>⟨⟨d2,l2⟩,?_⟩
  have n1:NoOw (i4 k js env):=a5I
  -- ways out by an exception
  have exc:∀{H' F':Hp} {σ':St} {e':DE} {H'' F'':Hp} {n:XN},Frm (i6 k js σ) H F (i4 k js env) σ' H' F' e'→FX σ' H' F' e' H'' F''→(∀H' F',FX σ H0 F0 env H' F'→∀cx,Xf K cl F' n cx→E (.ref (cl n.nm)) cx H')→∀cx,Xf K cl F'' n cx→E (.ref (cl n.nm)) cx H'':=fun{H' F' σ' e' H'' F'' n} f fx q=>by
   have gr:Gr H F H'' F'':=(f.fx fx).gr n1
   exact q _ _ (gw.frm.fx gr.fx)
  refine hc σ2 H _ e1 F R2 ?_
  cases hce:c e1 with
  | none=>rw[hce]at h;exact h.elim
  | some rc =>
   rw[hce]at h
   cases rc with
   | ex n=>exact fun H' F' fx=>exc f2 fx h
   | ok t e2 =>
    intro t' H3 F3 f3 R3 ht
    have ht:t'=t:=ht
    subst ht
    have h:Ct K cl E (PN K cl) (if t'=true then bnd (el e2) fun y _=>if acc.length<sizeLine then j0 b c el (i4 k js env) env ds (acc++[y])else none else j0 b c el (i4 k js env) env ds acc) σ H0 F0 env Q:=h
    have gr3:Gr H F H3 F3:=(f2.trans f3).gr n1 R3.sub
    by_cases z:t'=true
    ·rw[if_pos z]at h ⊢
     refine he σ2 H3 _ e2 F3 R3 ?_
     cases hel:el e2 with
     | none=>rw[hel]at h;exact h.elim
     | some re =>
      rw[hel]at h
      cases re with
      | ex n=>exact fun H' F' fx=>exc (f2.trans f3) fx h
      | ok y e3 =>
       intro v H4 F4 f4 R4 hv
       have h:Ct K cl E (PN K cl) (if acc.length<sizeLine then j0 b c el (i4 k js env) env ds (acc++[y])else none) σ H0 F0 env Q:=h
       split at h
       ·rename_i hlen
        have gr4:Gr H F H4 F4:=((f2.trans f3).trans f4).gr n1 R4.sub
        have gw4:=gw.gr gr4
        exact⟨gw4.at_,by rw[← gw4.rps.length];exact hlen,hP _ _ _ _ (gw4.push hv) h⟩
       ·exact h.elim
    ·rw[if_neg z]at h ⊢
     exact hP _ _ _ _ (gw.gr gr3) h
theorem a28{b:GF}{c:BF}{el:ZF}{js:List Nat}{B:Addr}{acc:List D}{ys:List V}{H0 F0:Hp}{Q:VK}(gw:Grow K cl σ H0 F0 env B acc ys H F)(h:Ct K cl E (PN K cl) (j0 b c el (i4 k js env) env [] acc) σ H0 F0 env Q):Q (.ref B) H :=
 h _ H F gw.frm gw.rel ⟨B,ys,rfl,gw.new,gw.at_,gw.un,gw.far,gw.rps⟩
theorem a2A{b:GF}{c:BF}{el:ZF}{g:TG}{tf:TT}{te:TE}{js:List Nat}{ds:List D}{xs:List V}{a B:Addr}{Q:VK}(nd:js.Nodup)(hg:G2 K cl k g b)(hc:M6 K cl E tf c)(he:k8 K cl E te el)(R:Rel K cl σ H F env)(hB:H B=none)
  (hl:∀H' F',Same F F'→Same F' H'→(∀a o,H a=some o→F a=none→H' a=some o∧F' a=none)→SqL K H' a xs) (r:Rps K cl F ds xs) (h:Ct K cl E (PN K cl) (j0 b c el (i4 k js env) env ds []) σ H F env Q) :
  S3 (Itl K a) g tf te k (i6 k js σ) B (fun H'=>Q (.ref B) H') H:=by
 refine a5m (xs:=xs) (fun i ys H'=>∃F' acc,Grow K cl σ H F env B acc ys H' F'∧Ct K cl E (PN K cl) (j0 b c el (i4 k js env) env (ds.drop i) acc) σ H F env Q) ⟨F,[],.start R hB,h⟩ (fun i ys H' _ ⟨F',acc,gw,_⟩=>hl H' F' gw.frm.fz gw.rel.sub gw.stay) (fun i x ys H' hx ⟨F',acc,gw,h'⟩=>?_) (fun ys H' ⟨F',acc,gw,h'⟩=>?_)
 ·obtain⟨d,hd,p⟩:=r.get' hx
  rw[Q2 hd]at h'
  exact a2e (Pv:=fun ys' H2=>∃F' acc,Grow K cl σ H F env B acc ys' H2 F'∧Ct K cl E (PN K cl) (j0 b c el (i4 k js env) env (ds.drop (i+1)) acc) σ H F env Q) nd hg hc he gw (Rp.mono gw.frm.fz _ _ p) h' fun acc' ys' H2 F2 gw2 h2=>⟨F2,acc',gw2,h2⟩
 ·rw[← r.length,List.drop_length]at h'
  exact a28 gw h'
theorem b0P{b:GF}{c:BF}{el:ZF}{g:TG}{tf:TT}{te:TE}{js:List Nat}{lo:Int}{n:Nat}{B:Addr}{Q:VK}(nd:js.Nodup)(hg:G2 K cl k g b)(hc:M6 K cl E tf c)(he:k8 K cl E te el)(R:Rel K cl σ H F env)(hB:H B=none)
  (h:Ct K cl E (PN K cl) (j0 b c el (i4 k js env) env (A9 lo n) []) σ H F env Q) :
  S3 (W7 lo n) g tf te k (i6 k js σ) B (fun H'=>Q (.ref B) H') H:=by
 refine a4s (fun i ys H'=>∃F' acc,Grow K cl σ H F env B acc ys H' F'∧Ct K cl E (PN K cl) (j0 b c el (i4 k js env) env ((A9 lo n).drop i) acc) σ H F env Q) ⟨F,[],.start R hB,h⟩ (fun i ys H' hx ⟨F',acc,gw,h'⟩=>?_) (fun ys H' ⟨F',acc,gw,h'⟩=>?_)
 ·rw[a2d hx]at h'
  exact a2e (Pv:=fun ys' H2=>∃F' acc,Grow K cl σ H F env B acc ys' H2 F'∧Ct K cl E (PN K cl) (j0 b c el (i4 k js env) env ((A9 lo n).drop (i+1)) acc) σ H F env Q) nd hg hc he gw (by simp only[Rp]) h' fun acc' ys' H2 F2 gw2 h2=>⟨F2,acc',gw2,h2⟩
 ·rw[show(A9 lo n).drop n=[]from List.drop_eq_nil_of_le (by rw[a26];exact Nat.le_refl _)]at h'
  exact a28 gw h'
def V3:BF:=fun e=>some (.ok true e)
theorem a29:M6 K cl E a7N V3:=fun σ H Q env F R h=>h true H F Frm.refl R rfl
def a1j(k:Nat)(js:List Nat)(f:ZF)(b:GF)(c:BF)(el:ZF):NF:=fun e=>bnd (f e) fun d e1=>match seqL d with
 | none=>none
 | some ds=>j0 b c el (i4 k js e1) e1 ds []
def Z0(i:Nat)(k:Nat)(js:List Nat)(b:GF)(c:BF)(el:ZF):NF:=fun e=>match look e i with
 | some d=>(match seqL d with
  | none=>none
  | some ds=>j0 b c el (i4 k js e) e ds [])
 | none=>none
def Z1(rg:List D→Option (Int×Nat))(k:Nat)(js:List Nat)(f:AF)(b:GF)(c:BF)(el:ZF):NF:=fun e=>bnd (f e) fun ds e1=>match rg ds with
 | none=>none
 | some (lo,n)=>j0 b c el (i4 k js e1) e1 (A9 lo n) []
theorem a8K{t:TE}{g:TG}{tf:TT}{te:TE}{js:List Nat}{f:ZF}{b:GF}{c:BF}{el:ZF}(nd:js.Nodup)(hf:k8 K cl E t f)(hg:G2 K cl k g b)(hc:M6 K cl E tf c)(he:k8 K cl E te el):Q0 K cl E (a01 (a0U K t) g tf te k js) (a1j k js f b c el):=by
 intro σ H Q env F R h
 refine hf σ H _ env F R ((Ct.bnd h a0E).mono fun x H1 ⟨F1,e1,d,s1,R1,p1,h1⟩=>?_)
 split at h1
 ·exact h1.elim
 ·rename_i ds hs
  obtain⟨a,xs,rfl,r,hl⟩:=Rp.seqL p1 hs
  exact⟨a,rfl,⟨xs,hl H1 R1.sub⟩,fun B hB=>a2A nd hg hc he R1 hB (fun H' F' f2 s2 _=>hl H' (f2.trans s2)) r h1⟩
theorem a6V{i:Nat}{g:TG}{tf:TT}{te:TE}{js:List Nat}{b:GF}{c:BF}{el:ZF}(nd:js.Nodup)(hg:G2 K cl k g b)(hc:M6 K cl E tf c)(he:k8 K cl E te el):Q0 K cl E (a01 (a0U K (D0 i)) g tf te k js) (Z0 i k js b c el):=by
 intro σ H Q env F R h
 unfold Z0 look at h
 cases q:env[i]? with
 | none=>rw[q]at h;exact h.elim
 | some s =>
  rw[q]at h
  cases s with
  | no=>exact h.elim
  | od _ _=>exact h.elim
  | hk _ _=>exact h.elim
  | fz d =>
   have h:Ct K cl E (PN K cl) (match seqL d with
    | none=>none
    | some ds=>j0 b c el (i4 k js env) env ds []) σ H F env Q:=h
   split at h
   ·exact h.elim
   ·rename_i ds hs
    obtain⟨v,e,p⟩:=R.fz i d q
    obtain⟨a,xs,rfl,r,hl⟩:=Rp.seqL p hs
    exact⟨_,e,a,rfl,⟨xs,hl H R.sub⟩,fun B hB=>a2A nd hg hc he R hB (fun H' F' f2 s2 _=>hl H' (f2.trans s2)) r h⟩
  | ow ds =>
   have h:Ct K cl E (PN K cl) (j0 b c el (i4 k js env) env ds []) σ H F env Q:=h
   obtain⟨a,xs,e,hH,hF,r⟩:=R.mu i ds (.inl q)
   exact⟨_,e,a,rfl,⟨xs,.of hH⟩,fun B hB=>a2A nd hg hc he R hB (fun H' F' _ _ st=>.of (st a _ hH hF).1) r h⟩
  | hd ds =>
   have h:Ct K cl E (PN K cl) (j0 b c el (i4 k js env) env ds []) σ H F env Q:=h
   obtain⟨a,xs,e,hH,hF,r⟩:=R.mu i ds (.inr q)
   exact⟨_,e,a,rfl,⟨xs,.of hH⟩,fun B hB=>a2A nd hg hc he R hB (fun H' F' _ _ st=>.of (st a _ hH hF).1) r h⟩
theorem a5J{t:TA}{g:TG}{tf:TT}{te:TE}{js:List Nat}{f:AF}{b:GF}{c:BF}{el:ZF}(nd:js.Nodup)(hf:K9 K cl E t f)(hg:G2 K cl k g b)(hc:M6 K cl E tf c)(he:k8 K cl E te el):Q0 K cl E (a01 (a4j t) g tf te k js) (Z1 F8 k js f b c el):=by
 intro σ H Q env F R h
 refine hf σ H _ env F R ((Ct.bnd h a0E).mono fun x H1 ⟨F1,e1,ds,s1,R1,p1,h1⟩=>?_)
 split at h1
 ·exact h1.elim
 ·rename_i lo n hs
  obtain⟨j,e,c1,c2,rfl,rfl⟩:=a32 hs p1
  exact⟨j,e,c1,c2,fun B hB=>b0P nd hg hc he R1 hB h1⟩
end
def fD(n m:Nat)(body:SF)(ds:List D):Option R1:=if ds.length=m then(match body (ds.map .fz++List.replicate (n-ds.length) .no)with
 | some (.nx _)=>some (.ret .non)
 | some (.rt d)=>some (.ret d)
 | some (.ro es)=>some (.own es)
 | some (.rz dss)=>some (.owz dss)
 | some (.rp n es)=>some (.owp n es)
 | some (.ex c)=>some (.ex c)
 | _=>none)else none
section
variable {P:Program}{w:World}{K:W.Frag}{mg:Str→Option Value}{base:Heap}{cl:Str→Addr}
theorem a5K{N:List Str}{vs:List V}{ds:List D}{H F:Hp}(s:Same F H)(p:Rps K cl F ds vs):Rel K cl (start N vs) H F (ds.map .fz++List.replicate (N.length-ds.length) .no)∧NoOw (ds.map .fz++List.replicate (N.length-ds.length) .no):=by
 have key:∀(i:Nat) (t:Sl),(ds.map Sl.fz++List.replicate (N.length-ds.length) .no)[i]? = some t→t≠.no→∃d,ds[i]? = some d∧t=.fz d:=fun i t q n=>by
  by_cases z:i<ds.length
  ·rw[List.getElem?_append_left (by rw[List.length_map];exact z),List.getElem?_map]at q
   cases hd:ds[i]? with
   | none=>rw[hd]at q;cases q
   | some d=>rw[hd]at q;cases q;exact⟨d,rfl,rfl⟩
  ·rw[List.getElem?_append_right (by rw[List.length_map];omega),List.getElem?_replicate]at q
   split at q
   ·cases q;exact absurd rfl n
   ·cases q
 have no:NoOw (ds.map .fz++List.replicate (N.length-ds.length) .no):=fun i es oo q=>by
  obtain⟨d,_,z⟩:=key i _ q (fun z=>by subst z;exact oo)
  subst z;exact oo
 refine⟨⟨s,?_,fun i d q=>?_,fun i es q=>?_,fun i j b ⟨es,q⟩ _ _ _=>?_,.none fun j s ks ds q d=>by obtain⟨_,_,rfl⟩:=key j s q (fun z=>by subst z;exact d);exact d⟩,no⟩
 ·unfold start
  rw[List.length_append,List.length_append,List.length_map,List.length_map,List.length_replicate,List.length_replicate,p.length]
 ·obtain⟨d',hd,z⟩:=key i _ q (fun z=>by cases z)
  cases z
  obtain⟨v,hv,r⟩:=p.get hd
  refine⟨v,?_,r⟩
  unfold start
  rw[List.getElem?_append_left (by rw[List.length_map];exact(List.getElem?_eq_some_iff.mp hv).1),List.getElem?_map,hv];rfl
 ·rcases q with q | q
  ·obtain⟨d,_,z⟩:=key i _ q (fun z=>by cases z);cases z
  ·obtain⟨d,_,z⟩:=key i _ q (fun z=>by cases z);cases z
 ·rcases q with q | q
  ·obtain⟨d,_,z⟩:=key i _ q (fun z=>by cases z);cases z
  ·obtain⟨d,_,z⟩:=key i _ q (fun z=>by cases z);cases z
theorem a35{n m:Nat}{body:SF}{vs:List V}{H:Hp}{Q:VK}{E:XK}(h:g6 K cl (fD n m body) vs H Q E):vs.length=m:=by
 obtain⟨ds,F,s,p,h⟩:=h
 unfold fD at h
 by_cases z:ds.length=m
 ·rw[← p.length];exact z
 ·rw[if_neg z]at h;exact h.elim
theorem a1k{N:List Str}{m:Nat}{body:SF}{t:TS}{vs:List V}{H:Hp}{Q:VK}{E:XK}(hb:RfS K cl E t body)(h:g6 K cl (fD N.length m body) vs H Q E):t { nx:=fun _ H'=>Q .non H',rt:=Q } (start N vs) H:=by
 obtain⟨ds,F,s,p,h⟩:=h
 obtain⟨R,no⟩:=a5K (N:=N) s p
 refine hb _ _ H _ F R ?_
 unfold fD at h
 by_cases z:ds.length=m
 ·rw[if_pos z]at h
  cases r:body (ds.map .fz++List.replicate (N.length-ds.length) .no)with
  | none=>rw[r]at h;exact h.elim
  | some rs =>
   rw[r]at h
   cases rs with
   | nx e=>exact fun σ' H' F' f R'=>h .non H' F' (f.gr no R'.sub) (by simp only[Rp])
   | rt d=>exact fun v H' F' x q=>h v H' F' (x.gr no) q
   | ro es =>
    refine fun a xs H' F' x ha fa nw q=>h a xs H' F' (x.gr no) ?_ ha fa q
    cases e:H a with
    | none=>rfl
    | some o=>exact absurd (nw o e) no.not
   | rz dss =>
    refine fun p as H' F' x hp ht fp rz=>h p as H' F' (x.gr no) hp ht fp (rz.imp fun a xs ha fa nw=>?_)
    cases e:H a with
    | none=>rfl
    | some o=>exact absurd (nw o e) no.not
   | rp n es =>
    refine fun p a xs H' F' x hp ht fp ha fa nw q=>h p a xs H' F' (x.gr no) hp ht fp ?_ ha fa q
    cases e:H a with
    | none=>rfl
    | some o=>exact absurd (nw o e) no.not
   | bk e=>exact h.elim
   | ct e=>exact h.elim
   | ex c=>exact fun H' F' x=>h H' F' (x.gr no)
 ·rw[if_neg z]at h;exact h.elim
theorem Fun.okD{x qual:Str}{st:Stmt}{f:Addr}{fd:FuncData}{N ps:List Str}{k:Nat}{body:SF}(F:Fun K x qual st f fd)(S:FnScope N ps (a9 st))
  (hbody:∀(cdv:Value) (A:Around) (outer:List Env) (s:Shared) (H:Hp) (E:XK),Room k (A.deeper (envOfC qual (a9 st) s.heap.objs.size f cdv)) →
   ∃t,PSs (L6 (m4 P w) P w K mg base N qual (a9 st) f cdv A outer s H E) (g8 st) t∧RfS K cl E t body):FnOk P w K mg base (m4 P w) (k+1) f fd ps (g6 K cl (fD N.length ps.length body)) :=
 F.okE S (fun vs H Q E h=>a35 h) fun cdv A outer s H vs Q E hr h=>by
  obtain⟨t,h1,h2⟩:=hbody cdv A outer s H E hr
  exact⟨t,h1,a1k h2 h⟩
theorem FunD.okD{x qual:Str}{st:Stmt}{dT f:Addr}{fd:FuncData}{N ps:List Str}{k:Nat}{body:SF}(F:FunD K x qual st dT f fd)(S:FnScope N ps (a9 st))
  (hbody:∀(cdv:Value) (A:Around) (outer:List Env) (s:Shared) (H:Hp) (E:XK),Room k (A.deeper (envOfC qual (a9 st) s.heap.objs.size f cdv)) →
   ∃t,PSs (L6 (m4 P w) P w K mg base N qual (a9 st) f cdv A outer s H E) (g8 st) t∧RfS K cl E t body):FnOk P w K mg base (m4 P w) (k+1) f fd ps (g6 K cl (fD N.length ps.length body)) :=
 F.okE S (fun vs H Q E h=>a35 h) fun cdv A outer s H vs Q E hr h=>by
  obtain⟨t,h1,h2⟩:=hbody cdv A outer s H E hr
  exact⟨t,h1,a1k h2 h⟩
theorem a8L{g:List D→Option R1}{vs:List V}{H:Hp}{Q:VK}{E:XK}{a:Addr}{ns:List Int}(e:vs=[.ref a])(h:Scr K H a (ns.map V.int))(q:∀H',Q (.bl true) H')(m:g [.scr ns]=some (.ret (.bl true))):g6 K cl g vs H Q E:=by
 refine⟨[.scr ns],H,Same.refl _,?_,?_⟩
 ·rw[e];exact .one (by simp only[Rp];exact⟨a,rfl,h⟩)
 ·rw[m]
  intro v H' F' _ p
  have p:Rp K cl F' (.bl true) v:=p
  simp only[Rp]at p
  rw[p];exact q H'
def tyN:D→Option String
 | .non=>some "NoneType"
 | .bl _=>some "bool"
 | .int _=>some "int"
 | .str _=>some "str"
 | .lst _=>some "list"
 | .tup _=>some "tuple"
 | _=>none
theorem a8M{K:W.Frag}(t n:String)(ht:t∈["NoneType","bool","int","str","list","tuple"])(hn:n∈["bool","int","str","list","tuple"]):W.kitOne K (.type t) (.type n)=some (t == n || (t == "bool" && n == "int")):=by
 simp only[List.mem_cons,List.not_mem_nil,or_false]at ht hn
 rcases ht with rfl | rfl | rfl | rfl | rfl | rfl<;>rcases hn with rfl | rfl | rfl | rfl | rfl<;>first | rfl | with_unfolding_all rfl
def b2u:List D→Option D
 | [d,.ty n]=>match tyN d with
  | some t=>if n∈["bool","int","str","list","tuple"]then some (.bl (t == n || (t == "bool" && n == "int")))else none
  | none=>none
 | _=>none
theorem a8N{d:D}{t:String}(h:tyN d=some t):t∈["NoneType","bool","int","str","list","tuple"]:=by
 cases d<;>cases h<;>decide
theorem b0Q{F H:Hp}{d:D}{t:String}{v:V}(s:Same F H)(p:Rp K cl F d v)(h:tyN d=some t):TyX K H v (.type t):=by
 cases d<;>cases h<;>simp only[Rp]at p
 ·subst p;exact .of .non
 ·subst p;exact .of (.bl _)
 ·subst p;exact .of (.int _)
 ·subst p;exact .of (.str _)
 ·obtain⟨a,xs,rfl,h,_⟩:=p;exact .of (.tup (s _ _ h))
 ·obtain⟨a,xs,rfl,h,_⟩:=p;exact .of (.lst (s _ _ h))
def a2B(n:String)(d:D):Option D:=match tyN d with
 | some t=>if n∈["bool","int","str","list","tuple"]then some (.bl (t == n || (t == "bool" && n == "int")))else none
 | none=>none
def a1l(i:Nat)(n:String):ZF:=fun e=>match look e i with
 | some d=>opt (a2B n d) e
 | none=>none
theorem a36{E:XK}{i:Nat}{n:String}{t:TE}(ht:t=tC (.ty n):=by rfl):k8 K cl E (tCB (a4r K) (M8 (D0 i) (M8 t X2))) (a1l i n):=by
 subst ht
 intro σ H Q env F R h
 unfold a1l at h
 cases q:look env i with
 | none=>rw[q]at h;exact h.elim
 | some d =>
  rw[q]at h
  obtain⟨x,e,rb⟩:=R.look q
  refine⟨x,e,?_⟩
  cases hz:a2B n d with
  | none=>simp only[hz,U7]at h;exact h.elim
  | some z =>
   simp only[hz,U6]at h
   unfold a2B at hz
   split at hz
   ·rename_i t ht
    split at hz
    ·rename_i hn;cases hz
     refine⟨x,_,_,_,_,rfl,rfl,?_,a8M t n (a8N ht) hn,h _ H F Frm.refl R (by show Rp K cl F (.bl _) _;simp only[Rp])⟩
     rcases rb with p | ⟨a,xs,ds,rfl,rfl,hH,_⟩
     ·exact b0Q R.sub p ht
     ·cases ht;exact .of (.lst hH)
    ·cases hz
   ·cases hz
end
section
variable {P:Program}{w:World}{mg:Str→Option Value}{base:Heap}{K:W.Frag}{cl:Str→Addr}{E:XK}
def p9(x1:Str→Str→Option Bool)(x2:Str→String→Option Bool):List D→Option D
 | [.exc c,.cls n]=>(x1 c n).map .bl
 | [.exc c,.ty n]=>(x2 c n).map .bl
 | [.exv c _ _,.cls n]=>(x1 c n).map .bl
 | [.exv c _ _,.ty n]=>(x2 c n).map .bl
 | _=>none
theorem E3{x1:Str→Str→Option Bool}{x2:Str→String→Option Bool}(h1:∀c n b,x1 c n=some b→W.ExcT K (cl c)∧W.kitOne K (.ref (cl c)) (.ref (cl n))=some b)
  (h2:∀c n b,x2 c n=some b→W.ExcT K (cl c)∧W.kitOne K (.ref (cl c)) (.type n)=some b):a4E K cl (a4r K) (p9 x1 x2):=by
 intro xs ds z H F Q s p h q
 unfold p9 at h
 split at h
 ·rename_i c n
  cases hb:x1 c n with
  | none=>rw[hb]at h;cases h
  | some b =>
   rw[hb]at h;cases h
   obtain⟨v,r,rfl,p1,p2⟩:=p.inv
   obtain⟨u,r',rfl,p3,p4⟩:=p2.inv
   rw[p4.inv0]
   simp only[Rp]at p1 p3
   obtain⟨a,cx,rfl,ha⟩:=p1
   subst p3
   obtain⟨hT,hk⟩:=h1 c n b hb
   exact⟨_,_,_,_,b,rfl,rfl,.exc (s _ _ ha) hT,hk,q _ H F (.refl s) (by simp only[Rp])⟩
 ·rename_i c n
  cases hb:x2 c n with
  | none=>rw[hb]at h;cases h
  | some b =>
   rw[hb]at h;cases h
   obtain⟨v,r,rfl,p1,p2⟩:=p.inv
   obtain⟨u,r',rfl,p3,p4⟩:=p2.inv
   rw[p4.inv0]
   simp only[Rp]at p1 p3
   obtain⟨a,cx,rfl,ha⟩:=p1
   subst p3
   obtain⟨hT,hk⟩:=h2 c n b hb
   exact⟨_,_,_,_,b,rfl,rfl,.exc (s _ _ ha) hT,hk,q _ H F (.refl s) (by simp only[Rp])⟩
 ·rename_i c f' d' n
  cases hb:x1 c n with
  | none=>rw[hb]at h;cases h
  | some b =>
   rw[hb]at h;cases h
   obtain⟨v,r,rfl,p1,p2⟩:=p.inv
   obtain⟨u,r',rfl,p3,p4⟩:=p2.inv
   rw[p4.inv0]
   simp only[Rp]at p1 p3
   obtain⟨a,dx,y,rfl,ha,_⟩:=p1
   subst p3
   obtain⟨hT,hk⟩:=h1 c n b hb
   exact⟨_,_,_,_,b,rfl,rfl,.exc (s _ _ ha) hT,hk,q _ H F (.refl s) (by simp only[Rp])⟩
 ·rename_i c f' d' n
  cases hb:x2 c n with
  | none=>rw[hb]at h;cases h
  | some b =>
   rw[hb]at h;cases h
   obtain⟨v,r,rfl,p1,p2⟩:=p.inv
   obtain⟨u,r',rfl,p3,p4⟩:=p2.inv
   rw[p4.inv0]
   simp only[Rp]at p1 p3
   obtain⟨a,dx,y,rfl,ha,_⟩:=p1
   subst p3
   obtain⟨hT,hk⟩:=h2 c n b hb
   exact⟨_,_,_,_,b,rfl,rfl,.exc (s _ _ ha) hT,hk,q _ H F (.refl s) (by simp only[Rp])⟩
 ·cases h
end
section
variable {α β:Type}
def M3(r:Option RS)(k:SF):Option RS:=match r with
 | some (.nx e)=>k e
 | r=>r
theorem a8O{f k:SF}{e:DE}:b8 f k e=M3 (f e) k:=rfl
theorem a8P{e:DE}{k:SF}:M3 (some (.nx e)) k=k e:=rfl
theorem a8Q{d:D}{k:SF}:M3 (some (.rt d)) k=some (.rt d):=rfl
theorem a8R{d:List D}{k:SF}:M3 (some (.ro d)) k=some (.ro d):=rfl
theorem a8S{d:XN}{k:SF}:M3 (some (.ex d)) k=some (.ex d):=rfl
theorem a8T{e:DE}{k:SF}:M3 (some (.bk e)) k=some (.bk e):=rfl
theorem a8U{e:DE}{k:SF}:M3 (some (.ct e)) k=some (.ct e):=rfl
theorem a8V{k:SF}:M3 none k=none:=rfl
theorem a6W{c:Prop} [Decidable c] {a b:Option RS} {k:SF}:M3 (if c then a else b) k=if c then M3 a k else M3 b k:=by split<;>rfl
theorem a8W{d:D}{e:DE}:toZ (some (.ret d)) e=some (.ok d e):=rfl
theorem a8X{d:List D}{e:DE}:toZ (some (.own d)) e=some (.ok (.lst d) e):=rfl
theorem b0R{d:XN}{e:DE}:toZ (some (.ex d)) e=some (.ex d):=rfl
theorem a6X{d:D}{e:DE}:V0 (some (.ret d)) e=some (.ok d e):=rfl
theorem a6Y{d:List D}{e:DE}:V0 (some (.own d)) e=some (.ok (.lst d) e):=rfl
theorem a5M{i:Nat}{d:D}{e:DE}:V1 i (some (.ret d)) e=put i (.fz d) e:=rfl
theorem a5N{i:Nat}{d:List D}{e:DE}:V1 i (some (.own d)) e=put i (.ow d) e:=rfl
theorem a6Z{i:Nat}{d:XN}{e:DE}:V1 i (some (.ex d)) e=some (.ex d):=rfl
theorem a4L{i:Nat}{d:D}{e:DE}:a1d i (some (.ret d)) e=put i (.fz d) e:=rfl
theorem a4M{i:Nat}{d:List D}{e:DE}:a1d i (some (.own d)) e=put i (.ow d) e:=rfl
theorem a5O{d:D}:a0a (some (.ret d))=some (.rt d):=rfl
theorem a5P{d:List D}:a0a (some (.own d))=some (.ro d):=rfl
theorem a60{d:XN}:a0a (some (.ex d))=some (.ex d):=rfl
theorem a4N{d:D}:a1e (some (.ret d))=some (.rt d):=rfl
theorem a4O{d:List D}:a1e (some (.own d))=some (.ro d):=rfl
def R7(r:Option RS):Option R1:=match r with
 | some (.nx _)=>some (.ret .non)
 | some (.rt d)=>some (.ret d)
 | some (.ro es)=>some (.own es)
 | some (.rz dss)=>some (.owz dss)
 | some (.rp n es)=>some (.owp n es)
 | some (.ex c)=>some (.ex c)
 | _=>none
theorem b1A{n m:Nat}{body:SF}{ds:List D}(h:ds.length=m):fD n m body ds=R7 (body (ds.map .fz++List.replicate (n-m) .no)):=by
 unfold fD;rw[if_pos h,h];rfl
theorem a8Y{e:DE}:R7 (some (.nx e))=some (.ret .non):=rfl
theorem a8Z{d:D}:R7 (some (.rt d))=some (.ret d):=rfl
theorem a80{d:List (List D)}:R7 (some (.rz d))=some (.owz d):=rfl
theorem a81{d:List (List D)}{k:SF}:M3 (some (.rz d)) k=some (.rz d):=rfl
theorem a5Q{d:List (List D)}:a0a (some (.owz d))=some (.rz d):=rfl
theorem a82{d:List D}:R7 (some (.ro d))=some (.own d):=rfl
theorem a83{d:XN}:R7 (some (.ex d))=some (.ex d):=rfl
theorem a61{c:Prop} [Decidable c] {a b:Option RS}:R7 (if c then a else b)=if c then R7 a else R7 b:=by split<;>rfl
def P3(r:Option RS)(k:SF):Option RS:=match r with
 | some (.nx e)=>k e
 | some (.ct e)=>k e
 | some (.bk e)=>some (.nx e)
 | r=>r
theorem S7{e:DE}{k:SF}:P3 (some (.nx e)) k=k e:=rfl
theorem a84{e:DE}{k:SF}:P3 (some (.ct e)) k=k e:=rfl
theorem a85{e:DE}{k:SF}:P3 (some (.bk e)) k=some (.nx e):=rfl
theorem a86{d:D}{k:SF}:P3 (some (.rt d)) k=some (.rt d):=rfl
theorem a87{d:List (List D)}{k:SF}:P3 (some (.rz d)) k=some (.rz d):=rfl
theorem a88{d:List D}{k:SF}:P3 (some (.ro d)) k=some (.ro d):=rfl
theorem a37{d:XN}{k:SF}:P3 (some (.ex d)) k=some (.ex d):=rfl
theorem a0H{b:GF}{body:SF}{e:DE}:l4 b body [] e=some (.nx e):=rfl
def a4P(x:Option DE)(k:SF):Option RS:=match x with
 | none=>none
 | some e=>k e
theorem E4{b:GF}{body:SF}{d:D}{ds:List D}{e:DE}:l4 b body (d::ds) e=a4P (b d e) fun e1=>P3 (body e1) (l4 b body ds):=by
 rw[l4];cases b d e<;>rfl
theorem z0{e:DE}{k:SF}:a4P (some e) k=k e:=rfl
def a2_(n i:Nat)(exm:Str→Bool)(suite:SF)(e:DE)(r:Option RS):Option RS:=match r with
 | some (.ex (.v _ _ _))=>none
 | some (.ex (.p c))=>if(exm c && a1P e)=true then(match suite ((List.replicate n Sl.no).set i (.fz (.exc c)))with
   | some (.nx e2)=>put i .no e2
   | some (.rt d)=>some (.rt d)
   | some (.ro ds)=>some (.ro ds)
   | _=>none)else none
 | r=>r
theorem a5R{n i:Nat}{exm:Str→Bool}{body suite:SF}{e:DE}:b0O n i exm body suite e=a2_ n i exm suite e (body e):=rfl
def a4Q(i:Nat)(r:Option RS):Option RS:=match r with
 | some (.nx e2)=>put i .no e2
 | some (.rt d)=>some (.rt d)
 | some (.ro ds)=>some (.ro ds)
 | _=>none
theorem a89{i:Nat}{e:DE}:a4Q i (some (.nx e))=put i .no e:=rfl
theorem a8_{i:Nat}{d:D}:a4Q i (some (.rt d))=some (.rt d):=rfl
theorem a9a{i:Nat}{d:List D}:a4Q i (some (.ro d))=some (.ro d):=rfl
theorem a9b{n i:Nat}{exm:Str→Bool}{suite:SF}{e:DE}{c:Str}:a2_ n i exm suite e (some (.ex (.p c)))=if(exm c && a1P e)=true then a4Q i (suite ((List.replicate n Sl.no).set i (.fz (.exc c))))else none:=rfl
theorem a9c{n i:Nat}{exm:Str→Bool}{suite:SF}{e:DE}{d:D}:a2_ n i exm suite e (some (.rt d))=some (.rt d):=rfl
theorem a9d{n i:Nat}{exm:Str→Bool}{suite:SF}{e:DE}{d:List D}:a2_ n i exm suite e (some (.ro d))=some (.ro d):=rfl
theorem a9e{n i:Nat}{exm:Str→Bool}{suite:SF}{e e1:DE}:a2_ n i exm suite e (some (.nx e1))=some (.nx e1):=rfl
theorem a9f(a b:Int):t7 (.int a) (.int b)=some (.int (a+b)):=rfl
theorem b0S(a b:Int):gLt (.int a) (.int b)=some (.bl (decide (a<b))):=rfl
theorem b0T(a b:Int):gLe (.int a) (.int b)=some (.bl (decide (a≤b))):=rfl
theorem b0U(a b:Int):gGt (.int a) (.int b)=some (.bl (decide (b<a))):=rfl
theorem a9g{a b:Int}(h:IntMulOk a b):a0F (.int a) (.int b)=some (.int (a*b)):=by show(if _ then _ else _)=_;rw[if_pos h]
theorem a9h{a b:Int}(h:0<b∧b.natAbs.log2<9000):R5 (.int a) (.int b)=some (.int (a/b)):=by show(if _ then _ else _)=_;rw[if_pos h]
theorem a9i{a b:Int}(h:0<b):A7 (.int a) (.int b)=some (.int (a%b)):=by show(if _ then _ else _)=_;rw[if_pos h]
theorem a38{a b:Int}(h:a1v a b):O7 (.int a) (.int b)=some (.int (a ^ b.toNat)):=by show(if _ then _ else _)=_;rw[if_pos h]
end
def Fits(i:Int):Prop:=Builtin.Int.intBits i≤2 ^ 20
theorem a9j{a b:Int}(h:a.natAbs≤b.natAbs):Builtin.Int.intBits a≤Builtin.Int.intBits b:=by
 unfold Builtin.Int.intBits
 split
 ·exact Nat.zero_le _
 ·rename_i ha
  have ha':a.natAbs≠0:=by
   intro z;apply ha;first | exact Int.natAbs_eq_zero.mp z | (simpa using z)
  have hb':b.natAbs≠0:=by omega
  split
  ·rename_i hb
   exact absurd (by first | exact Int.natAbs_eq_zero.mpr hb | (simpa using hb)) hb'
  ·have h1:b.natAbs<2 ^ (b.natAbs.log2+1):=Nat.lt_log2_self
   have h2:a.natAbs.log2<b.natAbs.log2+1:=(Nat.log2_lt ha').mpr (by omega)
   omega
theorem Fits.le{a b:Int}(h:Fits b)(l:a.natAbs≤b.natAbs):Fits a:=Nat.le_trans (a9j l) h
theorem Fits.mod{i n:Int}(hn:0<n)(h:Fits n):Fits (i%n):=by
 refine h.le ?_
 have h1:=Int.emod_nonneg i (show n≠0 by omega)
 have h2:=Int.emod_lt_of_pos i hn
 omega
theorem a5S{a b:Int}(h:a.natAbs<2 ^ 64):IntMulOk a b:=IntMulOk.of_left (intBits_le_64 (by omega) (by omega))
theorem b1B{a b:Int}(h:b.natAbs<2 ^ 64):IntMulOk a b:=IntMulOk.of_right (intBits_le_64 (by omega) (by omega))
theorem b0V{a b:Int}(h:a.natAbs<2 ^ 64):a0F (.int a) (.int b)=some (.int (a*b)):=a9g (a5S h)
section
variable {α:Type}
theorem a4R{a:α}{l:List α}:atI (a::l) 0=some a:=by unfold atI X5;simp
theorem a1m{a:α}{l:List α}{n:Nat}:atI (a::l) ((n:Int)+1)=atI l n:=by
 unfold atI X5
 have h1:(0:Int)≤(n:Int)+1:=by omega
 have h2:(0:Int)≤(n:Int):=by omega
 rw[if_pos h1,if_pos h2]
 by_cases z:(n:Int)<(l.length:Int)
 ·rw[if_pos z,if_pos (by rw[List.length_cons];push_cast;omega)]
  show(a::l)[((n:Int)+1).toNat]? = l[((n:Int)).toNat]?
  rw[show((n:Int)+1).toNat=n+1 by omega,show((n:Int)).toNat=n by omega]
  rfl
 ·rw[if_neg z,if_neg (by rw[List.length_cons];push_cast;omega)]
  rfl
theorem a7Z{a b:α}{l:List α}:atI (a::b::l) 1=some b:=(a1m (n:=0)).trans a4R
theorem a70{a b c:α}{l:List α}:atI (a::b::c::l) 2=some c:=(a1m (n:=1)).trans a7Z
theorem b1C{a b c d:α}{l:List α}:atI (a::b::c::d::l) 3=some d:=(a1m (n:=2)).trans a70
theorem b1D{a b c d e:α}{l:List α}:atI (a::b::c::d::e::l) 4=some e:=(a1m (n:=3)).trans b1C
theorem b2t{a b c d e f:α}{l:List α}:atI (a::b::c::d::e::f::l) 5=some f:=(a1m (n:=4)).trans b1D
end
def l7(ns:List Int)(k:Int):Int:=ns.getD k.toNat 0
theorem a9k{ns:List Int}{k:Int}(hk:0≤k):(if k<(ns.length:Int)then(match atI ns k with
  | none=>none
  | some n=>some (R1.ret (D.int n)))else some (R1.ret (D.int 0)))=some (R1.ret (D.int (l7 ns k))):=by
 unfold l7
 by_cases z:k<(ns.length:Int)
 ·rw[if_pos z]
  have h:k.toNat<ns.length:=by omega
  have e:atI ns k=some ns[k.toNat]:=by
   unfold atI X5
   rw[if_pos hk,if_pos z]
   exact List.getElem?_eq_getElem h
  rw[e,List.getD_eq_getElem?_getD,List.getElem?_eq_getElem h];rfl
 ·rw[if_neg z,List.getD_eq_getElem?_getD,List.getElem?_eq_none (by omega)];rfl
section
variable {K:W.Frag}{cl:Str→Addr}{E:XK}{σ:St}{H F:Hp}{env:DE}{k:Nat}
def oN:OF:=fun e=>some (.ok none e)
def oS(f:ZF):OF:=fun e=>bnd (f e) fun d e1=>match d with
 | .int i=>some (.ok (some i) e1)
 | _=>none
theorem b1E:RfO K cl E a3I oN:=fun σ H Q env F R h=>h none H F Frm.refl R rfl
theorem b1F{t:TE}{f:ZF}(hf:k8 K cl E t f):RfO K cl E (a7J t) (oS f):=by
 intro σ H Q env F R h
 refine hf σ H _ env F R ((Ct.bnd h b2a).mono fun x H1 ⟨F1,e1,d,s1,R1,p1,h1⟩=>?_)
 split at h1
 ·rename_i i
  have:x=.int i:=by have:=(show Rp K cl F1 (.int i) x from p1);simpa only[Rp]using this
  exact⟨i,this,h1 _ H1 F1 Frm.refl R1 rfl⟩
 ·exact h1.elim
def a0I(xs:List D)(lo hi:Option Int):List D:=(xs.drop (HT.sIx xs.length 0 lo)).take (HT.sIx xs.length xs.length hi-HT.sIx xs.length 0 lo)
theorem Rps.cut{ds:List D}{xs:List V}(h:Rps K cl F ds xs)(lo hi:Option Int):Rps K cl F (a0I ds lo hi) (a1w xs lo hi):=by
 unfold a0I a1w
 rw[h.length]
 exact(h.drop _).take _
def a3a(i:Nat)(l u:OF):NF:=fun e=>match look e i with
 | none=>none
 | some _=>bnd (l e) fun lo e2=>bnd (u e2) fun hi e3=>match look e3 i with
  | some d=>(match seqL d with
   | some ds=>some (.ok (a0I ds lo hi) e3)
   | none=>none)
  | none=>none
theorem Rb.seqL{d:D}{ds:List D}{v:V}(s:Same F H)(p:Rb K cl F H d v)(q:L2.seqL d=some ds):∃a xs,v=.ref a∧Rps K cl F ds xs∧SqL K H a xs:=by
 rcases p with p | ⟨a,xs,es,e,rfl,h,r⟩
 ·obtain⟨a,xs,e,r,l⟩:=Rp.seqL p q;exact⟨a,xs,e,r,l H s⟩
 ·cases q;exact⟨a,xs,e,r,.of h⟩
theorem b0W{i:Nat}{tl tu:TO}{l u:OF}(hl:RfO K cl E tl l)(hu:RfO K cl E tu u):Q0 K cl E (tSl (a6o K) (D0 i) tl tu) (a3a i l u):=by
 intro σ H Q env F R h
 unfold a3a at h
 cases q:look env i with
 | none=>rw[q]at h;exact h.elim
 | some d0 =>
  rw[q]at h
  obtain⟨x,e0,_⟩:=R.look q
  refine⟨x,e0,?_⟩
  refine hl σ H _ env F R ((Ct.bnd h a0E).mono fun lo H2 ⟨F2,e2,lo',s2,R2,p2,h2⟩=>?_)
  refine hu σ H2 _ e2 F2 R2 ((Ct.bnd h2 a0E).mono fun hi H3 ⟨F3,e3,hi',s3,R3,p3,h3⟩=>?_)
  cases (show lo=lo' from p2)
  cases (show hi=hi' from p3)
  cases q2:look e3 i with
  | none=>simp only[q2]at h3;exact h3.elim
  | some d =>
   simp only[q2]at h3
   obtain⟨x',e',rb⟩:=R3.look q2
   rw[e0]at e';cases e'
   split at h3
   ·rename_i ds hs
    obtain⟨a,xs,rfl,r,hq⟩:=rb.seqL R3.sub hs
    exact⟨a,xs,rfl,hq,fun p hp=>Ct.newN R3 hp (r.cut _ _) h3⟩
   ·exact h3.elim
end
section
variable {P:Program}{w:World}{mg:Str→Option Value}{base:Heap}{K:W.Frag}{cl:Str→Addr}{E:XK}{σ:St}{H F:Hp}{env:DE}{k:Nat}
def J8:List D→Option (List Int)
 | []=>some []
 | .int b::ds=>(J8 ds).map (b :: ·)
 | _=>none
theorem a1Q:∀{ds:List D} {bs:List Int},J8 ds=some bs→ds=bs.map .int
 | [],_,h=>by cases h;rfl
 | .int b::ds,_,h=>by
  unfold J8 at h
  cases q:J8 ds with
  | none=>rw[q]at h;cases h
  | some bs=>rw[q]at h;cases h;rw[a1Q q];rfl
 | .non::_,_,h=>by cases h
 | .bl _::_,_,h=>by cases h
 | .str _::_,_,h=>by cases h
 | .ty _::_,_,h=>by cases h
 | .cls _::_,_,h=>by cases h
 | .tup _::_,_,h=>by cases h
 | .lst _::_,_,h=>by cases h
 | .scr _::_,_,h=>by cases h
 | .exc _::_,_,h=>by cases h
 | .obj _ _ _::_,_,h=>by cases h
 | .dic _ _::_,_,h=>by cases h
 | .exv _ _ _::_,_,h=>by cases h
theorem ints_map:∀(ns:List Int),J8 (ns.map .int)=some ns
 | []=>rfl
 | n::ns=>by show(J8 (ns.map .int)).map (n :: ·)=_;rw[ints_map ns];rfl
end
def b0X(x:Option DE)(k:DE→Option (R (List D))):Option (R (List D)):=match x with
 | none=>none
 | some e=>k e
theorem a2f{e:DE}{k:DE→Option (R (List D))}:b0X (some e) k=k e:=rfl
theorem a5T{b:GF}{c:BF}{el:ZF}{ec eo:DE}{acc:List D}:j0 b c el ec eo [] acc=some (.ok acc eo):=rfl
theorem a1n{b:GF}{c:BF}{el:ZF}{ec eo:DE}{d:D}{ds acc:List D}:j0 b c el ec eo (d::ds) acc=b0X (b d ec) fun e1=>bnd (c e1) fun t e2=>if t=true then bnd (el e2) fun y _=>if acc.length<sizeLine then j0 b c el ec eo ds (acc++[y])else none else j0 b c el ec eo ds acc:=by
 rw[j0];cases b d ec<;>rfl
section
variable {K:W.Frag}{cl:Str→Addr}{E:XK}{σ:St}{H F:Hp}{env:DE}{k:Nat}
def a1o:List D→Option D
 | [.int i,.int j]=>some (.int (if j<i then j else i))
 | _=>none
theorem a9l:a4E K cl (fun xs H Q=>∃i j,xs=[.int i,.int j]∧Q (.int (if j<i then j else i)) H) a1o:=by
 intro xs ds z H F Q s p h q
 unfold a1o at h
 split at h
 ·rename_i i j;cases h
  exact⟨i,j,Rps.ints (ns:=[i,j]) p,q _ H F (.refl s) (by simp only[Rp])⟩
 ·cases h
theorem a5U:bootBuiltins "min" = some (.builtin "min"):=by decide +kernel
theorem Rb.flat{d:D}{v:V}(h:Rb K cl F H d v)(f:g9 d=true):Rp K cl F d v:=by
 rcases h with h | ⟨_,_,_,_,rfl,_⟩
 ·exact h
 ·cases f
theorem tyL{i:Nat}{ds:List D}(R:Rel K cl σ H F env)(q:look env i=some (.lst ds)):∃a,σ[i]? = some (some (.ref a))∧tyV K "list" (.ref a) H:=by
 obtain⟨x,e0,rb⟩:=R.look q
 obtain⟨a,xs,rfl,hH,_⟩:=rb.lst R.sub
 exact⟨a,e0,.inl ⟨rfl,xs,.of hH⟩⟩
def a0J(i:Nat)(f:NF):SF:=fun e=>match look e i with
 | some (.lst _)=>D9 (f e) fun es e1=>match e1[i]? with
  | some (.ow ds)=>if ds.length+es.length≤sizeLine then some (.nx (e1.set i (.ow (ds++es))))else none
  | _=>none
 | _=>none
theorem a5V{i:Nat}{t:TE}{f:NF}(hf:Q0 K cl E t f):RfS K cl E (a2t (tBM K "list" a3L (D0 i) (M8 t X2))) (a0J i f):=by
 intro N σ H env F R h
 unfold a0J at h
 split at h
 ·rename_i ds0 q
  obtain⟨a0,e0,ty⟩:=tyL R q
  refine⟨_,e0,ty,?_⟩
  refine hf σ H _ env F R ((Cs.bnd h).mono fun y H1 ⟨F1,e1,es,fr,R1,p1,h1⟩=>?_)
  obtain⟨b,zs,rfl,hn,hb,fb,nm,rz⟩:=p1
  split at h1
  ·rename_i ds q1
   split at h1
   ·rename_i c
    obtain⟨a,xs,e,hH,hF,r⟩:=R1.mu i ds (.inl q1)
    rw[e0]at e;cases e
    obtain⟨R2,f2⟩:=R1.change q1 e0 (r.append rz)
    exact⟨_,b,xs,zs,rfl,rfl,hH,hb,by rw[← r.length,← rz.length];exact c,h1 σ _ F1 (fr.trans f2) R2⟩
   ·exact h1.elim
  ·exact h1.elim
 ·exact h.elim
abbrev JF:=DE→Str→Option (R Str)
def PJs:Py Str Str:=fun b _ _ _ _ _ c=>c=b
theorem b2d:PM PJs:=fun _ _ _ _ _ _ _ _ _ h=>h
def RfJ(K:W.Frag)(cl:Str→Addr)(E:XK)(t:TJ)(f:JF):Prop:=∀σ H acc Q env F,Rel K cl σ H F env→Ct K cl E PJs (f env acc) σ H F env Q→t σ H acc Q
def jN:JF:=fun e acc=>if acc.length≤sizeLine then some (.ok acc e)else none
def jC(f:ZF)(k:JF):JF:=fun e acc=>bnd (f e) fun d e1=>match d with
 | .str y=>if(acc++y).length≤sizeLine then k e1 (acc++y)else none
 | _=>none
theorem b1G:RfJ K cl E a7L jN:=by
 intro σ H acc Q env F R h
 unfold jN at h
 split at h
 ·rename_i c;exact⟨c,h acc H F Frm.refl R rfl⟩
 ·exact h.elim
theorem a4S{t:TE}{u:TJ}{f:ZF}{k:JF}(hf:k8 K cl E t f)(hk:RfJ K cl E u k):RfJ K cl E (a5i t u) (jC f k):=by
 intro σ H acc Q env F R h
 refine hf σ H _ env F R ((Ct.bnd h b2d).mono fun x H1 ⟨F1,e1,d,s1,R1,p1,h1⟩=>?_)
 split at h1
 ·rename_i y
  split at h1
  ·rename_i c
   have hx:x=.str y:=by have:=(show Rp K cl F1 (.str y) x from p1);simpa only[Rp]using this
   exact⟨y,hx,c,hk σ H1 _ Q e1 F1 R1 h1⟩
  ·exact h1.elim
 ·exact h1.elim
def eJ(f:JF):ZF:=fun e=>bnd (f e Str.empty) fun y e1=>some (.ok (.str y) e1)
theorem b2e{t:TJ}{f:JF}(hf:RfJ K cl E t f):k8 K cl E (a7M t) (eJ f):=by
 intro σ H Q env F R h
 refine hf σ H _ _ env F R ((Ct.bnd h M1).mono fun x H1 ⟨F1,e1,y,s1,R1,p1,h1⟩=>?_)
 cases (show x=y from p1)
 exact h1 _ H1 F1 Frm.refl R1 (by show Rp K cl F1 (.str _) _;simp only[Rp])
def a4T(f:ZF):ZF:=fun e=>bnd (f e) fun d e1=>match d with
 | .int i=>if i.natAbs.log2<1920 then some (.ok (.str (toString i)) e1)else none
 | .str y=>if y.length≤sizeLine then some (.ok (.str y) e1)else none
 | _=>none
theorem b0Y{t:TE}{f:ZF}(hf:k8 K cl E t f):k8 K cl E (b0c t) (a4T f):=by
 intro σ H Q env F R h
 refine hf σ H _ env F R ((Ct.bnd h M1).mono fun x H1 ⟨F1,e1,d,s1,R1,p1,h1⟩=>?_)
 split at h1
 ·rename_i i
  split at h1
  ·rename_i c
   have hx:x=.int i:=by have:=(show Rp K cl F1 (.int i) x from p1);simpa only[Rp]using this
   exact .inl ⟨i,hx,c,h1 _ H1 F1 Frm.refl R1 (by show Rp K cl F1 (.str _) _;simp only[Rp])⟩
  ·exact h1.elim
 ·rename_i y
  split at h1
  ·rename_i c
   have hx:x=.str y:=by have:=(show Rp K cl F1 (.str y) x from p1);simpa only[Rp]using this
   exact .inr ⟨y,hx,c,h1 _ H1 F1 Frm.refl R1 (by show Rp K cl F1 (.str _) _;simp only[Rp])⟩
  ·exact h1.elim
 ·exact h1.elim
end
mutual
def j1:D→D→Bool
 | .tup ds,e=>(match e with
  | .tup es=>B0 ds es
  | _=>false)
 | .lst ds,e=>(match e with
  | .lst es=>B0 ds es
  | _=>false)
 | d,e=>O9 d e
def B0:List D→List D→Bool
 | [],es=>es.isEmpty
 | d::ds,es=>(match es with
  | []=>false
  | e::es=>j1 d e && B0 ds es)
end
mutual
def c6:D→Bool
 | .tup ds=>w6 ds
 | .lst ds=>w6 ds
 | d=>g9 d
def w6:List D→Bool
 | []=>true
 | d::ds=>c6 d && w6 ds
end
mutual
def M4:D→Nat
 | .tup ds=>F9 ds+1
 | .lst ds=>F9 ds+1
 | _=>0
def F9:List D→Nat
 | []=>0
 | d::ds=>max (M4 d) (F9 ds)
end
def a3b(ds es:List D)(j:Nat):Bool:=match ds[j]?,es[j]? with
 | some d,some e=>j1 d e
 | _,_=>true
theorem G0:∀{ds es:List D},ds.length=es.length→(List.range ds.length).all (a3b ds es)=B0 ds es
 | [],[],_=>by simp[B0]
 | d::ds,e::es,h=>by
  have h':ds.length=es.length:=by simpa using h
  simp only[B0]
  show(List.range (ds.length+1)).all _=(j1 d e && B0 ds es)
  rw[List.range_succ_eq_map,List.all_cons,List.all_map,← G0 h']
  rfl
theorem P4:∀{ds es:List D},ds.length≠es.length→B0 ds es=false
 | [],[],h=>absurd rfl h
 | _::_,[],_=>by simp[B0]
 | [],_::_,_=>by simp[B0]
 | d::ds,e::es,h=>by
  simp only[B0]
  rw[P4 (fun q=>h (by simp[q])),Bool.and_false]
section
variable {K:W.Frag}{cl:Str→Addr}{F:Hp}
theorem V4{d e:D}{v:V}(fd:g9 d=true)(p:Rp K cl F d v)(q:Rp K cl F e v)(pe:c6 e=true):O9 d e=true:=by
 cases d<;>first | (cases fd;done) | skip
 all_goals simp only[Rp]at p;subst p
 all_goals cases e<;>simp only[Rp]at q<;>first | (cases q;done) | (cases q;simp[O9];done) | (obtain⟨_,_,z,_⟩:=q;cases z;done) | (obtain⟨_,z,_⟩:=q;cases z;done) | (simp[c6,g9]at pe;done)
mutual
theorem a1R:∀(d e:D) (v:V),Rp K cl F d v→Rp K cl F e v→c6 d=true→c6 e=true→j1 d e=true
 | .tup ds,e,v,p,q,pd,pe=>by
  simp only[Rp]at p
  obtain⟨a,xs,rfl,ha,r⟩:=p
  cases e<;>simp only[Rp]at q
  case tup es =>
   obtain⟨a',ys,z,ha',r'⟩:=q
   cases z;rw[ha]at ha';cases ha'
   simp only[c6]at pd pe
   simp only[j1]
   exact a0K ds es xs r r' pd pe
  case lst es =>
   obtain⟨a',ys,z,ha',r'⟩:=q
   cases z;rw[ha]at ha';cases ha'
  all_goals first | (cases q;done) | (simp[c6,g9]at pe;done)
 | .lst ds,e,v,p,q,pd,pe=>by
  simp only[Rp]at p
  obtain⟨a,xs,rfl,ha,r⟩:=p
  cases e<;>simp only[Rp]at q
  case lst es =>
   obtain⟨a',ys,z,ha',r'⟩:=q
   cases z;rw[ha]at ha';cases ha'
   simp only[c6]at pd pe
   simp only[j1]
   exact a0K ds es xs r r' pd pe
  case tup es =>
   obtain⟨a',ys,z,ha',r'⟩:=q
   cases z;rw[ha]at ha';cases ha'
  all_goals first | (cases q;done) | (simp[c6,g9]at pe;done)
 | .non,e,v,p,q,pd,pe=>by simp only[j1];exact V4 rfl p q pe
 | .bl _,e,v,p,q,pd,pe=>by simp only[j1];exact V4 rfl p q pe
 | .int _,e,v,p,q,pd,pe=>by simp only[j1];exact V4 rfl p q pe
 | .str _,e,v,p,q,pd,pe=>by simp only[j1];exact V4 rfl p q pe
 | .ty _,e,v,p,q,pd,pe=>by simp[c6,g9]at pd
 | .cls _,e,v,p,q,pd,pe=>by simp[c6,g9]at pd
 | .scr _,e,v,p,q,pd,pe=>by simp[c6,g9]at pd
 | .exc _,e,v,p,q,pd,pe=>by simp[c6,g9]at pd
 | .obj _ _ _,e,v,p,q,pd,pe=>by simp[c6,g9]at pd
 | .dic _ _,e,v,p,q,pd,pe=>by simp[c6,g9]at pd
 | .exv _ _ _,e,v,p,q,pd,pe=>by simp[c6,g9]at pd
theorem a0K:∀(ds es:List D) (vs:List V),Rps K cl F ds vs→Rps K cl F es vs→w6 ds=true→w6 es=true→B0 ds es=true
 | [],es,vs,p,q,_,_=>by
  rw[p.inv0]at q
  cases es with
  | nil=>simp[B0]
  | cons e es=>obtain⟨_,_,z,_⟩:=q.inv;cases z
 | d::ds,es,vs,p,q,pd,pe=>by
  obtain⟨v,r,rfl,p1,p2⟩:=p.inv
  cases es with
  | nil=>have:=q.inv0;cases this
  | cons e es =>
   obtain⟨v',r',z,q1,q2⟩:=q.inv
   cases z
   simp only[w6,Bool.and_eq_true]at pd pe
   simp only[B0]
   rw[a1R d e v p1 q1 pd.1 pe.1,a0K ds es r p2 q2 pd.2 pe.2];rfl
end
end
section
variable {X:Cx}{cl:Str→Addr}{F:Hp}{pins:List (Addr×Obj)}{σ:St}{H:Hp}{s:Shared}
theorem V5{a:Addr}{d:D}{v:V}{u:Value}{A:Around}(hu:A.units<cLine)(hl:(∃xs,SqL X.K H a xs)∨∃xs,SqT X.K H a xs)(I:Inv X pins σ H s)(f:g9 d=true)(p:Rp X.K cl F d v)(r:RelV v u):SeqAt.EqAt A s (.ref a) u false∧SeqAt.EqAt A s u (.ref a) false:=by
 rcases hl with⟨xs,h⟩ | ⟨xs,h⟩
 ·obtain⟨us,r1,p1,z1⟩:=I.list h
  have q:=p1.isList
  cases d<;>first | (cases f;done) | skip
  all_goals simp only[Rp]at p;subst p
  ·cases r;exact⟨.list_none q hu,.none_list q hu⟩
  ·cases r;exact⟨.list_bool _ q hu,.bool_list _ q hu⟩
  ·obtain⟨t,rfl⟩:=r;exact⟨.list_int _ _ q hu,.int_list _ _ q hu⟩
  ·obtain⟨t,rfl⟩:=r;exact⟨.list_str _ _ q hu,.str_list _ _ q hu⟩
 ·obtain⟨us,r1,q,z1⟩:=I.tuple h
  cases d<;>first | (cases f;done) | skip
  all_goals simp only[Rp]at p;subst p
  ·cases r;exact⟨.tuple_none q hu,.none_tuple q hu⟩
  ·cases r;exact⟨.tuple_bool _ q hu,.bool_tuple _ q hu⟩
  ·obtain⟨t,rfl⟩:=r;exact⟨.tuple_int _ _ q hu,.int_tuple _ _ q hu⟩
  ·obtain⟨t,rfl⟩:=r;exact⟨.tuple_str _ _ q hu,.str_tuple _ _ q hu⟩
theorem A2{d:D}(p:c6 d=true):g9 d=true∨(∃ds,d=.tup ds)∨∃ds,d=.lst ds:=by
 cases d<;>first | exact .inl rfl | exact .inr (.inl ⟨_,rfl⟩) | exact .inr (.inr ⟨_,rfl⟩) | (simp[c6,g9]at p;done)
theorem a62{d e:D}(f:g9 d=true):j1 d e=O9 d e:=by cases d<;>first | (cases f;done) | simp only[j1]
theorem Q3{d e:D}{v u:V}{a b:Value}{A:Around}(I:Inv X pins σ H s)(sF:Same F H)(hu:A.units<cLine)(f:g9 d=true)(p:Rp X.K cl F d v)(q:Rp X.K cl F e u)(rv:RelV v a)(ru:RelV u b)(pe:c6 e=true):SeqAt.EqAt A s a b (j1 d e):=by
 rw[a62 f]
 rcases A2 pe with fe | ⟨es,rfl⟩ | ⟨es,rfl⟩
 ·rw[← p.eq q f fe]
  exact a98 rv ru (p.flat f).2 (q.flat fe).2
 ·simp only[Rp]at q
  obtain⟨c,ys,rfl,hb,r'⟩:=q
  cases ru
  have:=(V5 (A:=A) hu (.inr ⟨ys,.of (sF _ _ hb)⟩) I f p rv).2
  have z:O9 d (.tup es)=false:=by cases d<;>first | (cases f;done) | rfl
  rw[z];exact this
 ·simp only[Rp]at q
  obtain⟨c,ys,rfl,hb,r'⟩:=q
  cases ru
  have:=(V5 (A:=A) hu (.inl ⟨ys,.of (sF _ _ hb)⟩) I f p rv).2
  have z:O9 d (.lst es)=false:=by cases d<;>first | (cases f;done) | rfl
  rw[z];exact this
mutual
theorem a9m(I:Inv X pins σ H s)(sF:Same F H):∀(d e:D) (v u:V) (a b:Value) (A:Around),A.units+M4 d<cLine→Rp X.K cl F d v→Rp X.K cl F e u→RelV v a→RelV u b→c6 d=true→c6 e=true→SeqAt.EqAt A s a b (j1 d e)
 | .tup ds,e,v,u,va,ua,A,hu,p,q,rv,ru,pd,pe=>by
  have p0:=p
  have hu':A.units<cLine:=by omega
  simp only[M4]at hu
  simp only[Rp]at p
  obtain⟨a,xs,rfl,ha,r⟩:=p
  cases rv
  have ha':=sF _ _ ha
  rcases A2 pe with f | ⟨es,rfl⟩ | ⟨es,rfl⟩
  ·have:=(V5 (A:=A) hu' (.inr ⟨xs,.of ha'⟩) I f q ru).1
   have z:j1 (.tup ds) e=false:=by cases e<;>first | (cases f;done) | simp only[j1]
   rw[z];exact this
  ·have q0:=q
   simp only[Rp]at q
   obtain⟨b,ys,rfl,hb,r'⟩:=q
   cases ru
   have hb':=sF _ _ hb
   by_cases z:a=b
   ·subst z
    rw[a1R _ _ _ p0 q0 pd pe]
    exact .same _
   ·obtain⟨us,r1,p1,_⟩:=I.tuple (.of ha')
    obtain⟨ws,r2,p2,_⟩:=I.tuple (.of hb')
    simp only[c6]at pd pe
    have he:∀j (h1:j<us.toArray.size) (h2:j<ws.toArray.size),SeqAt.EqAt A.in1 s us.toArray[j] ws.toArray[j] (a3b ds es j):=P5 I sF ds es xs ys us ws A.in1 (by show A.units+1+F9 ds<cLine;omega) r r' r1 r2 pd pe
    have:=SeqAt.EqAt.of_refs z (SeqAt.RcAt.tuples p1 p2 hu' he)
    have e1:us.toArray.size=ds.length:=by simp[← r1.length,r.length]
    have e2:ws.toArray.size=es.length:=by simp[← r2.length,r'.length]
    rw[e1,e2]at this
    simp only[j1]
    by_cases hl:ds.length=es.length
    ·rw[← hl,Nat.min_self,G0 hl,beq_self_eq_true,Bool.and_true]at this
     exact this
    ·rw[P4 hl]
     rw[beq_eq_false_iff_ne.mpr hl,Bool.and_false]at this
     exact this
  ·simp only[Rp]at q
   obtain⟨b,ys,rfl,hb,r'⟩:=q
   cases ru
   obtain⟨us,r1,p1,_⟩:=I.tuple (.of ha')
   obtain⟨ws,r2,p2,_⟩:=I.list (.of (sF _ _ hb))
   simp only[j1]
   exact .tuple_list p1 p2.isList hu'
 | .lst ds,e,v,u,va,ua,A,hu,p,q,rv,ru,pd,pe=>by
  have p0:=p
  have hu':A.units<cLine:=by omega
  simp only[M4]at hu
  simp only[Rp]at p
  obtain⟨a,xs,rfl,ha,r⟩:=p
  cases rv
  have ha':=sF _ _ ha
  rcases A2 pe with f | ⟨es,rfl⟩ | ⟨es,rfl⟩
  ·have:=(V5 (A:=A) hu' (.inl ⟨xs,.of ha'⟩) I f q ru).1
   have z:j1 (.lst ds) e=false:=by cases e<;>first | (cases f;done) | simp only[j1]
   rw[z];exact this
  ·simp only[Rp]at q
   obtain⟨b,ys,rfl,hb,r'⟩:=q
   cases ru
   obtain⟨us,r1,p1,_⟩:=I.list (.of ha')
   obtain⟨ws,r2,p2,_⟩:=I.tuple (.of (sF _ _ hb))
   simp only[j1]
   exact .list_tuple p1.isList p2 hu'
  ·have q0:=q
   simp only[Rp]at q
   obtain⟨b,ys,rfl,hb,r'⟩:=q
   cases ru
   have hb':=sF _ _ hb
   by_cases z:a=b
   ·subst z
    rw[a1R _ _ _ p0 q0 pd pe]
    exact .same _
   ·obtain⟨us,r1,p1,_⟩:=I.list (.of ha')
    obtain⟨ws,r2,p2,_⟩:=I.list (.of hb')
    simp only[c6]at pd pe
    have he:∀j (h1:j<us.toArray.size) (h2:j<ws.toArray.size),SeqAt.EqAt A.in1 s us.toArray[j] ws.toArray[j] (a3b ds es j):=P5 I sF ds es xs ys us ws A.in1 (by show A.units+1+F9 ds<cLine;omega) r r' r1 r2 pd pe
    have e1:us.toArray.size=ds.length:=by simp[← r1.length,r.length]
    have e2:ws.toArray.size=es.length:=by simp[← r2.length,r'.length]
    simp only[j1]
    by_cases hl:ds.length=es.length
    ·have:=SeqAt.EqAt.of_refs z (SeqAt.RcAt.lists p1.isList p2.isList (by rw[e1,e2,hl]) hu' he)
     rw[e1,G0 hl]at this
     exact this
    ·rw[P4 hl]
     exact SeqAt.EqAt.of_refs z (SeqAt.RcAt.lists_lengths p1.isList p2.isList (by rw[e1,e2];simp[hl]) hu')
 | .non,e,v,u,va,ua,A,hu,p,q,rv,ru,pd,pe=>Q3 I sF (by omega) rfl p q rv ru pe
 | .bl _,e,v,u,va,ua,A,hu,p,q,rv,ru,pd,pe=>Q3 I sF (by omega) rfl p q rv ru pe
 | .int _,e,v,u,va,ua,A,hu,p,q,rv,ru,pd,pe=>Q3 I sF (by omega) rfl p q rv ru pe
 | .str _,e,v,u,va,ua,A,hu,p,q,rv,ru,pd,pe=>Q3 I sF (by omega) rfl p q rv ru pe
 | .ty _,e,v,u,va,ua,A,hu,p,q,rv,ru,pd,pe=>by simp[c6,g9]at pd
 | .cls _,e,v,u,va,ua,A,hu,p,q,rv,ru,pd,pe=>by simp[c6,g9]at pd
 | .scr _,e,v,u,va,ua,A,hu,p,q,rv,ru,pd,pe=>by simp[c6,g9]at pd
 | .exc _,e,v,u,va,ua,A,hu,p,q,rv,ru,pd,pe=>by simp[c6,g9]at pd
 | .obj _ _ _,e,v,u,va,ua,A,hu,p,q,rv,ru,pd,pe=>by simp[c6,g9]at pd
 | .dic _ _,e,v,u,va,ua,A,hu,p,q,rv,ru,pd,pe=>by simp[c6,g9]at pd
 | .exv _ _ _,e,v,u,va,ua,A,hu,p,q,rv,ru,pd,pe=>by simp[c6,g9]at pd
theorem P5(I:Inv X pins σ H s)(sF:Same F H):∀(ds es:List D) (xs ys:List V) (us ws:List Value) (A:Around),A.units+F9 ds<cLine→Rps X.K cl F ds xs→Rps X.K cl F es ys→Vals xs us→Vals ys ws→w6 ds=true→w6 es=true→∀j (h1:j<us.toArray.size) (h2:j<ws.toArray.size),SeqAt.EqAt A s us.toArray[j] ws.toArray[j] (a3b ds es j)
 | [],es,xs,ys,us,ws,A,hu,p,q,rv,rw',pd,pe=>fun j h1 h2=>by
  rw[p.inv0]at rv;cases rv;simp at h1
 | d::ds,es,xs,ys,us,ws,A,hu,p,q,rv,rw',pd,pe=>fun j h1 h2=>by
  obtain⟨x,xs',rfl,p1,p2⟩:=p.inv
  cases rv with
  | cons r1 t1 =>
   cases es with
   | nil=>rw[q.inv0]at rw';cases rw';simp at h2
   | cons e es =>
    obtain⟨y,ys',rfl,q1,q2⟩:=q.inv
    cases rw' with
    | cons r2 t2 =>
     simp only[w6,Bool.and_eq_true]at pd pe
     simp only[F9]at hu
     cases j with
     | zero=>exact a9m I sF d e x y _ _ A (by omega) p1 q1 r1 r2 pd.1 pe.1
     | succ j =>
      have:=P5 I sF ds es xs' ys' _ _ A (by omega) p2 q2 t1 t2 pd.2 pe.2 j (by simpa using h1) (by simpa using h2)
      simpa [a3b]using this
end
end
theorem b0Z{A:Around}{k:Nat}(hr:Room k A):A.units+41<cLine:=Nat.lt_of_le_of_lt (Nat.add_le_add_left (by decide:41≤64) _) hr.units
def J9 : D→Bool
 | .tup _=>true
 | .lst _=>true
 | _=>false
theorem Rb.toRp{K:W.Frag}{cl:Str→Addr}{F H:Hp}{d:D}{v:V}(s:Same F H)(h:Rb K cl F H d v):∃F',Same F F'∧Same F' H∧Rp K cl F' d v:=by
 rcases h with h | ⟨a,xs,ds,rfl,rfl,ha,r⟩
 ·exact⟨F,Same.refl _,s,h⟩
 ·have g:Same F (upd F a (.lst xs)):=fun b o q=>by
   by_cases z:b=a
   ·subst z;have:=s _ _ q;rw[ha]at this;cases this;exact c8
   ·rw[a7 z];exact q
  refine⟨upd F a (.lst xs),g,fun b o q=>?_,?_⟩
  ·by_cases z:b=a
   ·subst z;rw[c8]at q;cases q;exact ha
   ·rw[a7 z]at q;exact s _ _ q
  ·simp only[Rp];exact⟨a,xs,rfl,c8,r.mono g⟩
section
variable {X:Cx}{cl:Str→Addr}{F:Hp}{pins:List (Addr×Obj)}{σ:St}{H:Hp}{s:Shared}
theorem a0d{a:Addr}{d:D}{v:V}{u:Value}{A:Around}(hu:A.units<cLine)(hl:(∃xs,SqL X.K H a xs)∨∃xs,SqT X.K H a xs)(I:Inv X pins σ H s)(f:g9 d=true)(p:Rp X.K cl F d v)(r:RelV v u) :
  (SeqAt.RcAt A s (.ref a) u false∧SeqAt.RcAt A s u (.ref a) false)∧SeqAt.RcNeAt A s (.ref a) u true∧SeqAt.RcNeAt A s u (.ref a) true:=by
 rcases hl with⟨xs,h⟩ | ⟨xs,h⟩
 ·obtain⟨us,r1,p1,z1⟩:=I.list h
  have q:=p1.isList
  cases d<;>first | (cases f;done) | skip
  all_goals simp only[Rp]at p;subst p
  ·cases r;exact⟨⟨.list_none q hu,.none_list q hu⟩,.list_none q hu,.none_list q hu⟩
  ·cases r;exact⟨⟨.list_bool _ q hu,.bool_list _ q hu⟩,.list_bool _ q hu,.bool_list _ q hu⟩
  ·obtain⟨t,rfl⟩:=r;exact⟨⟨.list_int _ _ q hu,.int_list _ _ q hu⟩,.list_int _ _ q hu,.int_list _ _ q hu⟩
  ·obtain⟨t,rfl⟩:=r;exact⟨⟨.list_str _ _ q hu,.str_list _ _ q hu⟩,.list_str _ _ q hu,.str_list _ _ q hu⟩
 ·obtain⟨us,r1,q,z1⟩:=I.tuple h
  cases d<;>first | (cases f;done) | skip
  all_goals simp only[Rp]at p;subst p
  ·cases r;exact⟨⟨.tuple_none q hu,.none_tuple q hu⟩,.tuple_none q hu,.none_tuple q hu⟩
  ·cases r;exact⟨⟨.tuple_bool _ q hu,.bool_tuple _ q hu⟩,.tuple_bool _ q hu,.bool_tuple _ q hu⟩
  ·obtain⟨t,rfl⟩:=r;exact⟨⟨.tuple_int _ _ q hu,.int_tuple _ _ q hu⟩,.tuple_int _ _ q hu,.int_tuple _ _ q hu⟩
  ·obtain⟨t,rfl⟩:=r;exact⟨⟨.tuple_str _ _ q hu,.str_tuple _ _ q hu⟩,.tuple_str _ _ q hu,.str_tuple _ _ q hu⟩
theorem a9n{d e:D}{v u:V}{a b:Value}{A:Around}(I:Inv X pins σ H s)(sF:Same F H)(hu:A.units+M4 d<cLine)(p:Rp X.K cl F d v)(q:Rp X.K cl F e u)(rv:RelV v a)(ru:RelV u b)(pd:c6 d=true)(pe:c6 e=true)(hs:J9 d=true∨J9 e=true) :
  SeqAt.RcAt A s a b (j1 d e)∧SeqAt.RcNeAt A s a b (!j1 d e):=by
 have hu':A.units<cLine:=by omega
 rcases A2 pd with fd | ⟨ds,rfl⟩ | ⟨ds,rfl⟩
 ·have se:J9 e=true:=hs.resolve_left (by cases d<;>first | (cases fd;done) | simp[J9])
  rcases A2 pe with fe | ⟨es,rfl⟩ | ⟨es,rfl⟩
  ·cases e<;>first | (cases fe;done) | (cases se;done)
  ·simp only[Rp]at q
   obtain⟨c,ys,rfl,hb,r'⟩:=q
   cases ru
   have:=a0d (A:=A) hu' (.inr ⟨ys,.of (sF _ _ hb)⟩) I fd p rv
   have z:j1 d (.tup es)=false:=by cases d<;>first | (cases fd;done) | simp[j1,O9]
   rw[z];exact⟨this.1.2,this.2.2⟩
  ·simp only[Rp]at q
   obtain⟨c,ys,rfl,hb,r'⟩:=q
   cases ru
   have:=a0d (A:=A) hu' (.inl ⟨ys,.of (sF _ _ hb)⟩) I fd p rv
   have z:j1 d (.lst es)=false:=by cases d<;>first | (cases fd;done) | simp[j1,O9]
   rw[z];exact⟨this.1.2,this.2.2⟩
 ·simp only[M4]at hu
  simp only[Rp]at p
  obtain⟨l,xs,rfl,ha,r⟩:=p
  cases rv
  have ha':=sF _ _ ha
  obtain⟨us,r1,p1,_⟩:=I.tuple (.of ha')
  rcases A2 pe with fe | ⟨es,rfl⟩ | ⟨es,rfl⟩
  ·have:=a0d (A:=A) hu' (.inr ⟨xs,.of ha'⟩) I fe q ru
   have z:j1 (.tup ds) e=false:=by cases e<;>first | (cases fe;done) | simp only[j1]
   rw[z];exact⟨this.1.1,this.2.1⟩
  ·simp only[Rp]at q
   obtain⟨c,ys,rfl,hb,r'⟩:=q
   cases ru
   obtain⟨ws,r2,p2,_⟩:=I.tuple (.of (sF _ _ hb))
   simp only[c6]at pd pe
   have he:=P5 I sF ds es xs ys us ws A.in1 (by show A.units+1+F9 ds<cLine;omega) r r' r1 r2 pd pe
   have h1:=SeqAt.RcAt.tuples p1 p2 hu' he
   have h2:=SeqAt.RcNeAt.tuples p1 p2 hu' he
   have e1:us.toArray.size=ds.length:=by simp[← r1.length,r.length]
   have e2:ws.toArray.size=es.length:=by simp[← r2.length,r'.length]
   rw[e1,e2]at h1 h2
   simp only[j1]
   by_cases hl:ds.length=es.length
   ·rw[← hl,Nat.min_self,G0 hl,beq_self_eq_true,Bool.and_true]at h1 h2
    exact⟨h1,h2⟩
   ·rw[P4 hl]
    rw[beq_eq_false_iff_ne.mpr hl,Bool.and_false]at h1 h2
    exact⟨h1,h2⟩
  ·simp only[Rp]at q
   obtain⟨c,ys,rfl,hb,r'⟩:=q
   cases ru
   obtain⟨ws,r2,p2,_⟩:=I.list (.of (sF _ _ hb))
   simp only[j1]
   exact⟨.tuple_list p1 p2.isList hu',.tuple_list p1 p2.isList hu'⟩
 ·simp only[M4]at hu
  simp only[Rp]at p
  obtain⟨l,xs,rfl,ha,r⟩:=p
  cases rv
  have ha':=sF _ _ ha
  obtain⟨us,r1,p1,_⟩:=I.list (.of ha')
  rcases A2 pe with fe | ⟨es,rfl⟩ | ⟨es,rfl⟩
  ·have:=a0d (A:=A) hu' (.inl ⟨xs,.of ha'⟩) I fe q ru
   have z:j1 (.lst ds) e=false:=by cases e<;>first | (cases fe;done) | simp only[j1]
   rw[z];exact⟨this.1.1,this.2.1⟩
  ·simp only[Rp]at q
   obtain⟨c,ys,rfl,hb,r'⟩:=q
   cases ru
   obtain⟨ws,r2,p2,_⟩:=I.tuple (.of (sF _ _ hb))
   simp only[j1]
   exact⟨.list_tuple p1.isList p2 hu',.list_tuple p1.isList p2 hu'⟩
  ·simp only[Rp]at q
   obtain⟨c,ys,rfl,hb,r'⟩:=q
   cases ru
   obtain⟨ws,r2,p2,_⟩:=I.list (.of (sF _ _ hb))
   simp only[c6]at pd pe
   have he:=P5 I sF ds es xs ys us ws A.in1 (by show A.units+1+F9 ds<cLine;omega) r r' r1 r2 pd pe
   have e1:us.toArray.size=ds.length:=by simp[← r1.length,r.length]
   have e2:ws.toArray.size=es.length:=by simp[← r2.length,r'.length]
   simp only[j1]
   by_cases hl:ds.length=es.length
   ·have h1:=SeqAt.RcAt.lists p1.isList p2.isList (by rw[e1,e2,hl]) hu' he
    have h2:=SeqAt.RcNeAt.lists p1.isList p2.isList (by rw[e1,e2,hl]) hu' he
    rw[e1,G0 hl]at h1 h2
    exact⟨h1,h2⟩
   ·rw[P4 hl]
    exact⟨SeqAt.RcAt.lists_lengths p1.isList p2.isList (by rw[e1,e2];simp[hl]) hu',SeqAt.RcNeAt.lists_lengths p1.isList p2.isList (by rw[e1,e2];simp[hl]) hu'⟩
end
def b00(K:W.Frag)(cl:Str→Addr)(neg:Bool):R2:=fun x y H Q=>∃F d e,Same F H∧Rp K cl F d x∧Rp K cl F e y∧c6 d=true∧c6 e=true∧M4 d≤40∧(J9 d=true∨J9 e=true)∧Q (.bl (if neg then !j1 d e else j1 d e)) H
theorem a39{X:Cx}{K:W.Frag}{cl:Str→Addr}(hu:X.A.units+41<cLine)(hK:X.K=K:=by rfl):G1 X (compareOp .Eq) (b00 K cl false):=by
 subst hK
 intro pins s σ H x y v u Q I rx ry h
 obtain⟨F,d,e,sF,p,q,pd,pe,hd,hs,hQ⟩:=h
 exact(a9n I sF (by omega) p q rx ry pd pe hs).1 X.prog X.w _ _ ⟨.bl _,H,I,rfl,hQ⟩
def P6(neg:Bool)(d e:D):Option D:=if(c6 d && c6 e && decide (M4 d≤40) && (J9 d || J9 e))=true then some (.bl (if neg then !j1 d e else j1 d e))else none
theorem a5W{K:W.Frag}{cl:Str→Addr}{neg:Bool}:OpOk K cl (b00 K cl neg) (P6 neg):=by
 intro x y d e z H F Q s hx hy h q
 unfold P6 at h
 split at h
 ·rename_i c;cases h
  simp only[Bool.and_eq_true,Bool.or_eq_true,decide_eq_true_eq]at c
  obtain⟨F1,g1,s1,p1⟩:=hx.toRp s
  have hy1:Rb K cl F1 H e y:=by
   rcases hy with hy | ⟨a,xs,ds,e1,e2,ha,r⟩
   ·exact .inl (hy.mono g1)
   ·exact .inr ⟨a,xs,ds,e1,e2,ha,r.mono g1⟩
  obtain⟨F2,g2,s2,p2⟩:=hy1.toRp s1
  exact⟨F2,d,e,s2,p1.mono g2,p2,c.1.1.1,c.1.1.2,c.1.2,c.2,q _ H F (.refl s) (by simp only[Rp])⟩
 ·cases h
mutual
theorem a3c:∀(d:D),c6 d=true→j1 d d=true
 | .tup ds,h=>by simp only[c6]at h;simp only[j1];exact Z2 ds h
 | .lst ds,h=>by simp only[c6]at h;simp only[j1];exact Z2 ds h
 | .non,_=>by simp[j1,O9]
 | .bl _,_=>by simp[j1,O9]
 | .int _,_=>by simp[j1,O9]
 | .str _,_=>by simp[j1,O9]
 | .ty _,h=>by simp[c6,g9]at h
 | .cls _,h=>by simp[c6,g9]at h
 | .scr _,h=>by simp[c6,g9]at h
 | .exc _,h=>by simp[c6,g9]at h
 | .obj _ _ _,h=>by simp[c6,g9]at h
 | .dic _ _,h=>by simp[c6,g9]at h
 | .exv _ _ _,h=>by simp[c6,g9]at h
theorem Z2:∀(ds:List D),w6 ds=true→B0 ds ds=true
 | [],_=>by simp[B0]
 | d::ds,h=>by
  simp only[w6,Bool.and_eq_true]at h
  simp only[B0]
  rw[a3c d h.1,Z2 ds h.2];rfl
end
theorem a5X{d:D}(neg:Bool)(h1:c6 d=true)(h2:M4 d≤40)(h3:J9 d=true):P6 neg d d=some (.bl (!neg)):=by
 unfold P6
 rw[if_pos (by simp[h1,h2,h3]),a3c d h1]
 cases neg<;>rfl
section
variable {K:W.Frag}{cl:Str→Addr}{E:XK}{σ:St}{H F:Hp}{env:DE}{k:Nat}
def b2f(K:W.Frag)(cl:Str→Addr)(E:XK)(a:Addr)(t:TS)(f:SF):Prop:=∀(N:Ends) σ H env F,Rel K cl σ H F env→(∃cls,F a=some (B3 a cls none))→Cs K cl E (f env) σ H F env N→t N σ H
theorem RfS.x{a:Addr}{t:TS}{f:SF}(h:RfS K cl E t f):b2f K cl E a t f:=fun N σ H env F R _ c=>h N σ H env F R c
end
def Z3:Sl→Sl
 | .ow ds=>.fz (.lst ds)
 | .hd ds=>.fz (.lst ds)
 | .od ks ds=>.fz (.dic ks ds)
 | .hk ks ds=>.fz (.dic ks ds)
 | s=>s
def a1S:DE→DE
 | []=>[]
 | s::e=>Z3 s::a1S e
mutual
def noL:D→Bool
 | .lst _=>false
 | .scr _=>false
 | .exc _=>false
 | .obj _ _ _=>false
 | .dic _ _=>false
 | .exv _ _ _=>false
 | .tup ds=>noLs ds
 | _=>true
def noLs:List D→Bool
 | []=>true
 | d::ds=>noL d && noLs ds
end
def a63(o:HO):Prop:=(∃xs,o=.lst xs)∨∃ks xs,o=dkO ks xs
section
variable {K:W.Frag}{cl:Str→Addr}{E:XK}{σ:St}{H F F1 H' F' F2:Hp}{env:DE}
mutual
theorem Rp.noL(g:∀b o,F' b=some o→¬a63 o→F2 b=some o):∀(d:D) (v:V),L2.noL d=true→Rp K cl F' d v→Rp K cl F2 d v
 | .non,_,_,h=>by simpa only[Rp]using h
 | .bl _,_,_,h=>by simpa only[Rp]using h
 | .int _,_,_,h=>by simpa only[Rp]using h
 | .str _,_,_,h=>by simpa only[Rp]using h
 | .ty _,_,_,h=>by simpa only[Rp]using h
 | .cls _,_,_,h=>by simpa only[Rp]using h
 | .tup ds,v,n,h=>by
  simp only[Rp]at h ⊢
  obtain⟨a,xs,e,h1,h2⟩:=h
  exact⟨a,xs,e,g _ _ h1 (fun z=>by rcases z with⟨_,z⟩ | ⟨ks,_,z⟩;exact nomatch z;cases ks<;>exact nomatch z),Rps.noL g ds xs (by simpa only[L2.noL]using n) h2⟩
 | .lst ds,v,n,h=>by simp[L2.noL]at n
 | .scr ns,v,n,h=>by simp[L2.noL]at n
 | .exc c,v,n,h=>by simp[L2.noL]at n
 | .obj _ _ _,v,n,h=>by simp[L2.noL]at n
 | .dic _ _,v,n,h=>by simp[L2.noL]at n
 | .exv _ _ _,v,n,h=>by simp[L2.noL]at n
theorem Rps.noL(g:∀b o,F' b=some o→¬a63 o→F2 b=some o):∀(ds:List D) (vs:List V),L2.noLs ds=true→Rps K cl F' ds vs→Rps K cl F2 ds vs
 | [],_,_,h=>by simpa only[Rps]using h
 | d::ds,vs,n,h=>by
  simp only[Rps]at h ⊢
  simp only[L2.noLs,Bool.and_eq_true]at n
  obtain⟨v,r,e,h1,h2⟩:=h
  exact⟨v,r,e,Rp.noL g d v n.1 h1,Rps.noL g ds r n.2 h2⟩
end
def noX:XN→Bool
 | .p _=>true
 | .v _ _ d=>noL d
theorem Xf.noL{c:XN}{cx:Option Addr}(g:∀b o,F' b=some o→¬a63 o→F2 b=some o)(n:noX c=true)(h:Xf K cl F' c cx):Xf K cl F2 c cx:=by
 cases c with
 | p c=>exact h
 | v c f d =>
  obtain⟨dx,y,e,h1,h2⟩:=h
  exact⟨dx,y,e,g _ _ h1 (fun z=>by rcases z with⟨_,z⟩ | ⟨ks,_,z⟩;exact nomatch z;cases ks<;>exact nomatch z),Rp.noL g d y n h2⟩
def b1H(f:ZF):ZF:=fun e=>match f (a1S e)with
 | some (.ok d _)=>if noL d=true then some (.ok d e)else none
 | some (.ex c)=>if noX c=true then some (.ex c)else none
 | none=>none
def b1I(f:BF):BF:=fun e=>match f (a1S e)with
 | some (.ok d _)=>some (.ok d e)
 | some (.ex c)=>if noX c=true then some (.ex c)else none
 | none=>none
def bLd(r:Option (R Bool))(e:DE):Option (R Bool):=match r with
 | some (.ok d _)=>some (.ok d e)
 | some (.ex c)=>if noX c=true then some (.ex c)else none
 | none=>none
def zLd(r:Option (R D))(e:DE):Option (R D):=match r with
 | some (.ok d _)=>if noL d=true then some (.ok d e)else none
 | some (.ex c)=>if noX c=true then some (.ex c)else none
 | none=>none
theorem a64(f:BF)(e:DE):b1I f e=bLd (f (a1S e)) e:=rfl
theorem a65(f:ZF)(e:DE):b1H f e=zLd (f (a1S e)) e:=rfl
theorem b01(d:Bool)(e e2:DE):bLd (some (.ok d e2)) e=some (.ok d e):=rfl
theorem b02(c:Str)(e:DE):bLd (some (.ex (.p c))) e=some (.ex (.p c)):=rfl
theorem a9o(c f:Str)(d:D)(e:DE):bLd (some (.ex (.v c f d))) e=if noL d=true then some (.ex (.v c f d))else none:=rfl
theorem b03(d:D)(e e2:DE):zLd (some (.ok d e2)) e=if noL d=true then some (.ok d e)else none:=rfl
theorem b04(c:Str)(e:DE):zLd (some (.ex (.p c))) e=some (.ex (.p c)):=rfl
theorem a9p(c f:Str)(d:D)(e:DE):zLd (some (.ex (.v c f d))) e=if noL d=true then some (.ex (.v c f d))else none:=rfl
variable {k:Nat}
end
def un:Option D→Sl
 | none=>.no
 | some d=>.fz d
def K0:Sl→Bool
 | .hd _=>false
 | _=>true
def okS:Option Sl→Bool
 | none=>false
 | some s=>K0 s
theorem a66(o:Option D):K0 (un o)=true:=by cases o<;>rfl
theorem a67:K0 .no=true:=rfl
theorem a68(d:D):K0 (.fz d)=true:=rfl
theorem a69(d:List D):K0 (.ow d)=true:=rfl
theorem a6_(d:List D):K0 (.hd d)=false:=rfl
theorem a7a(s:Sl):okS (some s)=K0 s:=rfl
theorem a7b:okS none=false:=rfl
theorem a9q:Z3 .no=.no:=rfl
theorem a9r(d:D):Z3 (.fz d)=.fz d:=rfl
theorem a9s(d:List D):Z3 (.ow d)=.fz (.lst d):=rfl
theorem a9t(d:List D):Z3 (.hd d)=.fz (.lst d):=rfl
theorem a5Z(i:Nat)(s:Sl)(e:DE):put i s e=if okS e[i]? = true then some (.nx (e.set i s))else none:=by
 unfold put okS
 cases e[i]? with
 | none=>rfl
 | some t=>cases t<;>rfl
theorem a7c(i:Nat)(d:D)(e:DE):g7 i d e=if okS e[i]? = true then some (e.set i (.fz d))else none:=by
 unfold g7 okS
 cases e[i]? with
 | none=>rfl
 | some t=>cases t<;>rfl
theorem a9u(o:Option D):Z3 (un o)=un o:=by cases o<;>rfl
theorem a7d:a1P []=true:=rfl
theorem a50(s:Sl)(e:DE):a1P (s::e)=(K0 s && a1P e):=by cases s<;>rfl
def G9(r:Option RS):Option RS:=match r with
 | some (.ct e)=>some (.nx e)
 | r=>r
theorem a9v(e:DE):G9 (some (.nx e))=some (.nx e):=rfl
theorem a9w(e:DE):G9 (some (.ct e))=some (.nx e):=rfl
theorem a9x(d:D):G9 (some (.rt d))=some (.rt d):=rfl
theorem a9y(c:XN):G9 (some (.ex c))=some (.ex c):=rfl
theorem a9z(d:List (List D)):G9 (some (.rz d))=some (.rz d):=rfl
theorem a9A(d:List D):G9 (some (.ro d))=some (.ro d):=rfl
theorem a51{r:Option RS}{k:SF}:P3 r k=P3 (G9 r) k:=by
 cases r with
 | none=>rfl
 | some r=>cases r<;>rfl
theorem a3d{α:Type}{b:GF}{body:SF}(f:α→D)(I:List α→DE→Prop)(l0:List α):∀(l pre:List α) (e:DE),l0=pre++l→I pre e→(∀pre x post e,l0=pre++x::post→I pre e→∃e2,G9 (a4P (b (f x) e) body)=some (.nx e2)∧I (pre++[x]) e2)→∃e',l4 b body (l.map f) e=some (.nx e')∧I l0 e'
 | [],pre,e,hl,h,_=>⟨e,rfl,by rw[hl,List.append_nil];exact h⟩
 | x::l,pre,e,hl,h,hs=>by
  obtain⟨e2,h2,h3⟩:=hs pre x l e hl h
  obtain⟨e',h4,h5⟩:=a3d f I l0 l (pre++[x]) e2 (by rw[hl,List.append_assoc];rfl) h3 hs
  refine⟨e',?_,h5⟩
  rw[List.map_cons,E4]
  cases q:b (f x) e with
  | none=>rw[q]at h2;cases h2
  | some e1 =>
   rw[q]at h2
   have h2:G9 (body e1)=some (.nx e2):=h2
   rw[z0,a51,h2];exact h4
theorem a1T{α:Type}{b:GF}{body:SF}(f:α→D)(I:List α→DE→Prop)(l:List α)(e:DE)(h:I [] e)(hs:∀pre x post e,l=pre++x::post→I pre e→∃e2,G9 (a4P (b (f x) e) body)=some (.nx e2)∧I (pre++[x]) e2):∃e',l4 b body (l.map f) e=some (.nx e')∧I l e' :=
 a3d f I l l [] e rfl h hs
theorem V6{α:Type}{b:GF}{c:BF}{el:ZF}{ec eo:DE}(f:α→D)(g:α→D)(q:α→Bool):∀(l:List α) (acc:List D),acc.length+l.length≤sizeLine→(∀x∈l,∃e1 e2,b (f x) ec=some e1∧c e1=some (.ok (q x) e2)∧(q x=true→∃e3,el e2=some (.ok (g x) e3)))→j0 b c el ec eo (l.map f) acc=some (.ok (acc++(l.filter q).map g) eo)
 | [],acc,_,_=>by simp only[List.filter_nil,List.map_nil,List.append_nil];rfl
 | x::l,acc,hl,h=>by
  obtain⟨e1,e2,h1,h2,h3⟩:=h x List.mem_cons_self
  have hl':acc.length<sizeLine:=by rw[List.length_cons]at hl;omega
  rw[List.map_cons,a1n,h1,a2f,h2,Y6]
  by_cases z:q x=true
  ·obtain⟨e3,h4⟩:=h3 z
   rw[if_pos z,h4,Y6,if_pos hl',V6 f g q l (acc++[g x]) (by rw[List.length_append,List.length_cons,List.length_nil];rw[List.length_cons]at hl;omega) (fun y m=>h y (List.mem_cons_of_mem _ m)),List.filter_cons_of_pos z,List.map_cons,List.append_assoc];rfl
  ·rw[if_neg z,V6 f g q l acc (by rw[List.length_cons]at hl;omega) (fun y m=>h y (List.mem_cons_of_mem _ m)),List.filter_cons_of_neg z]
theorem a7e{ds:List D}{v:Int}(h:0≤v):a0I ds none (some v)=ds.take v.toNat:=by
 unfold a0I
 rw[HT.sIx_none]
 obtain⟨n,rfl⟩:=Int.eq_ofNat_of_zero_le h
 rw[HT.sIx_nat,List.drop_zero,Nat.sub_zero,Int.toNat_natCast]
 by_cases z:n≤ds.length
 ·rw[Nat.min_eq_left z]
 ·rw[Nat.min_eq_right (by omega),List.take_of_length_le (Nat.le_refl _),List.take_of_length_le (by omega)]
theorem a9B{n k:Nat}(h:k<n):X5 n (k:Int)=some k:=by
 unfold X5;rw[if_pos (by omega),if_pos (by omega),Int.toNat_natCast]
theorem a7f{α:Type}{l:List α}{k:Nat}{a:α}(h:l[k]? = some a):atI l (k:Int)=some a:=by
 have hk:=(List.getElem?_eq_some_iff.mp h).1
 unfold atI
 rw[a9B hk];exact h
section
variable {K:W.Frag}{cl:Str→Addr}{E:XK}
theorem Z4:∀(ns:List Int) (m:Int),ns.foldl min m≤m∧∀a∈ns,ns.foldl min m≤a
 | [],m=>⟨Int.le_refl _,fun _ h=>by cases h⟩
 | n::ns,m=>by
  obtain⟨h1,h2⟩:=Z4 ns (min m n)
  rw[List.foldl_cons]
  refine⟨by omega,fun a h=>?_⟩
  rcases List.mem_cons.mp h with rfl | h
  ·omega
  ·exact h2 a h
theorem W1:∀(ns:List Int) (m:Int),ns.foldl min m=m∨ns.foldl min m∈ns
 | [],m=>.inl rfl
 | n::ns,m=>by
  rw[List.foldl_cons]
  rcases W1 ns (min m n)with e | e
  ·rw[e]
   rcases(show min m n=m∨min m n=n by omega)with z | z
   ·exact .inl z
   ·rw[z];exact .inr List.mem_cons_self
  ·exact .inr (List.mem_cons_of_mem _ e)
end
open Classical in
section
variable {K:W.Frag}{cl:Str→Addr}{E:XK}{σ:St}{H F:Hp}{env:DE}
abbrev HF:=XN→SF
theorem Xf.rp{c:XN}{cx:Option Addr}{a:Addr}(h:Xf K cl F c cx)(na:F a=none):Rp K cl (upd F a (B3 a (.ref (cl c.nm)) cx)) c.d (.ref a):=by
 have g:Same F (upd F a (B3 a (.ref (cl c.nm)) cx)):=fun b o e=>by rw[a7 (d5 e na)];exact e
 cases c with
 | p c=>show Rp K cl _ (.exc c) _;simp only[Rp];exact⟨a,cx,rfl,c8⟩
 | v c f d =>
  obtain⟨dx,y,rfl,h1,h2⟩:=h
  show Rp K cl _ (.exv c f d) _
  simp only[Rp]
  exact⟨a,dx,y,rfl,c8,g _ _ h1,h2.mono g⟩
def RfH(K:W.Frag)(cl:Str→Addr)(E:XK)(th:TH)(f:HF):Prop:=∀(N:Ends) σ H env F a c cx,Rel K cl σ H F env→H a=none→Xf K cl F c cx→Cs K cl E (f c env) σ H F env N→th (.ref (cl c.nm)) cx a N σ H
def hN:HF:=fun _ _=>none
def a4U(i:Nat)(r:Option RS):Option RS:=match r with
 | some (.nx e2)=>put i .no e2
 | some (.rt d)=>some (.rt d)
 | some (.ro ds)=>some (.ro ds)
 | _=>none
def hAs(i:Nat)(exm:Str→Option Bool)(suite:SF)(b7:HF):HF:=fun c e=>match exm c.nm with
 | some true=>(match put i (.fz c.d) e with
  | some (.nx e1)=>a4U i (suite e1)
  | _=>none)
 | some false=>b7 c e
 | none=>none
theorem a75:RfH K cl E a7Q hN:=fun _ _ _ _ _ _ _ _ _ _ _ h=>h
theorem a52{C:Addr}{i:Nat}{exm:Str→Option Bool}{ts:Addr→TS}{suite:SF}{rt:TH}{b7:HF}(hx:∀c b,exm c=some b→W.exmOne K (.ref (cl c)) (.ref C)=some b)(hs:∀a,RfS K cl E (ts a) suite)(hr:RfH K cl E rt b7):RfH K cl E (b0i K C i ts rt) (hAs i exm suite b7):=by
 intro N σ H env F a c cx R ha xf h
 unfold hAs at h
 split at h
 ·rename_i q
  have gr:Gr H F (upd H a (B3 a (.ref (cl c.nm)) cx)) (upd F a (B3 a (.ref (cl c.nm)) cx)):=.new R.sub ha
  refine .inl ⟨hx c.nm true q,?_⟩
  have p:Rp K cl (upd F a (B3 a (.ref (cl c.nm)) cx)) c.d (.ref a):=xf.rp (by cases e:F a with | none=>rfl | some o=>have:=R.sub _ _ e;rw[ha]at this;cases this)
  have h:=h.from (R.frm gr)
  have R0:=R.gr gr
  generalize upd H a (B3 a (.ref (cl c.nm)) cx)=H1 at h R0 ⊢
  generalize upd F a (B3 a (.ref (cl c.nm)) cx)=F1 at h R0 p
  cases hp:put i (.fz c.d) env with
  | none=>rw[hp]at h;exact h.elim
  | some r =>
   rw[hp]at h
   cases r with
   | nx e1 =>
    obtain⟨hi,nh,ee⟩:i<env.length∧(∀ds,env[i]?≠some (.hd ds))∧e1=env.set i (.fz c.d):=by
     have h0:Cs K cl (fun _ _ _=>False) (put i (.fz c.d) env) σ H1 F1 env ⟨fun _ _=>True,fun _ _=>True,fun _ _=>True,fun _ _=>True⟩:=by rw[hp];exact fun _ _ _ _ _=>trivial
     obtain⟨a1,a2,a3⟩:=Y8 h0
     refine⟨a1,a2,?_⟩
     rw[a5Z]at hp
     revert hp
     cases env[i]? with
     | none=>simp[okS]
     | some sl=>cases sl<;>simp[okS,K0]<;>intro z<;>exact z.symm
    subst ee
    have R1:=R0.put (d:=c.d) hi nh p
    have f1:Frm σ H1 F1 env (σ.set i (some (.ref a))) H1 F1 (env.set i (.fz c.d)):=Frm.put nh
    refine hs a _ _ _ _ _ R1 ?_
    have h2:=Cs.from f1 h
    cases r:suite (env.set i (.fz c.d))with
    | none=>simp only[r,a4U]at h2;exact h2.elim
    | some rs =>
     simp only[r,a4U]at h2
     cases rs with
     | nx e2 =>
      obtain⟨hi,nh,h3⟩:=Y8 h2
      intro σ2 H2 F2 f2 R2
      obtain⟨R3,f3⟩:=R2.drop nh
      exact h3 _ H2 F2 (f2.trans f3) R3
     | bk e2=>exact h2.elim
     | ct e2=>exact h2.elim
     | rt d=>exact h2
     | ro ds=>exact h2
     | rz dss=>exact h2.elim
     | rp _ _=>exact h2.elim
     | ex c2=>exact h2.elim
   | _=>exact h.elim
 ·rename_i q
  exact .inr ⟨hx c.nm false q,hr N σ H env F a c cx R ha xf h⟩
 ·exact h.elim
end
section
variable {K:W.Frag}{cl:Str→Addr}{E:XK}
def a0e:D→Option D
 | .lst ds=>match J8 ds with
  | some (n::ns)=>some (.int (ns.foldl min n))
  | _=>none
 | _=>none
theorem a9C:CbOk1 K cl (a7S K) a0e:=by
 intro x d z H F Q s hx h q
 unfold a0e at h
 split at h
 ·rename_i ds
  cases hb:J8 ds with
  | none=>rw[hb]at h;cases h
  | some l =>
   rw[hb]at h
   cases l with
   | nil=>cases h
   | cons n ns =>
    cases h
    obtain⟨a,xs,rfl,hH,r⟩:=hx.lst s
    rw[a1Q hb]at r
    rw[r.ints]at hH
    refine⟨a,n::ns,rfl,.of hH,List.cons_ne_nil _ _,fun m hm hle=>?_⟩
    have e:m=ns.foldl min n:=by
     obtain⟨h1,h2⟩:=Z4 ns n
     have hmem:ns.foldl min n∈n::ns:=by
      rcases W1 ns n with e | e
      ·rw[e];exact List.mem_cons_self
      ·exact List.mem_cons_of_mem _ e
     have a1:=hle _ hmem
     rcases List.mem_cons.mp hm with rfl | hm
     ·omega
     ·have:=h2 m hm;omega
    rw[e]
    exact q _ H F (.refl s) (by simp only[Rp])
 ·cases h
end
section
variable {K:W.Frag}{cl:Str→Addr}{E:XK}{σ:St}{H F:Hp}{env:DE}
theorem Rps.lookup{f:Str}:∀{ns:List Str} {ds:List D} {xs:List V} {z:D},Rps K cl F ds xs→(ns.zip ds).lookup f=some z→∃v,(ns.zip xs).lookup f=some v∧Rp K cl F z v
 | [],ds,xs,z,_,h=>by simp at h
 | n::ns,[],xs,z,r,h=>by simp at h
 | n::ns,d::ds,xs,z,r,h=>by
  obtain⟨v,ys,rfl,p,r'⟩:=r.inv
  rw[List.zip_cons_cons,List.lookup_cons]at h ⊢
  by_cases q:(f == n)=true
  ·rw[q]at h ⊢;cases h;exact⟨v,rfl,p⟩
  ·rw[Bool.not_eq_true _ |>.mp q]at h ⊢;exact r'.lookup h
end
structure GrM(a:Addr)(H F H' F':Hp):Prop where
 fz:Same F F'
 sub:Same F' H'
 hid:∀b o,b≠a→H b=some o→F b=none→H' b=some o∧F' b=none
 dom:∀b,H' b=none→H b=none
structure Bs(a:Addr)(σ:St)(env:DE)(H0 F0 H F:Hp):Prop where
 fz:Same F0 F
 hid:∀b o,b≠a→H0 b=some o→F0 b=none→H b=some o∧F b=none∧¬Ow σ env b
 dom:∀b,H b=none→H0 b=none
section
variable {K:W.Frag}{cl:Str→Addr}{E:XK}{σ:St}{H F:Hp}{env:DE}
theorem Bs.frm{a:Addr}{ds:List D}{σ':St}{env':DE}{H0 F0 H' F':Hp}(B:Bs a σ env H0 F0 H F)(f:Frm σ H F env σ' H' F' env'):Bs a σ' env' H0 F0 H' F' :=
 ⟨B.fz.trans f.fz,fun b o n h g=>by obtain⟨h1,f1,w1⟩:=B.hid b o n h g;exact f.hid b o h1 f1 w1,fun b h=>B.dom b (f.dom b h)⟩
theorem Bs.gr{a:Addr}{H0 F0:Hp}(B:Bs a σ env H0 F0 H F)(s:Same F H):GrM a H0 F0 H F :=
 ⟨B.fz,s,fun b o n h g=>by obtain⟨h1,f1,_⟩:=B.hid b o n h g;exact⟨h1,f1⟩,B.dom⟩
end
def N2:SF:=fun _=>none
theorem a1U{X:Cx}{st:Stmt}:PS X st (fun _ _ _=>False):=fun _ _ _ _ _ _ h=>h.elim
section
variable {K:W.Frag}{cl:Str→Addr}{E:XK}
theorem a1V:RfS K cl E (fun _ _ _=>False) N2:=fun _ _ _ _ _ _ h=>h
end
section
variable {P:Program}{w:World}{K:W.Frag}{mg:Str→Option Value}{base:Heap}{cl:Str→Addr}{TB:List (Addr×Str)}
variable {X:Cx}{k k':Nat}{x:Str}{ps:List Str}{sp:Sp}{E:XK}{e:Expr}{es:List Expr}{t:TA}{p pos:Pos}{d:V}
theorem OwnD.own(G:OwnD P w K mg base k x ps sp d):Own P w K mg base k x ps sp:=by
 obtain⟨f,fd,du,F,b,bd,rd,kp,m⟩:=G.ex
 exact⟨f,fd,F,b,kp,m⟩
end
def R8(k:Int):List Int→List Int
 | []=>[k]
 | x::r=>if k<x then k::x::r else if k=x then x::r else x::R8 k r
def r6:List Int→List Int
 | []=>[]
 | k::r=>R8 k (r6 r)
theorem a0L{k x:Int}:∀{l:List Int},x∈R8 k l↔x=k∨x∈l
 | []=>by simp[R8]
 | y::l=>by
  unfold R8
  split
  ·simp
  ·split
   ·rename_i h;subst h;simp
   ·rw[List.mem_cons,a0L,List.mem_cons]
    constructor
    ·rintro(h | h | h)
     ·exact .inr (.inl h)
     ·exact .inl h
     ·exact .inr (.inr h)
    ·rintro(h | h | h)
     ·exact .inr (.inl h)
     ·exact .inl h
     ·exact .inr (.inr h)
theorem a3_{k:Int}:∀{l:List Int},l.Pairwise (· < ·)→(R8 k l).Pairwise (· < ·)
 | [],_=>List.pairwise_singleton _ _
 | y::l,h=>by
  unfold R8
  have h':=List.pairwise_cons.mp h
  split
  ·rename_i hk
   refine List.pairwise_cons.mpr ⟨fun x m=>?_,h⟩
   rcases List.mem_cons.mp m with rfl | m
   ·exact hk
   ·exact Int.lt_trans hk (h'.1 x m)
  ·split
   ·exact h
   ·refine List.pairwise_cons.mpr ⟨fun x m=>?_,a3_ h'.2⟩
    rcases a0L.mp m with rfl | m
    ·omega
    ·exact h'.1 x m
theorem z7{x:Int}:∀{l:List Int},x∈r6 l↔x∈l
 | []=>by simp[r6]
 | k::l=>by unfold r6;rw[a0L,z7,List.mem_cons]
theorem V7:∀l:List Int,(r6 l).Pairwise (· < ·)
 | []=>.nil
 | k::l=>a3_ (V7 l)
theorem a3f{k:Int}:∀{l:List Int},(R8 k l).length≤l.length+1
 | []=>Nat.le_refl _
 | y::l=>by
  unfold R8
  split
  ·simp
  ·split
   ·simp
   ·have:=a3f (k:=k) (l:=l)
    simp;omega
theorem a2h:∀l:List Int,(r6 l).length≤l.length
 | []=>Nat.le_refl _
 | k::l=>by
  have:=a3f (k:=k) (l:=r6 l)
  have:=a2h l
  show(R8 k (r6 l)).length≤l.length+1
  omega
theorem a3g:∀{a b:List Int},a.Pairwise (· < ·)→b.Pairwise (· < ·)→(∀x,x∈a↔x∈b)→a=b
 | [],[],_,_,_=>rfl
 | [],y::b,_,_,h=>absurd ((h y).mpr List.mem_cons_self) List.not_mem_nil
 | x::a,[],_,_,h=>absurd ((h x).mp List.mem_cons_self) List.not_mem_nil
 | x::a,y::b,ha,hb,h=>by
  have ha':=List.pairwise_cons.mp ha
  have hb':=List.pairwise_cons.mp hb
  have e:x=y:=by
   rcases List.mem_cons.mp ((h x).mp List.mem_cons_self)with e | m
   ·exact e
   ·rcases List.mem_cons.mp ((h y).mpr List.mem_cons_self)with e | m2
    ·exact e.symm
    ·have:=hb'.1 x m
     have:=ha'.1 y m2
     omega
  subst e
  congr 1
  refine a3g ha'.2 hb'.2 fun z=>?_
  constructor
  ·intro m
   rcases List.mem_cons.mp ((h z).mp (List.mem_cons_of_mem _ m))with e | m2
   ·subst e;have:=ha'.1 z m;omega
   ·exact m2
  ·intro m
   rcases List.mem_cons.mp ((h z).mpr (List.mem_cons_of_mem _ m))with e | m2
   ·subst e;have:=hb'.1 z m;omega
   ·exact m2
def N8(f:AF):NF:=fun e=>bnd (f e) fun ds e1=>match ds with
 | [.lst xs]=>(match J8 xs with
  | some ns=>if ns.length<1000 then some (.ok ((r6 ns).map .int) e1)else none
  | none=>none)
 | _=>none
section
variable {K:W.Frag}{cl:Str→Addr}{E:XK}
theorem a53{t:TA}{f:AF}(hf:K9 K cl E t f):Q0 K cl E (a3Y K t) (N8 f):=by
 intro σ H Q env F R h
 refine hf σ H _ env F R ((Ct.bnd h a0E).mono fun vs H1 ⟨F1,e1,ds,s1,R1,p1,h1⟩=>?_)
 split at h1
 ·rename_i xs
  split at h1
  ·rename_i ns hn
   split at h1
   ·rename_i hl
    obtain⟨v,r,rfl,q1,q2⟩:=Rps.inv p1
    rw[q2.inv0]
    simp only[Rp]at q1
    obtain⟨a,ys,rfl,ha,rr⟩:=q1
    rw[a1Q hn]at rr
    rw[rr.ints]at ha
    refine⟨a,ns,rfl,.of (R1.sub _ _ ha),hl,fun l ks hl' hpw hm=>?_⟩
    have e:ks=r6 ns:=a3g hpw (V7 ns) fun x=>(hm x).trans z7.symm
    subst e
    exact Ct.newN R1 hl' Rps.ofInts h1
   ·exact h1.elim
  ·exact h1.elim
 ·exact h1.elim
end
@[simp] theorem a7g(ks:DK)(ds:List D):K0 (.od ks ds)=true:=rfl
@[simp] theorem a9D(ks:DK)(ds:List D):Z3 (.od ks ds)=.fz (.dic ks ds):=rfl
@[simp] theorem a9E(ks:DK)(ds:List D):Z3 (.hk ks ds)=.fz (.dic ks ds):=rfl
structure SU(K:W.Frag)(cl:Str→Addr)(ps:List Nat)(A:Nat→Addr)(H0 F0 F1:Hp)(σ:St)(H F:Hp)(env:DE):Prop where
 rel:Rel K cl σ H F env
 pn:∀i∈ps,σ[i]? = some (some (.ref (A i)))∧∃ds,env[i]? = some (.hd ds)
 fz:Same F0 F
 gz:Same F1 F
 hid:∀b o,(∀i∈ps,b≠A i)→H0 b=some o→F0 b=none→H b=some o∧F b=none∧¬Ow σ env b
 dom:∀b,H b=none→H0 b=none
section
variable {K:W.Frag}{cl:Str→Addr}{E:XK}{ps:List Nat}{A:Nat→Addr}{H0 F0 F1:Hp}{σ:St}{H F:Hp}{env:DE}{k:Nat}
theorem SU.frm{σ':St}{H' F':Hp}{env':DE}(S:SU K cl ps A H0 F0 F1 σ H F env)(f:Frm σ H F env σ' H' F' env')(R:Rel K cl σ' H' F' env'):SU K cl ps A H0 F0 F1 σ' H' F' env' :=
 ⟨R,fun i m=>by obtain⟨e,ds,h⟩:=S.pn i m;obtain⟨h1,e1⟩:=f.keep i ds h;exact⟨e1.trans e,ds,h1⟩,S.fz.trans f.fz,S.gz.trans f.fz,
  fun b o n h g=>by obtain⟨h1,f1,w1⟩:=S.hid b o n h g;exact f.hid b o h1 f1 w1,fun b h=>S.dom b (f.dom b h)⟩
theorem SU.change{i:Nat}{ds es:List D}{ys:List V}(S:SU K cl ps A H0 F0 F1 σ H F env)(m:i∈ps)(h:env[i]? = some (.hd ds))(r:Rps K cl F es ys):SU K cl ps A H0 F0 F1 σ (upd H (A i) (.lst ys)) F (env.set i (.hd es)):=by
 obtain⟨e,_,_⟩:=S.pn i m
 obtain⟨a',xs,e',hH,hF,_⟩:=S.rel.mu i ds (.inr h)
 rw[e]at e';cases e'
 have hi:i<env.length:=(List.getElem?_eq_some_iff.mp h).1
 have self:(env.set i (.hd es))[i]? = some (.hd es):=List.getElem?_set_self hi
 have oth:∀j,j≠i→(env.set i (.hd es))[j]? = env[j]?:=fun j hj=>List.getElem?_set_ne (Ne.symm hj)
 have mui:∀j,Mu (env.set i (.hd es)) j→Mu env j:=fun j ⟨fs,q⟩=>by
  by_cases z:j=i
  ·subst z;exact⟨ds,.inr h⟩
  ·rw[oth j z]at q;exact⟨fs,q⟩
 have R:=S.rel
 refine⟨⟨fun b o q=>?_,by rw[List.length_set];exact R.len,fun j d q=>?_,fun j fs q=>?_,fun j k b hj hk=>R.inj j k b (mui j hj) (mui k hk),(R.od.updL hH).setE a09⟩,fun j mj=>?_,S.fz,S.gz,fun b o n h0 f0=>?_,fun b q=>?_⟩
 ·have z:b≠A i:=fun z=>by rw[z,hF]at q;cases q
  rw[a7 z];exact R.sub _ _ q
 ·have z:j≠i:=fun z=>by subst z;rw[self]at q;cases q
  rw[oth j z]at q;exact R.fz j d q
 ·by_cases z:j=i
  ·subst z
   rw[self]at q
   rcases q with q | q
   ·cases q
   ·cases q;exact⟨_,ys,e,c8,hF,r⟩
  ·rw[oth j z]at q
   obtain⟨b,zs,e1,h1,f1,r1⟩:=R.mu j fs q
   have nb:b≠A i:=fun y=>z (R.inj j i b ⟨fs,q⟩ ⟨ds,.inr h⟩ e1 (by rw[y];exact e))
   exact⟨b,zs,e1,by rw[a7 nb];exact h1,f1,r1⟩
 ·obtain⟨e1,fs,q⟩:=S.pn j mj
  refine⟨e1,?_⟩
  by_cases z:j=i
  ·subst z;exact⟨es,self⟩
  ·exact⟨fs,by rw[oth j z];exact q⟩
 ·obtain⟨h1,f1,w1⟩:=S.hid b o n h0 f0
  refine⟨by rw[a7 (n i m)];exact h1,f1,fun⟨j,fs,oo,q,e1⟩=>?_⟩
  have y:j≠i:=fun y=>by subst y;rw[self]at q;cases q;exact oo
  rw[oth j y]at q;exact w1 ⟨j,fs,oo,q,e1⟩
 ·by_cases z:b=A i
  ·rw[z,c8]at q;cases q
  ·rw[a7 z]at q;exact S.dom b q
theorem SU.at(S:SU K cl ps A H0 F0 F1 σ H F env):SU K cl ps A H0 F0 F σ H F env:=⟨S.rel,S.pn,S.fz,Same.refl _,S.hid,S.dom⟩
end
section
variable {K:W.Frag}{cl:Str→Addr}{E:XK}{ps:List Nat}{σ:St}{H F:Hp}{env:DE}
theorem Rel.more{n:Nat}(R:Rel K cl σ H F env):Rel K cl (σ++List.replicate n none) H F (env++List.replicate n .no):=by
 have key:∀(i:Nat) (s:Sl),(env++List.replicate n Sl.no)[i]? = some s→s≠.no→i<env.length∧env[i]? = some s:=fun i s q ns=>by
  by_cases z:i<env.length
  ·rw[List.getElem?_append_left z]at q;exact⟨z,q⟩
  ·rw[List.getElem?_append_right (by omega),List.getElem?_replicate]at q
   split at q
   ·cases q;exact absurd rfl ns
   ·cases q
 have sg:∀i,i<env.length→(σ++List.replicate n none)[i]? = σ[i]?:=fun i h=>List.getElem?_append_left (by rw[R.len];exact h)
 have muo:∀(j:Nat) (fs:List D),((env++List.replicate n Sl.no)[j]? = some (.ow fs)∨(env++List.replicate n Sl.no)[j]? = some (.hd fs))→j<env.length∧(env[j]? = some (.ow fs)∨env[j]? = some (.hd fs)):=fun j fs q=>by
  rcases q with q | q
  ·obtain⟨a,b⟩:=key j _ q (fun z=>by cases z);exact⟨a,.inl b⟩
  ·obtain⟨a,b⟩:=key j _ q (fun z=>by cases z);exact⟨a,.inr b⟩
 refine⟨R.sub,by rw[List.length_append,List.length_append,List.length_replicate,List.length_replicate,R.len],fun i d q=>?_,fun i ds q=>?_,fun i j b ⟨ds,q⟩ ⟨es,q'⟩ e1 e2=>?_,⟨fun i s ks ds q d=>?_,fun i j s t ks ls ds es b q d q' d' e1 e2=>?_⟩⟩
 ·obtain⟨a,b⟩:=key i _ q (fun z=>by cases z)
  rw[sg i a];exact R.fz i d b
 ·obtain⟨a,b⟩:=muo i ds q
  rw[sg i a];exact R.mu i ds b
 ·obtain⟨a,c⟩:=muo i ds q
  obtain⟨a',c'⟩:=muo j es q'
  rw[sg i a]at e1;rw[sg j a']at e2
  exact R.inj i j b ⟨ds,c⟩ ⟨es,c'⟩ e1 e2
 ·obtain⟨a,b⟩:=key i _ q (fun z=>by subst z;exact d)
  rw[sg i a];exact R.od.at_ i s ks ds b d
 ·obtain⟨a,c⟩:=key i _ q (fun z=>by subst z;exact d)
  obtain⟨a',c'⟩:=key j _ q' (fun z=>by subst z;exact d')
  rw[sg i a]at e1;rw[sg j a']at e2
  exact R.od.inj i j s t ks ls ds es b c d c' d' e1 e2
theorem NoOw.more{n:Nat}(h:NoOw env):NoOw (env++List.replicate n .no):=fun i s o q=>by
 by_cases z:i<env.length
 ·rw[List.getElem?_append_left z]at q;exact h i s o q
 ·rw[List.getElem?_append_right (by omega),List.getElem?_replicate]at q
  split at q
  ·cases q;exact o
  ·cases q
end
def RpU(K:W.Frag)(cl:Str→Addr)(σ:St)(F:Hp):List (Sum Nat D)→List V→Prop
 | [],vs=>vs=[]
 | .inl i::xs,vs=>∃v r,vs=v::r∧σ[i]? = some (some v)∧RpU K cl σ F xs r
 | .inr d::xs,vs=>∃v r,vs=v::r∧Rp K cl F d v∧RpU K cl σ F xs r
section
variable {K:W.Frag}{cl:Str→Addr}{E:XK}{ps:List Nat}{σ:St}{H F:Hp}{env:DE}
theorem RpU.mono{F':Hp}(s:Same F F'):∀{xs:List (Sum Nat D)} {vs:List V},RpU K cl σ F xs vs→RpU K cl σ F' xs vs
 | [],_,h=>h
 | .inl _::_,_,⟨v,r,e,h1,h2⟩=>⟨v,r,e,h1,h2.mono s⟩
 | .inr _::_,_,⟨v,r,e,h1,h2⟩=>⟨v,r,e,Rp.mono s _ _ h1,h2.mono s⟩
theorem RpU.length:∀{xs:List (Sum Nat D)} {vs:List V},RpU K cl σ F xs vs→vs.length=xs.length
 | [],_,h=>by rw[show _=_ from h];rfl
 | .inl _::_,_,⟨v,r,e,_,h2⟩=>by rw[e,List.length_cons,List.length_cons,h2.length]
 | .inr _::_,_,⟨v,r,e,_,h2⟩=>by rw[e,List.length_cons,List.length_cons,h2.length]
end
def a7h(P:Program)(w:World)(K:W.Frag)(mg:Str→Option Value)(base:Heap)(k:Nat)(x:Str)(C:Addr)(ps:List Str)(f:Str):Prop :=
 ∃fI fd,MkX K C fI∧FnOk P w K mg base (m4 P w) k fI fd ps (a1H C f)∧Binds K fd ps []∧mg x=some (.ref C)
section
variable {X:Cx}{E:XK}{j k:Nat}
theorem a54{x f:Str}{C:Addr}{ps:List Str}{e₀:Expr}{b7:List Expr}{np cpos pos:Pos}{ta:TA}(acc:XAcc X E)(G:a7h X.prog X.w X.K X.mg X.base j x C ps f)(hr:Room k X.A)(hk:j+1≤k)(hg:Gl X x)(ha:PA X (e₀::b7) ta)
  (hc:X.calm=true:=by rfl) (hex:X.ex=[]:=by rfl)
  (he:starEach (e₀::b7) X.env=(false,eval e₀ X.env)::starEach b7 X.env:=by rfl) (hplain:(backTo cpos (starEach b7 X.env)).any (·.1)=false:=by rfl) (hd:(x == ("__debug__" : Str))=false:=by decide) :
  PS X (.Raise (some (.Call (.Name x np) (e₀::b7) [] cpos)) none pos) (a1I C f E ta):=by
 obtain⟨fI,fd,M,F,B,m⟩:=G
 exact a5D acc M F (hr.mono hk) B hg m ha hc hex he hplain hd
end
section
variable {K:W.Frag}{cl:Str→Addr}{E:XK}
def a0f(c f:Str)(g:AF):SF:=fun e=>D9 (g e) fun ds _=>match ds with
 | [d]=>some (.ex (.v c f d))
 | _=>none
theorem a55{c f:Str}{t:TA}{g:AF}(hf:K9 K cl E t g):RfS K cl E (a1I (cl c) f E t) (a0f c f g):=by
 intro N σ H env F R h
 refine hf σ H _ env F R ((Cs.bnd h).mono fun xs H1 ⟨F1,e1,ds,fr,R1,p1,h1⟩=>?_)
 split at h1
 ·rename_i d
  have p1:Rps K cl F1 [d] xs:=p1
  obtain⟨v,r,rfl,p,p2⟩:=p1.inv
  rw[p2.inv0]
  refine⟨v,rfl,fun dx nd=>?_⟩
  have gr:Gr H1 F1 (upd H1 dx (.xd [(f,v)])) (upd F1 dx (.xd [(f,v)])):=.new R1.sub nd
  exact h1 _ _ (fr.fx gr.fx) _ ⟨dx,v,rfl,c8,p.mono gr.fz⟩
 ·exact h1.elim
def a0M(xt:Str→Bool)(f:Str):D→Option D
 | .exv c g d=>if xt c=true∧g=f then some d else none
 | _=>none
def b2g(K:W.Frag)(f:Str):V→Hp→VK→Prop:=fun x H1 Q=>∃a C dx y,x=.ref a∧H1 a=some (B3 a (.ref C) (some (2*dx+1)))∧H1 dx=some (.xd [(f,y)])∧W.ExcT K C∧W.hasDictIn K C=true∧W.findIn K (.ref C) f=some none∧Q y H1
theorem b05{xt:Str→Bool}{f:Str}(hf:∀c,xt c=true→W.ExcT K (cl c)∧W.hasDictIn K (cl c)=true∧W.findIn K (.ref (cl c)) f=some none):b0J K cl (b2g K f) (a0M xt f):=by
 intro x d z H F Q s hx h q
 unfold a0M at h
 split at h
 ·rename_i c g d
  split at h
  ·rename_i hc
   obtain⟨hc,rfl⟩:=hc
   cases h
   obtain⟨h1,h2,h3⟩:=hf c hc
   rcases hx with hx | ⟨_,_,_,_,e,_⟩
   ·simp only[Rp]at hx
    obtain⟨a,dx,y,rfl,ha,hd,r⟩:=hx
    exact⟨a,_,dx,y,rfl,s _ _ ha,s _ _ hd,h1,h2,h3,q y H F (.refl s) r⟩
   ·cases e
  ·cases h
 ·cases h
theorem b06{xt:Str→Bool}{f:Str}{t:TE}{o:ZF}(hf:∀c,xt c=true→W.ExcT K (cl c)∧W.hasDictIn K (cl c)=true∧W.findIn K (.ref (cl c)) f=some none)(ho:k8 K cl E t o):k8 K cl E (b0z K t f) (eU (a0M xt f) o):=b2b (b05 hf) ho
theorem a7i{C:Addr}{f:Str}{vs:List V}{H:Hp}{Q:VK}{E:XK}(h:a1H C f vs H Q E):vs.length=2:=by
 obtain⟨a,v,rfl,_⟩:=h
 rfl
theorem a3A{N:List Str}{C:Addr}{f:Str}{vs:List V}{H:Hp}{Q:VK}(S:W.ExcS K C f)(h:a1H C f vs H Q E):(sXF K (D0 0) (D0 1) f) { nx:=fun _ H'=>Q .non H',rt:=Q } (start N vs) H:=by
 obtain⟨a,v,rfl,hp,q⟩:=h
 exact⟨v,rfl,.ref a,rfl,a,C,rfl,hp,S,q⟩
end
section
variable {X:Cx}
def a76(sp:Sp)(t:TA)(i:Nat)(th:TH):TS:=fun D σ H=>∃Eh:XK,M9 sp [] Eh t σ H (fun v H2=>D.nx (σ.set i (some v)) H2)∧∀cls cx H',Eh cls cx H'→∀a,H' a=none→th cls cx a D σ H'
theorem a4a{k k' i:Nat}{ps:List Str}{sp:Sp}{x y:Str}{p cpos epos py:Pos}{e:Expr}{es:List Expr}{t:TA}{h₀:ExceptHandler}{hs:List ExceptHandler}{pos:Pos}{th:TH}
  (G:Own X.prog X.w X.K X.mg X.base k x ps sp) (hr:Room k' X.A) (hk:k≤k') (hN:X.N.Nodup) (hi:X.N[i]? = some y) (hy:Loc X.env.scope y) (ha:∀(E2:Value→Shared→Prop) (pins:List (Addr×Obj)),PA (X.tryCx E2 pins) (e::es) t) (hh:PH X (h₀::hs) th) (hg:Gl X x:=by rfl)
  (hdb:(x == ("__debug__" : Str))=false:=by decide) (he:starEach (e::es) X.env=(false,eval e X.env)::starEach es X.env:=by rfl) (hpl:(backTo cpos (starEach es X.env)).any (·.1)=false:=by rfl)
  (hsw:swapsWith (.Call (.Name x p) (e::es) [] cpos) (some (.Name y py)) epos.line X.env=pure false:=by rfl) (hfn:X.fn y=true∨X.env.scope.names.lookup y=some .local:=by first | exact .inl rfl | exact .inr rfl | assumption)
  (hst:X.stack=X.env::X.outer:=by rfl) (hf:X.env.frame=some X.env.locals:=by rfl) (hex:X.ex=[]:=by rfl) :
  PS X (.Try [.Assign [.Name y py] (.Call (.Name x p) (e::es) [] cpos) epos] (h₀::hs) [] [] pos) (a76 sp t i th):=by
 intro pins s σ H D I h
 obtain⟨Eh,h1,h2⟩:=h
 refine wpAny_Try_except ?_
 have ok:=I.ok
 have acc:XAccAt (X.tryCx (fun e s₁=>wpAny (model X.prog X.w) X.A (noteFrame e X.env) (fun _ s₂=>wpAny (model X.prog X.w) X.A (setFlight e none) (fun _ s₃ =>
   wpAny (model X.prog X.w) X.A (handleBy e X.env (h₀::hs)) (SP X pins D) X.xe s₃) X.xe s₂) X.xe s₁) pins) σ Eh:=by
  intro pins' H' s1 a cls cx B ph I1 x1 hE
  have I2:Inv X pins σ H' s1:=I1.ofTry ok
  have x2:XAt X pins H' s1 a cls cx B ph:=⟨x1.free,x1.stays,x1.fresh,x1.frames,fun b o e i n=>x1.cov b o e (i.elim .inl fun z=>.inr (z.elim .inl fun⟨p,hp,q⟩=>.inr ⟨p,List.mem_append_left _ hp,q⟩)) n,x1.tr⟩
  refine a1x ok.frames hst rfl hf I2 x2 fun h3 I3 x3=>?_
  refine a1y I3 x3 (fun z=>nomatch z) fun h4 I4 x4=>?_
  exact hh pins _ _ _ a cls cx B D I4 x4 (h2 cls cx H' hE a x4.free)
 have It:=I.toTry (pins:=pins) (E2:=fun e s₁=>wpAny (model X.prog X.w) X.A (noteFrame e X.env) (fun _ s₂=>wpAny (model X.prog X.w) X.A (setFlight e none) (fun _ s₃ =>
   wpAny (model X.prog X.w) X.A (handleBy e X.env (h₀::hs)) (SP X pins D) X.xe s₃) X.xe s₂) X.xe s₁)
 refine wpAny_mono (wpAny_execs_cons (Q:=fun f s1=>f=.next∧∃σ' H',Inv X pins σ' H' s1∧D.nx σ' H') (wpAny_Assign_Name (h7 (a8v (X:=X.tryCx _ pins) G hr hk acc (ha _ pins) hg hdb he hpl It h1) fun v s1 ⟨x,H1,I1,r1,q1⟩=>?_) hsw)) (fun f s1 q=>?_) fun e s1 q=>q
 ·exact T3 (X:=X.tryCx _ pins) I1 hN hi hy r1 (fun s2 I2=>wpAny_execs_nil ⟨rfl,_,H1,I2.ofTry ok,q1⟩) hfn
 ·obtain⟨rfl,σ',H',I',q⟩:=q
  exact wpAny_execs_nil ⟨σ',H',I',q⟩
end
section
variable {K:W.Frag}{cl:Str→Addr}{E:XK}
def Q4(i:Nat)(g:List D→Option R1)(f:AF)(fh:HF):SF:=fun e=>match f e with
 | some (.ok ds e1)=>(match g ds with
  | some (.ret d)=>V1 i (some (.ret d)) e1
  | some (.own d)=>V1 i (some (.own d)) e1
  | some (.ex c)=>fh c e1
  | _=>none)
 | _=>none
theorem a4b{i:Nat}{g:List D→Option R1}{t:TA}{f:AF}{th:TH}{fh:HF}(hf:K9 K cl E t f)(hh:RfH K cl E th fh):RfS K cl E (a76 (g6 K cl g) t i th) (Q4 i g f fh):=by
 intro N σ H env F R h
 unfold Q4 at h
 split at h
 ·rename_i ds e1 q
  refine⟨fun cls cx H'=>∃c H1 F1 F',cls=.ref (cl c.nm)∧Xf K cl F' c cx∧g ds=some (.ex c)∧Frm σ H F env σ H1 F1 e1∧Rel K cl σ H1 F1 e1∧Gr H1 F1 H' F',?_,?_⟩
  ·refine hf σ H _ env F R ?_
   rw[q]
   intro vs H1 F1 fr R1 p1
   show g6 K cl g (vs++[]) H1 _ _
   rw[List.append_nil]
   refine⟨ds,F1,R1.sub,p1,?_⟩
   split at h
   ·rename_i d q1;rw[q1]
    unfold V1 at h
    obtain⟨hi,nh,h2⟩:=Y8 h
    exact fun v H' F' gr r=>h2 _ H' F' ((fr.trans (R1.frm gr)).trans (Frm.put nh)) ((R1.gr gr).put hi nh r)
   ·rename_i d q1;rw[q1]
    unfold V1 at h
    obtain⟨hi,nh,h2⟩:=Y8 h
    intro a xs H' F' gr ha hH hF r
    refine h2 _ H' F' ((fr.trans (R1.frm gr)).putO (fr.dom a ha) nh) ((R1.gr gr).putO hi hH hF (fun j mj e=>?_) r)
    obtain⟨es,q⟩:=mj
    obtain⟨b,ys,e',hb,_⟩:=R1.mu j es q
    rw[e]at e';cases e'
    rw[ha]at hb;cases hb
   ·rename_i c q1;rw[q1]
    exact fun H' F' gr cx e=>⟨c,H1,F1,F',rfl,e,rfl,fr,R1,gr⟩
   ·exact h.elim
  ·rintro cls cx H' ⟨c,H1,F1,F',rfl,xf,q1,fr,R1,gr⟩ a ha
   rw[q1]at h
   exact hh N σ H' e1 F' a c cx (R1.gr gr) ha xf (Cs.from (fr.trans (R1.frm gr)) h)
 ·exact h.elim
end
theorem l5{p:Prop} [Decidable p] {a b:Bool} {r:Option Bool} {P:Bool→Prop} (h:(if p then some a else r)=some b) (h1:p→P a) (h2:r=some b→P b):P b:=by
 by_cases z:p
 ·rw[if_pos z]at h;cases h;exact h1 z
 ·rw[if_neg z]at h;exact h2 h
structure DSt(K:W.Frag)(cl:Str→Addr)(H F:Hp)(B:Addr)(as:List Addr)(dss:List (List D))(H' F':Hp):Prop where
 gr:Gr H F H' F'
 atB:H' B=some (.lst (as.map V.ref))
 unB:F' B=none
 len:dss.length=as.length
 ins:∀(k:Nat) (a:Addr),as[k]? = some a→∃ds zs,dss[k]? = some ds∧H' a=some (.lst zs)∧F' a=none∧Rps K cl F' ds zs
structure Fx(H:Hp)(B:Addr)(as:List Addr):Prop where
 hB:H B=none
 nd:as.Nodup
 nw:∀a∈as,H a=none∧a≠B
section
variable {K:W.Frag}{cl:Str→Addr}{E:XK}{σ:St}{H F H0 F0 H' F' H2 F2:Hp}{env:DE}{B:Addr}{as:List Addr}{dss:List (List D)}{r k:Nat}
theorem DSt.to(s:DSt K cl H0 F0 B as dss H F)(g:Gr H F H2 F2):DSt K cl H0 F0 B as dss H2 F2 :=
 ⟨s.gr.trans g,(g.hid B _ s.atB s.unB).1,(g.hid B _ s.atB s.unB).2,s.len,fun k a h=>by
  obtain⟨ds,zs,h1,h2,h3,h4⟩:=s.ins k a h
  exact⟨ds,zs,h1,(g.hid a _ h2 h3).1,(g.hid a _ h2 h3).2,h4.mono g.fz⟩⟩
theorem DSt.put{j n:Nat}{a:Addr}{ds:List D}{d:D}{v:V}(s:DSt K cl H0 F0 B as dss H F)(fx:Fx H0 B as)(hj:as[j]? = some a)(hd:dss[j]? = some ds)(p:Rp K cl F d v) :
  ∃zs,H a=some (.lst zs)∧F a=none∧ds.length=zs.length∧DSt K cl H0 F0 B as (dss.set j (ds.set n d)) (upd H a (.lst (zs.set n v))) F:=by
 obtain⟨ds',zs,h1,h2,h3,h4⟩:=s.ins j a hj
 rw[hd]at h1;cases h1
 obtain⟨aH,aB⟩:=fx.nw a (List.mem_of_getElem? hj)
 refine⟨zs,h2,h3,h4.length,⟨⟨s.gr.fz,fun b o hb=>?_,fun b o hb fb=>?_⟩,by rw[a7 (Ne.symm aB)];exact s.atB,s.unB,by rw[List.length_set];exact s.len,fun m b hb=>?_⟩⟩
 ·rw[a7 (fun z=>by rw[z,h3]at hb;cases hb)];exact s.gr.sub _ _ hb
 ·rw[a7 (fun z=>by rw[z,aH]at hb;cases hb)];exact s.gr.hid b o hb fb
 ·by_cases z:m=j
  ·subst z
   rw[hj]at hb;cases hb
   exact⟨_,_,List.getElem?_set_self (List.getElem?_eq_some_iff.mp hd).1,c8,h3,h4.set p n⟩
  ·obtain⟨d2,z2,k1,k2,k3,k4⟩:=s.ins m b hb
   have ne:b≠a:=fun e=>z (by
    obtain⟨hm,em⟩:=List.getElem?_eq_some_iff.mp hb
    obtain⟨hj',ej⟩:=List.getElem?_eq_some_iff.mp hj
    exact(List.getElem_inj fx.nd).mp (em.trans (e.trans ej.symm)))
   exact⟨d2,z2,by rw[List.getElem?_set_ne (Ne.symm z)];exact k1,by rw[a7 ne];exact k2,k3,k4⟩
end
end L2
namespace Law
open PySem L2 PyProof.Rows
def L5(i:Nat):Stmt:=PySem.Challenge.pw_cratefit_k43_too_many_too_wide.main.body.getD i (.Pass ⟨0,0,0,0⟩)
abbrev w8:Stmt:=L5 8
abbrev C8:Stmt:=L5 9
abbrev E5:Stmt:=L5 10
abbrev a0g:Stmt:=L5 33
abbrev S8:Stmt:=L5 34
abbrev t5:Stmt:=L5 36
abbrev m7:Stmt:=L5 37
abbrev J0:Stmt:=L5 39
abbrev J1:Stmt:=L5 41
abbrev E6:Stmt:=L5 42
abbrev N9:Stmt:=L5 43
abbrev E7:Stmt:=L5 44
abbrev E8:Stmt:=L5 45
abbrev o9:Stmt:=L5 46
abbrev p6:Stmt:=L5 47
abbrev D5:Stmt:=L5 48
abbrev l9:Stmt:=a8p (L5 6) 0
variable {P:Program}{w:World}{K:PySem.W.Frag}{mg:Str→Option Value}{base:Heap}{c:Str→Addr}
structure Txt(K:PySem.W.Frag)(mg:Str→Option Value)(c:Str→Addr):Prop where
 z_ValueError:mg "ValueError" = none
 z_bool:mg "bool" = none
 z_enumerate:mg "enumerate" = none
 z_int:mg "int" = none
 z_isinstance:mg "isinstance" = none
 z_len:mg "len" = none
 z_list:mg "list" = none
 z_min:mg "min" = none
 z_range:mg "range" = none
 z_set:mg "set" = none
 z_sorted:mg "sorted" = none
 m_BadTurn:mg "BadTurn" = some (.ref (c "BadTurn"))
 m_CrateError:mg "CrateError" = some (.ref (c "CrateError"))
 m_NoWeighing:mg "NoWeighing" = some (.ref (c "NoWeighing"))
 m_TooMany:mg "TooMany" = some (.ref (c "TooMany"))
 m_TooWide:mg "TooWide" = some (.ref (c "TooWide"))
 x_BadTurn:PySem.W.excIn K (c "BadTurn") vErr "ValueError.__new__" = true
 x_TooMany:PySem.W.excIn K (c "TooMany") vErr "ValueError.__new__" = true
 v_MOST_WARES:∃u,mg "MOST_WARES" = some u∧RelV (.int 5) u
 t_exc_BadTurn:PySem.W.ExcT K (c "BadTurn")
 t_exc_TooMany:PySem.W.ExcT K (c "TooMany")
 t_exc_TooWide:PySem.W.ExcT K (c "TooWide")
 hd_TooWide:PySem.W.hasDictIn K (c "TooWide")=true
 xn_TooWide:PySem.W.findIn K (.ref (c "TooWide")) "at" = some none
 t_one_BadTurn_BadTurn:PySem.W.kitOne K (.ref (c "BadTurn")) (.ref (c "BadTurn"))=some true
 t_one_BadTurn_CrateError:PySem.W.kitOne K (.ref (c "BadTurn")) (.ref (c "CrateError"))=some true
 t_one_BadTurn_NoWeighing:PySem.W.kitOne K (.ref (c "BadTurn")) (.ref (c "NoWeighing"))=some false
 t_one_BadTurn_TooMany:PySem.W.kitOne K (.ref (c "BadTurn")) (.ref (c "TooMany"))=some false
 t_one_BadTurn_TooWide:PySem.W.kitOne K (.ref (c "BadTurn")) (.ref (c "TooWide"))=some false
 t_one_BadTurn_ValueError:PySem.W.kitOne K (.ref (c "BadTurn")) (.type "ValueError")=some true
 t_exo_BadTurn_CrateError:PySem.W.exmOne K (.ref (c "BadTurn")) (.ref (c "CrateError"))=some true
 t_exo_BadTurn_TooWide:PySem.W.exmOne K (.ref (c "BadTurn")) (.ref (c "TooWide"))=some false
 t_one_TooMany_BadTurn:PySem.W.kitOne K (.ref (c "TooMany")) (.ref (c "BadTurn"))=some false
 t_one_TooMany_CrateError:PySem.W.kitOne K (.ref (c "TooMany")) (.ref (c "CrateError"))=some true
 t_one_TooMany_NoWeighing:PySem.W.kitOne K (.ref (c "TooMany")) (.ref (c "NoWeighing"))=some false
 t_one_TooMany_TooMany:PySem.W.kitOne K (.ref (c "TooMany")) (.ref (c "TooMany"))=some true
 t_one_TooMany_TooWide:PySem.W.kitOne K (.ref (c "TooMany")) (.ref (c "TooWide"))=some false
 t_one_TooMany_ValueError:PySem.W.kitOne K (.ref (c "TooMany")) (.type "ValueError")=some true
 t_exo_TooMany_CrateError:PySem.W.exmOne K (.ref (c "TooMany")) (.ref (c "CrateError"))=some true
 t_exo_TooMany_TooWide:PySem.W.exmOne K (.ref (c "TooMany")) (.ref (c "TooWide"))=some false
 t_one_TooWide_BadTurn:PySem.W.kitOne K (.ref (c "TooWide")) (.ref (c "BadTurn"))=some false
 t_one_TooWide_CrateError:PySem.W.kitOne K (.ref (c "TooWide")) (.ref (c "CrateError"))=some true
 t_one_TooWide_NoWeighing:PySem.W.kitOne K (.ref (c "TooWide")) (.ref (c "NoWeighing"))=some false
 t_one_TooWide_TooMany:PySem.W.kitOne K (.ref (c "TooWide")) (.ref (c "TooMany"))=some false
 t_one_TooWide_TooWide:PySem.W.kitOne K (.ref (c "TooWide")) (.ref (c "TooWide"))=some true
 t_one_TooWide_ValueError:PySem.W.kitOne K (.ref (c "TooWide")) (.type "ValueError")=some true
 t_exo_TooWide_CrateError:PySem.W.exmOne K (.ref (c "TooWide")) (.ref (c "CrateError"))=some true
 t_exo_TooWide_TooWide:PySem.W.exmOne K (.ref (c "TooWide")) (.ref (c "TooWide"))=some true
def x1(n m:Str):Option Bool:=if n = "BadTurn"∧m = "BadTurn" then some true else if n = "BadTurn"∧m = "CrateError" then some true else if n = "BadTurn"∧m = "NoWeighing" then some false else if n = "BadTurn"∧m = "TooMany" then some false else if n = "BadTurn"∧m = "TooWide" then some false else if n = "TooMany"∧m = "BadTurn" then some false else if n = "TooMany"∧m = "CrateError" then some true else if n = "TooMany"∧m = "NoWeighing" then some false else if n = "TooMany"∧m = "TooMany" then some true else if n = "TooMany"∧m = "TooWide" then some false else if n = "TooWide"∧m = "BadTurn" then some false else if n = "TooWide"∧m = "CrateError" then some true else if n = "TooWide"∧m = "NoWeighing" then some false else if n = "TooWide"∧m = "TooMany" then some false else if n = "TooWide"∧m = "TooWide" then some true else none
def x2(n:Str)(m:String):Option Bool:=if n = "BadTurn"∧m = "ValueError" then some true else if n = "TooMany"∧m = "ValueError" then some true else if n = "TooWide"∧m = "ValueError" then some true else none
theorem Q5(T:Txt K mg c):∀(n:Str) (m:Str) (b:Bool),x1 n m=some b→PySem.W.ExcT K (c n)∧PySem.W.kitOne K (.ref (c n)) (.ref (c m))=some b:=by
 intro n m b h
 unfold x1 at h
 refine l5 (P:=fun b=>PySem.W.ExcT K (c n)∧PySem.W.kitOne K (.ref (c n)) (.ref (c m))=some b) h (fun z=>by obtain⟨rfl,rfl⟩:=z;exact⟨T.t_exc_BadTurn,T.t_one_BadTurn_BadTurn⟩) fun h=>?_
 refine l5 (P:=fun b=>PySem.W.ExcT K (c n)∧PySem.W.kitOne K (.ref (c n)) (.ref (c m))=some b) h (fun z=>by obtain⟨rfl,rfl⟩:=z;exact⟨T.t_exc_BadTurn,T.t_one_BadTurn_CrateError⟩) fun h=>?_
 refine l5 (P:=fun b=>PySem.W.ExcT K (c n)∧PySem.W.kitOne K (.ref (c n)) (.ref (c m))=some b) h (fun z=>by obtain⟨rfl,rfl⟩:=z;exact⟨T.t_exc_BadTurn,T.t_one_BadTurn_NoWeighing⟩) fun h=>?_
 refine l5 (P:=fun b=>PySem.W.ExcT K (c n)∧PySem.W.kitOne K (.ref (c n)) (.ref (c m))=some b) h (fun z=>by obtain⟨rfl,rfl⟩:=z;exact⟨T.t_exc_BadTurn,T.t_one_BadTurn_TooMany⟩) fun h=>?_
 refine l5 (P:=fun b=>PySem.W.ExcT K (c n)∧PySem.W.kitOne K (.ref (c n)) (.ref (c m))=some b) h (fun z=>by obtain⟨rfl,rfl⟩:=z;exact⟨T.t_exc_BadTurn,T.t_one_BadTurn_TooWide⟩) fun h=>?_
 refine l5 (P:=fun b=>PySem.W.ExcT K (c n)∧PySem.W.kitOne K (.ref (c n)) (.ref (c m))=some b) h (fun z=>by obtain⟨rfl,rfl⟩:=z;exact⟨T.t_exc_TooMany,T.t_one_TooMany_BadTurn⟩) fun h=>?_
 refine l5 (P:=fun b=>PySem.W.ExcT K (c n)∧PySem.W.kitOne K (.ref (c n)) (.ref (c m))=some b) h (fun z=>by obtain⟨rfl,rfl⟩:=z;exact⟨T.t_exc_TooMany,T.t_one_TooMany_CrateError⟩) fun h=>?_
 refine l5 (P:=fun b=>PySem.W.ExcT K (c n)∧PySem.W.kitOne K (.ref (c n)) (.ref (c m))=some b) h (fun z=>by obtain⟨rfl,rfl⟩:=z;exact⟨T.t_exc_TooMany,T.t_one_TooMany_NoWeighing⟩) fun h=>?_
 refine l5 (P:=fun b=>PySem.W.ExcT K (c n)∧PySem.W.kitOne K (.ref (c n)) (.ref (c m))=some b) h (fun z=>by obtain⟨rfl,rfl⟩:=z;exact⟨T.t_exc_TooMany,T.t_one_TooMany_TooMany⟩) fun h=>?_
 refine l5 (P:=fun b=>PySem.W.ExcT K (c n)∧PySem.W.kitOne K (.ref (c n)) (.ref (c m))=some b) h (fun z=>by obtain⟨rfl,rfl⟩:=z;exact⟨T.t_exc_TooMany,T.t_one_TooMany_TooWide⟩) fun h=>?_
 refine l5 (P:=fun b=>PySem.W.ExcT K (c n)∧PySem.W.kitOne K (.ref (c n)) (.ref (c m))=some b) h (fun z=>by obtain⟨rfl,rfl⟩:=z;exact⟨T.t_exc_TooWide,T.t_one_TooWide_BadTurn⟩) fun h=>?_
 refine l5 (P:=fun b=>PySem.W.ExcT K (c n)∧PySem.W.kitOne K (.ref (c n)) (.ref (c m))=some b) h (fun z=>by obtain⟨rfl,rfl⟩:=z;exact⟨T.t_exc_TooWide,T.t_one_TooWide_CrateError⟩) fun h=>?_
 refine l5 (P:=fun b=>PySem.W.ExcT K (c n)∧PySem.W.kitOne K (.ref (c n)) (.ref (c m))=some b) h (fun z=>by obtain⟨rfl,rfl⟩:=z;exact⟨T.t_exc_TooWide,T.t_one_TooWide_NoWeighing⟩) fun h=>?_
 refine l5 (P:=fun b=>PySem.W.ExcT K (c n)∧PySem.W.kitOne K (.ref (c n)) (.ref (c m))=some b) h (fun z=>by obtain⟨rfl,rfl⟩:=z;exact⟨T.t_exc_TooWide,T.t_one_TooWide_TooMany⟩) fun h=>?_
 refine l5 (P:=fun b=>PySem.W.ExcT K (c n)∧PySem.W.kitOne K (.ref (c n)) (.ref (c m))=some b) h (fun z=>by obtain⟨rfl,rfl⟩:=z;exact⟨T.t_exc_TooWide,T.t_one_TooWide_TooWide⟩) fun h=>?_
 cases h
theorem Q6(T:Txt K mg c):∀(n:Str) (m:String) (b:Bool),x2 n m=some b→PySem.W.ExcT K (c n)∧PySem.W.kitOne K (.ref (c n)) (.type m)=some b:=by
 intro n m b h
 unfold x2 at h
 split at h
 ·rename_i z;obtain⟨rfl,rfl⟩:=z;cases h;exact⟨T.t_exc_BadTurn,T.t_one_BadTurn_ValueError⟩
 split at h
 ·rename_i z;obtain⟨rfl,rfl⟩:=z;cases h;exact⟨T.t_exc_TooMany,T.t_one_TooMany_ValueError⟩
 split at h
 ·rename_i z;obtain⟨rfl,rfl⟩:=z;cases h;exact⟨T.t_exc_TooWide,T.t_one_TooWide_ValueError⟩
 cases h
def A5(n:Str):Option Bool:=if n = "BadTurn" then some true else if n = "TooMany" then some true else if n = "TooWide" then some true else none
theorem a0N(T:Txt K mg c):∀n b,A5 n=some b→PySem.W.exmOne K (.ref (c n)) (.ref (c "CrateError"))=some b:=by
 intro n b h
 unfold A5 at h
 split at h
 ·rename_i z;subst z;cases h;exact T.t_exo_BadTurn_CrateError
 split at h
 ·rename_i z;subst z;cases h;exact T.t_exo_TooMany_CrateError
 split at h
 ·rename_i z;subst z;cases h;exact T.t_exo_TooWide_CrateError
 cases h
def r8(n:Str):Option Bool:=if n = "BadTurn" then some false else if n = "TooMany" then some false else if n = "TooWide" then some true else none
theorem a2r(T:Txt K mg c):∀n b,r8 n=some b→PySem.W.exmOne K (.ref (c n)) (.ref (c "TooWide"))=some b:=by
 intro n b h
 unfold r8 at h
 split at h
 ·rename_i z;subst z;cases h;exact T.t_exo_BadTurn_TooWide
 split at h
 ·rename_i z;subst z;cases h;exact T.t_exo_TooMany_TooWide
 split at h
 ·rename_i z;subst z;cases h;exact T.t_exo_TooWide_TooWide
 cases h
def a0h(n:Str):Bool:=decide (n = "TooWide")
theorem a7j(T:Txt K mg c):∀n,a0h n=true→PySem.W.ExcT K (c n)∧PySem.W.hasDictIn K (c n)=true∧PySem.W.findIn K (.ref (c n)) "at" = some none:=by
 intro n h
 unfold a0h at h
 simp only[Bool.or_eq_true,decide_eq_true_eq]at h
 rcases h with rfl
 ·exact⟨T.t_exc_TooWide,T.hd_TooWide,T.xn_TooWide⟩
theorem W3:FnScope ["self","at"] ["self","at"] (a9 l9):=⟨rfl,rfl,rfl,by decide +kernel,rfl,by decide +kernel,by decide +kernel⟩
seal PSs PS PE PA PT
theorem W4{f:Addr}{fd:FuncData}(F:Fun K "__init__" "TooWide.__init__" l9 f fd)(S:PySem.W.ExcS K (c "TooWide") "at"):FnOk P w K mg base (m4 P w) 3 f fd ["self","at"] (a1H (c "TooWide") "at") :=
 F.okE W3 (fun vs H Q E h=>a7i h) fun cdv A outer s H vs Q E hr h=>⟨_,d6 (b1x (pv 0) (pv 1) rfl),a3A S h⟩
def M5:SF:=(y0 (bZ (eB gGt (eCV R6 0) (eV 1))) (a1h "TooMany" (aC (eJ (jC (eC (.str "there are at most ")) (jC (a4T (eV 1)) (jC (eC (.str " wares here")) jN)))) aN)) x9)
def d9:List D→Option R1:=fD 2 2 M5
theorem a1W:FnScope ["wares","most"] ["wares","most"] (a9 w8):=⟨rfl,rfl,rfl,by decide +kernel,rfl,by decide +kernel,by decide +kernel⟩
theorem a1X{f:Addr}{fd:FuncData}(F:Fun K "check_count" "check_count" w8 f fd)(T:Txt K mg c)  : FnOk P w K mg base (m4 P w) 3 f fd ["wares","most"] (g6 K c d9) :=
 F.okD (k:=2) a1W fun cdv A outer s H E hr=>⟨_,(d6 (C1 (y4 a2u (k6 (D3 (K:=K)) rfl T.z_len a0Y (a6 (pv 0) b0)) (pv 1) (n6 _)) (d6 (a2M n9 T.x_TooMany rfl T.m_TooMany (a6 (a5j (a1A a0S (a1A (b0d (pv 1)) (a1A a0S b0b)))) b0))) v3)),(y8 (F5 (d7 a2x (a4F a1c) b6)) (a25 (a8 (b2e (a4S b9 (a4S (b0Y b6) (a4S b9 b1G)))) c7)) C7)⟩
def a4V:SF:=(b8 (a4J (eV 0) (Y9 [(g7 2),(g7 3),(g7 4)])) (b8 (y0 (U8 (bZ (eV 1))) (m8 (eT (aC (eV 2) (aC (eV 3) aN)))) x9) (b8 (y0 (U8 (bZ (eV 4))) (a1h "BadTurn" (aC (eC (.str "a ware that may not be turned has no sides turned")) aN)) x9) (m8 (eT (aC (eV 3) (aC (eV 2) aN)))))))
def i3:List D→Option R1:=fD 5 2 a4V
theorem K3:FnScope ["ware","lie","w","h","turns"] ["ware","lie"] (a9 C8):=⟨rfl,rfl,rfl,by decide +kernel,rfl,by decide +kernel,by decide +kernel⟩
theorem a3B{f:Addr}{fd:FuncData}(F:Fun K "sides_of" "sides_of" C8 f fd)(T:Txt K mg c)  : FnOk P w K mg base (m4 P w) 3 f fd ["ware","lie"] (g6 K c i3) :=
 F.okD (k:=2) K3 fun cdv A outer s H E hr=>⟨_,(c5 (a49 (pv 0) (a1C (K:=K) (n:=3) rfl (B1 (n8 (i:=2) K3.nd rfl (Or.inl rfl)) (B1 (n8 (i:=3) K3.nd rfl (Or.inl rfl)) (B1 (n8 (i:=4) K3.nd rfl (Or.inl rfl)) a1t))))) (c5 (C1 (a2C (W5 (pv 1))) (d6 (k9 (R9 (a6 (pv 2) (a6 (pv 3) b0))))) v3) (c5 (C1 (a2C (W5 (pv 4))) (d6 (a2M n9 T.x_BadTurn rfl T.m_BadTurn (a6 a0S b0))) v3) (d6 (k9 (R9 (a6 (pv 3) (a6 (pv 2) b0)))))))),(g5 (a5H b6 (a1N (B8 (l3 (k:=5) (by decide)) (B8 (l3 (k:=5) (by decide)) (B8 (l3 (k:=5) (by decide)) a1M))) rfl)) (g5 (y8 (a1K (Z9 b6)) (w9 (a1J (a8 b6 (a8 b6 c7)))) C7) (g5 (y8 (a1K (Z9 b6)) (a25 (a8 b9 c7)) C7) (w9 (a1J (a8 b6 (a8 b6 c7)))))))⟩
def a2i:SF:=(b8 (a4J (eV 0) (Y9 [(g7 1),(g7 2),(g7 3)])) (a4H (nIf (a6O (bZ (eV 3)) (bZ (eB (B6 true) (eV 1) (eV 2)))) (eL (aC (eC (.bl false)) (aC (eC (.bl true)) aN))) (eL (aC (eC (.bl false)) aN)))))
def j6:List D→Option R1:=fD 4 1 a2i
theorem N3:FnScope ["ware","w","h","turns"] ["ware"] (a9 E5):=⟨rfl,rfl,rfl,by decide +kernel,rfl,by decide +kernel,by decide +kernel⟩
theorem a4W{f:Addr}{fd:FuncData}(F:Fun K "lies_of" "lies_of" E5 f fd)(T:Txt K mg c)  : FnOk P w K mg base (m4 P w) 3 f fd ["ware"] (g6 K c j6) :=
 F.okD (k:=2) N3 fun cdv A outer s H E hr=>⟨_,(c5 (a49 (pv 0) (a1C (K:=K) (n:=3) rfl (B1 (n8 (i:=1) N3.nd rfl (Or.inl rfl)) (B1 (n8 (i:=2) N3.nd rfl (Or.inl rfl)) (B1 (n8 (i:=3) N3.nd rfl (Or.inl rfl)) a1t))))) (d6 (k9 (a6f (PW.pt (a9W (W5 (pv 3)) (a8e (y4 a7F (pv 1) (pv 2) (n6 _))))) (D1 (a6 D2 (a6 D2 b0))) (D1 (a6 D2 b0)))))),(g5 (a5H b6 (a1N (B8 (l3 (k:=4) (by decide)) (B8 (l3 (k:=4) (by decide)) (B8 (l3 (k:=4) (by decide)) a1M))) rfl)) (a8H (b0I (a8C (Z9 b6) (F5 (d7 a7Y b6 b6))) (Q9 (a8 b9 (a8 b9 c7))) (Q9 (a8 b9 c7)))))⟩
def b1J:SF:=(b8 (S6 (p8 d9 (aC (eV 1) (aC (eC (.int 5)) aN)))) N2)
def Q7:List D→Option R1:=fD 2 2 b1J
theorem b07:FnScope ["box","wares"] ["box","wares"] (a9 a0g):=⟨rfl,rfl,rfl,by decide +kernel,rfl,by decide +kernel,by decide +kernel⟩
theorem b08{f:Addr}{fd:FuncData}(F:Fun K "fit" "fit" a0g f fd)(T:Txt K mg c)(G_check_count:Own P w K mg base 3 "check_count" ["wares","most"] (g6 K c d9)):FnOk P w K mg base (m4 P w) 5 f fd ["box","wares"] (g6 K c Q7) :=
 F.okD (k:=4) b07 fun cdv A outer s H E hr=>⟨_,(c5 (G4 (i8 G_check_count hr (by decide) (XAcc.passes n9) (a6 (pv 1) (a6 (X8 rfl T.v_MOST_WARES) b0)))) (d6 a1U)),(g5 (a2y (E1 (a8 b6 (a8 b9 c7)))) a1V)⟩
def b09:SF:=(m8 (eB (B6 false) (eB A8 (p8 Q7 (aC (eV 0) (aC (eV 1) aN))) (eC (.int 0))) (eC (.str "places"))))
def Z5:List D→Option R1:=fD 2 2 b09
theorem a9F:FnScope ["box","wares"] ["box","wares"] (a9 S8):=⟨rfl,rfl,rfl,by decide +kernel,rfl,by decide +kernel,by decide +kernel⟩
theorem a9G{f:Addr}{fd:FuncData}(F:Fun K "fits" "fits" S8 f fd)(T:Txt K mg c)(G_fit:Own P w K mg base 5 "fit" ["box","wares"] (g6 K c Q7)):FnOk P w K mg base (m4 P w) 7 f fd ["box","wares"] (g6 K c Z5) :=
 F.okD (k:=6) a9F fun cdv A outer s H E hr=>⟨_,(d6 (k9 (G5 T4 (C3 (C5 (K:=K)) (i8 G_fit hr (by decide) (XAcc.passes n9) (a6 (pv 0) (a6 (pv 1) b0))) c9 (fun _ _=>rfl)) a0S (n6 _)))),(w9 (d7 U9 (d7 F7 (E1 (a8 b6 (a8 b6 c7))) b9) b9))⟩
def a3h:SF:=(b8 (S6 (p8 d9 (aC (eV 0) (aC (eC (.int 5)) aN)))) (b8 (y3 1 (eL (aC (eC (.int 0)) aN))) (b8 (a2z 0 (g7 2) (b8 (y3 3 (V9 D4 1)) (b8 (a1O (i0 j6 (aC (eV 2) aN))  (g7 4) (b8 (u6 5 (eB A8 (p8 i3 (aC (eV 2) (aC (eV 4) aN))) (eC (.int 1)))) (a0J 3 (Z0 1 1 [5] (g7 0) V3 (eB t7 (eV 0) (eV 1)))))) (y3 1 (N8 (aC (eV 3) aN)))))) (a0b 1))))
def j7:List D→Option R1:=fD 6 1 a3h
theorem t8:FnScope ["wares","sums","ware","grown","lie","height"] ["wares"] (a9 t5):=⟨rfl,rfl,rfl,by decide +kernel,rfl,by decide +kernel,by decide +kernel⟩
theorem a2s{f:Addr}{fd:FuncData}(F:Fun K "heights_of" "heights_of" t5 f fd)(T:Txt K mg c)(G_check_count:Own P w K mg base 3 "check_count" ["wares","most"] (g6 K c d9))(G_lies_of:Own P w K mg base 3 "lies_of" ["ware"] (g6 K c j6))(G_sides_of:Own P w K mg base 3 "sides_of" ["ware","lie"] (g6 K c i3)):FnOk P w K mg base (m4 P w) 5 f fd ["wares"] (g6 K c j7) :=
 F.okD (k:=4) t8 fun cdv A outer s H E hr=>⟨_,(c5 (G4 (i8 G_check_count hr (by decide) (XAcc.passes n9) (a6 (pv 0) (a6 (X8 rfl T.v_MOST_WARES) b0)))) (c5 (n5 (i:=1) t8.nd rfl (Or.inl rfl) (D1 (a6 c9 b0))) (c5 (X0 PassesOwn.leaving rfl (Z7 (pv 0)) (n8 (i:=2) t8.nd rfl (Or.inl rfl)) (c5 (n5 (i:=3) t8.nd rfl (Or.inl rfl) (X4 (L7 (K:=K)) rfl T.z_list a1B (a6 (pv 1) b0))) (c5 (X0 PassesOwn.leaving rfl (Z7 (i8 G_lies_of hr (by decide) A3 (a6 (pv 2) b0))) (n8 (i:=4) t8.nd rfl (Or.inl rfl)) (c5 (n5 (i:=5) t8.nd rfl (Or.inr rfl) (C3 (C5 (K:=K)) (i8 G_sides_of hr (by decide) (XAcc.passes n9) (a6 (pv 2) (a6 (pv 4) b0))) c9 (fun _ _=>rfl))) (d6 (G4 (a2O (K:=K) PySem.F.plainAttrs_list PySem.F.slot_list_extend PySem.F.type_list_extend a15 (pv 3) (a6 (a3O (Nc:=["total","height"]) (k:=1) (js:=[5]) rfl ⟨by decide +kernel,rfl,by decide +kernel,(by change ∀y∈Scope.names _,y.2=NameKind.free→(a9 t5).names.lookup y.1=some .cell∨(a9 t5).names.lookup y.1=some .free;decide +kernel),by decide +kernel,rfl,rfl,by decide +kernel⟩ (Z7 (pv 1)) (fun _ _ _ _ _=>(n8 (i:=0) (by show List.Nodup [("total" : Str),("height" : Str)];decide +kernel) rfl (Or.inl rfl))) (fun _ _ _ _ _=>a5l) (fun _ _ _ _ _=>(j9 B2 (pv 0) (pv 1)))) b0)))))) (d6 (n5 (i:=1) t8.nd rfl (Or.inl rfl) (a5C rfl rfl T.z_sorted rfl T.z_set (a6 (pv 3) b0))))))) (d6 (k9 (pv 1)))))),(g5 (a2y (E1 (a8 b6 (a8 b9 c7)))) (g5 (N7 (Q9 (a8 b9 c7))) (g5 (a8J (l3 (k:=6) (by decide)) (g5 (N7 (a21 a1L)) (g5 (b0N (x6 (a8 b6 c7)) (l3 (k:=6) (by decide)) (g5 (B7 (d7 F7 (E1 (a8 b6 (a8 b6 c7))) b9)) (a5V (a6V (by decide) (l3 (k:=1) (by decide)) a29 (d7 B5 b6 b6))))) (N7 (a53 (a8 b6 c7)))))) a8I)))⟩
def W2:SF:=(a1i 1 (Y9 [(g7 2),(g7 3)]) (y0 (bZ (eB gGt (y6 (g1 a0e) (aC (zN (a1j 1 [3] (i0 j6 (aC (eV 3) aN)) (g7 0) V3 (eB A8 (p8 i3 (aC (eV 1) (aC (eV 0) aN))) (eC (.int 0))))) aN)) (eV 0))) (a0f "TooWide" "at" (aC (eV 2) aN)) x9))
def t9:List D→Option R1:=fD 4 2 W2
theorem J2:FnScope ["width","wares","k","ware"] ["width","wares"] (a9 m7):=⟨rfl,rfl,rfl,by decide +kernel,rfl,by decide +kernel,by decide +kernel⟩
theorem a1Y{f:Addr}{fd:FuncData}(F:Fun K "check_width" "check_width" m7 f fd)(T:Txt K mg c)(G_sides_of:Own P w K mg base 3 "sides_of" ["ware","lie"] (g6 K c i3))(G_lies_of:Own P w K mg base 3 "lies_of" ["ware"] (g6 K c j6))(XI_TooWide:a7h P w K mg base 3 "TooWide" (c "TooWide") ["self","at"] "at"):FnOk P w K mg base (m4 P w) 5 f fd ["width","wares"] (g6 K c t9) :=
 F.okD (k:=4) J2 fun cdv A outer s H E hr=>⟨_,(d6 (X0 PassesOwn.leaving rfl (a8u rfl T.z_enumerate (a6 (pv 1) b0)) (a1C (K:=K) (n:=2) rfl (B1 (n8 (i:=2) J2.nd rfl (Or.inl rfl)) (B1 (n8 (i:=3) J2.nd rfl (Or.inr rfl)) a1t))) (d6 (C1 (y4 a2u (k6 (a4v (K:=K)) rfl T.z_min a5U (a6 (a6y (Nc:=["lie","ware"]) (k:=1) (js:=[3]) n9 rfl ⟨by decide +kernel,rfl,by decide +kernel,(by change ∀y∈Scope.names _,y.2=NameKind.free→(a9 m7).names.lookup y.1=some .cell∨(a9 m7).names.lookup y.1=some .free;decide +kernel),by decide +kernel,rfl,rfl,by decide +kernel⟩ (Z7 (i8 G_lies_of hr (by decide) A3 (a6 (pv 3) b0))) (fun _ _ _ _ _=>(n8 (i:=0) (by show List.Nodup [("lie" : Str),("ware" : Str)];decide +kernel) rfl (Or.inl rfl))) (fun _ _ _ _ _=>a5l) (fun _ _ _ _ _ ac=>(C3 (C5 (K:=K)) (i8 G_sides_of hr (by decide) (XAcc.passes ac) (a6 (pv 1) (a6 (pv 0) b0))) c9 (fun _ _=>rfl)))) b0)) (pv 0) (n6 _)) (d6 (a54 n9 XI_TooWide hr (by decide) rfl (a6 (pv 2) b0))) v3)))),(a6U (a1N (B8 (l3 (k:=4) (by decide)) (B8 (l3 (k:=4) (by decide)) a1M)) rfl) (y8 (F5 (d7 a2x (F6 a9C.cb (a8 (Q1 (a8K (by decide) (x6 (a8 b6 c7)) (l3 (k:=1) (by decide)) a29 (d7 F7 (E1 (a8 b6 (a8 b6 c7))) b9))) c7)) b6)) (a55 (a8 b6 c7)) C7))⟩
def a7k:SF:=(b8 (S6 (p8 d9 (aC (eV 1) (aC (eC (.int 5)) aN)))) (b8 (S6 (p8 t9 (aC (eV 0) (aC (eV 1) aN)))) (b8 (y0 (bZ (eB (B6 false) (eCV R6 1) (eC (.int 0)))) (m8 (eT (aC (eC (.int 0)) (aC (zN (eL aN)) (aC (eC .non) aN))))) x9) (b8 N2 N2))))
def B9:List D→Option R1:=fD 3 2 a7k
theorem a56:FnScope ["width","wares","height"] ["width","wares"] (a9 J0):=⟨rfl,rfl,rfl,by decide +kernel,rfl,by decide +kernel,by decide +kernel⟩
theorem a57{f:Addr}{fd:FuncData}(F:Fun K "lowest" "lowest" J0 f fd)(T:Txt K mg c)(G_check_count:Own P w K mg base 3 "check_count" ["wares","most"] (g6 K c d9))(G_check_width:Own P w K mg base 5 "check_width" ["width","wares"] (g6 K c t9)):FnOk P w K mg base (m4 P w) 7 f fd ["width","wares"] (g6 K c B9) :=
 F.okD (k:=6) a56 fun cdv A outer s H E hr=>⟨_,(c5 (G4 (i8 G_check_count hr (by decide) (XAcc.passes n9) (a6 (pv 1) (a6 (X8 rfl T.v_MOST_WARES) b0)))) (c5 (G4 (i8 G_check_width hr (by decide) (XAcc.passes n9) (a6 (pv 0) (a6 (pv 1) b0)))) (c5 (C1 (y4 T4 (k6 (D3 (K:=K)) rfl T.z_len a0Y (a6 (pv 1) b0)) c9 (n6 _)) (d6 (k9 (R9 (a6 c9 (a6 (D1 b0) (a6 a0R b0)))))) v3) (c5 a1U (d6 a1U))))),(g5 (a2y (E1 (a8 b6 (a8 b9 c7)))) (g5 (a2y (E1 (a8 b6 (a8 b6 c7)))) (g5 (y8 (F5 (d7 U9 (a4F a1c) b9)) (w9 (a1J (a8 b9 (a8 (Q1 (Q9 c7)) (a8 b9 c7))))) C7) (g5 a1V a1V))))⟩
def a3i:SF:=(b8 (y0 (bZ (eB gLt (eV 1) (eCV R6 0))) (m8 (O6 O8 0 (eV 1))) x9) (m8 (eC (.int 0))))
def k7:List D→Option R1:=fD 2 2 a3i
theorem a58:FnScope ["_law_script","_law_k"] ["_law_script","_law_k"] (a9 J1):=⟨rfl,rfl,rfl,by decide +kernel,rfl,by decide +kernel,by decide +kernel⟩
theorem a59{f:Addr}{fd:FuncData}(F:Fun K "_law_cell" "_law_cell" J1 f fd)(T:Txt K mg c)  : FnOk P w K mg base (m4 P w) 3 f fd ["_law_script","_law_k"] (g6 K c k7) :=
 F.okD (k:=2) a58 fun cdv A outer s H E hr=>⟨_,(c5 (C1 (y4 b1n (pv 1) (k6 (D3 (K:=K)) rfl T.z_len a0Y (a6 (pv 0) b0)) (n6 _)) (d6 (k9 (C3 (T7 (K:=K)) (pv 0) (pv 1) (fun _ _=>rfl)))) v3) (d6 (k9 c9))),(g5 (y8 (F5 (d7 b1y b6 (a4F a1c))) (w9 (S5 a1b b6)) C7) (w9 b9))⟩
def a2j:SF:=(m8 (Y7 (a1l 0 "int") (a6P (a1l 0 "bool"))))
def C0:List D→Option R1:=fD 1 1 a2j
theorem a4X:FnScope ["_law_found"] ["_law_found"] (a9 E6):=⟨rfl,rfl,rfl,by decide +kernel,rfl,by decide +kernel,by decide +kernel⟩
theorem a4Y{f:Addr}{fd:FuncData}(F:Fun K "_law_whole" "_law_whole" E6 f fd)(T:Txt K mg c)  : FnOk P w K mg base (m4 P w) 3 f fd ["_law_found"] (g6 K c C0) :=
 F.okD (k:=2) a4X fun cdv A outer s H E hr=>⟨_,(d6 (k9 (a0T (k6 (u7 (K:=K)) rfl T.z_isinstance j8 (a6 (pv 0) (a6 (a1r (v:=.ty "int") rfl T.z_int b0f rfl) b0))) (a2D (a9X (k6 (u7 (K:=K)) rfl T.z_isinstance j8 (a6 (pv 0) (a6 (a1r (v:=.ty "bool") rfl T.z_bool a8t rfl) b0)))))))),(w9 (a0_ a36 (b0G a36)))⟩
def a4c:SF:=(m8 (Y7 (eB A8 (eV 0) (eC (.int 2))) (eB (B6 true) (eB A8 (eV 0) (eC (.int 0))) (eB A8 (eV 0) (eC (.int 1))))))
def J3:List D→Option R1:=fD 1 1 a4c
theorem a7l:FnScope ["_law_ware"] ["_law_ware"] (a9 N9):=⟨rfl,rfl,rfl,by decide +kernel,rfl,by decide +kernel,by decide +kernel⟩
theorem a7m{f:Addr}{fd:FuncData}(F:Fun K "_law_two" "_law_two" N9 f fd)(T:Txt K mg c)  : FnOk P w K mg base (m4 P w) 3 f fd ["_law_ware"] (g6 K c J3) :=
 F.okD (k:=2) a7l fun cdv A outer s H E hr=>⟨_,(d6 (k9 (a0T (C3 (C5 (K:=K)) (pv 0) c9 (fun _ _=>rfl)) (a2D (G5 a7F (C3 (C5 (K:=K)) (pv 0) c9 (fun _ _=>rfl)) (C3 (C5 (K:=K)) (pv 0) c9 (fun _ _=>rfl)) (n6 _)))))),(w9 (a0_ (d7 F7 b6 b9) (d7 a7Y (d7 F7 b6 b9) (d7 F7 b6 b9))))⟩
def a5_:SF:=(b8 (y0 (bZ (i0 J3 (aC (eV 0) aN))) (m8 (y6 a1o (aC (eB A8 (eV 0) (eC (.int 0))) (aC (eB A8 (eV 0) (eC (.int 1))) aN)))) x9) (m8 (eB A8 (eV 0) (eC (.int 0)))))
def u9:List D→Option R1:=fD 1 1 a5_
theorem a4Z:FnScope ["_law_ware"] ["_law_ware"] (a9 E7):=⟨rfl,rfl,rfl,by decide +kernel,rfl,by decide +kernel,by decide +kernel⟩
theorem a40{f:Addr}{fd:FuncData}(F:Fun K "_law_least" "_law_least" E7 f fd)(T:Txt K mg c)(G_l_two:Own P w K mg base 3 "_law_two" ["_law_ware"] (g6 K c J3)):FnOk P w K mg base (m4 P w) 5 f fd ["_law_ware"] (g6 K c u9) :=
 F.okD (k:=4) a4Z fun cdv A outer s H E hr=>⟨_,(c5 (C1 (W5 (i8 G_l_two hr (by decide) A3 (a6 (pv 0) b0))) (d6 (k9 (k6 (a5e rfl) rfl T.z_min a5U (a6 (C3 (C5 (K:=K)) (pv 0) c9 (fun _ _=>rfl)) (a6 (C3 (C5 (K:=K)) (pv 0) c9 (fun _ _=>rfl)) b0))))) v3) (d6 (k9 (C3 (C5 (K:=K)) (pv 0) c9 (fun _ _=>rfl))))),(g5 (y8 (Z9 (x6 (a8 b6 c7))) (w9 (F6 a9l (a8 (d7 F7 b6 b9) (a8 (d7 F7 b6 b9) c7)))) C7) (w9 (d7 F7 b6 b9)))⟩
def a6a:SF:=(b8 (y0 (bZ (eB (B6 false) (eV 0) (eC (.int 0)))) (J7 Q7 (aC (eT (aC (eV 1) (aC (eV 1) aN))) (aC (eV 2) aN))) x9) (b8 (y0 (bZ (eB (B6 false) (eV 0) (eC (.int 1)))) (J7 Z5 (aC (eT (aC (eV 1) (aC (eV 1) aN))) (aC (eV 2) aN))) x9) (b8 (y0 (bZ (eB (B6 false) (eV 0) (eC (.int 2)))) (J7 j7 (aC (eV 2) aN)) x9) (J7 B9 (aC (eV 1) (aC (eV 2) aN))))))
def E9:List D→Option R1:=fD 3 3 a6a
theorem a41:FnScope ["_law_which","_law_width","_law_wares"] ["_law_which","_law_width","_law_wares"] (a9 E8):=⟨rfl,rfl,rfl,by decide +kernel,rfl,by decide +kernel,by decide +kernel⟩
theorem a42{f:Addr}{fd:FuncData}(F:Fun K "_law_asked" "_law_asked" E8 f fd)(T:Txt K mg c)(G_fit:Own P w K mg base 5 "fit" ["box","wares"] (g6 K c Q7))(G_fits:Own P w K mg base 7 "fits" ["box","wares"] (g6 K c Z5))(G_heights_of:Own P w K mg base 5 "heights_of" ["wares"] (g6 K c j7))(G_lowest:Own P w K mg base 7 "lowest" ["width","wares"] (g6 K c B9)):FnOk P w K mg base (m4 P w) 9 f fd ["_law_which","_law_width","_law_wares"] (g6 K c E9) :=
 F.okD (k:=8) a41 fun cdv A outer s H E hr=>⟨_,(c5 (C1 (y4 T4 (pv 0) c9 (n6 _)) (d6 (k9 (i8 G_fit hr (by decide) (XAcc.passes n9) (a6 (R9 (a6 (pv 1) (a6 (pv 1) b0))) (a6 (pv 2) b0))))) v3) (c5 (C1 (y4 T4 (pv 0) c9 (n6 _)) (d6 (k9 (i8 G_fits hr (by decide) (XAcc.passes n9) (a6 (R9 (a6 (pv 1) (a6 (pv 1) b0))) (a6 (pv 2) b0))))) v3) (c5 (C1 (y4 T4 (pv 0) c9 (n6 _)) (d6 (k9 (i8 G_heights_of hr (by decide) (XAcc.passes n9) (a6 (pv 2) b0)))) v3) (d6 (k9 (i8 G_lowest hr (by decide) (XAcc.passes n9) (a6 (pv 1) (a6 (pv 2) b0)))))))),(g5 (y8 (F5 (d7 U9 b6 b9)) (a0c (a8 (a1J (a8 b6 (a8 b6 c7))) (a8 b6 c7))) C7) (g5 (y8 (F5 (d7 U9 b6 b9)) (a0c (a8 (a1J (a8 b6 (a8 b6 c7))) (a8 b6 c7))) C7) (g5 (y8 (F5 (d7 U9 b6 b9)) (a0c (a8 b6 c7)) C7) (a0c (a8 b6 (a8 b6 c7))))))⟩
def a0O:SF:=(b8 (u6 3 (eC .non)) (b8 (Q4 4 E9 (aC (eV 0) (aC (eV 1) (aC (eV 2) aN))) (hAs 5 A5 (b8 (y3 3 (eL (aC (y6 (p9 x1 x2) (aC (eV 5) (aC (eC (.cls "TooMany")) aN))) (aC (y6 (p9 x1 x2) (aC (eV 5) (aC (eC (.ty "ValueError")) aN))) (aC (y6 (p9 x1 x2) (aC (eV 5) (aC (eC (.cls "TooWide")) aN))) aN))))) (a0J 3 (eL (aC (y6 (p9 x1 x2) (aC (eV 5) (aC (eC (.cls "BadTurn")) aN))) (aC (y6 (p9 x1 x2) (aC (eV 5) (aC (eC (.cls "NoWeighing")) aN))) aN))))) hN)) (m8 (O6 (P6 false) 3 (zN (eL (aC (eC (.bl true)) (aC (eC (.bl true)) (aC (eC (.bl false)) (aC (eC (.bl false)) (aC (eC (.bl false)) aN)))))))))))
def i5:List D→Option R1:=fD 6 3 a0O
theorem u0:FnScope ["_law_which","_law_width","_law_wares","_law_met","_law_found","error"] ["_law_which","_law_width","_law_wares"] (a9 o9):=⟨rfl,rfl,rfl,by decide +kernel,rfl,by decide +kernel,by decide +kernel⟩
theorem a0i{f:Addr}{fd:FuncData}(F:Fun K "_law_many_refused" "_law_many_refused" o9 f fd)(T:Txt K mg c)(G_l_asked:Own P w K mg base 9 "_law_asked" ["_law_which","_law_width","_law_wares"] (g6 K c E9)):FnOk P w K mg base (m4 P w) 11 f fd ["_law_which","_law_width","_law_wares"] (g6 K c i5) :=
 F.okD (k:=10) u0 fun cdv A outer s H E hr=>⟨_,(c5 (n5 (i:=3) u0.nd rfl (Or.inl rfl) a0R) (c5 (a4a G_l_asked hr (by decide) (i:=4) u0.nd rfl (Or.inl rfl) (fun E2 pins=>(a6 (pv 0) (a6 (pv 1) (a6 (pv 2) b0)))) (a7R rfl T.m_CrateError u0.nd (i:=5) rfl (fun a=>(c5 (n5 (i:=3) u0.nd rfl (Or.inl rfl) (D1 (a6 (k6 (u7 (K:=K)) rfl T.z_isinstance j8 (a6 (pv 5) (a6 (D8 (v:=.ref (c "TooMany")) rfl T.m_TooMany rfl) b0))) (a6 (k6 (u7 (K:=K)) rfl T.z_isinstance j8 (a6 (pv 5) (a6 (a1r (v:=.ty "ValueError") rfl T.z_ValueError a2m rfl) b0))) (a6 (k6 (u7 (K:=K)) rfl T.z_isinstance j8 (a6 (pv 5) (a6 (D8 (v:=.ref (c "TooWide")) rfl T.m_TooWide rfl) b0))) b0))))) (d6 (G4 (a2O (K:=K) PySem.F.plainAttrs_list PySem.F.slot_list_extend PySem.F.type_list_extend a15 (pv 3) (a6 (D1 (a6 (k6 (u7 (K:=K)) rfl T.z_isinstance j8 (a6 (pv 5) (a6 (D8 (v:=.ref (c "BadTurn")) rfl T.m_BadTurn rfl) b0))) (a6 (k6 (u7 (K:=K)) rfl T.z_isinstance j8 (a6 (pv 5) (a6 (D8 (v:=.ref (c "NoWeighing")) rfl T.m_NoWeighing rfl) b0))) b0))) b0)))))) a5p)) (d6 (k9 (G5 (a39 (K:=K) (cl:=c) (b0Z hr)) (pv 3) (D1 (a6 D2 (a6 D2 (a6 D2 (a6 D2 (a6 D2 b0)))))) (n6 _)))))),(g5 (B7 b9) (g5 (a4b (a8 b6 (a8 b6 (a8 b6 c7))) (a52 (a0N T) (fun a=>(g5 (N7 (Q9 (a8 (F6 (E3 (Q5 T) (Q6 T)) (a8 b6 (a8 b9 c7))) (a8 (F6 (E3 (Q5 T) (Q6 T)) (a8 b6 (a8 b9 c7))) (a8 (F6 (E3 (Q5 T) (Q6 T)) (a8 b6 (a8 b9 c7))) c7))))) (a5V (Q9 (a8 (F6 (E3 (Q5 T) (Q6 T)) (a8 b6 (a8 b9 c7))) (a8 (F6 (E3 (Q5 T) (Q6 T)) (a8 b6 (a8 b9 c7))) c7)))))) a75)) (w9 (S5 a5W (Q1 (Q9 (a8 b9 (a8 b9 (a8 b9 (a8 b9 (a8 b9 c7)))))))))))⟩
def a0P:SF:=(b8 (u6 3 (eC .non)) (b8 (Q4 4 B9 (aC (eV 0) (aC (eV 1) aN)) (hAs 5 r8 (y3 3 (eL (aC (eU (a0M a0h "at") (eV 5)) (aC (y6 (p9 x1 x2) (aC (eV 5) (aC (eC (.cls "CrateError")) aN))) (aC (y6 (p9 x1 x2) (aC (eV 5) (aC (eC (.cls "TooMany")) aN))) (aC (y6 (p9 x1 x2) (aC (eV 5) (aC (eC (.cls "BadTurn")) aN))) aN)))))) hN)) (m8 (Y7 (O6 (a22 true) 3 (eC .non)) (Y7 (i0 C0 (aC (O6 O8 3 (eC (.int 0))) aN)) (O6 (P6 false) 3 (zN (eL (aC (eV 2) (aC (eC (.bl true)) (aC (eC (.bl false)) (aC (eC (.bl false)) aN))))))))))))
def l6:List D→Option R1:=fD 6 3 a0P
theorem u4:FnScope ["_law_width","_law_wares","_law_due","_law_met","_law_found","error"] ["_law_width","_law_wares","_law_due"] (a9 p6):=⟨rfl,rfl,rfl,by decide +kernel,rfl,by decide +kernel,by decide +kernel⟩
theorem a0j{f:Addr}{fd:FuncData}(F:Fun K "_law_wide_refused" "_law_wide_refused" p6 f fd)(T:Txt K mg c)(G_lowest:Own P w K mg base 7 "lowest" ["width","wares"] (g6 K c B9))(G_l_whole:Own P w K mg base 3 "_law_whole" ["_law_found"] (g6 K c C0)):FnOk P w K mg base (m4 P w) 9 f fd ["_law_width","_law_wares","_law_due"] (g6 K c l6) :=
 F.okD (k:=8) u4 fun cdv A outer s H E hr=>⟨_,(c5 (n5 (i:=3) u4.nd rfl (Or.inl rfl) a0R) (c5 (a4a G_lowest hr (by decide) (i:=4) u4.nd rfl (Or.inl rfl) (fun E2 pins=>(a6 (pv 0) (a6 (pv 1) b0))) (a7R rfl T.m_TooWide u4.nd (i:=5) rfl (fun a=>(d6 (n5 (i:=3) u4.nd rfl (Or.inl rfl) (D1 (a6 (b0A (pv 5) rfl) (a6 (k6 (u7 (K:=K)) rfl T.z_isinstance j8 (a6 (pv 5) (a6 (D8 (v:=.ref (c "CrateError")) rfl T.m_CrateError rfl) b0))) (a6 (k6 (u7 (K:=K)) rfl T.z_isinstance j8 (a6 (pv 5) (a6 (D8 (v:=.ref (c "TooMany")) rfl T.m_TooMany rfl) b0))) (a6 (k6 (u7 (K:=K)) rfl T.z_isinstance j8 (a6 (pv 5) (a6 (D8 (v:=.ref (c "BadTurn")) rfl T.m_BadTurn rfl) b0))) b0)))))))) a5p)) (d6 (k9 (a0T (G5 a8f (pv 3) a0R (n6 _)) (a0T (i8 G_l_whole hr (by decide) A3 (a6 (C3 (T7 (K:=K)) (pv 3) c9 (fun _ _=>rfl)) b0)) (a2D (G5 (a39 (K:=K) (cl:=c) (b0Z hr)) (pv 3) (D1 (a6 (pv 2) (a6 D2 (a6 D2 (a6 D2 b0))))) (n6 _))))))))),(g5 (B7 b9) (g5 (a4b (a8 b6 (a8 b6 c7)) (a52 (a2r T) (fun a=>(N7 (Q9 (a8 (b06 (a7j T) b6) (a8 (F6 (E3 (Q5 T) (Q6 T)) (a8 b6 (a8 b9 c7))) (a8 (F6 (E3 (Q5 T) (Q6 T)) (a8 b6 (a8 b9 c7))) (a8 (F6 (E3 (Q5 T) (Q6 T)) (a8 b6 (a8 b9 c7))) c7))))))) a75)) (w9 (a0_ (S5 a8E b9) (a0_ (x6 (a8 (S5 a1b b9) c7)) (S5 a5W (Q1 (Q9 (a8 b6 (a8 b9 (a8 b9 (a8 b9 c7))))))))))))⟩
def b1K:SF:=(b8 (u6 1 (eB A7 (i0 k7 (aC (eV 0) (aC (eC (.int 1)) aN))) (eB O7 (eC (.int 10)) (eC (.int 39))))) (b8 (u6 2 (eB t7 (eC (.int 1)) (eB A7 (i0 k7 (aC (eV 0) (aC (eC (.int 0)) aN))) (eC (.int 12))))) (b8 (u6 3 (eB A7 (eB R5 (i0 k7 (aC (eV 0) (aC (eC (.int 0)) aN))) (eC (.int 12))) (eV 2))) (b8 (y3 4 (eL aN)) (b8 (N1 F8 (aC (eV 2) aN) (g7 5) (b8 (a1f 6 k7 (aC (eV 0) (aC (eB t7 (eC (.int 2)) (eV 5)) aN))) (b8 (u6 7 (eB t7 (eC (.int 1)) (eB A7 (eB R5 (eV 6) (eC (.int 4))) (eB t7 (eB a0F (eC (.int 2)) (eV 1)) (eC (.int 1)))))) (b8 (u6 8 (eB t7 (eC (.int 1)) (eB A7 (i0 k7 (aC (eV 0) (aC (eB t7 (eC (.int 14)) (eV 5)) aN))) (eB t7 (eB a0F (eC (.int 2)) (eV 1)) (eC (.int 1)))))) (b8 (y0 (bZ (eB (B6 false) (eV 5) (eV 3))) (b8 (u6 7 (eB t7 (eB t7 (eV 1) (eC (.int 1))) (eB A7 (eB R5 (eV 6) (eC (.int 4))) (eB O7 (eC (.int 10)) (eC (.int 39)))))) (u6 8 (eB t7 (eV 7) (eB A7 (eB R5 (eV 6) (eC (.int 2))) (eC (.int 2)))))) x9) (a24 4 (eT (aC (eV 7) (aC (eV 8) (aC (eB (B6 false) (eB A7 (eV 6) (eC (.int 2))) (eC (.int 1))) aN)))))))))) (b8 (y0 (bZ (eB gLe (eV 2) (eC (.int 5)))) (b8 (u6 9 (eB O8 (zN (Z1 F8 1 [1,4] (aC (eV 2) aN) (g7 0) (bZ (eB gGt (i0 u9 (aC (O6 O8 2 (eV 0)) aN)) (eV 1))) (eV 0))) (eC (.int 0)))) (a1g l6 (aC (eV 1) (aC (zN (V9 D4 4)) (aC (eV 9) aN))))) x9) (b8 (N1 F8 (aC (eC (.int 4)) aN) (g7 10) (y0 (U8 (bZ (i0 i5 (aC (eV 10) (aC (eV 1) (aC (zN (V9 D4 4)) aN)))))) (m8 (eC (.bl false))) x9)) (m8 (eB gGt (y6 (g1 R6) (aC (p8 j7 (aC (zN (a3a 4 oN (oS (eC (.int 5))))) aN)) aN)) (eC (.int 0)))))))))))
def a77:List D→Option R1:=fD 11 1 b1K
theorem y9:FnScope ["_law_script","_law_width","_law_many","_law_wide","_law_wares","_law_k","_law_cell_here","_law_w","_law_h","_law_due","_law_which"] ["_law_script"] (a9 D5):=⟨rfl,rfl,rfl,by decide +kernel,rfl,by decide +kernel,by decide +kernel⟩
theorem a9H{f:Addr}{fd:FuncData}(F:Fun K "law" "law" D5 f fd)(T:Txt K mg c)(G_l_cell:Own P w K mg base 3 "_law_cell" ["_law_script","_law_k"] (g6 K c k7))(G_l_least:Own P w K mg base 5 "_law_least" ["_law_ware"] (g6 K c u9))(G_l_wide_refused:Own P w K mg base 9 "_law_wide_refused" ["_law_width","_law_wares","_law_due"] (g6 K c l6))(G_l_many_refused:Own P w K mg base 11 "_law_many_refused" ["_law_which","_law_width","_law_wares"] (g6 K c i5))(G_heights_of:Own P w K mg base 5 "heights_of" ["wares"] (g6 K c j7)):FnOk P w K mg base (m4 P w) 13 f fd ["_law_script"] (g6 K c a77) :=
 F.okD (k:=12) y9 fun cdv A outer s H E hr=>⟨_,(c5 (n5 (i:=1) y9.nd rfl (Or.inr rfl) (j9 K4 (i8 G_l_cell hr (by decide) A3 (a6 (pv 0) (a6 c9 b0))) (j9 a5c c9 c9))) (c5 (n5 (i:=2) y9.nd rfl (Or.inl rfl) (j9 B2 c9 (j9 K4 (i8 G_l_cell hr (by decide) A3 (a6 (pv 0) (a6 c9 b0))) c9))) (c5 (n5 (i:=3) y9.nd rfl (Or.inl rfl) (j9 K4 (j9 T5 (i8 G_l_cell hr (by decide) A3 (a6 (pv 0) (a6 c9 b0))) c9) (pv 2))) (c5 (n5 (i:=4) y9.nd rfl (Or.inr rfl) (D1 b0)) (c5 (X0 PassesOwn.leaving rfl (W8 rfl T.z_range (a6 (pv 2) b0)) (n8 (i:=5) y9.nd rfl (Or.inl rfl)) (c5 (n5 (i:=6) y9.nd rfl (Or.inl rfl) (i8 G_l_cell hr (by decide) A3 (a6 (pv 0) (a6 (j9 B2 c9 (pv 5)) b0)))) (c5 (n5 (i:=7) y9.nd rfl (Or.inl rfl) (j9 B2 c9 (j9 K4 (j9 T5 (pv 6) c9) (j9 B2 (j9 a3N c9 (pv 1)) c9)))) (c5 (n5 (i:=8) y9.nd rfl (Or.inl rfl) (j9 B2 c9 (j9 K4 (i8 G_l_cell hr (by decide) A3 (a6 (pv 0) (a6 (j9 B2 c9 (pv 5)) b0))) (j9 B2 (j9 a3N c9 (pv 1)) c9)))) (c5 (C1 (y4 T4 (pv 5) (pv 3) (n6 _)) (c5 (n5 (i:=7) y9.nd rfl (Or.inl rfl) (j9 B2 (j9 B2 (pv 1) c9) (j9 K4 (j9 T5 (pv 6) c9) (j9 a5c c9 c9)))) (d6 (n5 (i:=8) y9.nd rfl (Or.inl rfl) (j9 B2 (pv 7) (j9 K4 (j9 T5 (pv 6) c9) c9))))) v3) (d6 (G4 (a2O (K:=K) PySem.F.plainAttrs_list PySem.F.slot_list_append PySem.F.type_list_append a14 (pv 4) (a6 (R9 (a6 (pv 7) (a6 (pv 8) (a6 (G5 T4 (j9 K4 (pv 6) c9) c9 (n6 _)) b0)))) b0))))))))) (c5 (C1 (y4 b1o (pv 2) c9 (n6 _)) (c5 (n5 (i:=9) y9.nd rfl (Or.inl rfl) (C3 (T7 (K:=K)) (a3O (Nc:=["_law_k","_law_width","_law_wares"]) (k:=1) (js:=[1,4]) rfl ⟨by decide +kernel,rfl,by decide +kernel,(by change ∀y∈Scope.names _,y.2=NameKind.free→(a9 D5).names.lookup y.1=some .cell∨(a9 D5).names.lookup y.1=some .free;decide +kernel),by decide +kernel,rfl,rfl,by decide +kernel⟩ (W8 rfl T.z_range (a6 (pv 2) b0)) (fun _ _ _ _ _=>(n8 (i:=0) (by show List.Nodup [("_law_k" : Str),("_law_width" : Str),("_law_wares" : Str)];decide +kernel) rfl (Or.inl rfl))) (fun _ _ _ _ _=>(b0g (y4 a2u (i8 G_l_least hr (by decide) A3 (a6 (C3 (T7 (K:=K)) (pv 2) (pv 0) (fun _ _=>rfl)) b0)) (pv 1) (n6 _)))) (fun _ _ _ _ _=>(pv 0))) c9 (fun _ _=>rfl))) (d6 (k9 (i8 G_l_wide_refused hr (by decide) A3 (a6 (pv 1) (a6 (X4 (L7 (K:=K)) rfl T.z_list a1B (a6 (pv 4) b0)) (a6 (pv 9) b0))))))) v3) (c5 (X0 PassesOwn.leaving rfl (W8 rfl T.z_range (a6 c9 b0)) (n8 (i:=10) y9.nd rfl (Or.inl rfl)) (d6 (C1 (a2C (W5 (i8 G_l_many_refused hr (by decide) A3 (a6 (pv 10) (a6 (pv 1) (a6 (X4 (L7 (K:=K)) rfl T.z_list a1B (a6 (pv 4) b0)) b0)))))) (d6 (k9 D2)) v3))) (d6 (k9 (G5 a2u (k6 (D3 (K:=K)) rfl T.z_len a0Y (a6 (i8 G_heights_of hr (by decide) (XAcc.passes n9) (a6 (a6l (a6w (K:=K)) (pv 4) a8j (a8k c9)) b0)) b0)) c9 (n6 _))))))))))),(g5 (B7 (d7 L3 (x6 (a8 b6 (a8 b9 c7))) (d7 a5F b9 b9))) (g5 (B7 (d7 B5 b9 (d7 L3 (x6 (a8 b6 (a8 b9 c7))) b9))) (g5 (B7 (d7 L3 (d7 a1a (x6 (a8 b6 (a8 b9 c7))) b9) b6)) (g5 (N7 (Q9 c7)) (g5 (a27 (a8 b6 c7) (l3 (k:=11) (by decide)) (g5 (a6Q (a8 b6 (a8 (d7 B5 b9 b6) c7))) (g5 (B7 (d7 B5 b9 (d7 L3 (d7 a1a b6 b9) (d7 B5 (d7 a5E b9 b6) b9)))) (g5 (B7 (d7 B5 b9 (d7 L3 (x6 (a8 b6 (a8 (d7 B5 b9 b6) c7))) (d7 B5 (d7 a5E b9 b6) b9)))) (g5 (y8 (F5 (d7 U9 b6 b6)) (g5 (B7 (d7 B5 (d7 B5 b6 b9) (d7 L3 (d7 a1a b6 b9) (d7 a5F b9 b9)))) (B7 (d7 B5 b6 (d7 L3 (d7 a1a b6 b9) b9)))) C7) (b0M (a1J (a8 b6 (a8 b6 (a8 (d7 U9 (d7 L3 b6 b9) b9) c7)))))))))) (g5 (y8 (F5 (d7 b1z b6 b9)) (g5 (B7 (d7 a1b (Q1 (a5J (by decide) (a8 b6 c7) (l3 (k:=1) (by decide)) (F5 (d7 a2x (x6 (a8 (S5 a1b b6) c7)) b6)) b6)) b9)) (a6R (a8 b6 (a8 (Q1 (a21 a1L)) (a8 b6 c7))))) C7) (g5 (a27 (a8 b9 c7) (l3 (k:=11) (by decide)) (y8 (a1K (Z9 (x6 (a8 b6 (a8 b6 (a8 (Q1 (a21 a1L)) c7)))))) (w9 b9) C7)) (w9 (d7 a2x (F6 a1c.cb (a8 (E1 (a8 (Q1 (b0W b1E (b1F b9))) c7)) c7)) b9)))))))))⟩
end Law
namespace Law
open PySem L2 PyProof.Rows
variable {P:Program}{w:World}{K:PySem.W.Frag}{mg:Str→Option Value}{base:Heap}{c:Str→Addr}
local macro_rules|`(tactic|walk_at $s:str)=>do
 let t←`(tactic|simp(decide:=true)only[*,b1A,a8O,a8P,a8Q,a8R,a81,a8S,a8T,a8U,a8V,a6W,a8W,a8X,b0R,a6X,a6Y,a5M,a5N,a6Z,a4L,a4M,a5O,a5P,a5Q,a60,a4N,a4O,a8Y,a8Z,a82,a80,a83,a61,S7,a84,a85,a86,a88,a87,a37,a0H,E4,z0,a9v,a9w,a9x,a9y,a9A,a9z,a2f,a5T,a1n,i4,P0,Z1,a1j,Z0,a64,b01,b02,a65,b03,b04,a1S,a9q,a9r,a9s,a9t,noL,noLs,a3a,oN,oS,a2z,a1i,unhide,a5R,a9e,a9b,a9c,a9d,a89,a8_,a9a,a4G,O9,P6,j1,B0,c6,w6,M4,F9,J9,Nat.max_self,Nat.zero_max,Nat.max_zero,decide_true,Bool.or_true,Bool.true_or,Bool.or_false,List.isEmpty_nil,a1o,List.any_cons,List.any_nil,a0J,g9,List.all_cons,List.all_nil,Bool.and_self,Bool.and_true,Bool.true_and,beq_self_eq_true,a9f,b0S,b0T,b0U,b0V,a9h,a9i,a38,y0,u6,y3,a1f,m8,a4H,J7,a1g,a0b,x9,a4J,a1h,a0f,a0M,XN.nm,XN.d,a9o,a9p,S6,a24,a7g,a9D,a9E,a1O,N1,a5Z,a7a,a7b,a67,a68,a69,a6_,a66,a9u,a7d,a50,eC,eV,eB,O6,eT,eL,zN,aN,aC,p8,i0,a6P,Y7,nIf,eU,y6,eCV,V9,g1,R6,D4,bZ,U8,a6O,V3,a7c,Y9,V2,Y6,b0B,b0C,a20,b0D,b0E,U6,U7,look,A8,O8,a8D,a22,a1l,a2B,tyN,seqL,a4R,a7Z,a70,List.map_cons,List.map_nil,List.length_cons,List.length_nil,List.cons_append,List.nil_append,List.replicate_succ,List.replicate_zero,List.getElem?_cons_zero,List.getElem?_cons_succ,List.set_cons_zero,List.set_cons_succ,Nat.reduceAdd,Nat.reduceSub,if_true,if_false,Bool.not_true,Bool.not_false,Bool.not_not,Nat.zero_add,Bool.false_eq_true,decide_eq_true_eq,Bool.not_eq_true',decide_eq_false_iff_not,Option.map_some,Option.map_none,ite_self,A5,r8,a0h])
 return if s.getString=="eh" then t.raw else t.raw.modifyArg 4 (·.modifyArg 1 fun l=>l.setArg 0 l[2])
theorem O0{ns:List Int}{k:Int}(hk:0≤k):k7 [.scr ns,.int k]=some (.ret (.int (l7 ns k))):=by
 rw[← a9k hk]
 unfold k7 a3i
 walk_at "ev"
 split
 ·cases atI ns k<;>rfl
 ·rfl
abbrev Wr:=Int×Int×Bool
def wD(q:Wr):D:=.tup [.int q.1,.int q.2.1,.bl q.2.2]
theorem a3j{n:Nat}(h:n≤1000):F8 [.int (n:Int)]=some (0,n):=by
 unfold F8
 show(if _ then _ else _)=_
 rw[if_pos (by omega)]
 simp
theorem a4d{rg:List D→Option (Int×Nat)}{f:AF}{b:GF}{body:SF}{e e1:DE}{ds:List D}{lo:Int}{n:Nat}(h:f e=some (.ok ds e1))(hr:rg ds=some (lo,n)):N1 rg f b body e=l4 b body (A9 lo n) e1:=by
 unfold N1;rw[h,a20,hr]
theorem a7n(x:Int):C0 [.int x]=some (.ret (.bl true)):=by
 unfold C0 a2j
 walk_at "ev"
 rfl
theorem a7o(m:Nat):A9 0 m=(List.range m).map fun(k:Nat)=>D.int (k:Int):=by
 unfold A9
 refine List.map_congr_left fun i _=>?_
 rw[Int.zero_add]
def two(q:Wr):Bool:=q.2.2 && decide (¬q.1=q.2.1)
theorem a9I(w h:Int)(t:Bool):i3 [.tup [.int w,.int h,.bl t],.bl false]=some (.ret (.tup [.int w,.int h])):=rfl
theorem a9J(w h:Int):i3 [.tup [.int w,.int h,.bl true],.bl true]=some (.ret (.tup [.int h,.int w])):=rfl
theorem a4e(q:Wr):j6 [wD q]=some (.own (if two q=true then[.bl false,.bl true]else[.bl false])):=by
 obtain⟨w,h,t⟩:=q
 unfold j6 a2i wD two
 cases t
 ·rfl
 ·by_cases z:w=h
  ·subst z
   walk_at "ev"
   try rfl
  ·walk_at "eh"
   try rfl
theorem b0_(q:Wr):J3 [wD q]=some (.ret (.bl (two q))):=by
 obtain⟨w,h,t⟩:=q
 unfold J3 a4c wD two
 cases t
 ·rfl
 ·by_cases z:w=h
  ·subst z
   walk_at "ev"
   try rfl
  ·walk_at "eh"
   try rfl
theorem a3k(A:List D)(h:¬(A.length:Int) > 5):d9 [.lst A,.int 5]=some (.ret .non):=by
 unfold d9 M5
 walk_at "eh"
def G3(S:List Int)(q:Wr):List Int:=S++S.map (fun x=>x+q.2.1)++(if two q=true then S.map (fun x=>x+q.1)else[])
def a0Q:List Wr→List Int
 | []=>[0]
 | q::L=>G3 (a0Q L) q
def run(S:List Int)(L:List Wr):List Int:=L.foldl (fun S q=>r6 (G3 S q)) S
theorem C9{S:List Int}{q:Wr}{x:Int}:x∈G3 S q↔∃s∈S,x=s∨x=s+q.2.1∨(two q=true∧x=s+q.1):=by
 unfold G3
 rw[List.mem_append,List.mem_append,List.mem_map]
 constructor
 ·rintro((m | ⟨s,m,e⟩) | m)
  ·exact⟨x,m,.inl rfl⟩
  ·exact⟨s,m,.inr (.inl e.symm)⟩
  ·split at m
   ·rename_i z
    obtain⟨s,m,e⟩:=List.mem_map.mp m
    exact⟨s,m,.inr (.inr ⟨z,e.symm⟩)⟩
   ·cases m
 ·rintro⟨s,m,e | e | ⟨z,e⟩⟩
  ·exact .inl (.inl (by rw[e];exact m))
  ·exact .inl (.inr ⟨s,m,e.symm⟩)
  ·refine .inr ?_
   rw[if_pos z]
   exact List.mem_map.mpr ⟨s,m,e.symm⟩
theorem a4f:∀(L:List Wr) (S:List Int) (x:Int),x∈run S L↔∃s∈S,∃d∈a0Q L,x=s+d
 | [],S,x=>by
  show x∈S↔_
  constructor
  ·intro m
   exact⟨x,m,0,List.mem_cons_self,(Int.add_zero x).symm⟩
  ·rintro⟨s,m,d,md,e⟩
   have:d=0:=List.mem_singleton.mp md
   rw[e,this,Int.add_zero]
   exact m
 | q::L,S,x=>by
  show x∈run (r6 (G3 S q)) L↔_
  rw[a4f L]
  constructor
  ·rintro⟨s,m,d,md,e⟩
   obtain⟨s0,m0,h⟩:=C9.mp (z7.mp m)
   rcases h with h | h | ⟨z,h⟩
   ·exact⟨s0,m0,d,C9.mpr ⟨d,md,.inl rfl⟩,by omega⟩
   ·exact⟨s0,m0,d+q.2.1,C9.mpr ⟨d,md,.inr (.inl rfl)⟩,by omega⟩
   ·exact⟨s0,m0,d+q.1,C9.mpr ⟨d,md,.inr (.inr ⟨z,rfl⟩)⟩,by omega⟩
  ·rintro⟨s,m,d,md,e⟩
   obtain⟨d0,m0,h⟩:=C9.mp (show d∈G3 (a0Q L) q from md)
   rcases h with h | h | ⟨z,h⟩
   ·exact⟨s,z7.mpr (C9.mpr ⟨s,m,.inl rfl⟩),d0,m0,by omega⟩
   ·exact⟨s+q.2.1,z7.mpr (C9.mpr ⟨s,m,.inr (.inl rfl)⟩),d0,m0,by omega⟩
   ·exact⟨s+q.1,z7.mpr (C9.mpr ⟨s,m,.inr (.inr ⟨z,rfl⟩)⟩),d0,m0,by omega⟩
theorem a6b:∀(L:List Wr) (S:List Int),S.Pairwise (· < ·)→(run S L).Pairwise (· < ·)
 | [],S,h=>h
 | q::L,S,_=>a6b L _ (V7 _)
theorem b1a(L:List Wr):run [0] L=r6 (a0Q L):=by
 refine a3g (a6b L [0] (List.pairwise_singleton _ _)) (V7 _) fun x=>?_
 rw[a4f,z7]
 constructor
 ·rintro⟨s,m,d,md,e⟩
  have:s=0:=List.mem_singleton.mp m
  rw[e,this,Int.zero_add]
  exact md
 ·intro m
  exact⟨0,List.mem_cons_self,x,m,(Int.zero_add x).symm⟩
theorem a4g(S:List Int)(q:Wr):(G3 S q).length≤3*S.length:=by
 unfold G3
 simp only[List.length_append,List.length_map]
 split
 ·rw[List.length_map];omega
 ·rw[List.length_nil];omega
theorem a4h:∀(L:List Wr) (S:List Int),(run S L).length≤3 ^ L.length*S.length
 | [],S=>by show S.length≤1*S.length;omega
 | q::L,S=>by
  have h1:=a4h L (r6 (G3 S q))
  have h2:=a2h (G3 S q)
  have h3:=a4g S q
  have h4:3 ^ L.length*(r6 (G3 S q)).length≤3 ^ L.length*(3*S.length):=Nat.mul_le_mul_left _ (by omega)
  show(run (r6 (G3 S q)) L).length≤3 ^ (L.length+1)*S.length
  rw[Nat.pow_succ,Nat.mul_assoc]
  omega
theorem b1L{n:Nat}(h:n≤5):3 ^ n≤243:=by
 have:3 ^ n≤3 ^ 5:=Nat.pow_le_pow_right (by omega) h
 exact this
abbrev coH(i c:Nat):NF:=(Z0 i 1 [c] (g7 0) V3 (eB t7 (eV 0) (eV 1)))
theorem b1b(s0 s2 s3 s4:Sl)(S:List Int)(hl:S.length≤1000)(h:Int):coH 1 5 [s0,.ow (S.map D.int),s2,s3,s4,.fz (.int h)]=some (.ok ((S.map fun x=>x+h).map D.int) [s0,.ow (S.map D.int),s2,s3,s4,.fz (.int h)]):=by
 show j0 (g7 0) V3 (eB t7 (eV 0) (eV 1)) [.no,.fz (.int h)] _ (S.map D.int) []=_
 rw[V6 D.int (fun x=>D.int (x+h)) (fun _=>true) S [] (by show 0+_≤2 ^ 24;omega) (fun x _=>⟨[.fz (.int x),.fz (.int h)],[.fz (.int x),.fz (.int h)],rfl,rfl,fun _=>⟨[.fz (.int x),.fz (.int h)],rfl⟩⟩)]
 rw[List.filter_eq_self.mpr (fun _ _=>rfl),List.map_map]
 rfl
abbrev inB(SD:List D→Option R1)(CO:NF):SF:=(b8 (u6 5 (eB A8 (p8 SD (aC (eV 2) (aC (eV 4) aN))) (eC (.int 1)))) (a0J 3 CO))
theorem b1c(SD:List D→Option R1)(CO:NF)(s0:D)(S G B:List D)(q l:D)(x h:Int)(o5:Option D)(h1:SD [q,l]=some (.ret (.tup [.int x,.int h])))(h2:CO [.fz s0,.ow S,.fz q,.ow G,.fz l,.fz (.int h)]=some (.ok B [.fz s0,.ow S,.fz q,.ow G,.fz l,.fz (.int h)]))(hl:G.length+B.length≤sizeLine):inB SD CO [.fz s0,.ow S,.fz q,.ow G,.fz l,un o5]=some (.nx [.fz s0,.ow S,.fz q,.ow (G++B),.fz l,.fz (.int h)]):=by
 unfold inB
 walk_at "eh"
theorem b1M(s0:D)(S:List Int)(hS:S.length≤1000)(q:Wr)(o4 o5:Option D):∃p4 p5:Option D,a1O (i0 j6 (aC (eV 2) aN)) (g7 4) (inB i3 (coH 1 5)) [.fz s0,.ow (S.map D.int),.fz (wD q),.ow (S.map D.int),un o4,un o5]=some (.nx [.fz s0,.ow (S.map D.int),.fz (wD q),.ow ((G3 S q).map D.int),un p4,un p5]):=by
 have e0:(i0 j6 (aC (eV 2) aN)) [.fz s0,.ow (S.map D.int),.fz (wD q),.ow (S.map D.int),un o4,un o5]=some (.ok (.lst (if two q=true then[.bl false,.bl true]else[.bl false])) [.fz s0,.ow (S.map D.int),.fz (wD q),.ow (S.map D.int),un o4,un o5]):=by
  show V0 (j6 [wD q]) _=_
  rw[a4e]
  rfl
 obtain⟨w,h,t⟩:=q
 have c1:∀s3 s4 h',coH 1 5 [.fz s0,.ow (S.map D.int),.fz (wD (w,h,t)),s3,s4,.fz (.int h')]=_:=fun s3 s4 h'=>b1b (.fz s0) (.fz (wD (w,h,t))) s3 s4 S hS h'
 have b1:=b1c i3 (coH 1 5) s0 (S.map D.int) (S.map D.int) _ (wD (w,h,t)) (.bl false) w h o5 (a9I w h t) (c1 _ _ _) (by rw[List.length_map,List.length_map,List.length_map];show _≤2 ^ 24;omega)
 have n4:∀(l:D) (G:Sl) (o4:Option D) (s5:Sl),g7 4 l [.fz s0,.ow (S.map D.int),.fz (wD (w,h,t)),G,un o4,s5]=some [.fz s0,.ow (S.map D.int),.fz (wD (w,h,t)),G,.fz l,s5]:=fun l G o4 s5=>by cases o4<;>rfl
 unfold a1O
 rw[e0,a20]
 by_cases z:two (w,h,t)=true
 ·have zt:t=true:=by
   unfold two at z
   rw[Bool.and_eq_true]at z
   exact z.1
  subst zt
  rw[if_pos z]
  have b2:=b1c i3 (coH 1 5) s0 (S.map D.int) (S.map D.int++(S.map fun x=>x+h).map D.int) _ (wD (w,h,true)) (.bl true) h w (some (.int h)) (a9J w h) (c1 _ _ _) (by rw[List.length_append,List.length_map,List.length_map,List.length_map,List.length_map,List.length_map];show _≤2 ^ 24;omega)
  refine⟨some (.bl true),some (.int w),?_⟩
  show l4 (g7 4) (inB i3 (coH 1 5)) [.bl false,.bl true] _=_
  rw[E4,n4 (.bl false) _ o4,z0,b1,S7,E4]
  refine(congrArg (fun r=>P3 r (l4 (g7 4) (inB i3 (coH 1 5)) [])) b2).trans ?_
  rw[S7,a0H]
  unfold G3
  rw[if_pos z,List.map_append,List.map_append]
  rfl
 ·rw[if_neg z]
  refine⟨some (.bl false),some (.int h),?_⟩
  show l4 (g7 4) (inB i3 (coH 1 5)) [.bl false] _=_
  rw[E4,n4 (.bl false) _ o4,z0,b1,S7,a0H]
  unfold G3
  rw[if_neg z,List.append_nil,List.map_append]
  rfl
theorem b2h(f:AF)(e e1:DE)(ks:List Int)(h:f e=some (.ok [.lst (ks.map D.int)] e1))(hl:ks.length<1000):N8 f e=some (.ok ((r6 ks).map D.int) e1):=by
 unfold N8
 rw[h,Y6]
 show(match J8 (ks.map D.int)with
  | some ns=>if ns.length<1000 then some (L2.R.ok ((r6 ns).map D.int) e1)else none
  | none=>none)=_
 rw[L2.ints_map]
 show(if ks.length<1000 then _ else _)=_
 rw[if_pos hl]
abbrev heB(LP:SF)(NS:NF):SF:=(b8 (y3 3 (V9 D4 1)) (b8 LP (y3 1 NS)))
theorem b2j(LP:SF)(NS:NF)(s0 q:D)(S G R:List D)(o3 o4 o5 p4 p5:Option D)(h1:LP [.fz s0,.ow S,.fz q,.ow S,un o4,un o5]=some (.nx [.fz s0,.ow S,.fz q,.ow G,un p4,un p5]))(h2:NS [.fz s0,.ow S,.fz q,.ow G,un p4,un p5]=some (.ok R [.fz s0,.ow S,.fz q,.fz (.lst G),un p4,un p5])):heB LP NS [.fz s0,.ow S,.fz q,un o3,un o4,un o5]=some (.nx [.fz s0,.ow R,.fz q,.fz (.lst G),un p4,un p5]):=by
 unfold heB
 walk_at "eh"
theorem a6c(CC:List D→Option R1)(LP:SF)(A S:List D)(s2 s3 s4 s5:Sl)(h0:CC [.lst A,.int 5]=some (.ret .non))(h:LP [.fz (.lst A),.ow [.int 0],.no,.no,.no,.no]=some (.nx [.fz (.lst A),.ow S,s2,s3,s4,s5])):fD 6 1 (b8 (S6 (p8 CC (aC (eV 0) (aC (eC (.int 5)) aN)))) (b8 (y3 1 (eL (aC (eC (.int 0)) aN))) (b8 LP (a0b 1)))) [.lst A]=some (.own S):=by
 walk_at "eh"
theorem a9K(S:List Int)(L:List Wr)(q:Wr):run S (L++[q])=r6 (G3 (run S L) q):=by
 unfold run
 rw[List.foldl_append]
 rfl
theorem a43(L:List Wr)(hL:L.length≤5):j7 [.lst (L.map wD)]=some (.own ((r6 (a0Q L)).map D.int)):=by
 obtain⟨e',f,o2,o3,o4,o5,rfl⟩:=a1T (b:=g7 2) (body:=heB (a1O (i0 j6 (aC (eV 2) aN)) (g7 4) (inB i3 (coH 1 5))) (N8 (aC (eV 3) aN))) wD (fun pre e=>∃o2 o3 o4 o5:Option D,e=[.fz (.lst (L.map wD)),.ow ((run [0] pre).map D.int),un o2,un o3,un o4,un o5]) L [.fz (.lst (L.map wD)),.ow [.int 0],.no,.no,.no,.no] ⟨none,none,none,none,rfl⟩ (by
  rintro pre q post e hq ⟨o2,o3,o4,o5,rfl⟩
  have hp:pre.length<L.length:=by have:=congrArg List.length hq;rw[List.length_append,List.length_cons]at this;omega
  have hr:=a4h pre [0]
  have h3:=b1L (n:=pre.length) (by omega)
  rw[List.length_singleton,Nat.mul_one]at hr
  have hb:g7 2 (wD q) [.fz (.lst (L.map wD)),.ow ((run [0] pre).map D.int),un o2,un o3,un o4,un o5]=some [.fz (.lst (L.map wD)),.ow ((run [0] pre).map D.int),.fz (wD q),un o3,un o4,un o5]:=by cases o2<;>rfl
  obtain⟨p4,p5,i1⟩:=b1M (.lst (L.map wD)) (run [0] pre) (by omega) q o4 o5
  have hl:=a4g (run [0] pre) q
  rw[hb,z0]
  refine⟨_,(congrArg G9 (b2j _ (N8 (aC (eV 3) aN)) _ _ _ _ _ o3 o4 o5 p4 p5 i1 (b2h _ _ _ (G3 (run [0] pre) q) rfl (by omega)))).trans rfl,some (wD q),some (.lst ((G3 (run [0] pre) q).map D.int)),p4,p5,?_⟩
  rw[a9K]
  rfl)
 rw[b1a]at f
 exact a6c d9 _ _ _ _ _ _ _ (a3k _ (by rw[List.length_map];omega)) f
def n0(q:Wr):Int:=if two q=true then(if q.2.1<q.1 then q.2.1 else q.1)else q.1
theorem a9L(TW:List D→Option R1)(w h:Int)(t:Bool)(b:Bool)(e:TW [.tup [.int w,.int h,.bl t]]=some (.ret (.bl b))):fD 1 1 (b8 (y0 (bZ (i0 TW (aC (eV 0) aN))) (m8 (y6 a1o (aC (eB A8 (eV 0) (eC (.int 0))) (aC (eB A8 (eV 0) (eC (.int 1))) aN)))) x9) (m8 (eB A8 (eV 0) (eC (.int 0))))) [.tup [.int w,.int h,.bl t]]=some (.ret (.int (if b=true then(if h<w then h else w)else w))):=by
 cases b
 ·walk_at "eh"
 ·walk_at "eh"
theorem a7p(q:Wr):u9 [wD q]=some (.ret (.int (n0 q))):=a9L J3 q.1 q.2.1 q.2.2 (two q) (b0_ q)
theorem N4(A:List D)(h:(A.length:Int) > 5):d9 [.lst A,.int 5]=some (.ex (.p "TooMany")):=by
 have ej:(eJ (jC (eC (.str "there are at most ")) (jC (a4T (eV 1)) (jC (eC (.str " wares here")) jN)))) [.fz (.lst A),.fz (.int 5)]=some (.ok (.str "there are at most 5 wares here") [.fz (.lst A),.fz (.int 5)]):=rfl
 unfold d9 M5
 generalize (eJ (jC (eC (.str "there are at most ")) (jC (a4T (eV 1)) (jC (eC (.str " wares here")) jN))))=J at *
 walk_at "eh"
abbrev cwC:NF:=(a1j 1 [3] (i0 j6 (aC (eV 3) aN)) (g7 0) V3 (eB A8 (p8 i3 (aC (eV 1) (aC (eV 0) aN))) (eC (.int 0))))
theorem b1e(s0 s1 s2:Sl)(q:Wr):cwC [s0,s1,s2,.fz (wD q)]=some (.ok (if two q=true then[.int q.1,.int q.2.1]else[.int q.1]) [s0,s1,s2,.fz (wD q)]):=by
 have e0:(i0 j6 (aC (eV 3) aN)) [s0,s1,s2,.fz (wD q)]=some (.ok (.lst (if two q=true then[.bl false,.bl true]else[.bl false])) [s0,s1,s2,.fz (wD q)]):=by
  show V0 (j6 [wD q]) _=_
  rw[a4e]
  rfl
 unfold cwC a1j
 rw[e0]
 obtain⟨w,h,t⟩:=q
 by_cases z:two (w,h,t)=true
 ·have zt:t=true:=by
   unfold two at z
   rw[Bool.and_eq_true]at z
   exact z.1
  subst zt
  rw[if_pos z,if_pos z]
  rfl
 ·rw[if_neg z,if_neg z]
  rfl
theorem cwM(q:Wr):a0e (.lst (if two q=true then[.int q.1,.int q.2.1]else[.int q.1]))=some (.int (n0 q)):=by
 unfold n0
 by_cases z:two q=true
 ·rw[if_pos z,if_pos z]
  show some (D.int (min q.1 q.2.1))=_
  congr 2
  split<;>omega
 ·rw[if_neg z,if_neg z]
  rfl
abbrev cwB(CO:NF)(GM:D→Option D):SF:=(y0 (bZ (eB gGt (y6 (g1 GM) (aC (zN CO) aN)) (eV 0))) (a0f "TooWide" "at" (aC (eV 2) aN)) x9)
theorem b2k(CO:NF)(GM:D→Option D)(W k m:Int)(A q:D)(M:List D)(hc:CO [.fz (.int W),.fz A,.fz (.int k),.fz q]=some (.ok M [.fz (.int W),.fz A,.fz (.int k),.fz q]))(hg:GM (.lst M)=some (.int m)):cwB CO GM [.fz (.int W),.fz A,.fz (.int k),.fz q]=if m > W then some (.ex (.v "TooWide" "at" (.int k)))else some (.nx [.fz (.int W),.fz A,.fz (.int k),.fz q]):=by
 unfold cwB
 by_cases z:m > W
 ·walk_at "eh"
 ·walk_at "eh"
theorem a6d(W:Int)(A:D):∀(L:List Wr) (j:Nat) (o2 o3:Option D),(∃q∈L,n0 q > W)→l4 (Y9 [g7 2,g7 3]) (cwB cwC a0e) (W0 j (L.map wD)) [.fz (.int W),.fz A,un o2,un o3]=some (.ex (.v "TooWide" "at" (.int ((j+L.findIdx (fun q=>decide (n0 q > W)):Nat):Int))))
 | [],_,_,_,h=>by obtain⟨q,m,_⟩:=h;cases m
 | q::L,j,o2,o3,h=>by
  have hb:Y9 [g7 2,g7 3] (.tup [.int (j:Int),wD q]) [.fz (.int W),.fz A,un o2,un o3]=some [.fz (.int W),.fz A,.fz (.int (j:Int)),.fz (wD q)]:=by cases o2<;>cases o3<;>rfl
  rw[List.map_cons]
  show l4 _ _ (.tup [.int (j:Int),wD q]::W0 (j+1) (L.map wD)) _=_
  rw[E4,hb,z0,b2k cwC a0e W (j:Int) (n0 q) A (wD q) _ (b1e _ _ _ q) (cwM q)]
  by_cases z:n0 q > W
  ·rw[if_pos z,a37,List.findIdx_cons,decide_eq_true z]
   rfl
  ·rw[if_neg z,S7]
   have ih:=a6d W A L (j+1) (some (.int (j:Int))) (some (wD q)) (by
    obtain⟨p,m,hp⟩:=h
    rcases List.mem_cons.mp m with e | m
    ·exact absurd (e▸hp) z
    ·exact⟨p,m,hp⟩)
   refine Eq.trans ih ?_
   rw[List.findIdx_cons,decide_eq_false z]
   show some (RS.ex (.v "TooWide" "at" (.int ((j+1+L.findIdx (fun q=>decide (n0 q > W)):Nat):Int))))=some (RS.ex (.v "TooWide" "at" (.int ((j+(L.findIdx (fun q=>decide (n0 q > W))+1):Nat):Int))))
   rw[show j+1+L.findIdx (fun q=>decide (n0 q > W))=j+(L.findIdx (fun q=>decide (n0 q > W))+1) by omega]
theorem a7q(W:Int)(L:List Wr)(h:∃q∈L,n0 q > W):t9 [.int W,.lst (L.map wD)]=some (.ex (.v "TooWide" "at" (.int ((L.findIdx (fun q=>decide (n0 q > W)):Nat):Int)))):=by
 have:=a6d W (.lst (L.map wD)) L 0 none none h
 rw[Nat.zero_add]at this
 have e:W2 [.fz (.int W),.fz (.lst (L.map wD)),.no,.no]=some (.ex (.v "TooWide" "at" (.int ((L.findIdx (fun q=>decide (n0 q > W)):Nat):Int)))):=this
 exact congrArg R7 e
theorem a7r(CC CW:List D→Option R1)(W:Int)(A:List D)(x:XN)(h1:CC [.lst A,.int 5]=some (.ret .non))(h2:CW [.int W,.lst A]=some (.ex x)):fD 3 2 (b8 (S6 (p8 CC (aC (eV 1) (aC (eC (.int 5)) aN)))) (b8 (S6 (p8 CW (aC (eV 0) (aC (eV 1) aN)))) (b8 (y0 (bZ (eB (B6 false) (eCV R6 1) (eC (.int 0)))) (m8 (eT (aC (eC (.int 0)) (aC (zN (eL aN)) (aC (eC .non) aN))))) x9) (b8 N2 N2)))) [.int W,.lst A]=some (.ex x):=by
 walk_at "eh"
theorem a7s(CC CW:List D→Option R1)(W:Int)(A:List D)(x:XN)(h1:CC [.lst A,.int 5]=some (.ex x)):fD 3 2 (b8 (S6 (p8 CC (aC (eV 1) (aC (eC (.int 5)) aN)))) (b8 (S6 (p8 CW (aC (eV 0) (aC (eV 1) aN)))) (b8 (y0 (bZ (eB (B6 false) (eCV R6 1) (eC (.int 0)))) (m8 (eT (aC (eC (.int 0)) (aC (zN (eL aN)) (aC (eC .non) aN))))) x9) (b8 N2 N2)))) [.int W,.lst A]=some (.ex x):=by
 walk_at "eh"
theorem a79(CC:List D→Option R1)(b:D)(A:List D)(x:XN)(h1:CC [.lst A,.int 5]=some (.ex x)):fD 2 2 (b8 (S6 (p8 CC (aC (eV 1) (aC (eC (.int 5)) aN)))) N2) [b,.lst A]=some (.ex x):=by
 walk_at "eh"
theorem b1g(FI:List D→Option R1)(b:D)(A:List D)(x:XN)(h1:FI [b,.lst A]=some (.ex x)):fD 2 2 (m8 (eB (B6 false) (eB A8 (p8 FI (aC (eV 0) (aC (eV 1) aN))) (eC (.int 0))) (eC (.str "places")))) [b,.lst A]=some (.ex x):=by
 walk_at "eh"
theorem b1N(CC:List D→Option R1)(LP:SF)(A:List D)(x:XN)(h0:CC [.lst A,.int 5]=some (.ex x)):fD 6 1 (b8 (S6 (p8 CC (aC (eV 0) (aC (eC (.int 5)) aN)))) (b8 (y3 1 (eL (aC (eC (.int 0)) aN))) (b8 LP (a0b 1)))) [.lst A]=some (.ex x):=by
 walk_at "eh"
theorem a9M(FI FS HO LO:List D→Option R1)(k W:Int)(A:List D)(x:XN)(hk:k=0∨k=1∨k=2∨k=3)(h1:FI [.tup [.int W,.int W],.lst A]=some (.ex x))(h2:FS [.tup [.int W,.int W],.lst A]=some (.ex x))(h3:HO [.lst A]=some (.ex x))(h4:LO [.int W,.lst A]=some (.ex x)):fD 3 3 (b8 (y0 (bZ (eB (B6 false) (eV 0) (eC (.int 0)))) (J7 FI (aC (eT (aC (eV 1) (aC (eV 1) aN))) (aC (eV 2) aN))) x9) (b8 (y0 (bZ (eB (B6 false) (eV 0) (eC (.int 1)))) (J7 FS (aC (eT (aC (eV 1) (aC (eV 1) aN))) (aC (eV 2) aN))) x9) (b8 (y0 (bZ (eB (B6 false) (eV 0) (eC (.int 2)))) (J7 HO (aC (eV 2) aN)) x9) (J7 LO (aC (eV 1) (aC (eV 2) aN)))))) [.int k,.int W,.lst A]=some (.ex x):=by
 rcases hk with rfl | rfl | rfl | rfl<;>walk_at "eh"
theorem a7t(k W:Int)(A:List D)(hk:k=0∨k=1∨k=2∨k=3)(h:(A.length:Int) > 5):E9 [.int k,.int W,.lst A]=some (.ex (.p "TooMany")) :=
 a9M Q7 Z5 j7 B9 k W A _ hk (a79 d9 _ A _ (N4 A h)) (b1g Q7 _ A _ (a79 d9 _ A _ (N4 A h))) (b1N d9 _ A _ (N4 A h)) (a7s d9 t9 W A _ (N4 A h))
theorem b1h(AS:List D→Option R1)(k W:Int)(A:List D)(h:AS [.int k,.int W,.lst A]=some (.ex (.p "TooMany"))):fD 6 3 (b8 (u6 3 (eC .non)) (b8 (Q4 4 AS (aC (eV 0) (aC (eV 1) (aC (eV 2) aN))) (hAs 5 A5 (b8 (y3 3 (eL (aC (y6 (p9 x1 x2) (aC (eV 5) (aC (eC (.cls "TooMany")) aN))) (aC (y6 (p9 x1 x2) (aC (eV 5) (aC (eC (.ty "ValueError")) aN))) (aC (y6 (p9 x1 x2) (aC (eV 5) (aC (eC (.cls "TooWide")) aN))) aN))))) (a0J 3 (eL (aC (y6 (p9 x1 x2) (aC (eV 5) (aC (eC (.cls "BadTurn")) aN))) (aC (y6 (p9 x1 x2) (aC (eV 5) (aC (eC (.cls "NoWeighing")) aN))) aN))))) hN)) (m8 (O6 (P6 false) 3 (zN (eL (aC (eC (.bl true)) (aC (eC (.bl true)) (aC (eC (.bl false)) (aC (eC (.bl false)) (aC (eC (.bl false)) aN))))))))))) [.int k,.int W,.lst A]=some (.ret (.bl true)):=by
 unfold Q4
 walk_at "eh"
 rfl
theorem b1i(LO WH:List D→Option R1)(W k:Int)(A:List D)(h:LO [.int W,.lst A]=some (.ex (.v "TooWide" "at" (.int k))))(hw:WH [.int k]=some (.ret (.bl true))):fD 6 3 (b8 (u6 3 (eC .non)) (b8 (Q4 4 LO (aC (eV 0) (aC (eV 1) aN)) (hAs 5 r8 (y3 3 (eL (aC (eU (a0M a0h "at") (eV 5)) (aC (y6 (p9 x1 x2) (aC (eV 5) (aC (eC (.cls "CrateError")) aN))) (aC (y6 (p9 x1 x2) (aC (eV 5) (aC (eC (.cls "TooMany")) aN))) (aC (y6 (p9 x1 x2) (aC (eV 5) (aC (eC (.cls "BadTurn")) aN))) aN)))))) hN)) (m8 (Y7 (O6 (a22 true) 3 (eC .non)) (Y7 (i0 WH (aC (O6 O8 3 (eC (.int 0))) aN)) (O6 (P6 false) 3 (zN (eL (aC (eV 2) (aC (eC (.bl true)) (aC (eC (.bl false)) (aC (eC (.bl false)) aN)))))))))))) [.int W,.lst A,.int k]=some (.ret (.bl true)):=by
 unfold Q4
 walk_at "eh"
 have hh:(hAs 5 r8 (y3 3 (eL (aC (eU (a0M a0h "at") (eV 5)) (aC (y6 (p9 x1 x2) (aC (eV 5) (aC (eC (.cls "CrateError")) aN))) (aC (y6 (p9 x1 x2) (aC (eV 5) (aC (eC (.cls "TooMany")) aN))) (aC (y6 (p9 x1 x2) (aC (eV 5) (aC (eC (.cls "BadTurn")) aN))) aN)))))) hN) (.v "TooWide" "at" (.int k)) [.fz (.int W),.fz (.lst A),.fz (.int k),.fz .non,.no,.no]=some (.nx [.fz (.int W),.fz (.lst A),.fz (.int k),.ow [.int k,.bl true,.bl false,.bl false],.no,.no]):=rfl
 have hq:P6 false (.lst [.int k,.bl true,.bl false,.bl false]) (.lst [.int k,.bl true,.bl false,.bl false])=some (.bl true):=a5X false rfl (by simp[M4,F9]) rfl
 rw[hh]
 generalize P6 false=GE at *
 walk_at "eh"
def t6(ns:List Int)(W wd B:Int)(k:Nat):Wr:=if(k:Int)=wd then(W+1+l7 ns (2+(k:Int))/4%B,W+1+l7 ns (2+(k:Int))/4%B+l7 ns (2+(k:Int))/2%2,decide (l7 ns (2+(k:Int))%2=1))else(1+l7 ns (2+(k:Int))/4%(2*W+1),1+l7 ns (14+(k:Int))%(2*W+1),decide (l7 ns (2+(k:Int))%2=1))
abbrev lwB(CE:List D→Option R1)(GP:D→D→Option D):SF:=(b8 (a1f 6 CE (aC (eV 0) (aC (eB t7 (eC (.int 2)) (eV 5)) aN))) (b8 (u6 7 (eB t7 (eC (.int 1)) (eB A7 (eB R5 (eV 6) (eC (.int 4))) (eB t7 (eB a0F (eC (.int 2)) (eV 1)) (eC (.int 1)))))) (b8 (u6 8 (eB t7 (eC (.int 1)) (eB A7 (i0 CE (aC (eV 0) (aC (eB t7 (eC (.int 14)) (eV 5)) aN))) (eB t7 (eB a0F (eC (.int 2)) (eV 1)) (eC (.int 1)))))) (b8 (y0 (bZ (eB (B6 false) (eV 5) (eV 3))) (b8 (u6 7 (eB t7 (eB t7 (eV 1) (eC (.int 1))) (eB A7 (eB R5 (eV 6) (eC (.int 4))) (eB GP (eC (.int 10)) (eC (.int 39)))))) (u6 8 (eB t7 (eV 7) (eB A7 (eB R5 (eV 6) (eC (.int 2))) (eC (.int 2)))))) x9) (a24 4 (eT (aC (eV 7) (aC (eV 8) (aC (eB (B6 false) (eB A7 (eV 6) (eC (.int 2))) (eC (.int 1))) aN)))))))))
theorem b2l(CE:List D→Option R1)(GP:D→D→Option D)(ns:List Int)(W n wd B k c d:Int)(w h:Int)(A:List D)(o6 o7 o8:Option D)(gp:GP (.int 10) (.int 39)=some (.int B))(hB:0<B)(hW:0<2*W+1)(h1:CE [.scr ns,.int (2+k)]=some (.ret (.int c)))(h2:CE [.scr ns,.int (14+k)]=some (.ret (.int d)))
  (hk:(k=wd∧w=W+1+c/4%B∧h=W+1+c/4%B+c/2%2)∨(¬k=wd∧w=1+c/4%(2*W+1)∧h=1+d%(2*W+1))) (hA:A.length<sizeLine) :
  lwB CE GP [.fz (.scr ns),.fz (.int W),.fz (.int n),.fz (.int wd),.ow A,.fz (.int k),un o6,un o7,un o8,.no,.no]=some (.nx [.fz (.scr ns),.fz (.int W),.fz (.int n),.fz (.int wd),.ow (A++[.tup [.int w,.int h,.bl (decide (c%2=1))]]),.fz (.int k),.fz (.int c),.fz (.int w),.fz (.int h),.no,.no]):=by
 unfold lwB
 rcases hk with⟨rfl,rfl,rfl⟩ | ⟨z,rfl,rfl⟩<;>cases o6<;>cases o7<;>cases o8<;>simp only[un]<;>walk_at "eh"
theorem a7u(ns:List Int)(W wd B:Int)(n:Nat)(hn:n≤12)(gp:O7 (.int 10) (.int 39)=some (.int B))(hB:0<B)(hW:0≤W):∃(o5 o6 o7 o8:Option D),(N1 F8 (aC (eV 2) aN) (g7 5) (lwB k7 O7)) [.fz (.scr ns),.fz (.int W),.fz (.int (n:Int)),.fz (.int wd),.ow [],.no,.no,.no,.no,.no,.no]=some (.nx [.fz (.scr ns),.fz (.int W),.fz (.int (n:Int)),.fz (.int wd),.ow (((List.range n).map (t6 ns W wd B)).map wD),un o5,un o6,un o7,un o8,.no,.no]):=by
 obtain⟨e',f,o5,o6,o7,o8,rfl⟩:=a1T (b:=g7 5) (body:=lwB k7 O7) (fun(k:Nat)=>D.int (k:Int)) (fun pre e=>∃(o5 o6 o7 o8:Option D),e=[.fz (.scr ns),.fz (.int W),.fz (.int (n:Int)),.fz (.int wd),.ow ((pre.map (t6 ns W wd B)).map wD),un o5,un o6,un o7,un o8,.no,.no]) (List.range n) [.fz (.scr ns),.fz (.int W),.fz (.int (n:Int)),.fz (.int wd),.ow [],.no,.no,.no,.no,.no,.no] ⟨none,none,none,none,rfl⟩ (by
  rintro pre k post e hq ⟨o5,o6,o7,o8,rfl⟩
  have hp:pre.length<n:=by have:=congrArg List.length hq;rw[List.length_range,List.length_append,List.length_cons]at this;omega
  have hb:g7 5 (.int (k:Int)) [.fz (.scr ns),.fz (.int W),.fz (.int (n:Int)),.fz (.int wd),.ow ((pre.map (t6 ns W wd B)).map wD),un o5,un o6,un o7,un o8,.no,.no]=some [.fz (.scr ns),.fz (.int W),.fz (.int (n:Int)),.fz (.int wd),.ow ((pre.map (t6 ns W wd B)).map wD),.fz (.int (k:Int)),un o6,un o7,un o8,.no,.no]:=by cases o5<;>rfl
  rw[hb,z0]
  refine⟨_,(congrArg G9 (b2l k7 O7 ns W (n:Int) wd B (k:Int) _ _ (t6 ns W wd B k).1 (t6 ns W wd B k).2.1 _ o6 o7 o8 gp hB (by omega) (O0 (by omega)) (O0 (by omega)) ?_ (by rw[List.length_map,List.length_map];show _<2 ^ 24;omega))).trans rfl,some (.int (k:Int)),some (.int (l7 ns (2+(k:Int)))),some (.int (t6 ns W wd B k).1),some (.int (t6 ns W wd B k).2.1),?_⟩
  ·unfold t6
   by_cases z:(k:Int)=wd
   ·rw[if_pos z];exact .inl ⟨z,rfl,rfl⟩
   ·rw[if_neg z];exact .inr ⟨z,rfl,rfl⟩
  ·rw[List.map_append,List.map_append]
   have e3:(t6 ns W wd B k).2.2=decide (l7 ns (2+(k:Int))%2=1):=by unfold t6;split<;>rfl
   rw[← e3]
   rfl)
 refine⟨o5,o6,o7,o8,?_⟩
 rw[a4d (ds:=[.int (n:Int)]) (e1:=[.fz (.scr ns),.fz (.int W),.fz (.int (n:Int)),.fz (.int wd),.ow [],.no,.no,.no,.no,.no,.no]) rfl (a3j (by omega)),a7o]
 exact f
theorem a44(ns:List Int)(W wd B:Int)(k:Nat)(hk:(k:Int)=wd)(hB:0<B):n0 (t6 ns W wd B k) > W:=by
 have h1:=Int.emod_nonneg (l7 ns (2+(k:Int))/4) (b:=B) (by omega)
 unfold t6 n0
 rw[if_pos hk]
 dsimp only
 split
 ·split<;>omega
 ·omega
abbrev duC(LE:List D→Option R1):NF:=(Z1 F8 1 [1,4] (aC (eV 2) aN) (g7 0) (bZ (eB gGt (i0 LE (aC (O6 O8 2 (eV 0)) aN)) (eV 1))) (eV 0))
theorem b2m(LE:List D→Option R1)(k W m:Int)(A:List D)(q:D)(hq:atI A k=some q)(h:LE [q]=some (.ret (.int m))):(bZ (eB gGt (i0 LE (aC (O6 O8 2 (eV 0)) aN)) (eV 1))) [.fz (.int k),.fz (.int W),.hd A]=some (.ok (decide (m > W)) [.fz (.int k),.fz (.int W),.hd A]):=by
 walk_at "eh"
theorem b1j(L:List Wr)(W:Int)(s0 s3 s5 s6 s7 s8 s9 s10:Sl)(hl:L.length≤12):duC u9 [s0,.fz (.int W),.fz (.int (L.length:Int)),s3,.ow (L.map wD),s5,s6,s7,s8,s9,s10]=some (.ok (((List.range L.length).filter fun k=>(L[k]?).any fun q=>decide (n0 q > W)).map fun(k:Nat)=>D.int (k:Int)) [s0,.fz (.int W),.fz (.int (L.length:Int)),s3,.ow (L.map wD),s5,s6,s7,s8,s9,s10]):=by
 unfold duC Z1
 have e0:(aC (eV 2) aN) [s0,.fz (.int W),.fz (.int (L.length:Int)),s3,.ow (L.map wD),s5,s6,s7,s8,s9,s10]=some (.ok [.int (L.length:Int)] [s0,.fz (.int W),.fz (.int (L.length:Int)),s3,.ow (L.map wD),s5,s6,s7,s8,s9,s10]):=rfl
 rw[e0,Y6,a3j (by omega)]
 show j0 (g7 0) _ (eV 0) [.no,.fz (.int W),.hd (L.map wD)] _ (A9 0 L.length) []=_
 rw[a7o]
 refine(V6 (fun(k:Nat)=>D.int (k:Int)) (fun(k:Nat)=>D.int (k:Int)) (fun k=>(L[k]?).any fun q=>decide (n0 q > W)) (List.range L.length) [] (by rw[List.length_range];show 0+_≤2 ^ 24;omega) (fun k hk=>?_)).trans ?_
 ·have hk:=List.mem_range.mp hk
  refine⟨[.fz (.int (k:Int)),.fz (.int W),.hd (L.map wD)],[.fz (.int (k:Int)),.fz (.int W),.hd (L.map wD)],rfl,?_,fun _=>⟨_,rfl⟩⟩
  rw[List.getElem?_eq_getElem hk]
  exact b2m u9 (k:Int) W (n0 L[k]) (L.map wD) (wD L[k]) (a7f (by rw[List.getElem?_map,List.getElem?_eq_getElem hk];rfl)) (a7p _)
 ·rw[List.nil_append]
theorem a7v(L:List Wr)(p:Wr→Bool)(h:∃q∈L,p q=true):∃r,((List.range L.length).filter fun k=>(L[k]?).any p)=L.findIdx p::r:=by
 have hi:L.findIdx p<L.length:=List.findIdx_lt_length.mpr h
 have h1:(List.range L.length).find? (fun k=>(L[k]?).any p)=some (L.findIdx p):=by
  rw[List.find?_range_eq_some]
  refine⟨?_,List.mem_range.mpr hi,fun j hj=>?_⟩
  ·rw[List.getElem?_eq_getElem hi]
   exact List.findIdx_getElem (w:=hi)
  ·have hj':j<L.length:=by omega
   rw[List.getElem?_eq_getElem hj']
   have:=List.not_of_lt_findIdx hj
   simpa using this
 rw[← List.head?_filter]at h1
 cases q:(List.range L.length).filter fun k=>(L[k]?).any p with
 | nil=>rw[q]at h1;cases h1
 | cons a r=>rw[q]at h1;exact⟨r,by rw[List.head?_cons]at h1;rw[Option.some.inj h1]⟩
theorem b2n(MR:List D→Option R1)(s0 s3 s5 s6 s7 s8:Sl)(W n k:Int)(A:List D)(h:MR [.int k,.int W,.lst A]=some (.ret (.bl true))):(y0 (U8 (bZ (i0 MR (aC (eV 10) (aC (eV 1) (aC (zN (V9 D4 4)) aN)))))) (m8 (eC (.bl false))) x9) [s0,.fz (.int W),.fz (.int n),s3,.ow A,s5,s6,s7,s8,.no,.fz (.int k)]=some (.nx [s0,.fz (.int W),.fz (.int n),s3,.ow A,s5,s6,s7,s8,.no,.fz (.int k)]):=by
 walk_at "eh"
theorem b1O(s0 s3 s5 s6 s7 s8:Sl)(W n:Int)(A:List D)(h:(A.length:Int) > 5):∃o10:Option D,N1 F8 (aC (eC (.int 4)) aN) (g7 10) (y0 (U8 (bZ (i0 i5 (aC (eV 10) (aC (eV 1) (aC (zN (V9 D4 4)) aN)))))) (m8 (eC (.bl false))) x9) [s0,.fz (.int W),.fz (.int n),s3,.ow A,s5,s6,s7,s8,.no,.no]=some (.nx [s0,.fz (.int W),.fz (.int n),s3,.ow A,s5,s6,s7,s8,.no,un o10]):=by
 obtain⟨e',f,o10,rfl⟩:=a1T (b:=g7 10) (body:=(y0 (U8 (bZ (i0 i5 (aC (eV 10) (aC (eV 1) (aC (zN (V9 D4 4)) aN)))))) (m8 (eC (.bl false))) x9)) (fun(k:Nat)=>D.int (k:Int)) (fun pre e=>∃(o10:Option D),e=[s0,.fz (.int W),.fz (.int n),s3,.ow A,s5,s6,s7,s8,.no,un o10]) (List.range 4) [s0,.fz (.int W),.fz (.int n),s3,.ow A,s5,s6,s7,s8,.no,.no] ⟨none,rfl⟩ (by
  rintro pre k post e hq ⟨o10,rfl⟩
  have hk:k<4:=List.mem_range.mp (hq▸List.mem_append_right _ List.mem_cons_self)
  have hb:g7 10 (.int (k:Int)) [s0,.fz (.int W),.fz (.int n),s3,.ow A,s5,s6,s7,s8,.no,un o10]=some [s0,.fz (.int W),.fz (.int n),s3,.ow A,s5,s6,s7,s8,.no,.fz (.int (k:Int))]:=by cases o10<;>rfl
  rw[hb,z0]
  exact⟨_,(congrArg G9 (b2n i5 s0 s3 s5 s6 s7 s8 W n (k:Int) A (b1h E9 (k:Int) W A (a7t (k:Int) W A (by omega) h)))).trans rfl,some (.int (k:Int)),rfl⟩)
 refine⟨o10,?_⟩
 have hr:F8 [.int 4]=some (0,4):=a3j (n:=4) (by omega)
 rw[a4d (ds:=[.int 4]) (e1:=[s0,.fz (.int W),.fz (.int n),s3,.ow A,s5,s6,s7,s8,.no,.no]) rfl hr,a7o]
 exact f
theorem a8b(CE WR HO:List D→Option R1)(L1 L2:SF)(CO:NF)(GP:D→D→Option D)(ns:List Int)(c0 c1 B W n wd d:Int)(o5 o6 o7 o8 o10:Option D)(A T R:List D)(HL:List D)
  (k0:CE [.scr ns,.int 0]=some (.ret (.int c0))) (k1:CE [.scr ns,.int 1]=some (.ret (.int c1))) (gp:GP (.int 10) (.int 39)=some (.int B)) (hB:0<B) (eW:c1%B=W) (en:1+c0%12=n) (hn:0<n) (ew:c0/12%n=wd)
  (l1:L1 [.fz (.scr ns),.fz (.int W),.fz (.int n),.fz (.int wd),.ow [],.no,.no,.no,.no,.no,.no]=some (.nx [.fz (.scr ns),.fz (.int W),.fz (.int n),.fz (.int wd),.ow A,un o5,un o6,un o7,un o8,.no,.no]))
  (hc:(n≤5∧CO [.fz (.scr ns),.fz (.int W),.fz (.int n),.fz (.int wd),.ow A,un o5,un o6,un o7,un o8,.no,.no]=some (.ok T [.fz (.scr ns),.fz (.int W),.fz (.int n),.fz (.int wd),.ow A,un o5,un o6,un o7,un o8,.no,.no])∧atI T 0=some (.int d)∧WR [.int W,.lst A,.int d]=some (.ret (.bl true))) ∨
   (¬n≤5∧L2 [.fz (.scr ns),.fz (.int W),.fz (.int n),.fz (.int wd),.ow A,un o5,un o6,un o7,un o8,.no,.no]=some (.nx [.fz (.scr ns),.fz (.int W),.fz (.int n),.fz (.int wd),.ow A,un o5,un o6,un o7,un o8,.no,un o10])∧HO [.lst (a0I A none (some 5))]=some (.own HL)∧(HL.length:Int) > 0)) :
  fD 11 1 (b8 (u6 1 (eB A7 (i0 CE (aC (eV 0) (aC (eC (.int 1)) aN))) (eB GP (eC (.int 10)) (eC (.int 39))))) (b8 (u6 2 (eB t7 (eC (.int 1)) (eB A7 (i0 CE (aC (eV 0) (aC (eC (.int 0)) aN))) (eC (.int 12))))) (b8 (u6 3 (eB A7 (eB R5 (i0 CE (aC (eV 0) (aC (eC (.int 0)) aN))) (eC (.int 12))) (eV 2))) (b8 (y3 4 (eL aN)) (b8 L1 (b8 (y0 (bZ (eB gLe (eV 2) (eC (.int 5)))) (b8 (u6 9 (eB O8 (zN CO) (eC (.int 0)))) (a1g WR (aC (eV 1) (aC (zN (V9 D4 4)) (aC (eV 9) aN))))) x9) (b8 L2 (m8 (eB gGt (y6 (g1 R6) (aC (p8 HO (aC (zN (a3a 4 oN (oS (eC (.int 5))))) aN)) aN)) (eC (.int 0)))))))))))  [.scr ns]=some (.ret (.bl true)):=by
 subst eW en ew
 rcases hc with⟨z,a1,a2,a3⟩ | ⟨z,a1,a2,a3⟩<;>cases o5<;>cases o6<;>cases o7<;>cases o8<;>cases o10<;>simp only[un]at * <;>walk_at "eh"
theorem a9N(L:List Wr):((r6 (a0Q L)).map D.int).length > 0:=by
 have:(0:Int)∈a0Q L:=by
  induction L with
  | nil=>exact List.mem_cons_self
  | cons q L ih=>exact C9.mpr ⟨0,ih,.inl rfl⟩
 have:=List.length_pos_of_mem (z7.mpr this)
 rw[List.length_map]
 exact this
theorem main(ns:List Int)(hl:ns.length≤63)(hb:∀m∈ns,Builtin.Int.intBits m≤2 ^ 20):a77 [.scr ns]=some (.ret (.bl true)):=by
 obtain⟨B,gB,eB⟩:∃B:Int,O7 (.int 10) (.int 39)=some (.int B)∧B=10 ^ 39:=⟨_,a38 (by decide +kernel),rfl⟩
 have hB:0<B:=by rw[eB];decide
 clear eB
 obtain⟨n,hn,h1,h12⟩:∃n:Nat,1+l7 ns 0%12=(n:Int)∧1≤n∧n≤12:=⟨(1+l7 ns 0%12).toNat,by omega,by omega,by omega⟩
 have hW:0≤l7 ns 1%B:=Int.emod_nonneg _ (by omega)
 have hwd:=Int.emod_nonneg (l7 ns 0/12) (b:=(n:Int)) (by omega)
 have hwd2:=Int.emod_lt_of_pos (l7 ns 0/12) (b:=(n:Int)) (by omega)
 generalize ewd:l7 ns 0/12%(n:Int)=wd at *
 generalize eW:l7 ns 1%B=W at *
 obtain⟨o5,o6,o7,o8,l1⟩:=a7u ns W wd B n h12 gB hB hW
 have hlen:((List.range n).map (t6 ns W wd B)).length=n:=by rw[List.length_map,List.length_range]
 have hex:∃q∈(List.range n).map (t6 ns W wd B),decide (n0 q > W)=true:=⟨t6 ns W wd B wd.toNat,List.mem_map.mpr ⟨wd.toNat,List.mem_range.mpr (by omega),rfl⟩,decide_eq_true (a44 ns W wd B _ (by omega) hB)⟩
 generalize eL:(List.range n).map (t6 ns W wd B)=L at *
 by_cases z:n≤5
 ·obtain⟨r,hr⟩:=a7v L (fun q=>decide (n0 q > W)) hex
  have d1:=b1j L W (.fz (.scr ns)) (.fz (.int wd)) (un o5) (un o6) (un o7) (un o8) .no .no (by omega)
  rw[hlen]at d1 hr
  refine a8b k7 l6 j7 _ (N1 F8 (aC (eC (.int 4)) aN) (g7 10) (y0 (U8 (bZ (i0 i5 (aC (eV 10) (aC (eV 1) (aC (zN (V9 D4 4)) aN)))))) (m8 (eC (.bl false))) x9)) (duC u9) O7 ns _ _ B W n wd ((L.findIdx (fun q=>decide (n0 q > W)):Nat):Int) o5 o6 o7 o8 none (L.map wD) _ [] [] (O0 (by omega)) (O0 (by omega)) gB hB eW hn (by omega) ewd l1 (.inl ⟨by omega,d1,?_,?_⟩)
  ·rw[hr,List.map_cons]
   exact a4R
  ·exact b1i B9 C0 W _ _ (a7r d9 t9 W _ _ (a3k _ (by rw[List.length_map,hlen];omega)) (a7q W L (by obtain⟨q,m,h⟩:=hex;exact⟨q,m,of_decide_eq_true h⟩))) (a7n _)
 ·obtain⟨o10,l2⟩:=b1O (.fz (.scr ns)) (.fz (.int wd)) (un o5) (un o6) (un o7) (un o8) W (n:Int) (L.map wD) (by rw[List.length_map,hlen];omega)
  have hc:a0I (L.map wD) none (some 5)=(L.take 5).map wD:=by
   rw[a7e (by omega)]
   rw[List.map_take]
   rfl
  exact a8b k7 l6 j7 _ _ (duC u9) O7 ns _ _ B W n wd 0 o5 o6 o7 o8 o10 (L.map wD) [] [] _ (O0 (by omega)) (O0 (by omega)) gB hB eW hn (by omega) ewd l1 (.inr ⟨by omega,l2,by rw[hc];exact a43 (L.take 5) (by rw[List.length_take];omega),by have:=a9N (L.take 5);omega⟩)
def a1q(K:PySem.W.Frag)(c:Str→Addr):Sp:=fun vs H Q _=>∃a,∃ns:List Int,vs=[.ref a]∧Scr K H a (ns.map V.int)∧(∀m∈ns,Builtin.Int.intBits m≤2 ^ 20)∧ns.length≤63∧∀H',Q (.bl true) H'
theorem b1k{f:Addr}{fd:FuncData}(F:Fun K "law" "law" D5 f fd)(T:Txt K mg c)(G_l_cell:Own P w K mg base 3 "_law_cell" ["_law_script","_law_k"] (g6 K c k7))(G_l_least:Own P w K mg base 5 "_law_least" ["_law_ware"] (g6 K c u9))(G_l_wide_refused:Own P w K mg base 9 "_law_wide_refused" ["_law_width","_law_wares","_law_due"] (g6 K c l6))(G_l_many_refused:Own P w K mg base 11 "_law_many_refused" ["_law_which","_law_width","_law_wares"] (g6 K c i5))(G_heights_of:Own P w K mg base 5 "heights_of" ["wares"] (g6 K c j7)):FnOk P w K mg base (m4 P w) 13 f fd ["_law_script"] (a1q K c) :=
 (a9H F T G_l_cell G_l_least G_l_wide_refused G_l_many_refused G_heights_of).imp fun vs H Q E ⟨a,ns,e,h,hb,hl,q⟩=>a8L e h q (main ns hl hb)
def cOf(l:List (Str×Addr))(x:Str):Addr:=(l.lookup x).getD 0
abbrev cL(c0 c1 c2 c3 c4:Addr):=cOf [("BadTurn",c0),("CrateError",c1),("NoWeighing",c2),("TooMany",c3),("TooWide",c4)]
theorem all_mk{w:World}{K:PySem.W.Frag}{h:Heap}{mg:Str→Option Value}{fa:Addr}(X:K.In h)(G:h.Ns mainGlobals mg)(hfa:mg "law" = some (.ref fa))
  {c0 c1 c2 c3 c4:Addr} {f_1:Addr} {oc_1 kV_1 dc_1 pm_1 cd_1 ct_1:Value} {od_1 an_1:Option Addr} {sl_1:Array (Option Value)} {f_2:Addr} {oc_2 kV_2 dc_2 pm_2 cd_2 ct_2:Value} {od_2 an_2:Option Addr} {sl_2:Array (Option Value)} {f_3:Addr} {oc_3 kV_3 dc_3 pm_3 cd_3 ct_3:Value} {od_3 an_3:Option Addr} {sl_3:Array (Option Value)} {f_4:Addr} {oc_4 kV_4 dc_4 pm_4 cd_4 ct_4:Value} {od_4 an_4:Option Addr} {sl_4:Array (Option Value)} {f_5:Addr} {oc_5 kV_5 dc_5 pm_5 cd_5 ct_5:Value} {od_5 an_5:Option Addr} {sl_5:Array (Option Value)} {f_6:Addr} {oc_6 kV_6 dc_6 pm_6 cd_6 ct_6:Value} {od_6 an_6:Option Addr} {sl_6:Array (Option Value)} {f_7:Addr} {oc_7 kV_7 dc_7 pm_7 cd_7 ct_7:Value} {od_7 an_7:Option Addr} {sl_7:Array (Option Value)} {f_8:Addr} {oc_8 kV_8 dc_8 pm_8 cd_8 ct_8:Value} {od_8 an_8:Option Addr} {sl_8:Array (Option Value)} {f_9:Addr} {oc_9 kV_9 dc_9 pm_9 cd_9 ct_9:Value} {od_9 an_9:Option Addr} {sl_9:Array (Option Value)} {f_10:Addr} {oc_10 kV_10 dc_10 pm_10 cd_10 ct_10:Value} {od_10 an_10:Option Addr} {sl_10:Array (Option Value)} {f_11:Addr} {oc_11 kV_11 dc_11 pm_11 cd_11 ct_11:Value} {od_11 an_11:Option Addr} {sl_11:Array (Option Value)} {f_12:Addr} {oc_12 kV_12 dc_12 pm_12 cd_12 ct_12:Value} {od_12 an_12:Option Addr} {sl_12:Array (Option Value)} {f_13:Addr} {oc_13 kV_13 dc_13 pm_13 cd_13 ct_13:Value} {od_13 an_13:Option Addr} {sl_13:Array (Option Value)} {f_14:Addr} {oc_14 kV_14 dc_14 pm_14 cd_14 ct_14:Value} {od_14 an_14:Option Addr} {sl_14:Array (Option Value)} {f_15:Addr} {oc_15 kV_15 dc_15 pm_15 cd_15 ct_15:Value} {od_15 an_15:Option Addr} {sl_15:Array (Option Value)} {f_16:Addr} {oc_16 kV_16 dc_16 pm_16 cd_16 ct_16:Value} {od_16 an_16:Option Addr} {sl_16:Array (Option Value)} {f_0:Addr} {oc_0 kV_0 dc_0 pm_0 cd_0 ct_0:Value} {od_0 an_0:Option Addr} {sl_0:Array (Option Value)} {kt_MOST_WARES:Tok}
  (a_1:PySem.W.nsIn K mainGlobals "check_count" = some (some (.ref f_1)))
  (l_1:K.lookup f_1=some ⟨oc_1,od_1,.func (PySem.W.fnOf "check_count" "check_count" (i2 w8) (g8 w8) (a9 w8) .none kV_1 dc_1 pm_1 an_1 cd_1 ct_1),sl_1⟩)
  (c_1:PySem.W.codeIn K cd_1 "check_count" = true)
  (k_1:PySem.W.keepIn K (.ref f_1)=true)
  (a_2:PySem.W.nsIn K mainGlobals "sides_of" = some (some (.ref f_2)))
  (l_2:K.lookup f_2=some ⟨oc_2,od_2,.func (PySem.W.fnOf "sides_of" "sides_of" (i2 C8) (g8 C8) (a9 C8) .none kV_2 dc_2 pm_2 an_2 cd_2 ct_2),sl_2⟩)
  (c_2:PySem.W.codeIn K cd_2 "sides_of" = true)
  (k_2:PySem.W.keepIn K (.ref f_2)=true)
  (a_3:PySem.W.nsIn K mainGlobals "lies_of" = some (some (.ref f_3)))
  (l_3:K.lookup f_3=some ⟨oc_3,od_3,.func (PySem.W.fnOf "lies_of" "lies_of" (i2 E5) (g8 E5) (a9 E5) .none kV_3 dc_3 pm_3 an_3 cd_3 ct_3),sl_3⟩)
  (c_3:PySem.W.codeIn K cd_3 "lies_of" = true)
  (k_3:PySem.W.keepIn K (.ref f_3)=true)
  (a_4:PySem.W.nsIn K mainGlobals "fit" = some (some (.ref f_4)))
  (l_4:K.lookup f_4=some ⟨oc_4,od_4,.func (PySem.W.fnOf "fit" "fit" (i2 a0g) (g8 a0g) (a9 a0g) .none kV_4 dc_4 pm_4 an_4 cd_4 ct_4),sl_4⟩)
  (c_4:PySem.W.codeIn K cd_4 "fit" = true)
  (k_4:PySem.W.keepIn K (.ref f_4)=true)
  (a_5:PySem.W.nsIn K mainGlobals "fits" = some (some (.ref f_5)))
  (l_5:K.lookup f_5=some ⟨oc_5,od_5,.func (PySem.W.fnOf "fits" "fits" (i2 S8) (g8 S8) (a9 S8) .none kV_5 dc_5 pm_5 an_5 cd_5 ct_5),sl_5⟩)
  (c_5:PySem.W.codeIn K cd_5 "fits" = true)
  (k_5:PySem.W.keepIn K (.ref f_5)=true)
  (a_6:PySem.W.nsIn K mainGlobals "heights_of" = some (some (.ref f_6)))
  (l_6:K.lookup f_6=some ⟨oc_6,od_6,.func (PySem.W.fnOf "heights_of" "heights_of" (i2 t5) (g8 t5) (a9 t5) .none kV_6 dc_6 pm_6 an_6 cd_6 ct_6),sl_6⟩)
  (c_6:PySem.W.codeIn K cd_6 "heights_of" = true)
  (k_6:PySem.W.keepIn K (.ref f_6)=true)
  (a_7:PySem.W.nsIn K mainGlobals "check_width" = some (some (.ref f_7)))
  (l_7:K.lookup f_7=some ⟨oc_7,od_7,.func (PySem.W.fnOf "check_width" "check_width" (i2 m7) (g8 m7) (a9 m7) .none kV_7 dc_7 pm_7 an_7 cd_7 ct_7),sl_7⟩)
  (c_7:PySem.W.codeIn K cd_7 "check_width" = true)
  (k_7:PySem.W.keepIn K (.ref f_7)=true)
  (a_8:PySem.W.nsIn K mainGlobals "lowest" = some (some (.ref f_8)))
  (l_8:K.lookup f_8=some ⟨oc_8,od_8,.func (PySem.W.fnOf "lowest" "lowest" (i2 J0) (g8 J0) (a9 J0) .none kV_8 dc_8 pm_8 an_8 cd_8 ct_8),sl_8⟩)
  (c_8:PySem.W.codeIn K cd_8 "lowest" = true)
  (k_8:PySem.W.keepIn K (.ref f_8)=true)
  (a_9:PySem.W.nsIn K mainGlobals "_law_cell" = some (some (.ref f_9)))
  (l_9:K.lookup f_9=some ⟨oc_9,od_9,.func (PySem.W.fnOf "_law_cell" "_law_cell" (i2 J1) (g8 J1) (a9 J1) .none kV_9 dc_9 pm_9 an_9 cd_9 ct_9),sl_9⟩)
  (c_9:PySem.W.codeIn K cd_9 "_law_cell" = true)
  (k_9:PySem.W.keepIn K (.ref f_9)=true)
  (a_10:PySem.W.nsIn K mainGlobals "_law_whole" = some (some (.ref f_10)))
  (l_10:K.lookup f_10=some ⟨oc_10,od_10,.func (PySem.W.fnOf "_law_whole" "_law_whole" (i2 E6) (g8 E6) (a9 E6) .none kV_10 dc_10 pm_10 an_10 cd_10 ct_10),sl_10⟩)
  (c_10:PySem.W.codeIn K cd_10 "_law_whole" = true)
  (k_10:PySem.W.keepIn K (.ref f_10)=true)
  (a_11:PySem.W.nsIn K mainGlobals "_law_two" = some (some (.ref f_11)))
  (l_11:K.lookup f_11=some ⟨oc_11,od_11,.func (PySem.W.fnOf "_law_two" "_law_two" (i2 N9) (g8 N9) (a9 N9) .none kV_11 dc_11 pm_11 an_11 cd_11 ct_11),sl_11⟩)
  (c_11:PySem.W.codeIn K cd_11 "_law_two" = true)
  (k_11:PySem.W.keepIn K (.ref f_11)=true)
  (a_12:PySem.W.nsIn K mainGlobals "_law_least" = some (some (.ref f_12)))
  (l_12:K.lookup f_12=some ⟨oc_12,od_12,.func (PySem.W.fnOf "_law_least" "_law_least" (i2 E7) (g8 E7) (a9 E7) .none kV_12 dc_12 pm_12 an_12 cd_12 ct_12),sl_12⟩)
  (c_12:PySem.W.codeIn K cd_12 "_law_least" = true)
  (k_12:PySem.W.keepIn K (.ref f_12)=true)
  (a_13:PySem.W.nsIn K mainGlobals "_law_asked" = some (some (.ref f_13)))
  (l_13:K.lookup f_13=some ⟨oc_13,od_13,.func (PySem.W.fnOf "_law_asked" "_law_asked" (i2 E8) (g8 E8) (a9 E8) .none kV_13 dc_13 pm_13 an_13 cd_13 ct_13),sl_13⟩)
  (c_13:PySem.W.codeIn K cd_13 "_law_asked" = true)
  (k_13:PySem.W.keepIn K (.ref f_13)=true)
  (a_14:PySem.W.nsIn K mainGlobals "_law_many_refused" = some (some (.ref f_14)))
  (l_14:K.lookup f_14=some ⟨oc_14,od_14,.func (PySem.W.fnOf "_law_many_refused" "_law_many_refused" (i2 o9) (g8 o9) (a9 o9) .none kV_14 dc_14 pm_14 an_14 cd_14 ct_14),sl_14⟩)
  (c_14:PySem.W.codeIn K cd_14 "_law_many_refused" = true)
  (k_14:PySem.W.keepIn K (.ref f_14)=true)
  (a_15:PySem.W.nsIn K mainGlobals "_law_wide_refused" = some (some (.ref f_15)))
  (l_15:K.lookup f_15=some ⟨oc_15,od_15,.func (PySem.W.fnOf "_law_wide_refused" "_law_wide_refused" (i2 p6) (g8 p6) (a9 p6) .none kV_15 dc_15 pm_15 an_15 cd_15 ct_15),sl_15⟩)
  (c_15:PySem.W.codeIn K cd_15 "_law_wide_refused" = true)
  (k_15:PySem.W.keepIn K (.ref f_15)=true)
  (a_16:PySem.W.nsIn K mainGlobals "law" = some (some (.ref f_16)))
  (l_16:K.lookup f_16=some ⟨oc_16,od_16,.func (PySem.W.fnOf "law" "law" (i2 D5) (g8 D5) (a9 D5) .none kV_16 dc_16 pm_16 an_16 cd_16 ct_16),sl_16⟩)
  (c_16:PySem.W.codeIn K cd_16 "law" = true)
  (k_16:PySem.W.keepIn K (.ref f_16)=true)
  (a_0:PySem.W.findIn K (.ref c4) "__init__" = some (some (.ref f_0)))
  (i_TooWide___init__:PySem.W.isFn K (.ref f_0)=true)
  (l_0:K.lookup f_0=some ⟨oc_0,od_0,.func (PySem.W.fnOf "__init__" "TooWide.__init__" (i2 l9) (g8 l9) (a9 l9) .none kV_0 dc_0 pm_0 an_0 cd_0 ct_0),sl_0⟩)
  (c_0:PySem.W.codeIn K cd_0 "TooWide.__init__" = true)
  (k_0:PySem.W.keepIn K (.ref f_0)=true)
  (z_ValueError:PySem.W.nsIn K mainGlobals "ValueError" = some none)
  (z_bool:PySem.W.nsIn K mainGlobals "bool" = some none)
  (z_enumerate:PySem.W.nsIn K mainGlobals "enumerate" = some none)
  (z_int:PySem.W.nsIn K mainGlobals "int" = some none)
  (z_isinstance:PySem.W.nsIn K mainGlobals "isinstance" = some none)
  (z_len:PySem.W.nsIn K mainGlobals "len" = some none)
  (z_list:PySem.W.nsIn K mainGlobals "list" = some none)
  (z_min:PySem.W.nsIn K mainGlobals "min" = some none)
  (z_range:PySem.W.nsIn K mainGlobals "range" = some none)
  (z_set:PySem.W.nsIn K mainGlobals "set" = some none)
  (z_sorted:PySem.W.nsIn K mainGlobals "sorted" = some none)
  (m_BadTurn:PySem.W.nsIn K mainGlobals "BadTurn" = some (some (.ref c0)))
  (m_CrateError:PySem.W.nsIn K mainGlobals "CrateError" = some (some (.ref c1)))
  (m_NoWeighing:PySem.W.nsIn K mainGlobals "NoWeighing" = some (some (.ref c2)))
  (m_TooMany:PySem.W.nsIn K mainGlobals "TooMany" = some (some (.ref c3)))
  (m_TooWide:PySem.W.nsIn K mainGlobals "TooWide" = some (some (.ref c4)))
  (r8:a07 K c4=true)
  (xa_TooWide:PySem.W.findIn K (.ref c4) "__setattr__" = some (some (.builtin "object.__setattr__")))
  (xm_TooWide:((PySem.W.clsIn K c4).any fun cd=>PySem.W.onlyVE cd.mro)=true)
  (xq_TooWide:PySem.W.mroIn K c4 (.type "object")=some true)
  (x_BadTurn:PySem.W.excIn K c0 vErr "ValueError.__new__" = true)
  (x_TooMany:PySem.W.excIn K c3 vErr "ValueError.__new__" = true)
  (g_MOST_WARES:PySem.W.nsIn K mainGlobals "MOST_WARES" = some (some (.int 5 kt_MOST_WARES)))
  (t_exc_BadTurn1:PySem.W.findIn K (.ref c0) "__getattribute__" = some (some (.builtin "BaseException.__getattribute__")))
  (t_exc_BadTurn2:PySem.W.findIn K (.ref c0) "__getattr__" = some none)
  (t_exc_BadTurn3:PySem.W.findIn K (.ref c0) "__class__" = some (some (.builtin "object.__class__")))
  (t_exc_BadTurn4:PySem.W.mroIn K c0 (.type "object")=some true)
  (t_exc_BadTurn5:PySem.W.subIn K (.ref c0) (.type "BaseException")=some true)
  (t_exc_TooMany1:PySem.W.findIn K (.ref c3) "__getattribute__" = some (some (.builtin "BaseException.__getattribute__")))
  (t_exc_TooMany2:PySem.W.findIn K (.ref c3) "__getattr__" = some none)
  (t_exc_TooMany3:PySem.W.findIn K (.ref c3) "__class__" = some (some (.builtin "object.__class__")))
  (t_exc_TooMany4:PySem.W.mroIn K c3 (.type "object")=some true)
  (t_exc_TooMany5:PySem.W.subIn K (.ref c3) (.type "BaseException")=some true)
  (t_exc_TooWide1:PySem.W.findIn K (.ref c4) "__getattribute__" = some (some (.builtin "BaseException.__getattribute__")))
  (t_exc_TooWide2:PySem.W.findIn K (.ref c4) "__getattr__" = some none)
  (t_exc_TooWide3:PySem.W.findIn K (.ref c4) "__class__" = some (some (.builtin "object.__class__")))
  (t_exc_TooWide4:PySem.W.mroIn K c4 (.type "object")=some true)
  (t_exc_TooWide5:PySem.W.subIn K (.ref c4) (.type "BaseException")=some true)
  (hd_TooWide:PySem.W.hasDictIn K c4=true)
  (xn_TooWide:PySem.W.findIn K (.ref c4) "at" = some none)
  (t_one_BadTurn_BadTurn:PySem.W.kitOne K (.ref c0) (.ref c0)=some true)
  (t_one_BadTurn_CrateError:PySem.W.kitOne K (.ref c0) (.ref c1)=some true)
  (t_one_BadTurn_NoWeighing:PySem.W.kitOne K (.ref c0) (.ref c2)=some false)
  (t_one_BadTurn_TooMany:PySem.W.kitOne K (.ref c0) (.ref c3)=some false)
  (t_one_BadTurn_TooWide:PySem.W.kitOne K (.ref c0) (.ref c4)=some false)
  (t_one_BadTurn_ValueError:PySem.W.kitOne K (.ref c0) (.type "ValueError")=some true)
  (t_exo_BadTurn_CrateError:PySem.W.exmOne K (.ref c0) (.ref c1)=some true)
  (t_exo_BadTurn_TooWide:PySem.W.exmOne K (.ref c0) (.ref c4)=some false)
  (t_one_TooMany_BadTurn:PySem.W.kitOne K (.ref c3) (.ref c0)=some false)
  (t_one_TooMany_CrateError:PySem.W.kitOne K (.ref c3) (.ref c1)=some true)
  (t_one_TooMany_NoWeighing:PySem.W.kitOne K (.ref c3) (.ref c2)=some false)
  (t_one_TooMany_TooMany:PySem.W.kitOne K (.ref c3) (.ref c3)=some true)
  (t_one_TooMany_TooWide:PySem.W.kitOne K (.ref c3) (.ref c4)=some false)
  (t_one_TooMany_ValueError:PySem.W.kitOne K (.ref c3) (.type "ValueError")=some true)
  (t_exo_TooMany_CrateError:PySem.W.exmOne K (.ref c3) (.ref c1)=some true)
  (t_exo_TooMany_TooWide:PySem.W.exmOne K (.ref c3) (.ref c4)=some false)
  (t_one_TooWide_BadTurn:PySem.W.kitOne K (.ref c4) (.ref c0)=some false)
  (t_one_TooWide_CrateError:PySem.W.kitOne K (.ref c4) (.ref c1)=some true)
  (t_one_TooWide_NoWeighing:PySem.W.kitOne K (.ref c4) (.ref c2)=some false)
  (t_one_TooWide_TooMany:PySem.W.kitOne K (.ref c4) (.ref c3)=some false)
  (t_one_TooWide_TooWide:PySem.W.kitOne K (.ref c4) (.ref c4)=some true)
  (t_one_TooWide_ValueError:PySem.W.kitOne K (.ref c4) (.type "ValueError")=some true)
  (t_exo_TooWide_CrateError:PySem.W.exmOne K (.ref c4) (.ref c1)=some true)
  (t_exo_TooWide_TooWide:PySem.W.exmOne K (.ref c4) (.ref c4)=some true)
  : ∃fd:FuncData,(∀(s:Shared) (v:Value),BindsTo s fd ⟨[v],[]⟩ [("_law_script",v)])∧∃c:Str→Addr,∀base:Heap,K.In base→base.Ns mainGlobals mg→FnOk (PySem.Challenge.rw_cratefit_k43_too_many_too_wide).prog w K mg base (m4 (PySem.Challenge.rw_cratefit_k43_too_many_too_wide).prog w) 13 fa fd ["_law_script"] (a1q K c):=by
 have e:=hfa.symm.trans (PySem.W.mg_of X G a_16)
 cases e
 have T:Txt K mg (cL c0 c1 c2 c3 c4):=⟨PySem.W.mg_none_of X G z_ValueError,PySem.W.mg_none_of X G z_bool,PySem.W.mg_none_of X G z_enumerate,PySem.W.mg_none_of X G z_int,PySem.W.mg_none_of X G z_isinstance,PySem.W.mg_none_of X G z_len,PySem.W.mg_none_of X G z_list,PySem.W.mg_none_of X G z_min,PySem.W.mg_none_of X G z_range,PySem.W.mg_none_of X G z_set,PySem.W.mg_none_of X G z_sorted,PySem.W.mg_of X G m_BadTurn,PySem.W.mg_of X G m_CrateError,PySem.W.mg_of X G m_NoWeighing,PySem.W.mg_of X G m_TooMany,PySem.W.mg_of X G m_TooWide,x_BadTurn,x_TooMany,⟨_,PySem.W.mg_of X G g_MOST_WARES,⟨_,rfl⟩⟩,⟨t_exc_BadTurn1,t_exc_BadTurn2,t_exc_BadTurn3,t_exc_BadTurn4,t_exc_BadTurn5⟩,⟨t_exc_TooMany1,t_exc_TooMany2,t_exc_TooMany3,t_exc_TooMany4,t_exc_TooMany5⟩,⟨t_exc_TooWide1,t_exc_TooWide2,t_exc_TooWide3,t_exc_TooWide4,t_exc_TooWide5⟩,hd_TooWide,xn_TooWide,t_one_BadTurn_BadTurn,t_one_BadTurn_CrateError,t_one_BadTurn_NoWeighing,t_one_BadTurn_TooMany,t_one_BadTurn_TooWide,t_one_BadTurn_ValueError,t_exo_BadTurn_CrateError,t_exo_BadTurn_TooWide,t_one_TooMany_BadTurn,t_one_TooMany_CrateError,t_one_TooMany_NoWeighing,t_one_TooMany_TooMany,t_one_TooMany_TooWide,t_one_TooMany_ValueError,t_exo_TooMany_CrateError,t_exo_TooMany_TooWide,t_one_TooWide_BadTurn,t_one_TooWide_CrateError,t_one_TooWide_NoWeighing,t_one_TooWide_TooMany,t_one_TooWide_TooWide,t_one_TooWide_ValueError,t_exo_TooWide_CrateError,t_exo_TooWide_TooWide⟩
 refine⟨PySem.W.fnOf "law" "law" (i2 D5) (g8 D5) (a9 D5) .none kV_16 dc_16 pm_16 an_16 cd_16 ct_16,fun s v=>.of_eq rfl,cOf [("BadTurn",c0),("CrateError",c1),("NoWeighing",c2),("TooMany",c3),("TooWide",c4)],fun base _ _=>?_⟩
 have F_0:=r9 (st:=l9) l_0 c_0 k_0
 have B_0:=F_0.binds (ps:=["self","at"]) fun _ _ _ _ _ _ us hl=>match us,hl with | [_,_],_=>rfl
 have OI_TooWide___init__:=W4 (P:=(PySem.Challenge.rw_cratefit_k43_too_many_too_wide).prog) (w:=w) (mg:=mg) (base:=base) (c:=cOf [("BadTurn",c0),("CrateError",c1),("NoWeighing",c2),("TooMany",c3),("TooWide",c4)]) F_0 ⟨xa_TooWide,xm_TooWide,xq_TooWide,hd_TooWide,xn_TooWide⟩
 have XI_TooWide:a7h (PySem.Challenge.rw_cratefit_k43_too_many_too_wide).prog w K mg base 3 "TooWide" ((cL c0 c1 c2 c3 c4) "TooWide") ["self","at"] "at" := ⟨_,_,⟨r8,a_0,beq_iff_eq.mp i_TooWide___init__⟩,OI_TooWide___init__,B_0,PySem.W.mg_of X G m_TooWide⟩
 have F_1:=r9 (st:=w8) l_1 c_1 k_1
 have B_1:=F_1.binds (ps:=["wares","most"]) fun _ _ _ _ _ _ us hl=>match us,hl with | [_,_],_=>rfl
 have O_1:Own (PySem.Challenge.rw_cratefit_k43_too_many_too_wide).prog w K mg base 3 "check_count" ["wares","most"] (g6 K (cL c0 c1 c2 c3 c4) d9):=⟨_,_,a1X F_1 T ,B_1,k_1,PySem.W.mg_of X G a_1⟩
 have F_2:=r9 (st:=C8) l_2 c_2 k_2
 have B_2:=F_2.binds (ps:=["ware","lie"]) fun _ _ _ _ _ _ us hl=>match us,hl with | [_,_],_=>rfl
 have O_2:Own (PySem.Challenge.rw_cratefit_k43_too_many_too_wide).prog w K mg base 3 "sides_of" ["ware","lie"] (g6 K (cL c0 c1 c2 c3 c4) i3):=⟨_,_,a3B F_2 T ,B_2,k_2,PySem.W.mg_of X G a_2⟩
 have F_3:=r9 (st:=E5) l_3 c_3 k_3
 have B_3:=F_3.binds (ps:=["ware"]) fun _ _ _ _ _ _ us hl=>match us,hl with | [_],_=>rfl
 have O_3:Own (PySem.Challenge.rw_cratefit_k43_too_many_too_wide).prog w K mg base 3 "lies_of" ["ware"] (g6 K (cL c0 c1 c2 c3 c4) j6):=⟨_,_,a4W F_3 T ,B_3,k_3,PySem.W.mg_of X G a_3⟩
 have F_4:=r9 (st:=a0g) l_4 c_4 k_4
 have B_4:=F_4.binds (ps:=["box","wares"]) fun _ _ _ _ _ _ us hl=>match us,hl with | [_,_],_=>rfl
 have O_4:Own (PySem.Challenge.rw_cratefit_k43_too_many_too_wide).prog w K mg base 5 "fit" ["box","wares"] (g6 K (cL c0 c1 c2 c3 c4) Q7):=⟨_,_,b08 F_4 T O_1,B_4,k_4,PySem.W.mg_of X G a_4⟩
 have F_5:=r9 (st:=S8) l_5 c_5 k_5
 have B_5:=F_5.binds (ps:=["box","wares"]) fun _ _ _ _ _ _ us hl=>match us,hl with | [_,_],_=>rfl
 have O_5:Own (PySem.Challenge.rw_cratefit_k43_too_many_too_wide).prog w K mg base 7 "fits" ["box","wares"] (g6 K (cL c0 c1 c2 c3 c4) Z5):=⟨_,_,a9G F_5 T O_4,B_5,k_5,PySem.W.mg_of X G a_5⟩
 have F_6:=r9 (st:=t5) l_6 c_6 k_6
 have B_6:=F_6.binds (ps:=["wares"]) fun _ _ _ _ _ _ us hl=>match us,hl with | [_],_=>rfl
 have O_6:Own (PySem.Challenge.rw_cratefit_k43_too_many_too_wide).prog w K mg base 5 "heights_of" ["wares"] (g6 K (cL c0 c1 c2 c3 c4) j7):=⟨_,_,a2s F_6 T O_1 O_3 O_2,B_6,k_6,PySem.W.mg_of X G a_6⟩
 have F_7:=r9 (st:=m7) l_7 c_7 k_7
 have B_7:=F_7.binds (ps:=["width","wares"]) fun _ _ _ _ _ _ us hl=>match us,hl with | [_,_],_=>rfl
 have O_7:Own (PySem.Challenge.rw_cratefit_k43_too_many_too_wide).prog w K mg base 5 "check_width" ["width","wares"] (g6 K (cL c0 c1 c2 c3 c4) t9):=⟨_,_,a1Y F_7 T O_2 O_3 XI_TooWide,B_7,k_7,PySem.W.mg_of X G a_7⟩
 have F_8:=r9 (st:=J0) l_8 c_8 k_8
 have B_8:=F_8.binds (ps:=["width","wares"]) fun _ _ _ _ _ _ us hl=>match us,hl with | [_,_],_=>rfl
 have O_8:Own (PySem.Challenge.rw_cratefit_k43_too_many_too_wide).prog w K mg base 7 "lowest" ["width","wares"] (g6 K (cL c0 c1 c2 c3 c4) B9):=⟨_,_,a57 F_8 T O_1 O_7,B_8,k_8,PySem.W.mg_of X G a_8⟩
 have F_9:=r9 (st:=J1) l_9 c_9 k_9
 have B_9:=F_9.binds (ps:=["_law_script","_law_k"]) fun _ _ _ _ _ _ us hl=>match us,hl with | [_,_],_=>rfl
 have O_9:Own (PySem.Challenge.rw_cratefit_k43_too_many_too_wide).prog w K mg base 3 "_law_cell" ["_law_script","_law_k"] (g6 K (cL c0 c1 c2 c3 c4) k7):=⟨_,_,a59 F_9 T ,B_9,k_9,PySem.W.mg_of X G a_9⟩
 have F_10:=r9 (st:=E6) l_10 c_10 k_10
 have B_10:=F_10.binds (ps:=["_law_found"]) fun _ _ _ _ _ _ us hl=>match us,hl with | [_],_=>rfl
 have O_10:Own (PySem.Challenge.rw_cratefit_k43_too_many_too_wide).prog w K mg base 3 "_law_whole" ["_law_found"] (g6 K (cL c0 c1 c2 c3 c4) C0):=⟨_,_,a4Y F_10 T ,B_10,k_10,PySem.W.mg_of X G a_10⟩
 have F_11:=r9 (st:=N9) l_11 c_11 k_11
 have B_11:=F_11.binds (ps:=["_law_ware"]) fun _ _ _ _ _ _ us hl=>match us,hl with | [_],_=>rfl
 have O_11:Own (PySem.Challenge.rw_cratefit_k43_too_many_too_wide).prog w K mg base 3 "_law_two" ["_law_ware"] (g6 K (cL c0 c1 c2 c3 c4) J3):=⟨_,_,a7m F_11 T ,B_11,k_11,PySem.W.mg_of X G a_11⟩
 have F_12:=r9 (st:=E7) l_12 c_12 k_12
 have B_12:=F_12.binds (ps:=["_law_ware"]) fun _ _ _ _ _ _ us hl=>match us,hl with | [_],_=>rfl
 have O_12:Own (PySem.Challenge.rw_cratefit_k43_too_many_too_wide).prog w K mg base 5 "_law_least" ["_law_ware"] (g6 K (cL c0 c1 c2 c3 c4) u9):=⟨_,_,a40 F_12 T O_11,B_12,k_12,PySem.W.mg_of X G a_12⟩
 have F_13:=r9 (st:=E8) l_13 c_13 k_13
 have B_13:=F_13.binds (ps:=["_law_which","_law_width","_law_wares"]) fun _ _ _ _ _ _ us hl=>match us,hl with | [_,_,_],_=>rfl
 have O_13:Own (PySem.Challenge.rw_cratefit_k43_too_many_too_wide).prog w K mg base 9 "_law_asked" ["_law_which","_law_width","_law_wares"] (g6 K (cL c0 c1 c2 c3 c4) E9):=⟨_,_,a42 F_13 T O_4 O_5 O_6 O_8,B_13,k_13,PySem.W.mg_of X G a_13⟩
 have F_14:=r9 (st:=o9) l_14 c_14 k_14
 have B_14:=F_14.binds (ps:=["_law_which","_law_width","_law_wares"]) fun _ _ _ _ _ _ us hl=>match us,hl with | [_,_,_],_=>rfl
 have O_14:Own (PySem.Challenge.rw_cratefit_k43_too_many_too_wide).prog w K mg base 11 "_law_many_refused" ["_law_which","_law_width","_law_wares"] (g6 K (cL c0 c1 c2 c3 c4) i5):=⟨_,_,a0i F_14 T O_13,B_14,k_14,PySem.W.mg_of X G a_14⟩
 have F_15:=r9 (st:=p6) l_15 c_15 k_15
 have B_15:=F_15.binds (ps:=["_law_width","_law_wares","_law_due"]) fun _ _ _ _ _ _ us hl=>match us,hl with | [_,_,_],_=>rfl
 have O_15:Own (PySem.Challenge.rw_cratefit_k43_too_many_too_wide).prog w K mg base 9 "_law_wide_refused" ["_law_width","_law_wares","_law_due"] (g6 K (cL c0 c1 c2 c3 c4) l6):=⟨_,_,a0j F_15 T O_8 O_10,B_15,k_15,PySem.W.mg_of X G a_15⟩
 have F_16:=r9 (st:=D5) l_16 c_16 k_16
 exact b1k F_16 T O_9 O_12 O_15 O_14 O_6
end Law
namespace Law
open PySem L2 PyProof.Rows
theorem walk{q:Program}{loose:List Str}{XP:(Str→Option Value)→Heap→Prop}{YP:World→Heap→Prop}{d:DefRec}{K:Params→PySem.W.Frag}(hdf:d.params.defaults=[])(hY:∀(w:World) (h:Heap),YP w h→(K w.params).In h)
  (F:∀(w:World) (mg:Str→Option Value) (fa:Addr) (h:Heap),(K w.params).In h→h.Ns mainGlobals mg→mg d.name=some (.ref fa) →
   ∃fd:FuncData,(∀(s:Shared) (u:Value),BindsTo s fd ⟨[u],[]⟩ [("_law_script",u)])∧∃c:Str→Addr,∀base:Heap,(K w.params).In base→base.Ns mainGlobals mg→FnOk (PySem.Challenge.rw_cratefit_k43_too_many_too_wide).prog w (K w.params) mg base (m4 (PySem.Challenge.rw_cratefit_k43_too_many_too_wide).prog w) 13 fa fd ["_law_script"] (a1q (K w.params) c)) :
  PySem.W.WalkO q loose XP YP (PySem.Challenge.rw_cratefit_k43_too_many_too_wide).row.toRowW d [] (fun f vs=>PySem.call f vs):=by
 refine L2.walk_ofB (l:=PySem.Challenge.rw_cratefit_k43_too_many_too_wide) (n:=63) (k:=13) (x := "_law_script") (K:=K) (CX:=fun w=>m4 (PySem.Challenge.rw_cratefit_k43_too_many_too_wide).prog w) (sp:=fun w vs H Q E=>∀c,a1q (K w.params) c vs H Q E) rfl (by decide) hdf ⟨rfl,by decide,by decide⟩ hY (fun w mg fa h KX G hm=>?_) (fun w H a ns h1 h2 h3 h4 c=>⟨a,ns,rfl,.of h4 h3,h2,h1,fun _=>rfl⟩) fun w H s e s' z=>b1q H s e s' z
 obtain⟨fd,hb,c,hF⟩:=F w mg fa h KX G hm
 exact⟨fd,hb,fun base kb nb=>(hF base kb nb).imp fun vs H Q E z=>z c⟩
end Law
local macro_rules|`(#check 0)=>do
 let g:=fun(n:Lean.Name)=>do
  let y:=Lean.mkIdent (.str `PySem.W.Fast s!"tw{n.hash}")
  `(theorem $y:ident : True:=trivial)
 let mut r:=#[←g `PySem.Challenge.pw_cratefit_k43_too_many_too_wide]
 for x in ["view_39","sts_49","sts_64","sts_79","sts_94","sts_109","sts_124","sts_172","sts_210","sts_264","sts_342","heap_39","heap_46","heap_405","tree_47","tree_63","tree_78","tree_93","tree_108","tree_123","tree_171","tree_209","tree_263","tree_341","tree_404","env_41"]++(List.range 362).map (s!"o_{·+43}") do r:=r.push (←g (.str `PySem.Challenge.cw_cratefit_k43_too_many_too_wide_holds x))
 return Lean.mkNullNode r
#check 0
open PySem.W
set_option maxRecDepth 100000 in
set_option maxHeartbeats 0 in
theorem PySem.Challenge.cw_cratefit_k43_too_many_too_wide_holds : PySem.Challenge.rw_cratefit_k43_too_many_too_wide.Holds := by
 w_on;o_law;k_head; (case hw=>w_witness2)
 k_fill
 refine Law.walk rfl (fun w h Y=>PySem.W.km_in_of Y) ?F
 case F =>
  intro w mg fa h KX G hmg
  refine' Law.all_mk KX G hmg ?a_check_count ?l_check_count ?c_check_count ?k_check_count ?a_sides_of ?l_sides_of ?c_sides_of ?k_sides_of ?a_lies_of ?l_lies_of ?c_lies_of ?k_lies_of ?a_fit ?l_fit ?c_fit ?k_fit ?a_fits ?l_fits ?c_fits ?k_fits ?a_heights_of ?l_heights_of ?c_heights_of ?k_heights_of ?a_check_width ?l_check_width ?c_check_width ?k_check_width ?a_lowest ?l_lowest ?c_lowest ?k_lowest ?a_l_cell ?l_l_cell ?c_l_cell ?k_l_cell ?a_l_whole ?l_l_whole ?c_l_whole ?k_l_whole ?a_l_two ?l_l_two ?c_l_two ?k_l_two ?a_l_least ?l_l_least ?c_l_least ?k_l_least ?a_l_asked ?l_l_asked ?c_l_asked ?k_l_asked ?a_l_many_refused ?l_l_many_refused ?c_l_many_refused ?k_l_many_refused ?a_l_wide_refused ?l_l_wide_refused ?c_l_wide_refused ?k_l_wide_refused ?a_law ?l_law ?c_law ?k_law ?a_TooWide___init__ ?i_TooWide___init__ ?l_TooWide___init__ ?c_TooWide___init__ ?k_TooWide___init__ ?z_ValueError ?z_bool ?z_enumerate ?z_int ?z_isinstance ?z_len ?z_list ?z_min ?z_range ?z_set ?z_sorted ?m_BadTurn ?m_CrateError ?m_NoWeighing ?m_TooMany ?m_TooWide ?r8 ?xa_TooWide ?xm_TooWide ?xq_TooWide ?x_BadTurn ?x_TooMany ?g_MOST_WARES ?t_exc_BadTurn1 ?t_exc_BadTurn2 ?t_exc_BadTurn3 ?t_exc_BadTurn4 ?t_exc_BadTurn5 ?t_exc_TooMany1 ?t_exc_TooMany2 ?t_exc_TooMany3 ?t_exc_TooMany4 ?t_exc_TooMany5 ?t_exc_TooWide1 ?t_exc_TooWide2 ?t_exc_TooWide3 ?t_exc_TooWide4 ?t_exc_TooWide5 ?hd_TooWide ?xn_TooWide ?t_one_BadTurn_BadTurn ?t_one_BadTurn_CrateError ?t_one_BadTurn_NoWeighing ?t_one_BadTurn_TooMany ?t_one_BadTurn_TooWide ?t_one_BadTurn_ValueError ?t_exo_BadTurn_CrateError ?t_exo_BadTurn_TooWide ?t_one_TooMany_BadTurn ?t_one_TooMany_CrateError ?t_one_TooMany_NoWeighing ?t_one_TooMany_TooMany ?t_one_TooMany_TooWide ?t_one_TooMany_ValueError ?t_exo_TooMany_CrateError ?t_exo_TooMany_TooWide ?t_one_TooWide_BadTurn ?t_one_TooWide_CrateError ?t_one_TooWide_NoWeighing ?t_one_TooWide_TooMany ?t_one_TooWide_TooWide ?t_one_TooWide_ValueError ?t_exo_TooWide_CrateError ?t_exo_TooWide_TooWide
  (case m_TooWide=>k_is)
  (case a_check_count=>k_is)
  (case l_check_count=>k_is)
  (case c_check_count=>k_is)
  (case k_check_count=>k_is)
  (case a_sides_of=>k_is)
  (case l_sides_of=>k_is)
  (case c_sides_of=>k_is)
  (case k_sides_of=>k_is)
  (case a_lies_of=>k_is)
  (case l_lies_of=>k_is)
  (case c_lies_of=>k_is)
  (case k_lies_of=>k_is)
  (case a_fit=>k_is)
  (case l_fit=>k_is)
  (case c_fit=>k_is)
  (case k_fit=>k_is)
  (case a_fits=>k_is)
  (case l_fits=>k_is)
  (case c_fits=>k_is)
  (case k_fits=>k_is)
  (case a_heights_of=>k_is)
  (case l_heights_of=>k_is)
  (case c_heights_of=>k_is)
  (case k_heights_of=>k_is)
  (case a_check_width=>k_is)
  (case l_check_width=>k_is)
  (case c_check_width=>k_is)
  (case k_check_width=>k_is)
  (case a_lowest=>k_is)
  (case l_lowest=>k_is)
  (case c_lowest=>k_is)
  (case k_lowest=>k_is)
  (case a_l_cell=>k_is)
  (case l_l_cell=>k_is)
  (case c_l_cell=>k_is)
  (case k_l_cell=>k_is)
  (case a_l_whole=>k_is)
  (case l_l_whole=>k_is)
  (case c_l_whole=>k_is)
  (case k_l_whole=>k_is)
  (case a_l_two=>k_is)
  (case l_l_two=>k_is)
  (case c_l_two=>k_is)
  (case k_l_two=>k_is)
  (case a_l_least=>k_is)
  (case l_l_least=>k_is)
  (case c_l_least=>k_is)
  (case k_l_least=>k_is)
  (case a_l_asked=>k_is)
  (case l_l_asked=>k_is)
  (case c_l_asked=>k_is)
  (case k_l_asked=>k_is)
  (case a_l_many_refused=>k_is)
  (case l_l_many_refused=>k_is)
  (case c_l_many_refused=>k_is)
  (case k_l_many_refused=>k_is)
  (case a_l_wide_refused=>k_is)
  (case l_l_wide_refused=>k_is)
  (case c_l_wide_refused=>k_is)
  (case k_l_wide_refused=>k_is)
  (case a_law=>k_is)
  (case l_law=>k_is)
  (case c_law=>k_is)
  (case k_law=>k_is)
  (case a_TooWide___init__=>k_is)
  (case i_TooWide___init__=>k_is)
  (case l_TooWide___init__=>k_is)
  (case c_TooWide___init__=>k_is)
  (case k_TooWide___init__=>k_is)
  (case z_ValueError=>k_is)
  (case z_bool=>k_is)
  (case z_enumerate=>k_is)
  (case z_int=>k_is)
  (case z_isinstance=>k_is)
  (case z_len=>k_is)
  (case z_list=>k_is)
  (case z_min=>k_is)
  (case z_range=>k_is)
  (case z_set=>k_is)
  (case z_sorted=>k_is)
  (case m_BadTurn=>k_is)
  (case m_CrateError=>k_is)
  (case m_NoWeighing=>k_is)
  (case m_TooMany=>k_is)
  (case r8=>kernel_rfl)
  (case xa_TooWide=>k_is)
  (case xm_TooWide=>kernel_rfl)
  (case xq_TooWide=>k_is)
  (case x_BadTurn=>kernel_rfl)
  (case x_TooMany=>kernel_rfl)
  (case g_MOST_WARES=>k_is)
  (case t_exc_BadTurn1=>k_is)
  (case t_exc_BadTurn2=>k_is)
  (case t_exc_BadTurn3=>k_is)
  (case t_exc_BadTurn4=>k_is)
  (case t_exc_BadTurn5=>k_is)
  (case t_exc_TooMany1=>k_is)
  (case t_exc_TooMany2=>k_is)
  (case t_exc_TooMany3=>k_is)
  (case t_exc_TooMany4=>k_is)
  (case t_exc_TooMany5=>k_is)
  (case t_exc_TooWide1=>k_is)
  (case t_exc_TooWide2=>k_is)
  (case t_exc_TooWide3=>k_is)
  (case t_exc_TooWide4=>k_is)
  (case t_exc_TooWide5=>k_is)
  (case hd_TooWide=>k_is)
  (case xn_TooWide=>k_is)
  (case t_one_BadTurn_BadTurn=>kit_is)
  (case t_one_BadTurn_CrateError=>kit_is)
  (case t_one_BadTurn_NoWeighing=>kit_is)
  (case t_one_BadTurn_TooMany=>kit_is)
  (case t_one_BadTurn_TooWide=>kit_is)
  (case t_one_BadTurn_ValueError=>kit_is)
  (case t_exo_BadTurn_CrateError=>kts_exm)
  (case t_exo_BadTurn_TooWide=>kts_exm)
  (case t_one_TooMany_BadTurn=>kit_is)
  (case t_one_TooMany_CrateError=>kit_is)
  (case t_one_TooMany_NoWeighing=>kit_is)
  (case t_one_TooMany_TooMany=>kit_is)
  (case t_one_TooMany_TooWide=>kit_is)
  (case t_one_TooMany_ValueError=>kit_is)
  (case t_exo_TooMany_CrateError=>kts_exm)
  (case t_exo_TooMany_TooWide=>kts_exm)
  (case t_one_TooWide_BadTurn=>kit_is)
  (case t_one_TooWide_CrateError=>kit_is)
  (case t_one_TooWide_NoWeighing=>kit_is)
  (case t_one_TooWide_TooMany=>kit_is)
  (case t_one_TooWide_TooWide=>kit_is)
  (case t_one_TooWide_ValueError=>kit_is)
  (case t_exo_TooWide_CrateError=>kts_exm)
  (case t_exo_TooWide_TooWide=>kts_exm)
