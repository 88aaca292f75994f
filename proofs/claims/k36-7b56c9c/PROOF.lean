import PyProof.Rows.All
import Wide.All
import OpenK.AllK
import Wide.FinOn
import Lean
import PyProof.EqAt
import PyProof.EqKinds
import PyProof.TupleCall
import KE.KLam
import KE.KSortKey
import PyProof.ListRange
import PyProof.CollectIter
import PyProof.Rows.RuleB_bool
import PySem.Challenge.RW_cratefit_k36_led_by_a_paper
set_option Elab.async false
set_option linter.all false
set_option maxRecDepth 100000
set_option hygiene false
namespace L2
open PySem PySem.Spec PyProof.Rows
abbrev u7:=Sum Int Str
def a5T:u7→Value→Bool
 | .inl k,v=>Value.isInt k v
 | .inr x,v=>Value.isStrOf x v
def a9T(w:World):u7→Int
 | .inl k=>hashInt k
 | .inr x=>hashStr w x
theorem y3:∀{k:u7} {v:Value},a5T k v=true→(∃i t,k=Sum.inl i∧v=Value.int i t)∨(∃x t,k=Sum.inr x∧v=Value.str x t)
 | .inl i,v,h=>by
  obtain⟨t,e⟩:=Value.isInt_shape (k:=i) (v:=v) h
  exact .inl ⟨i,t,rfl,e⟩
 | .inr x,v,h=>by
  obtain⟨t,e⟩:=Value.isStrOf_shape (x:=x) (v:=v) h
  exact .inr ⟨x,t,rfl,e⟩
theorem a7X(a b:Int):decide ((Sum.inl a:u7)=Sum.inl b)=(a == b):=by
 by_cases e:a=b
 ·subst e;simp
 ·have h:¬(Sum.inl a:u7)=Sum.inl b:=fun q=>e (Sum.inl.inj q)
  rw[decide_eq_false h]
  exact(beq_eq_false_iff_ne.mpr e).symm
theorem a7Y(a b:Str):decide ((Sum.inr a:u7)=Sum.inr b)=decide (a=b):=by
 by_cases e:a=b
 ·subst e;simp
 ·have h:¬(Sum.inr a:u7)=Sum.inr b:=fun q=>e (Sum.inr.inj q)
  rw[decide_eq_false h,decide_eq_false e]
theorem a7Z(a:Int)(b:Str):decide ((Sum.inl a:u7)=Sum.inr b)=false:=decide_eq_false (fun q=>nomatch q)
theorem a70(a:Str)(b:Int):decide ((Sum.inr a:u7)=Sum.inl b)=false:=decide_eq_false (fun q=>nomatch q)
def a2L(prog:Program)(w:World):PySem.KeyKind prog w u7 where
 is:=a5T
 hash:=a9T w
 inj:=fun v a b ha hb=>by
  rcases y3 ha with⟨i,t,rfl,rfl⟩ | ⟨x,t,rfl,rfl⟩
  ·rcases y3 hb with⟨j,u,rfl,e⟩ | ⟨y,u,rfl,e⟩
   ·injection e with e1 _;rw[e1]
   ·exact nomatch e
  ·rcases y3 hb with⟨j,u,rfl,e⟩ | ⟨y,u,rfl,e⟩
   ·exact nomatch e
   ·injection e with e1 _;rw[e1]
 byValue:=fun k v h=>by
  rcases y3 h with⟨i,t,rfl,rfl⟩ | ⟨x,t,rfl,rfl⟩<;>rfl
 pyHash:=fun hv h=>by
  rcases y3 hv with⟨i,t,rfl,rfl⟩ | ⟨x,t,rfl,rfl⟩
  ·exact wpAny_pyHash_int h
  ·exact wpAny_pyHash_str h
 eqBool:=fun hu hv h=>by
  rcases y3 hu with⟨i,t,rfl,rfl⟩ | ⟨x,t,rfl,rfl⟩
  ·rcases y3 hv with⟨j,u,rfl,rfl⟩ | ⟨y,u,rfl,rfl⟩
   ·rw[a7X]at h;exact wpAny_eqBool_int h
   ·rw[a7Z]at h;exact SeqAt.EqAt.int_str i t y u _ _ _ _ h
  ·rcases y3 hv with⟨j,u,rfl,rfl⟩ | ⟨y,u,rfl,rfl⟩
   ·rw[a70]at h;exact SeqAt.EqAt.str_int x t j u _ _ _ _ h
   ·rw[a7Y]at h;exact wpAny_eqBool_str h
 «strs» := fun k x t v h=>by
  rcases y3 h with⟨i,u,rfl,e⟩ | ⟨y,u,rfl,e⟩
  ·exact nomatch e
  ·injection e with e1 _
   subst e1
   cases v<;>rfl
inductive V where
 | non | bl (b:Bool) | int (i:Int) | str (x:Str) | byt (b:Array UInt8) | flt (b:UInt64) | ref (a:Addr) | ty (n:String)
 deriving DecidableEq
def RelV:V→Value→Prop
 | .non,u=>u=Value.none
 | .bl b,u=>u=Value.bool b
 | .int i,u=>∃t,u=Value.int i t
 | .str x,u=>∃t,u=Value.str x t
 | .byt b,u=>∃t,u=Value.bytes b t
 | .flt b,u=>∃t,u=Value.float b t
 | .ref a,u=>u=Value.ref a
 | .ty n,u=>u=Value.type n
abbrev Vals:List V→List Value→Prop:=Paired RelV
theorem Vals.length{xs:List V}{us:List Value}(r:Vals xs us):xs.length=us.length:=Paired.length r
theorem Vals.get:∀{xs:List V} {us:List Value} {i:Nat} {x:V},Vals xs us→xs[i]? = some x→∃u,us[i]? = some u∧RelV x u
 | _,_,_,_,.nil,e=>by simp at e
 | _,_,0,_,.cons r _,e=>by simp at e;subst e;exact⟨_,rfl,r⟩
 | _,_,i+1,x,.cons _ t,e=>by
  obtain⟨u,h1,h2⟩:=Vals.get (i:=i) (x:=x) t (by simpa using e)
  exact⟨u,by simpa using h1,h2⟩
theorem Vals.set{x:V}{u:Value}(r:RelV x u):∀{xs:List V} {us:List Value} (i:Nat),Vals xs us→Vals (xs.set i x) (us.set i u)
 | _,_,_,.nil=>.nil
 | _,_,0,.cons _ t=>.cons r t
 | _,_,i+1,.cons q t=>.cons q (Vals.set r i t)
theorem Vals.append:∀{xs ys:List V} {us ws:List Value},Vals xs us→Vals ys ws→Vals (xs++ys) (us++ws)
 | _,_,_,_,.nil,s=>s
 | _,_,_,_,.cons r t,s=>.cons r (Vals.append t s)
theorem Vals.take:∀{xs:List V} {us:List Value} (n:Nat),Vals xs us→Vals (xs.take n) (us.take n)
 | _,_,0,_=>.nil
 | _,_,_+1,.nil=>.nil
 | _,_,n+1,.cons r t=>.cons r (Vals.take n t)
theorem Vals.drop:∀{xs:List V} {us:List Value} (n:Nat),Vals xs us→Vals (xs.drop n) (us.drop n)
 | _,_,0,r=>r
 | _,_,_+1,.nil=>.nil
 | _,_,n+1,.cons _ t=>Vals.drop n t
def RelO:Option V→Option Value→Prop
 | some v,some u=>RelV v u
 | none,none=>True
 | _,_=>False
def KV{κ:Type}:List (κ×V)→List (κ×Value)→Prop:=Paired fun(p:κ×V) (q:κ×Value)=>p.1=q.1∧RelV p.2 q.2
def kV:u7→V
 | .inl i=>.int i
 | .inr x=>.str x
inductive HO where
 /-- a list -/
 | lst (xs:List V)
 /-- a tuple (never changes) -/
 | tup (xs:List V)
 /-- a dict whose keys are ints and texts; one whose keys are tuples of ints and texts (the empty one is both) -/
 | dK (kvs:List (u7×V)) | dT (kvs:List (List u7×V))
 /-- a set of ints: its members, its size -/
 | set (S:Int→Bool) (n:Nat)
 /-- an instance of the class at C, its dict at dx, its attributes -/
 | ins (C dx:Addr) (fs:List (Str×V))
 /-- the dict of the instance at x -/
 | own (x:Addr)
 /-- the dict of an exception -/
 | xd (fs:List (Str×V))
 /-- a bound method, f of x -/
 | met (f x:Addr)
 /-- a range object lo, lo + 1, .. below hi -/
 | rng (lo hi:Int)
 /-- a thing that is known to the object (the script; a dict while a loop walks it): read, never written while it is so -/
 | frz (o:Obj) (u:HO)
 /-- a code object's table -/
 | tbl (ps:Array Value)
 /-- any other thing, by what is true of its one object (a def of one's own: SetO a S n := HO.ext fun h => ..) -/
 | ext (φ:Heap→Prop)
abbrev Hp:=Addr→Option HO
def upd(H:Hp)(a:Addr)(o:HO):Hp:=fun b=>if b=a then some o else H b
theorem g9{H:Hp}{a:Addr}{o:HO}:upd H a o a=some o:=by unfold upd;rw[if_pos rfl]
theorem b9{H:Hp}{a b:Addr}{o:HO}(h:b≠a):upd H a o b=H b:=by unfold upd;rw[if_neg h]
theorem a8_{H:Hp}{a b:Addr}{o u:HO}(h:H a=some o)(h':H b=some u)(d:o≠u):a≠b:=by
 intro e;subst e;rw[h]at h';exact d (Option.some.inj h')
theorem i9{H:Hp}{a b:Addr}{o:HO}(h:H a=some o)(h':H b=none):a≠b:=by
 intro e;subst e;rw[h]at h';cases h'
section
variable (P:Program)(w:World)
def ObjOk(H:Hp)(h:Heap)(a:Addr):HO→Prop
 | .lst xs=>xs.length≤sizeLine∧∃(its:List Value) (n:Nat),Vals xs its∧h.get? a=some { cls:=.type "list",data:=.seq its.toArray n }
 | .tup xs=>xs.length≤sizeLine∧∃its:List Value,Vals xs its∧IsTup h a its.toArray
 | .dK kvs=>kvs.length≤sizeLine∧(a == sysModules)=false∧∃vs,KV kvs vs∧h.DictOf (a2L P w) a vs
 | .dT kvs=>kvs.length≤sizeLine∧(a == sysModules)=false∧∃xs:List (List u7×Addr×Value),
   Paired (fun(p:List u7×V) (q:List u7×Addr×Value)=>p.1=q.1∧H q.2.1=some (.tup (p.1.map kV))∧RelV p.2 q.2.2) kvs xs ∧
   ∃o es ep,h.get? a=some o∧o.ExactDict∧o.data=.dict es ep∧es.toList=xs.map (entryOfKey (tupleKind (a2L P w)))∧(xs.map (·.1)).Nodup
 | .set S n=>h.SetOf (intKind P w) a S n
 | .ins C dx fs=>H dx=some (.own a)∧fs.length≤1000∧dx≠a∧h.get? a=some (W.instObj C dx) ∧
   ∃mA,h.Ns1 dx mA∧(∀f,RelO (fs.lookup f) (mA f))∧PySem.Within mA (fs.map (·.1))
 | .own _=>∃o,h.get? a=some o
 | .xd fs=>∃mA,h.Ns1 a mA∧∀f,RelO (fs.lookup f) (mA f)
 | .rng lo hi=>∃t u v,h.get? a=some { cls:=.type "range",data:=.fields #[.int lo t,.int hi u,.int 1 v] }
 | .frz o u=>h.get? a=some o∧ObjOk H h a u
 | .tbl qs=>∃ps:Array Value,h.get? a=some { cls:=.none,data:=.fields ps }∧TriplesOk ps.toList∧∀pos cv,codeAmong pos ps.toList=some cv→∃c oc u,cv=Value.ref c∧H c=some (.frz oc u)∧∃vs q t t2,oc.data=.fields vs∧vs[1]? = some (Value.str q t2)∧qs[0]? = some (Value.str q t)
 | .met f x=>h.get? a=some (W.methodObj (.ref f) (.ref x))
 | .ext φ=>φ h∧(∃o,h.get? a=some o)∧∀h1 h2:Heap,φ h1→(∀o,h1.get? a=some o→h2.get? a=some o)→φ h2
def HOk(H:Hp)(h:Heap):Prop:=∀a o,H a=some o→ObjOk P w H h a o
end
section
variable {P:Program}{w:World}{H H':Hp}{h h':Heap}{a:Addr}{o:HO}
theorem ObjOk.lt(x:ObjOk P w H h a o):a<h.objs.size:=by
 cases o with
 | lst xs=>obtain⟨_,_,_,_,e⟩:=x;exact Heap.lt_size e
 | tup xs=>obtain⟨_,_,_,p⟩:=x;exact p.lt
 | dK kvs=>obtain⟨_,_,_,_,o,_,_,e,_⟩:=x;exact Heap.lt_size e
 | dT kvs=>obtain⟨_,_,_,_,o,_,_,e,_⟩:=x;exact Heap.lt_size e
 | set S n=>obtain⟨o,_,_,_,e,_⟩:=x;exact Heap.lt_size e
 | ins C dx fs=>obtain⟨_,_,_,e,_⟩:=x;exact Heap.lt_size e
 | own y=>obtain⟨_,e⟩:=x;exact Heap.lt_size e
 | xd fs=>obtain⟨_,⟨_,_,_,e,_⟩,_⟩:=x;exact Heap.lt_size e
 | rng lo hi=>obtain⟨_,_,_,e⟩:=x;exact Heap.lt_size e
 | frz ob u=>obtain⟨e,_⟩:=x;exact Heap.lt_size e
 | tbl ps=>obtain⟨_,e,_⟩:=x;exact Heap.lt_size e
 | met f y=>exact Heap.lt_size (show h.get? a=some _ from x)
 | ext φ=>obtain⟨_,⟨_,e⟩,_⟩:=x;exact Heap.lt_size e
theorem Paired.mapP{α β:Type}{F G:α→β→Prop}:∀{l₁:List α} {l₂:List β},Paired F l₁ l₂→(∀a b,F a b→G a b)→Paired G l₁ l₂
 | _,_,.nil,_=>.nil
 | _,_,.cons r t,f=>.cons (f _ _ r) (Paired.mapP t f)
theorem ObjOk.stay(x:ObjOk P w H h a o)(k:∀b u,(b=a∨H b=some (.own a))→h.get? b=some u→h'.get? b=some u)
  (ho:∀b,H b=some (.own a)→H' b=some (.own a)) (ht:∀b xs,H b=some (.tup xs)→H' b=some (.tup xs)) (hz:∀b ob u,H b=some (.frz ob u)→H' b=some (.frz ob u)):ObjOk P w H' h' a o:=by
 induction o with
 | lst xs=>obtain⟨z,its,n,r,e⟩:=x;exact⟨z,its,n,r,k _ _ (.inl rfl) e⟩
 | tup xs=>obtain⟨z,its,r,ob,e,c⟩:=x;exact⟨z,its,r,ob,k _ _ (.inl rfl) e,c⟩
 | dK kvs=>obtain⟨z,y,vs,r,ob,es,ep,e,c⟩:=x;exact⟨z,y,vs,r,ob,es,ep,k _ _ (.inl rfl) e,c⟩
 | dT kvs =>
  obtain⟨z,y,xs,r,ob,es,ep,e,c⟩:=x
  exact⟨z,y,xs,Paired.mapP r fun p q z=>⟨z.1,ht _ _ z.2.1,z.2.2⟩,ob,es,ep,k _ _ (.inl rfl) e,c⟩
 | set S n=>obtain⟨ob,es,ep,t,e,c⟩:=x;exact⟨ob,es,ep,t,k _ _ (.inl rfl) e,c⟩
 | ins C dx fs =>
  obtain⟨d,z,ne,e,mA,⟨od,es,ep,e2,c⟩,r⟩:=x
  exact⟨ho _ d,z,ne,k _ _ (.inl rfl) e,mA,⟨od,es,ep,k _ _ (.inr d) e2,c⟩,r⟩
 | own y=>obtain⟨ob,e⟩:=x;exact⟨ob,k _ _ (.inl rfl) e⟩
 | xd fs=>obtain⟨mA,⟨od,es,ep,e,c⟩,r⟩:=x;exact⟨mA,⟨od,es,ep,k _ _ (.inl rfl) e,c⟩,r⟩
 | rng lo hi=>obtain⟨t,u,v,e⟩:=x;exact⟨t,u,v,k _ _ (.inl rfl) e⟩
 | frz ob u ih=>obtain⟨e,q⟩:=x;exact⟨k _ _ (.inl rfl) e,ih q⟩
 | tbl qs =>
  obtain⟨ps,e,tr,al⟩:=x
  refine⟨ps,k a _ (.inl rfl) e,tr,fun pos cv q=>?_⟩
  obtain⟨c,oc,u,e1,e3,r⟩:=al pos cv q
  exact⟨c,oc,u,e1,hz _ _ _ e3,r⟩
 | met f y =>
  have e:h.get? a=some (W.methodObj (.ref f) (.ref y)):=x
  show h'.get? a=some (W.methodObj (.ref f) (.ref y))
  exact k a _ (.inl rfl) e
 | ext φ=>obtain⟨p,⟨o,e⟩,st⟩:=x;exact⟨st _ _ p fun o q=>k _ _ (.inl rfl) q,⟨o,k _ _ (.inl rfl) e⟩,st⟩
theorem HOk.lt(x:HOk P w H h)(e:H a=some o):a<h.objs.size:=(x a o e).lt
theorem HOk.fresh(x:HOk P w H h)(e:h.objs.size≤a):H a=none:=by
 cases q:H a with
 | none=>rfl
 | some u=>exact absurd (Nat.lt_of_lt_of_le (x.lt q) e) (Nat.lt_irrefl _)
theorem HOk.kept(x:HOk P w H h)(k:∀b u,h.get? b=some u→h'.get? b=some u):HOk P w H h':=fun a o e =>
 (x a o e).stay (fun b u _ q=>k b u q) (fun _ q=>q) (fun _ _ q=>q) fun _ _ _ q=>q
theorem HOk.laid(x:HOk P w H h)(k:∀b u,h.get? b=some u→h'.get? b=some u)(hp:h.objs.size≤a)(new:ObjOk P w (upd H a o) h' a o):HOk P w (upd H a o) h':=fun b u e=>by
 have hn:=x.fresh hp
 by_cases hb:b=a
 ·subst hb;rw[g9]at e;cases e;exact new
 ·rw[b9 hb]at e
  exact(x b u e).stay (fun c v _ q=>k c v q) (fun c q=>by rw[b9 (i9 q hn)];exact q) (fun c xs q=>by rw[b9 (i9 q hn)];exact q) fun c ob u q=>by rw[b9 (i9 q hn)];exact q
end
def Rd(H:Hp)(a:Addr)(u:HO):Prop:=H a=some u∨∃o,H a=some (.frz o u)
theorem Rd.of{H:Hp}{a:Addr}{u:HO}(h:H a=some u):Rd H a u:=.inl h
theorem Rd.ok{P:Program}{w:World}{H:Hp}{h:Heap}{a:Addr}{u:HO}(r:Rd H a u)(x:HOk P w H h):ObjOk P w H h a u:=by
 rcases r with r | ⟨o,r⟩
 ·exact x a u r
 ·obtain⟨_,q⟩:=x a _ r
  exact q
def Mut:Option HO→Prop
 | some (.lst _)=>True
 | some (.dK _)=>True
 | some (.dT _)=>True
 | some (.set _ _)=>True
 | some (.ins _ _ _)=>True
 | some (.ext _)=>True
 | _=>False
section
variable {P:Program}{w:World}{H:Hp}{h h':Heap}{x e:Addr}{o':HO}
theorem HOk.write(ok:HOk P w H h)(mu:Mut (H x))(he:e=x∨H e=some (.own x))(k:∀b u,b≠e→h.get? b=some u→h'.get? b=some u)(heo:∃u,h'.get? e=some u)
  (new:ObjOk P w (upd H x o') h' x o'):HOk P w (upd H x o') h':=fun b u q=>by
 have nown:∀c y,H c=some (.own y)→c≠x:=fun c y r z=>by subst z;rw[r]at mu;exact mu
 have ntup:∀c xs,H c=some (.tup xs)→c≠x:=fun c xs r z=>by subst z;rw[r]at mu;exact mu
 by_cases hb:b=x
 ·subst hb;rw[g9]at q;cases q;exact new
 ·rw[b9 hb]at q
  by_cases hbe:b=e
  ·have q':H b=some (.own x):=by
    rcases he with z | z
    ·exact absurd (hbe.trans z) hb
    ·rw[hbe];exact z
   rw[q]at q';cases q'
   obtain⟨v,hv⟩:=heo
   exact⟨v,by rw[hbe];exact hv⟩
  ·refine(ok b u q).stay (fun c v hc r=>k c v ?_ r) (fun c r=>by rw[b9 (nown c b r)];exact r) (fun c xs r=>by rw[b9 (ntup c xs r)];exact r) fun c ob u r=>by rw[b9 (fun z=>by subst z;rw[r]at mu;exact mu)];exact r
   rcases hc with rfl | hc
   ·exact hbe
   ·rintro rfl
    rcases he with z | z
    ·exact nown c b hc z
    ·rw[hc]at z;cases z;exact hb rfl
end
structure Un(fs ex:List Addr)(H H':Hp)(h h':Heap):Prop where
 keep:∀b o,h.get? b=some o→H b=none→b ∉ fs→b ∉ ex→h'.get? b=some o
 slot:∀b o,h.get? b=some o→H b=none→b∈fs→b ∉ ex→∃sl,h'.get? b=some { o with slots:=sl }
 free:∀b o,h.get? b=some o→H b=none→b ∉ ex→H' b=none
 there:∀b o,h.get? b=some o→b ∉ ex→∃o',h'.get? b=some o'
 tups:∀b xs,H b=some (.tup xs)→H' b=some (.tup xs)
 frzs:∀b o u,H b=some (.frz o u)→H' b=some (.frz o u)
 tbls:∀b ps,H b=some (.tbl ps)→∃more,H' b=some (.tbl (ps++more))
section
variable {fs fs' ex ex':List Addr}{H H1 H2:Hp}{h h1 h2 h':Heap}{a x e:Addr}{o:HO}
theorem Un.any(u:Un fs ex H H1 h h1){b:Addr}{ob:Obj}(q:h.get? b=some ob)(n:H b=none)(hx:b ∉ ex):∃sl,h1.get? b=some { ob with slots:=sl }:=by
 by_cases hb:b∈fs
 ·exact u.slot b ob q n hb hx
 ·exact⟨ob.slots,u.keep b ob q n hb hx⟩
theorem Un.trans(a:Un fs ex H H1 h h1)(b:Un fs ex H1 H2 h1 h2):Un fs ex H H2 h h2 where
 keep:=fun c ob q n hc hx=>b.keep c ob (a.keep c ob q n hc hx) (a.free c ob q n hx) hc hx
 slot:=fun c ob q n hc hx=>by
  obtain⟨sl,e1⟩:=a.slot c ob q n hc hx
  obtain⟨sl',e2⟩:=b.slot c _ e1 (a.free c ob q n hx) hc hx
  exact⟨sl',e2⟩
 free:=fun c ob q n hx=>by
  obtain⟨o',e1⟩:=a.there c ob q hx
  exact b.free c o' e1 (a.free c ob q n hx) hx
 there:=fun c ob q hx=>by
  obtain⟨o',e1⟩:=a.there c ob q hx
  exact b.there c o' e1 hx
 tups:=fun c xs q=>b.tups c xs (a.tups c xs q)
 frzs:=fun c ob xs q=>b.frzs c ob xs (a.frzs c ob xs q)
 tbls:=fun c ps q=>by
  obtain⟨m1,e1⟩:=a.tbls c ps q
  obtain⟨m2,e2⟩:=b.tbls c _ e1
  exact⟨m1++m2,by rw[e2,Array.append_assoc]⟩
theorem Un.kept(k:∀b u,h.get? b=some u→h'.get? b=some u):Un fs ex H H h h' :=
 ⟨fun b ob q _ _ _=>k b ob q,fun b ob q _ _ _=>⟨ob.slots,k b ob q⟩,fun _ _ _ n _=>n,fun b ob q _=>⟨ob,k b ob q⟩,fun _ _ q=>q,fun _ _ _ q=>q,fun _ ps q=>⟨#[],by rw[q];simp⟩⟩
theorem Un.refl:Un fs ex H H h h:=Un.kept fun _ _ q=>q
theorem Un.laid(k:∀b u,h.get? b=some u→h'.get? b=some u)(hp:h.objs.size≤a)(hn:H a=none):Un fs ex H (upd H a o) h h' where
 keep:=fun b u q _ _ _=>k b u q
 slot:=fun b u q _ _ _=>⟨u.slots,k b u q⟩
 free:=fun b u q n _=>by rw[b9 (Nat.ne_of_lt (Nat.lt_of_lt_of_le (Heap.lt_size q) hp))];exact n
 there:=fun b u q _=>⟨u,k b u q⟩
 tups:=fun b xs q=>by rw[b9 (i9 q hn)];exact q
 frzs:=fun b u xs q=>by rw[b9 (i9 q hn)];exact q
 tbls:=fun b ps q=>⟨#[],by rw[b9 (i9 q hn),q];simp⟩
theorem Un.write(mu:Mut (H x))(he:e=x∨H e=some (.own x))(k:∀b u,b≠e→h.get? b=some u→h'.get? b=some u)(heo:∃u,h'.get? e=some u):Un fs ex H (upd H x o) h h':=by
 have hx:∀b,H b=none→b≠x:=fun b n z=>by subst z;rw[n]at mu;exact mu
 have hb:∀b,H b=none→b≠e:=fun b n z=>by
  subst z
  rcases he with r | r
  ·exact hx b n r
  ·rw[n]at r;cases r
 have hm:∀b u,H b=some u→¬Mut (some u)→b≠x:=fun b u q nm z=>by subst z;rw[q]at mu;exact nm mu
 refine⟨fun b u q n _ _=>k b u (hb b n) q,fun b u q n _ _=>⟨u.slots,k b u (hb b n) q⟩,fun b u q n _=>by rw[b9 (hx b n)];exact n,fun b u q _=>?_,
  fun b xs q=>by rw[b9 (hm b _ q fun z=>z)];exact q,fun b u xs q=>by rw[b9 (hm b _ q fun z=>z)];exact q,fun b ps q=>⟨#[],by rw[b9 (hm b _ q fun z=>z),q];simp⟩⟩
 by_cases hbe:b=e
 ·subst hbe;exact heo
 ·exact⟨u,k b u hbe q⟩
theorem Un.mono(u:Un fs ex H H1 h h1)(hs:∀b∈fs,b∈fs')(hx:∀b∈ex,b∈ex'):Un fs' ex' H H1 h h1 :=
 ⟨fun b ob q n hb he=>u.keep b ob q n (fun z=>hb (hs b z)) fun z=>he (hx b z),fun _ _ q n _ he=>u.any q n fun z=>he (hx _ z),fun b ob q n he=>u.free b ob q n fun z=>he (hx b z),fun b ob q he=>u.there b ob q fun z=>he (hx b z),u.tups,u.frzs,u.tbls⟩
end
def trk(h:Heap)(H:Hp):List Addr:=(List.range h.objs.size).filter fun a=>(H a).isSome
def U4(h:Heap)(H:Hp):Heap:=W.hideAll h (trk h H)
theorem a3T(h:Heap)(H:Hp):(U4 h H).objs.size=h.objs.size:=W.hideAll_size _ _
theorem a4S{h:Heap}{H:Hp}{b:Addr}{o:Obj}(e:h.get? b=some o)(n:H b=none):(U4 h H).get? b=some o :=
 W.hideAll_get _ e fun hm=>by
  have q:(H b).isSome=true:=(List.mem_filter.mp hm).2
  rw[n]at q;simp at q
theorem a6w{h:Heap}{H:Hp}{b:Addr}{o:Obj}(e:(U4 h H).get? b=some o):h.get? b=some o∧H b=none:=by
 have e':h.get? b=some o:=W.of_hideAll (trk h H) e
 refine⟨e',?_⟩
 cases q:H b with
 | none=>rfl
 | some x =>
  have hm:b∈trk h H:=List.mem_filter.mpr ⟨List.mem_range.mpr (Heap.lt_size e'),by simp[q]⟩
  have z:(U4 h H).get? b=none:=W.hideAll_none (trk h H) hm
  rw[z]at e;cases e
def a6x(g h:Heap)(L:Addr):List (Addr×Obj):=(List.range h.objs.size).filterMap fun a=>if a=L∨(g.get? a).isSome=true then none else(h.get? a).map fun o=>(a,o)
def h9(g h:Heap)(L d:Addr):List (Addr×Obj):=(a6x g h L).filter fun p=>decide (p.1≠d)
structure Mod(K:W.Frag)(mg:Str→Option Value)(base:Heap):Prop where
 kin:K.In base
 glob:base.Ns mainGlobals mg
 blt:∃mb,base.Ns builtinsNs mb∧∀x:Str,x≠"__name__"→mb x=bootBuiltins x
 nolimit:base.NoLimit
structure Cx where
 prog:Program
 w:World
 K:W.Frag
 mg:Str→Option Value
 base:Heap
 A:Around
 N:List Str
 s₀:Shared
 H₀:Hp
 env:Env
 outer:List Env
 stack:List Env
 ex:List Addr
 fn:Str→Bool
 calm:Bool
 pn:List (Addr×Obj)
 xe:Value→Shared→Prop
def B3(l:List Env):List Addr:=l.filterMap (·.frame)
abbrev Cx.fs(X:Cx):List Addr:=B3 X.outer
def Vis(sc:Scope)(x:Str):Prop:=sc.names.lookup x=some .local∨sc.names.lookup x=some .cell∨sc.names.lookup x=some .free
def Loc(sc:Scope)(x:Str):Prop:=sc.names.lookup x=some .local∨sc.names.lookup x=some .cell
def a9U(env:Env)(h:Heap)(m:Str→Option Value)(x:Str)(u:Value):Prop :=
 (env.kindOf x=some .local∧m x=some u)∨((env.kindOf x=some .cell∨env.kindOf x=some .free)∧∃c,env.cells.lookup x=some c∧h.IsCell c (some u))
structure Cx.Ok(X:Cx):Prop where
 mod:Mod X.K X.mg X.base
 kind:X.env.scope.kind=.function
 glob:X.env.globals=mainGlobals
 blt:X.env.builtins=builtinsNs
 above:X.s₀.heap.objs.size≤X.env.locals
 inj:∀x y c,X.env.cells.lookup x=some c→X.env.cells.lookup y=some c→x=y
 has:∀x,(X.env.kindOf x=some .cell∨X.env.kindOf x=some .free)→∃c,X.env.cells.lookup x=some c
 cab:∀x c,X.fn x=true→X.env.cells.lookup x=some c→X.s₀.heap.objs.size≤c
 hd:X.calm=true→X.A.handled=none
 frames:X.A.frames=some X.stack
 stk:X.stack=X.outer∨(X.stack=X.env::X.outer∧X.env.frame=some X.env.locals)
 exf:∀b∈X.ex,b≠X.env.locals∧∀x c,X.env.cells.lookup x=some c→c≠b
 bs:∀b o,X.base.get? b=some o→X.s₀.heap.get? b=some o∧X.H₀ b=none
 bsz:X.base.objs.size≤X.s₀.heap.objs.size
 noex:∀b o,X.base.get? b=some o→b ∉ X.ex
 exfs:∀b∈X.ex,b ∉ X.fs
 funs:X.s₀.heap.FunFrames X.base X.outer
 frf:∀b∈X.fs,X.H₀ b=none
structure Inv(X:Cx)(pins:List (Addr×Obj))(σ:List (Option V))(H:Hp)(s:Shared):Prop where
 ok:X.Ok
 os:s.os=X.s₀.os
 bare:AllBare s.gens
 base:Un X.fs X.ex X.H₀ H X.s₀.heap s.heap
 loc:∃m,s.heap.Ns X.env.locals m∧∀(i:Nat) (x:Str) (v:V),X.N[i]? = some x→σ[i]? = some (some v)→Vis X.env.scope x→∃u,RelV v u∧a9U X.env s.heap m x u
 cell:∀x c,X.env.cells.lookup x=some c→∃v,s.heap.IsCell c v
 free:H X.env.locals=none
 freeC:∀x c,X.env.cells.lookup x=some c→H c=none
 pin:∀p∈X.pn++pins,s.heap.get? p.1=some p.2∧H p.1=none∧p.1≠X.env.locals∧p.1 ∉ X.fs∧∀v,p.2.data≠.cell v
 hok:HOk X.prog X.w H s.heap
 len:σ.length=X.N.length
section
variable {X:Cx}{pins:List (Addr×Obj)}{σ:List (Option V)}{H H':Hp}{s:Shared}{h':Heap}
theorem Cx.Ok.nofr(ok:X.Ok){b:Addr}{o:Obj}(e:X.base.get? b=some o):b ∉ X.fs:=fun hb=>by
 have:=(ok.funs.mem hb).1
 rw[e]at this;cases this
theorem Inv.bs(I:Inv X pins σ H s):∀b o,X.base.get? b=some o→s.heap.get? b=some o∧H b=none:=fun b o e =>
 ⟨I.base.keep b o (I.ok.bs b o e).1 (I.ok.bs b o e).2 (I.ok.nofr e) (I.ok.noex b o e),I.base.free b o (I.ok.bs b o e).1 (I.ok.bs b o e).2 (I.ok.noex b o e)⟩
theorem Inv.bk(I:Inv X pins σ H s):∀b o,X.base.get? b=some o→s.heap.get? b=some o:=fun b o e=>(I.bs b o e).1
theorem Inv.mod(I:Inv X pins σ H s):Mod X.K X.mg X.base:=I.ok.mod
theorem Inv.kIn(I:Inv X pins σ H s):X.K.In s.heap:=I.ok.mod.kin.keeps I.bk
theorem Inv.nolimit(I:Inv X pins σ H s):s.heap.NoLimit:=I.ok.mod.nolimit.keeps I.bk
theorem Inv.fr(I:Inv X pins σ H s):∃m,Fr X.base X.env.locals s.heap m :=
 let ⟨m,hn,_⟩:=I.loc
 ⟨m,hn,I.bk,Nat.le_trans I.ok.bsz I.ok.above⟩
theorem Inv.lt(I:Inv X pins σ H s):X.env.locals<s.heap.objs.size:=let ⟨_,hn,_⟩:=I.loc;hn.lt
theorem Inv.sz(I:Inv X pins σ H s):X.s₀.heap.objs.size≤s.heap.objs.size:=Nat.le_trans I.ok.above (Nat.le_of_lt I.lt)
theorem Inv.nofs(I:Inv X pins σ H s){a:Addr}(h:s.heap.objs.size≤a):a ∉ X.fs:=fun hb=>by
 obtain⟨_,o,ho,_⟩:=I.ok.funs.mem hb
 exact absurd (Nat.lt_of_lt_of_le (Heap.lt_size ho) (Nat.le_trans I.sz h)) (Nat.lt_irrefl _)
theorem Inv.cne(I:Inv X pins σ H s):∀x c,X.env.cells.lookup x=some c→c≠X.env.locals:=fun x c e z=>by
 obtain⟨v,o,ho,hd⟩:=I.cell x c e
 obtain⟨m,⟨o',es,ep,ho',hd',_⟩,_⟩:=I.loc
 rw[z,ho']at ho;cases ho;rw[hd']at hd;cases hd
theorem Inv.funs(I:Inv X pins σ H s):s.heap.FunFrames X.base X.outer:=by
 have all:∀(l:List Env),(∀b∈B3 l,b∈X.fs)→X.s₀.heap.FunFrames X.base l→s.heap.FunFrames X.base l:=by
  intro l
  induction l with
  | nil=>intro _ _;trivial
  | cons env r ih =>
   intro hs hl
   obtain⟨hk,⟨L,o,hf,hn,ho,hd⟩,hr⟩:=hl
   have hL:L∈X.fs:=hs L (by unfold B3;rw[List.filterMap_cons,hf];exact List.mem_cons_self)
   obtain⟨sl,e⟩:=I.base.slot L o ho (I.ok.frf L hL) hL fun z=>I.ok.exfs L z hL
   exact⟨hk,⟨L,_,hf,hn,e,hd⟩,ih (fun b hb=>hs b (by unfold B3;rw[List.filterMap_cons,hf];exact List.mem_cons_of_mem _ hb)) hr⟩
 exact all X.outer (fun _ hb=>hb) I.ok.funs
theorem Inv.stack(I:Inv X pins σ H s):s.heap.FunFrames X.base X.stack:=by
 rcases I.ok.stk with e | ⟨e,hf⟩
 ·rw[e];exact I.funs
 ·rw[e]
  obtain⟨m,hn,_⟩:=I.loc
  refine .cons (by rw[I.ok.kind];decide) hf hn ?_ I.funs
  exact Heap.get?_none_of_le (Nat.le_trans I.ok.bsz I.ok.above)
theorem Inv.stkSub(I:Inv X pins σ H s):∀b∈B3 X.stack,b∈X.env.locals::X.fs:=fun b hb=>by
 rcases I.ok.stk with e | ⟨e,hf⟩
 ·rw[e]at hb;exact List.mem_cons_of_mem _ hb
 ·rw[e]at hb
  unfold B3 at hb
  rw[List.filterMap_cons,hf]at hb
  exact hb
theorem Inv.stkFree(I:Inv X pins σ H s):∀b∈B3 X.stack,H b=none:=fun b hb=>by
 rcases List.mem_cons.mp (I.stkSub b hb)with e | hb
 ·rw[e];exact I.free
 ·obtain⟨_,o,ho,_⟩:=I.ok.funs.mem hb
  exact I.base.free b o ho (I.ok.frf b hb) fun z=>I.ok.exfs b z hb
theorem Inv.step{g':Array GenState}{t':Nat}{d':Drawn}{ch:List Addr}(I:Inv X pins σ H s)
  (hch:∀b∈ch,(b∈X.ex∨X.s₀.heap.objs.size≤b)∧b≠X.env.locals∧(∀x c,X.env.cells.lookup x=some c→c≠b)∧∀p∈X.pn++pins,p.1≠b)
  (keep:∀b o,b≠X.env.locals→b ∉ X.fs→b ∉ ch→s.heap.get? b=some o→H b=none→h'.get? b=some o)
  (slot:∀b o,b≠X.env.locals→b∈X.fs→b ∉ ch→s.heap.get? b=some o→H b=none→∃sl,h'.get? b=some { o with slots:=sl }) (free:∀b o,b ∉ ch→s.heap.get? b=some o→H b=none→H' b=none)
  (there:∀b o,b ∉ ch→s.heap.get? b=some o→∃o',h'.get? b=some o')
  (tups:∀b xs,H b=some (.tup xs)→H' b=some (.tup xs)) (frzs:∀b o u,H b=some (.frz o u)→H' b=some (.frz o u)) (tbls:∀b ps,H b=some (.tbl ps)→∃more,H' b=some (.tbl (ps++more)))
  (ns:∀m,s.heap.Ns X.env.locals m→h'.Ns X.env.locals m) (hok:HOk X.prog X.w H' h') (hg:AllBare g') :
  Inv X pins σ H' { s with heap:=h',gens:=g',drawn:=d',toks:=t' }:=by
 have neL:∀b o,X.s₀.heap.get? b=some o→b≠X.env.locals:=fun b o e=>Nat.ne_of_lt (Nat.lt_of_lt_of_le (Heap.lt_size e) I.ok.above)
 have neC:∀b o,X.s₀.heap.get? b=some o→b ∉ X.ex→b ∉ ch:=fun b o e hx hb=>by
  rcases(hch b hb).1 with z | z
  ·exact hx z
  ·exact absurd (Nat.lt_of_lt_of_le (Heap.lt_size e) z) (Nat.lt_irrefl _)
 have cellK:∀x c,X.env.cells.lookup x=some c→∀v,s.heap.IsCell c v→h'.IsCell c v:=fun x c e v ⟨o,ho,hd⟩=>by
  have nch:c ∉ ch:=fun z=>(hch c z).2.2.1 x c e rfl
  by_cases hc:c∈X.fs
  ·obtain⟨sl,q⟩:=slot c o (I.cne x c e) hc nch ho (I.freeC x c e)
   exact⟨_,q,hd⟩
  ·exact⟨o,keep c o (I.cne x c e) hc nch ho (I.freeC x c e),hd⟩
 refine⟨I.ok,I.os,hg,⟨fun b o e n hb hx=>?_,fun b o e n hb hx=>?_,fun b o e n hx=>?_,fun b o e hx=>?_,fun b xs e=>tups b xs (I.base.tups b xs e),fun b o xs e=>frzs b o xs (I.base.frzs b o xs e),fun b ps e=>?_⟩,?_,fun x c e=>?_,?_,fun x c e=>?_,fun p hp=>?_,hok,I.len⟩
 ·exact keep b o (neL b o e) hb (neC b o e hx) (I.base.keep b o e n hb hx) (I.base.free b o e n hx)
 ·obtain⟨sl,e1⟩:=I.base.slot b o e n hb hx
  obtain⟨sl',e2⟩:=slot b _ (neL b o e) hb (neC b o e hx) e1 (I.base.free b o e n hx)
  exact⟨sl',e2⟩
 ·obtain⟨o',e1⟩:=I.base.there b o e hx
  exact free b o' (neC b o e hx) e1 (I.base.free b o e n hx)
 ·obtain⟨o',e1⟩:=I.base.there b o e hx
  exact there b o' (neC b o e hx) e1
 ·obtain⟨m1,e1⟩:=I.base.tbls b ps e
  obtain⟨m2,e2⟩:=tbls b _ e1
  exact⟨m1++m2,by rw[e2,Array.append_assoc]⟩
 ·obtain⟨m,hn,hl⟩:=I.loc
  refine⟨m,ns m hn,fun i x v e1 e2 e3=>?_⟩
  obtain⟨u,r,l⟩:=hl i x v e1 e2 e3
  refine⟨u,r,?_⟩
  rcases l with l | ⟨k,c,e,z⟩
  ·exact .inl l
  ·exact .inr ⟨k,c,e,cellK x c e _ z⟩
 ·obtain⟨v,z⟩:=I.cell x c e
  exact⟨v,cellK x c e v z⟩
 ·obtain⟨m,⟨o,_,_,ho,_⟩,_⟩:=I.loc
  exact free _ o (fun z=>(hch _ z).2.1 rfl) ho I.free
 ·obtain⟨v,o,ho,hd⟩:=I.cell x c e
  exact free c o (fun z=>(hch c z).2.2.1 x c e rfl) ho (I.freeC x c e)
 ·obtain⟨e,n,ne,nf,d⟩:=I.pin p hp
  have nch:p.1 ∉ ch:=fun z=>(hch p.1 z).2.2.2 p hp rfl
  exact⟨keep p.1 p.2 ne nf nch e n,free p.1 p.2 nch e n,ne,nf,d⟩
theorem Inv.un{t':Nat}(I:Inv X pins σ H s)(u:Un X.fs [] H H' s.heap h')(hok:HOk X.prog X.w H' h'):Inv X pins σ H' { s with heap:=h',toks:=t' }:=by
 obtain⟨m,⟨o,es,ep,ho,r⟩,_⟩:=id I.loc
 obtain⟨sl,hL⟩:=u.any ho I.free (by simp)
 exact I.step (g':=s.gens) (d':=s.drawn) (ch:=[]) (fun _ z=>nomatch z) (fun b o _ hb _ e n=>u.keep b o e n hb (by simp)) (fun b o _ hb _ e n=>u.slot b o e n hb (by simp)) (fun b o _ e n=>u.free b o e n (by simp)) (fun b o _ e=>u.there b o e (by simp)) u.tups u.frzs u.tbls (fun m' hm=>by
  obtain⟨o',es',ep',ho',r'⟩:=hm
  rw[ho]at ho';cases ho'
  exact⟨_,es',ep',hL,r'⟩) hok I.bare
theorem Inv.call{g':Array GenState}{t':Nat}{d':Drawn}{ch:List Addr}(I:Inv X pins σ H s)(u:Un (B3 X.stack) ch H H' s.heap h')(hok:HOk X.prog X.w H' h')(hg:AllBare g')
  (hch:∀b∈ch,(b∈X.ex∨X.s₀.heap.objs.size≤b)∧b≠X.env.locals∧(∀x c,X.env.cells.lookup x=some c→c≠b)∧∀p∈X.pn++pins,p.1≠b) :
  Inv X pins σ H' { s with heap:=h',gens:=g',drawn:=d',toks:=t' }:=by
 obtain⟨m,⟨o,es,ep,ho,r⟩,_⟩:=id I.loc
 obtain⟨sl,hL⟩:=u.any ho I.free fun z=>(hch _ z).2.1 rfl
 exact I.step (ch:=ch) hch (fun b o hL hb hc e n=>u.keep b o e n (fun z=>(List.mem_cons.mp (I.stkSub b z)).elim hL hb) hc) (fun b o _ _ hc e n=>u.any e n hc) (fun b o hc e n=>u.free b o e n hc) (fun b o hc e=>u.there b o e hc) u.tups u.frzs u.tbls (fun m' hm=>by
  obtain⟨o',es',ep',ho',r'⟩:=hm
  rw[ho]at ho';cases ho'
  exact⟨_,es',ep',hL,r'⟩) hok hg
theorem Inv.turned{t':Nat}{it:Addr}(I:Inv X pins σ H s)(k:∀b o,b≠it→s.heap.get? b=some o→h'.get? b=some o)(hn:H it=none)(hL:it≠X.env.locals)
  (h1:it∈X.ex∨X.s₀.heap.objs.size≤it) (h2:∀x c,X.env.cells.lookup x=some c→c≠it) (h3:∀p∈X.pn++pins,p.1≠it):Inv X pins σ H { s with heap:=h',toks:=t' }:=by
 have nit:∀b u,H b=some u→b≠it:=fun b u e z=>by rw[z,hn]at e;cases e
 refine I.step (g':=s.gens) (d':=s.drawn) (ch:=[it]) (fun b hb=>?_) (fun b o _ _ hc e _=>k b o (fun z=>hc (by simp[z])) e) (fun b o _ _ hc e _=>⟨o.slots,k b o (fun z=>hc (by simp[z])) e⟩) (fun _ _ _ _ n=>n)
  (fun b o hc e=>⟨o,k b o (fun z=>hc (by simp[z])) e⟩) (fun _ _ e=>e) (fun _ _ _ e=>e) (fun b ps e=>⟨#[],by rw[e];simp⟩) (fun m hm=>?_) (fun b u e=>?_) I.bare
 ·have e:b=it:=by simpa using hb
  subst e
  exact⟨h1,hL,h2,h3⟩
 ·obtain⟨o,es,ep,ho,r⟩:=hm
  exact⟨o,es,ep,k _ o (Ne.symm hL) ho,r⟩
 ·refine(I.hok b u e).stay (fun c v hc q=>k c v ?_ q) (fun _ q=>q) (fun _ _ q=>q) fun _ _ _ q=>q
  rcases hc with z | z
  ·rw[z];exact nit b u e
  ·exact nit c _ z
theorem Inv.tok(I:Inv X pins σ H s)(t:Nat):Inv X pins σ H { s with toks:=t }:=I.un (h':=s.heap) (t':=t) Un.refl I.hok
theorem Inv.kept{t':Nat}(I:Inv X pins σ H s)(k:∀b u,s.heap.get? b=some u→h'.get? b=some u):Inv X pins σ H { s with heap:=h',toks:=t' }:=I.un (Un.kept k) (I.hok.kept k)
theorem Inv.laid{a:Addr}{o:HO}{t':Nat}(I:Inv X pins σ H s)(k:∀b u,s.heap.get? b=some u→h'.get? b=some u)(hp:s.heap.objs.size≤a)(new:ObjOk X.prog X.w (upd H a o) h' a o) :
  Inv X pins σ (upd H a o) { s with heap:=h',toks:=t' }:=I.un (Un.laid k hp (I.hok.fresh hp)) (I.hok.laid k hp new)
theorem Inv.write{x e:Addr}{o:HO}{t':Nat}(I:Inv X pins σ H s)(mu:Mut (H x))(he:e=x∨H e=some (.own x))(k:∀b u,b≠e→s.heap.get? b=some u→h'.get? b=some u)(heo:∃u,h'.get? e=some u)
  (new:ObjOk X.prog X.w (upd H x o) h' x o):Inv X pins σ (upd H x o) { s with heap:=h',toks:=t' }:=I.un (Un.write mu he k heo) (I.hok.write mu he k heo new)
theorem Inv.weak{σ':List (Option V)}(I:Inv X pins σ H s)(hl:σ'.length=σ.length)(w:∀(i:Nat) v,σ'[i]? = some (some v)→σ[i]? = some (some v)):Inv X pins σ' H s :=
 ⟨I.ok,I.os,I.bare,I.base,let ⟨m,hn,hl'⟩:=I.loc; ⟨m,hn,fun i x v e1 e2 e3=>hl' i x v e1 (w i v e2) e3⟩,I.cell,I.free,I.freeC,I.pin,I.hok,hl.trans I.len⟩
theorem Inv.pins_of{pins':List (Addr×Obj)}(I:Inv X pins σ H s)(h:∀p∈pins',s.heap.get? p.1=some p.2∧H p.1=none∧p.1≠X.env.locals∧p.1 ∉ X.fs∧∀v,p.2.data≠.cell v):Inv X pins' σ H s :=
 ⟨I.ok,I.os,I.bare,I.base,I.loc,I.cell,I.free,I.freeC,fun p hp=>(List.mem_append.mp hp).elim (fun z=>I.pin p (List.mem_append_left _ z)) (h p),I.hok,I.len⟩
theorem a0m{N:List Str}(hN:N.Nodup){i j:Nat}{x:Str}(a:N[i]? = some x)(b:N[j]? = some x):i=j:=by
 obtain⟨h1,e1⟩:=List.getElem?_eq_some_iff.mp a
 obtain⟨h2,e2⟩:=List.getElem?_eq_some_iff.mp b
 exact(List.getElem_inj hN).mp (e1.trans e2.symm)
theorem a1o{M:Model}{A:Around}{E:Value→Shared→Prop}{i:Nat}{x:Str}{v:V}{u:Value}{Q:Unit→Shared→Prop}(I:Inv X pins σ H s)(hN:X.N.Nodup)(hi:X.N[i]? = some x)(hx:Loc X.env.scope x)(r:RelV v u)
  (h:∀s',Inv X pins (σ.set i (some v)) H s'→(∃a,Heap.SameBut a s.heap s'.heap∧(a=X.env.locals∨X.env.cells.lookup x=some a))→Q () s') (hf:X.fn x=true∨X.env.scope.names.lookup x=some .local:=by first | exact .inl rfl | exact .inr rfl | assumption):wpAny M A (storeName X.env x u) Q E s:=by
 obtain⟨m,hn,hl⟩:=id I.loc
 have hcls:(X.env.scope.kind == .class || (X.env.scope.kind == .module && X.env.locals != X.env.globals))=false:=by rw[I.ok.kind];rfl
 have hiσ:i<σ.length:=by rw[I.len];exact(List.getElem?_eq_some_iff.mp hi).1
 have cne:=I.cne
 have tracked:∀{a:Addr} {h':Heap},(∃o,s.heap.get? a=some o∧H a=none)→Heap.SameBut a s.heap h'→HOk X.prog X.w H h':=fun{a h'} ha hs b ob e=>by
  obtain⟨_,_,hfree⟩:=ha
  refine(I.hok b ob e).stay (fun c w' hc q=>(hs.2 c ?_).trans q) (fun _ q=>q) (fun _ _ q=>q) fun _ _ _ q=>q
  rintro rfl
  rcases hc with rfl | hc
  ·rw[hfree]at e;cases e
  ·rw[hfree]at hc;cases hc
 rcases hx with hk | hk
 ·refine wpAny_storeName_local hk hn (fun h' hn' hs=>?_) hcls
  obtain⟨oL,_,_,hoL,_⟩:=id hn
  refine h _ ⟨I.ok,I.os,I.bare,⟨fun b o e n hb hx=>?_,fun b o e n hb hx=>?_,I.base.free,fun b o e hx=>?_,I.base.tups,I.base.frzs,I.base.tbls⟩,⟨_,hn',fun j y v' e1 e2 e3=>?_⟩,fun y c e=>?_,I.free,I.freeC,fun p hp=>?_,tracked ⟨oL,hoL,I.free⟩ hs,by simpa using I.len⟩ ⟨_,hs,.inl rfl⟩
  ·exact(hs.2 b (Nat.ne_of_lt (Nat.lt_of_lt_of_le (Heap.lt_size e) I.ok.above))).trans (I.base.keep b o e n hb hx)
  ·obtain⟨sl,e1⟩:=I.base.slot b o e n hb hx
   exact⟨sl,(hs.2 b (Nat.ne_of_lt (Nat.lt_of_lt_of_le (Heap.lt_size e) I.ok.above))).trans e1⟩
  ·obtain⟨o',e1⟩:=I.base.there b o e hx
   exact⟨o',(hs.2 b (Nat.ne_of_lt (Nat.lt_of_lt_of_le (Heap.lt_size e) I.ok.above))).trans e1⟩
  ·by_cases hj:j=i
   ·subst hj
    rw[hi]at e1;cases e1
    rw[List.getElem?_set_self hiσ]at e2
    cases e2
    exact⟨u,r,.inl ⟨hk,by simp⟩⟩
   ·rw[List.getElem?_set_ne (Ne.symm hj)]at e2
    obtain⟨u',r',q⟩:=hl j y v' e1 e2 e3
    refine⟨u',r',?_⟩
    rcases q with⟨k,e⟩ | ⟨k,c,e,z⟩
    ·refine .inl ⟨k,?_⟩
     have:y≠x:=fun e=>hj (a0m hN e1 (e▸hi))
     simp[this,e]
    ·exact .inr ⟨k,c,e,z.sameBut hs (cne y c e)⟩
  ·obtain⟨w',z⟩:=I.cell y c e
   exact⟨w',z.sameBut hs (cne y c e)⟩
  ·obtain⟨e,n,ne,nf,d⟩:=I.pin p hp
   exact⟨(hs.2 p.1 ne).trans e,n,ne,nf,d⟩
 ·have hfn:X.fn x=true:=by
   rcases hf with z | z
   ·exact z
   ·rw[z]at hk;cases hk
  obtain⟨c,hc⟩:=I.ok.has x (.inl hk)
  obtain⟨w',z⟩:=I.cell x c hc
  refine wpAny_storeName_cell I.ok.kind hk hc z (fun h' hc' hs=>?_)
  obtain⟨oc,hoc,hocd⟩:=id z
  refine h { s with heap:=h' } ⟨I.ok,I.os,I.bare,⟨fun b o e n hb hx=>?_,fun b o e n hb hx=>?_,I.base.free,fun b o e hx=>?_,I.base.tups,I.base.frzs,I.base.tbls⟩,⟨m,hn.sameBut hs (Ne.symm (cne x c hc)),fun j y v' e1 e2 e3=>?_⟩,fun y c' e=>?_,I.free,I.freeC,fun p hp=>?_,tracked ⟨oc,hoc,I.freeC x c hc⟩ hs,by simpa using I.len⟩ ⟨c,hs,.inr hc⟩
  ·exact(hs.2 b (Nat.ne_of_lt (Nat.lt_of_lt_of_le (Heap.lt_size e) (I.ok.cab x c hfn hc)))).trans (I.base.keep b o e n hb hx)
  ·obtain⟨sl,e1⟩:=I.base.slot b o e n hb hx
   exact⟨sl,(hs.2 b (Nat.ne_of_lt (Nat.lt_of_lt_of_le (Heap.lt_size e) (I.ok.cab x c hfn hc)))).trans e1⟩
  ·obtain⟨o',e1⟩:=I.base.there b o e hx
   exact⟨o',(hs.2 b (Nat.ne_of_lt (Nat.lt_of_lt_of_le (Heap.lt_size e) (I.ok.cab x c hfn hc)))).trans e1⟩
  ·by_cases hj:j=i
   ·subst hj
    rw[hi]at e1;cases e1
    rw[List.getElem?_set_self hiσ]at e2
    cases e2
    exact⟨u,r,.inr ⟨.inl hk,c,hc,hc'⟩⟩
   ·rw[List.getElem?_set_ne (Ne.symm hj)]at e2
    obtain⟨u',r',q⟩:=hl j y v' e1 e2 e3
    refine⟨u',r',?_⟩
    rcases q with q | ⟨k,c',e,z'⟩
    ·exact .inl q
    ·refine .inr ⟨k,c',e,z'.sameBut hs ?_⟩
     rintro rfl
     exact hj (a0m hN e1 (I.ok.inj _ _ _ e hc▸hi))
  ·by_cases hcc:c'=c
   ·subst hcc;exact⟨_,hc'⟩
   ·obtain⟨w2,z2⟩:=I.cell y c' e
    exact⟨w2,z2.sameBut hs hcc⟩
  ·obtain⟨e,n,ne,nf,d⟩:=I.pin p hp
   refine⟨(hs.2 p.1 ?_).trans e,n,ne,nf,d⟩
   intro q
   rw[q,hoc]at e
   have q':oc=p.2:=Option.some.inj e
   exact d w' (by rw[← q'];exact hocd)
theorem U5{M:Model}{A:Around}{E:Value→Shared→Prop}{i:Nat}{x:Str}{v:V}{u:Value}{Q:Unit→Shared→Prop}(I:Inv X pins σ H s)(hN:X.N.Nodup)(hi:X.N[i]? = some x)(hx:Loc X.env.scope x)(r:RelV v u)
  (h:∀s',Inv X pins (σ.set i (some v)) H s'→Q () s') (hf:X.fn x=true∨X.env.scope.names.lookup x=some .local:=by first | exact .inl rfl | exact .inr rfl | assumption):wpAny M A (storeName X.env x u) Q E s :=
 a1o I hN hi hx r (fun s' I' _=>h s' I') hf
theorem Inv.call'{s':Shared}{ch:List Addr}(I:Inv X pins σ H s)(ho:s'.os=s.os)(u:Un (B3 X.stack) ch H H' s.heap s'.heap)(hok:HOk X.prog X.w H' s'.heap)(hg:AllBare s'.gens)
  (hch:∀b∈ch,(b∈X.ex∨X.s₀.heap.objs.size≤b)∧b≠X.env.locals∧(∀x c,X.env.cells.lookup x=some c→c≠b)∧∀p∈X.pn++pins,p.1≠b):Inv X pins σ H' s':=by
 obtain⟨h',g',d',t',o'⟩:=s'
 have e:o'=s.os:=ho
 subst e
 exact I.call (g':=g') (t':=t') (d':=d') u hok hg hch
end
abbrev XK:=Value→Option Addr→Hp→Prop
abbrev St:=List (Option V)
abbrev VK:=V→Hp→Prop
abbrev TE:=St→Hp→VK→Prop
abbrev TT:=St→Hp→(Bool→Hp→Prop)→Prop
abbrev TA:=St→Hp→(List V→Hp→Prop)→Prop
structure Ends where
 nx:St→Hp→Prop
 rt:VK
 bk:St→Hp→Prop:=fun _ _=>False
 ct:St→Hp→Prop:=fun _ _=>False
abbrev TS:=Ends→St→Hp→Prop
def EP(X:Cx)(pins:List (Addr×Obj))(σ:St)(Q:VK)(u:Value)(s':Shared):Prop:=∃v H',Inv X pins σ H' s'∧RelV v u∧Q v H'
def TP(X:Cx)(pins:List (Addr×Obj))(σ:St)(Q:Bool→Hp→Prop)(b:Bool)(s':Shared):Prop:=∃H',Inv X pins σ H' s'∧Q b H'
def AP(X:Cx)(pins:List (Addr×Obj))(σ:St)(Q:List V→Hp→Prop)(us:List Value)(s':Shared):Prop:=∃vs H',Inv X pins σ H' s'∧Vals vs us∧Q vs H'
def SP(X:Cx)(pins:List (Addr×Obj))(D:Ends)(f:Flow)(s':Shared):Prop :=
 match f with
 | .next=>∃σ' H',Inv X pins σ' H' s'∧D.nx σ' H'
 | .brk=>∃σ' H',Inv X pins σ' H' s'∧D.bk σ' H'
 | .cont=>∃σ' H',Inv X pins σ' H' s'∧D.ct σ' H'
 | .ret u=>∃v σ' H',Inv X pins σ' H' s'∧RelV v u∧D.rt v H'
def PE(X:Cx)(e:Expr)(t:TE):Prop :=
 ∀(pins:List (Addr×Obj)) (s:Shared) (σ:St) (H:Hp) (Q:VK),Inv X pins σ H s→t σ H Q→wpAny (model X.prog X.w) X.A (eval e X.env) (EP X pins σ Q) X.xe s
def PT(X:Cx)(e:Expr)(t:TT):Prop :=
 ∀(pins:List (Addr×Obj)) (s:Shared) (σ:St) (H:Hp) (Q:Bool→Hp→Prop),Inv X pins σ H s→t σ H Q→wpAny (model X.prog X.w) X.A (isTrue e X.env (eval e X.env)) (TP X pins σ Q) X.xe s
def PW(X:Cx)(e:Expr)(t:TT):Prop :=
 ∀(whole:Sem Value) (pins:List (Addr×Obj)) (s:Shared) (σ:St) (H:Hp) (Q:Bool→Hp→Prop),Inv X pins σ H s→t σ H Q→wpAny (model X.prog X.w) X.A (isTrue e X.env whole) (TP X pins σ Q) X.xe s
theorem PW.pt{X:Cx}{e:Expr}{t:TT}(h:PW X e t):PT X e t:=h _
def PA(X:Cx)(es:List Expr)(t:TA):Prop :=
 ∀(pos:Pos) (pins:List (Addr×Obj)) (s:Shared) (σ:St) (H:Hp) (Q:List V→Hp→Prop),Inv X pins σ H s→t σ H Q→wpAny (model X.prog X.w) X.A (spliced (backTo pos (starEach es X.env))) (AP X pins σ Q) X.xe s
def PS(X:Cx)(st:Stmt)(t:TS):Prop :=
 ∀(pins:List (Addr×Obj)) (s:Shared) (σ:St) (H:Hp) (D:Ends),Inv X pins σ H s→t D σ H→wpAny (model X.prog X.w) X.A (exec st X.env) (SP X pins D) X.xe s
def PSs(X:Cx)(st:List Stmt)(t:TS):Prop :=
 ∀(pins:List (Addr×Obj)) (s:Shared) (σ:St) (H:Hp) (D:Ends),Inv X pins σ H s→t D σ H→wpAny (model X.prog X.w) X.A (execs st X.env) (SP X pins D) X.xe s
theorem i6{α:Type}{t:Sem α}{Q Q':α→Shared→Prop}{M:Model}{A:Around}{E:Value→Shared→Prop}{s:Shared}(h:wpAny M A t Q E s)(hQ:∀a s,Q a s→Q' a s):wpAny M A t Q' E s:=wpAny_mono h hQ fun _ _ x=>x
section
variable {X:Cx}
def J5(i:Nat):TE:=fun σ H Q=>∃v,σ[i]? = some (some v)∧Q v H
def tC(v:V):TE:=fun _ H Q=>Q v H
theorem a72{i:Nat}{x:Str}{pos:Pos}(hN:X.N[i]? = some x)(hv:Vis X.env.scope x)(hd:(x == ("__debug__" : Str))=false:=by decide)(hcd:(x == ("__classdict__" : Str))=false:=by decide):PE X (.Name x pos) (J5 i):=by
 intro pins s σ H Q I h
 obtain⟨v,e,h⟩:=h
 obtain⟨m,hn,hl⟩:=I.loc
 obtain⟨u,r,l⟩:=hl i x v hN e hv
 have fin:EP X pins σ Q u s:=⟨v,H,I,r,h⟩
 rcases l with⟨hk,hm⟩ | ⟨hk,c,hc,hcell⟩
 ·exact wpAny_Name (wpAny_loadName_local I.ok.kind hk hn hm fin) hd
 ·rcases hk with hk | hk
  ·exact wpAny_Name (wpAny_loadName_cell I.ok.kind hk hc hcell fin) hd
  ·exact wpAny_Name (wpAny_loadName_free I.ok.kind hk hc hcell fin hcd) hd
theorem a7{i j pos}:PE X (.Constant (.int i) j pos) (tC (.int i)):=fun _ _ _ H _ I h=>wpAny_Constant_int ⟨.int i,H,I.tok _,⟨_,rfl⟩,h⟩
theorem a0x{b j pos}:PE X (.Constant (.bool b) j pos) (tC (.bl b)):=fun _ _ _ H _ I h=>Constant_bool ⟨.bl b,H,I,rfl,h⟩
theorem a0y{j pos}:PE X (.Constant .none j pos) (tC .non):=fun _ _ _ H _ I h=>Constant_none ⟨.non,H,I,rfl,h⟩
theorem F6{x j pos}:PE X (.Constant (.str x) j pos) (tC (.str x)):=fun _ _ _ H _ I h=>Calls.Constant_str ⟨.str x,H,I.tok _,⟨_,rfl⟩,h⟩
def Gl(X:Cx)(x:Str):Prop:=X.env.kindOf x=some .globalImplicit
theorem O2{E:Value→Shared→Prop}{pins:List (Addr×Obj)}{s:Shared}{σ:St}{H:Hp}{x:Str}{u:Value}{pos:Pos}{Q:Value→Shared→Prop}(I:Inv X pins σ H s)(hg:Gl X x)(hm:X.mg x=some u)(h:Q u s)
  (hd:(x == ("__debug__" : Str))=false:=by decide):wpAny (model X.prog X.w) X.A (eval (.Name x pos) X.env) Q E s :=
 Calls.Name_function_global I.ok.kind hg (Calls.loadGlobal_global (by rw[I.ok.glob];exact I.mod.glob.keeps I.bk) hm h) hd
theorem X2{E:Value→Shared→Prop}{pins:List (Addr×Obj)}{s:Shared}{σ:St}{H:Hp}{x:Str}{u:Value}{pos:Pos}{Q:Value→Shared→Prop}(I:Inv X pins σ H s)(hg:Gl X x)(hm:X.mg x=none)(hv:bootBuiltins x=some u)(h:Q u s)
  (hn:x≠"__name__" := by decide) (hd:(x == ("__debug__" : Str))=false:=by decide):wpAny (model X.prog X.w) X.A (eval (.Name x pos) X.env) Q E s:=by
 obtain⟨mb,h1,h2⟩:=I.mod.blt
 exact Calls.Name_function_global I.ok.kind hg (Calls.loadGlobal_builtin (by rw[I.ok.glob];exact I.mod.glob.keeps I.bk) hm (by rw[I.ok.blt];exact h1.keeps I.bk) ((h2 x hn).trans hv) h) hd
theorem a03{x:Str}{v:V}{u:Value}{pos:Pos}(hg:Gl X x)(hm:X.mg x=some u)(r:RelV v u)(hd:(x == ("__debug__" : Str))=false:=by decide):PE X (.Name x pos) (tC v) :=
 fun _ _ _ H _ I h=>O2 I hg hm ⟨v,H,I,r,h⟩ hd
theorem S9{x:Str}{v:V}{u:Value}{pos:Pos}(hg:Gl X x)(hm:X.mg x=none)(hv:bootBuiltins x=some u)(r:RelV v u)(hn:x≠"__name__" := by decide)(hd:(x == ("__debug__" : Str))=false:=by decide):PE X (.Name x pos) (tC v) :=
 fun _ _ _ H _ I h=>X2 I hg hm hv ⟨v,H,I,r,h⟩ hn hd
variable {a b:Expr}{ta tb:TE}{pos:Pos}
def tB(t:TE):TT:=fun σ H Q=>t σ H fun x H1=>∃c,x=.bl c∧Q c H1
theorem D4{e:Expr}{t:TE}(h:PE X e t)(he:∀whole,isTrue e X.env whole=(do let v ← whole;standAt e.pos;holding [v] (truthy v)):=by intro _;rfl):PT X e (tB t):=by
 intro pins s σ H Q I hw
 refine isTrue_plain (i6 (h pins s σ H _ I hw) fun v s1 ⟨x,H1,I1,r1,q1⟩=>?_) (he _)
 obtain⟨d,rfl,q⟩:=q1
 cases r1
 exact wpAny_truthy_bool ⟨H1,I1,q⟩
variable {tA tB':TT}{h9:List Expr}
def a73(t u:TT):TT:=fun σ H Q=>t σ H fun c H1=>if c=true then u σ H1 Q else Q false H1
def tOr(t u:TT):TT:=fun σ H Q=>t σ H fun c H1=>if c=true then Q true H1 else u σ H1 Q
def a74(t:TT):TT:=fun σ H Q=>t σ H fun c H1=>Q (!c) H1
theorem a6y(ha:PT X a tA):PW X (.BoolOp .And [a] pos) tA:=by
 intro wh pins s σ H Q I h
 refine isTrue_and (i6 (ha pins s σ H Q I h) fun c s1 e=>?_)
 cases c with
 | true=>exact isTrue_and_nil e
 | false=>exact e
theorem a0z(ha:PT X a tA):PW X (.BoolOp .Or [a] pos) tA:=by
 intro wh pins s σ H Q I h
 refine isTrue_or (i6 (ha pins s σ H Q I h) fun c s1 e=>?_)
 cases c with
 | false=>exact isTrue_or_nil e
 | true=>exact e
theorem a75(ha:PT X a tA)(hb:PW X (.BoolOp .And (b::h9) pos) tB'):PW X (.BoolOp .And (a::b::h9) pos) (a73 tA tB'):=by
 intro wh pins s σ H Q I h
 refine isTrue_and (i6 (ha pins s σ H _ I h) fun c s1 ⟨H1,I1,q1⟩=>?_)
 cases c with
 | true=>exact hb wh pins s1 σ H1 Q I1 q1
 | false=>exact⟨H1,I1,q1⟩
theorem Z2(ha:PT X a tA)(hb:PW X (.BoolOp .Or (b::h9) pos) tB'):PW X (.BoolOp .Or (a::b::h9) pos) (tOr tA tB'):=by
 intro wh pins s σ H Q I h
 refine isTrue_or (i6 (ha pins s σ H _ I h) fun c s1 ⟨H1,I1,q1⟩=>?_)
 cases c with
 | true=>exact⟨H1,I1,q1⟩
 | false=>exact hb wh pins s1 σ H1 Q I1 q1
theorem T1(ha:PT X a tA):PT X (.UnaryOp .Not a pos) (a74 tA):=by
 intro pins s σ H Q I h
 exact isTrue_not (ha pins s σ H (fun c H1=>Q (!c) H1) I h)
def a5W(ta tb:TE):TE:=fun σ H Q=>ta σ H fun x H1=>∃c,x=.bl c∧if c=true then tb σ H1 Q else Q (.bl false) H1
def a76(ta tb:TE):TE:=fun σ H Q=>ta σ H fun x H1=>∃c,x=.bl c∧if c=true then Q (.bl true) H1 else tb σ H1 Q
def a5X(ta:TE):TE:=fun σ H Q=>ta σ H fun x H1=>∃c,x=.bl c∧Q (.bl (!c)) H1
theorem X3{op}{t:TE}(h:PE X a t):PE X (.BoolOp op [a] pos) t:=fun pins s σ H Q I hw=>BoolOp_one (h pins s σ H Q I hw)
theorem a0A(ha:PE X a ta)(hb:PE X (.BoolOp .And (b::h9) pos) tb):PE X (.BoolOp .And (a::b::h9) pos) (a5W ta tb):=by
 intro pins s σ H Q I h
 refine BoolOp_and (i6 (ha pins s σ H _ I h) fun v s1 ⟨x,H1,I1,r1,q1⟩=>?_)
 obtain⟨c,rfl,q1⟩:=q1
 cases r1
 refine wpAny_truthy_bool ?_
 cases c with
 | true=>exact hb pins s1 σ H1 Q I1 q1
 | false=>exact⟨.bl false,H1,I1,rfl,q1⟩
theorem a9a(ha:PE X a ta)(hb:PE X (.BoolOp .Or (b::h9) pos) tb):PE X (.BoolOp .Or (a::b::h9) pos) (a76 ta tb):=by
 intro pins s σ H Q I h
 refine BoolOp_or (i6 (ha pins s σ H _ I h) fun v s1 ⟨x,H1,I1,r1,q1⟩=>?_)
 obtain⟨c,rfl,q1⟩:=q1
 cases r1
 refine wpAny_truthy_bool ?_
 cases c with
 | false=>exact hb pins s1 σ H1 Q I1 q1
 | true=>exact⟨.bl true,H1,I1,rfl,q1⟩
theorem a3V(ha:PE X a ta):PE X (.UnaryOp .Not a pos) (a5X ta):=by
 intro pins s σ H Q I h
 refine UnaryOp_ (i6 (ha pins s σ H _ I h) fun v s1 ⟨x,H1,I1,r1,q1⟩=>?_)
 obtain⟨c,rfl,q1⟩:=q1
 cases r1
 exact not_of (wpAny_truthy_bool ⟨.bl (!c),H1,I1,rfl,q1⟩)
def tIf(t:TT)(ta tb:TE):TE:=fun σ H Q=>t σ H fun c H1=>if c=true then ta σ H1 Q else tb σ H1 Q
theorem a4T{c:Expr}(hc:PT X c tA)(ha:PE X a ta)(hb:PE X b tb):PE X (.IfExp c a b pos) (tIf tA ta tb):=by
 intro pins s σ H Q I h
 refine wpAny_IfExp (i6 (hc pins s σ H _ I h) fun d s1 ⟨H1,I1,q1⟩=>?_)
 cases d with
 | true=>exact ha pins s1 σ H1 Q I1 q1
 | false=>exact hb pins s1 σ H1 Q I1 q1
end
def SqL(K:W.Frag)(H:Hp)(a:Addr)(xs:List V):Prop :=
 Rd H a (.lst xs) ∨
  ∃(o:Obj) (its:Array Value) (n:Nat),K.lookup a=some o∧o.cls=.type "list"∧o.dict=none∧o.data=.seq its n∧its.size≤sizeLine∧Vals xs its.toList
def SqT(K:W.Frag)(H:Hp)(a:Addr)(xs:List V):Prop :=
 Rd H a (.tup xs) ∨
  ∃(o:Obj) (its:Array Value) (n:Nat),K.lookup a=some o∧o.cls=.type "tuple"∧o.data=.seq its n∧its.size≤sizeLine∧Vals xs its.toList
def a9V:Value→Option V
 | .none=>some .non
 | .bool b=>some (.bl b)
 | .int i _=>some (.int i)
 | .str x _=>some (.str x)
 | .bytes b _=>some (.byt b)
 | .float b _=>some (.flt b)
 | .ref a=>some (.ref a)
 | .type n=>some (.ty n)
 | _=>none
theorem RelV.abs{x:V}{u:Value}(r:RelV x u):a9V u=some x:=by
 cases x with
 | non=>cases r;rfl
 | bl _=>cases r;rfl
 | int _=>obtain⟨t,rfl⟩:=r;rfl
 | str _=>obtain⟨t,rfl⟩:=r;rfl
 | byt _=>obtain⟨t,rfl⟩:=r;rfl
 | flt _=>obtain⟨t,rfl⟩:=r;rfl
 | ref _=>cases r;rfl
 | ty _=>cases r;rfl
theorem RelV.inj{x y:V}{u:Value}(r:RelV x u)(q:RelV y u):x=y:=Option.some.inj (r.abs.symm.trans q.abs)
theorem Vals.inj:∀{xs ys:List V} {us:List Value},Vals xs us→Vals ys us→xs=ys
 | _,_,_,.nil,.nil=>rfl
 | _,_,_,.cons r t,.cons r' t'=>by rw[r.inj r',Vals.inj t t']
section
variable {X:Cx}{pins:List (Addr×Obj)}{σ:St}{H:Hp}{s:Shared}{a:Addr}{xs ys:List V}
theorem SqL.of{K:W.Frag}(h:H a=some (.lst xs)):SqL K H a xs:=.inl (.inl h)
theorem SqT.of{K:W.Frag}(h:H a=some (.tup xs)):SqT K H a xs:=.inl (.inl h)
theorem Inv.list(I:Inv X pins σ H s)(h:SqL X.K H a xs):∃its:List Value,Vals xs its∧PlainL s.heap a its.toArray∧xs.length≤sizeLine:=by
 rcases h with h | ⟨o,its,n,hk,hc,hd,hs,hz,r⟩
 ·obtain⟨z,its,n,r,e⟩:=h.ok I.hok
  exact⟨its,r,⟨_,n,e,rfl,rfl,rfl⟩,z⟩
 ·refine⟨its.toList,r,⟨o,n,I.kIn a o hk,hc,hd,by simpa using hs⟩,?_⟩
  have e:=r.length
  simp only[Array.length_toList]at e
  omega
theorem Inv.tuple(I:Inv X pins σ H s)(h:SqT X.K H a xs):∃its:List Value,Vals xs its∧IsTup s.heap a its.toArray∧xs.length≤sizeLine:=by
 rcases h with h | ⟨o,its,n,hk,hc,hs,hz,r⟩
 ·obtain⟨z,its,r,p⟩:=h.ok I.hok
  exact⟨its,r,p,z⟩
 ·refine⟨its.toList,r,⟨o,I.kIn a o hk,hc,n,by simpa using hs⟩,?_⟩
  have e:=r.length
  simp only[Array.length_toList]at e
  omega
theorem Inv.list_inj(I:Inv X pins σ H s)(h:SqL X.K H a xs)(h':SqL X.K H a ys):xs=ys:=by
 obtain⟨its,r,⟨o,n,e,_,_,d⟩,_⟩:=I.list h
 obtain⟨its',r',⟨o',n',e',_,_,d'⟩,_⟩:=I.list h'
 rw[e]at e';cases e'
 rw[d]at d'
 injection d' with d1 _
 have:its=its':=by simpa using congrArg Array.toList d1
 subst this
 exact r.inj r'
theorem Inv.tuple_inj(I:Inv X pins σ H s)(h:SqT X.K H a xs)(h':SqT X.K H a ys):xs=ys:=by
 obtain⟨its,r,⟨o,e,_,n,d⟩,_⟩:=I.tuple h
 obtain⟨its',r',⟨o',e',_,n',d'⟩,_⟩:=I.tuple h'
 rw[e]at e';cases e'
 rw[d]at d'
 injection d' with d1 _
 have:its=its':=by simpa using congrArg Array.toList d1
 subst this
 exact r.inj r'
end
abbrev Cx.wish(X:Cx)(E:Value→Shared→Prop):Cx:={ X with xe:=E }
abbrev Cx.nox(X:Cx):Cx:=X.wish fun _ _=>False
theorem Cx.Ok.wish{X:Cx}(ok:X.Ok)(E:Value→Shared→Prop):(X.wish E).Ok :=
 ⟨ok.mod,ok.kind,ok.glob,ok.blt,ok.above,ok.inj,ok.has,ok.cab,ok.hd,ok.frames,ok.stk,ok.exf,ok.bs,ok.bsz,ok.noex,ok.exfs,ok.funs,ok.frf⟩
theorem Cx.Ok.unwish{X:Cx}{E:Value→Shared→Prop}(ok:(X.wish E).Ok):X.Ok :=
 ⟨ok.mod,ok.kind,ok.glob,ok.blt,ok.above,ok.inj,ok.has,ok.cab,ok.hd,ok.frames,ok.stk,ok.exf,ok.bs,ok.bsz,ok.noex,ok.exfs,ok.funs,ok.frf⟩
section
variable {X:Cx}{pins:List (Addr×Obj)}{σ:St}{H:Hp}{s:Shared}{E:Value→Shared→Prop}
theorem Inv.wish(I:Inv X pins σ H s)(E:Value→Shared→Prop):Inv (X.wish E) pins σ H s:=⟨I.ok.wish E,I.os,I.bare,I.base,I.loc,I.cell,I.free,I.freeC,I.pin,I.hok,I.len⟩
theorem Inv.unwish(I:Inv (X.wish E) pins σ H s):Inv X pins σ H s:=⟨I.ok.unwish,I.os,I.bare,I.base,I.loc,I.cell,I.free,I.freeC,I.pin,I.hok,I.len⟩
theorem SP.unwish{D:Ends}{f:Flow}{s':Shared}(h:SP (X.wish E) pins D f s'):SP X pins D f s':=by
 cases f with
 | next=>obtain⟨σ',H',I,q⟩:=h;exact⟨σ',H',I.unwish,q⟩
 | brk=>obtain⟨σ',H',I,q⟩:=h;exact⟨σ',H',I.unwish,q⟩
 | cont=>obtain⟨σ',H',I,q⟩:=h;exact⟨σ',H',I.unwish,q⟩
 | ret u=>obtain⟨v,σ',H',I,r,q⟩:=h;exact⟨v,σ',H',I.unwish,r,q⟩
theorem PE.nox{e:Expr}{t:TE}(h:PE X.nox e t):PE X e t:=fun pins s σ H Q I hw =>
 wpAny_mono (h pins s σ H Q (I.wish _) hw) (fun _ _ ⟨v,H',I',r,q⟩=>⟨v,H',I'.unwish,r,q⟩) fun _ _ z=>False.elim z
theorem PT.nox{e:Expr}{t:TT}(h:PT X.nox e t):PT X e t:=fun pins s σ H Q I hw =>
 wpAny_mono (h pins s σ H Q (I.wish _) hw) (fun _ _ ⟨H',I',q⟩=>⟨H',I'.unwish,q⟩) fun _ _ z=>False.elim z
theorem PSs.nox{st:List Stmt}{t:TS}(h:PSs X.nox st t):PSs X st t:=fun pins s σ H D I hw =>
 wpAny_mono (h pins s σ H D (I.wish _) hw) (fun _ _ q=>q.unwish) fun _ _ z=>False.elim z
end
section
variable {X:Cx}{st:Stmt}{h9:List Stmt}{t u:TS}{e:Expr}{te:TE}{pos:Pos}
def a5Y:TS:=fun D σ H=>D.nx σ H
def a77(t u:TS):TS:=fun D σ H=>t { D with nx:=u D } σ H
theorem t8:PSs X [] a5Y:=fun _ _ σ H _ I h=>wpAny_execs_nil ⟨σ,H,I,h⟩
theorem c6(h1:PS X st t)(h2:PSs X h9 u):PSs X (st::h9) (a77 t u):=by
 intro pins s σ H D I h
 refine wpAny_execs_cons (i6 (h1 pins s σ H { D with nx:=u D } I h) fun f s1 q=>?_)
 cases f with
 | next =>
  obtain⟨σ',H',I',q⟩:=q
  exact h2 pins s1 σ' H' D I' q
 | ret v=>exact q
 | brk=>exact q
 | cont=>exact q
theorem g6(h1:PS X st t):PSs X [st] t:=by
 intro pins s σ H D I h
 refine wpAny_execs_cons (i6 (h1 pins s σ H D I h) fun f s1 q=>?_)
 cases f with
 | next=>exact wpAny_execs_nil q
 | ret v=>exact q
 | brk=>exact q
 | cont=>exact q
theorem Inv.quiet{pins:List (Addr×Obj)}{σ:St}{H:Hp}{s:Shared}(I:Inv X pins σ H s):interactive X.env=false:=by simp[interactive,I.ok.kind]
def a5Z(te:TE):TS:=fun D σ H=>te σ H fun _ H1=>D.nx σ H1
theorem a2M(he:PE X e te)(hs:swapsWith e none pos.line X.env=pure false:=by rfl):PS X (.Expr e pos) (a5Z te):=by
 intro pins s σ H D I h
 exact wpAny_Expr_any (i6 (he pins s σ H _ I h) fun v s1 ⟨x,H1,I1,r1,q1⟩=>⟨σ,H1,I1,q1⟩) I.quiet hs
def a3e(te:TE):TS:=fun D σ H=>te σ H D.rt
theorem k6(he:PE X e te):PS X (.Return (some e) pos) (a3e te):=by
 intro pins s σ H D I h
 exact wpAny_Return_some (i6 (he pins s σ H _ I h) fun v s1 ⟨x,H1,I1,r1,q1⟩=>⟨x,σ,H1,I1,r1,q1⟩)
def a78(c:TT)(t u:TS):TS:=fun D σ H=>c σ H fun b H1=>if b=true then t D σ H1 else u D σ H1
theorem y4{c:Expr}{a b:List Stmt}{tc:TT}(hc:PT X c tc)(ha:PSs X a t)(hb:PSs X b u):PS X (.If c a b pos) (a78 tc t u):=by
 intro pins s σ H D I h
 refine wpAny_If (i6 (hc pins s σ H _ I h) fun d s1 ⟨H1,I1,q1⟩=>?_)
 cases d with
 | true=>exact ha pins s1 σ H1 D I1 q1
 | false=>exact hb pins s1 σ H1 D I1 q1
end
abbrev TG:=V→St→Hp→(St→Hp→Prop)→Prop
abbrev X4:=List V→St→Hp→(St→Hp→Prop)→Prop
def PG(X:Cx)(target:Expr)(t:TG):Prop :=
 ∀(pins:List (Addr×Obj)) (s:Shared) (σ:St) (H:Hp) (v:V) (u:Value) (Q:St→Hp→Prop),Inv X pins σ H s→RelV v u→t v σ H Q →
  wpAny (model X.prog X.w) X.A (assign target X.env u) (fun _ s'=>∃σ' H',Inv X pins σ' H' s'∧Q σ' H') X.xe s
def PGs(X:Cx)(ts:List Expr)(t:X4):Prop :=
 ∀(pins:List (Addr×Obj)) (s:Shared) (σ:St) (H:Hp) (vs:List V) (us:List Value) (Q:St→Hp→Prop),Inv X pins σ H s→Vals vs us→t vs σ H Q →
  wpAny (model X.prog X.w) X.A (assignInOrder ((assignEach ts X.env).map (·.2)) us) (fun _ s'=>∃σ' H',Inv X pins σ' H' s'∧Q σ' H') X.xe s
abbrev a4U:=V→V→V→Hp→(Hp→Prop)→Prop
def a79(X:Cx)(t:a4U):Prop :=
 ∀(pins:List (Addr×Obj)) (s:Shared) (σ:St) (H:Hp) (o i v:V) (ov iv u:Value) (Q:Hp→Prop),Inv X pins σ H s→RelV o ov→RelV i iv→RelV v u→t o i v H Q →
  wpAny (model X.prog X.w) X.A (setItem ov iv u) (fun _ s'=>∃H',Inv X pins σ H' s'∧Q H') X.xe s
section
variable {X:Cx}{pos:Pos}
def U6(i:Nat):TG:=fun v σ H Q=>Q (σ.set i (some v)) H
theorem t9{i:Nat}{x:Str}(hN:X.N.Nodup)(hi:X.N[i]? = some x)(hx:Loc X.env.scope x)(hf:X.fn x=true∨X.env.scope.names.lookup x=some .local:=by first | exact .inl rfl | exact .inr rfl | assumption):PG X (.Name x pos) (U6 i):=by
 intro pins s σ H v u Q I r h
 exact wpAny_assign_Name (U5 I hN hi hx r (fun s' I'=>⟨_,H,I',h⟩) hf)
def a7_:X4:=fun vs σ H Q=>vs=[]∧Q σ H
def a50(t:TG)(u:X4):X4:=fun vs σ H Q=>∃v r,vs=v::r∧t v σ H fun σ' H'=>u r σ' H' Q
theorem Z3:PGs X [] a7_:=by
 intro pins s σ H vs us Q I r h
 obtain⟨e,h⟩:=h
 subst e
 cases r
 exact assignInOrder_nil ⟨σ,H,I,h⟩
theorem A8{e:Expr}{es:List Expr}{t:TG}{u:X4}(h1:PG X e t)(h2:PGs X es u)
  (hs:(assignEach (e::es) X.env).map (·.2)=assign e X.env::(assignEach es X.env).map (·.2):=by rfl):PGs X (e::es) (a50 t u):=by
 intro pins s σ H vs us Q I r h
 obtain⟨v,vr,e1,h⟩:=h
 subst e1
 cases r with
 | cons r rr =>
  rw[hs]
  refine assignInOrder_cons (i6 (h1 pins s σ H _ _ _ I r h) fun _ s1 ⟨σ1,H1,I1,q1⟩=>?_)
  exact h2 pins s1 σ1 H1 _ _ Q I1 rr q1
def a4V(K:W.Frag)(n:Nat)(t:X4):TG:=fun v σ H Q=>∃a xs,v=.ref a∧SqT K H a xs∧xs.length=n∧t xs σ H Q
theorem a8a{es:List Expr}{k:Nat}{t:X4}{n:Nat}(hc:X.calm=true)(h:PGs X es t)
  (hn:(assignEach es X.env).length=n:=by rfl) (hst:(assignEach es X.env).findIdx? (·.1)=none:=by rfl):PG X (.Tuple es k pos) (a4V X.K n t):=by
 intro pins s σ H v u Q I r hw
 obtain⟨a,xs,e1,hq,hl,hw⟩:=hw
 subst e1
 cases r
 obtain⟨its,rv,ht,hz⟩:=I.tuple hq
 refine assign_Tuple_tuple (I.ok.hd hc) ht (by simp[hn,← hl,rv.length]) hst fun h' hx=>?_
 have I1:Inv X pins σ H { s with heap:=h' }:=I.kept (t':=s.toks) fun b o e=>hx b o (Nat.ne_of_lt (Heap.lt_size e)) e
 exact h pins _ σ H xs _ Q I1 (by simpa using rv) hw
def a8b(to ti:TE)(t:a4U):TG:=fun v σ H Q=>to σ H fun o H1=>ti σ H1 fun i H2=>t o i v H2 fun H3=>Q σ H3
theorem a8c{o i:Expr}{to ti:TE}{t:a4U}(ho:PE X o to)(hi:PE X i ti)(hs:a79 X t)
  (ha:∀v,assign (.Subscript o i pos) X.env v=(do
   let ov ← holding [v] (eval o X.env)
   let iv ← holding [v,ov] (eval i X.env)
   standAt pos
   holding [v,ov,iv] (setItem ov iv v)
   release [v,ov,iv] []):=by intro _;rfl):PG X (.Subscript o i pos) (a8b to ti t):=by
 intro pins s σ H v u Q I r h
 rw[ha]
 refine wpAny_bind (wpAny_holding (i6 (ho pins s σ H _ I h) fun ov s1 ⟨x,H1,I1,r1,q1⟩=>?_))
 refine wpAny_bind (wpAny_holding (i6 (hi pins s1 σ H1 _ I1 q1) fun iv s2 ⟨y,H2,I2,r2,q2⟩=>?_))
 refine wpAny_bind (wpAny_standAt (wpAny_bind (wpAny_holding (i6 (hs pins s2 σ H2 x y v ov iv u _ I2 r1 r2 r q2) fun _ s3 ⟨H3,I3,q3⟩=>?_))))
 exact wpAny_release ⟨σ,H3,I3,q3⟩
def X5(te:TE)(g:TG):TS:=fun D σ H=>te σ H fun x H1=>g x σ H1 D.nx
theorem a0B{tg e:Expr}{te:TE}{g:TG}(he:PE X e te)(hg:PG X tg g)(hs:swapsWithSole [tg] e pos.line X.env=pure false:=by rfl)(hw:swappedStores [tg] e X.env=pure none:=by rfl)
  (h1:(assignEach [tg] X.env).map (·.2)=[assign tg X.env]:=by rfl):PS X (.Assign [tg] e pos) (X5 te g):=by
 intro pins s σ H D I h
 refine wpAny_Assign_stores (i6 (he pins s σ H _ I h) fun v s1 ⟨x,H1,I1,r1,q1⟩=>?_) hs hw
 rw[h1]
 exact i6 (hg pins s1 σ H1 x v _ I1 r1 q1) fun _ s2 q=>q
theorem i0{i:Nat}{x:Str}{e:Expr}{te:TE}{pos':Pos}(hN:X.N.Nodup)(hi:X.N[i]? = some x)(hx:Loc X.env.scope x)(he:PE X e te)(hs:swapsWith e (some (.Name x pos')) pos.line X.env=pure false:=by rfl)(hf:X.fn x=true∨X.env.scope.names.lookup x=some .local:=by first | exact .inl rfl | exact .inr rfl | assumption) :
  PS X (.Assign [.Name x pos'] e pos) (X5 te (U6 i)):=by
 intro pins s σ H D I h
 refine wpAny_Assign_Name (i6 (he pins s σ H _ I h) fun v s1 ⟨y,H1,I1,r1,q1⟩=>?_) hs
 exact U5 I1 hN hi hx r1 (fun s2 I2=>⟨_,H1,I2,q1⟩) hf
end
section
variable {X:Cx}{pos:Pos}
def a3X(c:TT)(tb:TS):TS:=fun D σ H=>∃W:Nat→St→Hp→Prop,(∃m,W m σ H)∧∀m σ H,W m σ H →
 c σ H fun b H1=>if b=true then ∃N:St→Hp→Prop,(∀σ' H',N σ' H'→∃m',m'<m∧W m' σ' H')∧tb { D with nx:=N,ct:=N,bk:=D.nx } σ H1 else D.nx σ H1
theorem a1T{c:Expr}{body:List Stmt}{tc:TT}{tb:TS}(hp:PassesOwn (model X.prog X.w) X.A X.env X.xe)(hc:PT X c tc)(hb:PSs X body tb):PS X (.While c body [] pos) (a3X tc tb):=by
 intro pins s σ H D I h
 obtain⟨W,⟨m0,w0⟩,turn⟩:=h
 refine wpAny_While (codeAny_whileLoop (fun n s'=>∃σ' H',Inv X pins σ' H' s'∧W n σ' H') ?_ m0 ⟨σ,H,I,w0⟩)
 rintro n s1 ⟨σ1,H1,I1,w1⟩
 refine wpAny_passesOwn hp (i6 (hc pins s1 σ1 H1 _ I1 (turn n σ1 H1 w1)) fun b s2 ⟨H2,I2,q2⟩=>?_)
 cases b with
 | true =>
  obtain⟨N,hN,q2⟩:=q2
  rw[if_pos rfl]
  refine wpAny_passesOwn hp (i6 (hb pins s2 σ1 H2 _ I2 q2) fun f s3 q3=>?_)
  cases f with
  | next =>
   obtain⟨σ3,H3,I3,n3⟩:=q3
   obtain⟨m',hm,w3⟩:=hN σ3 H3 n3
   exact⟨m',hm,σ3,H3,I3,w3⟩
  | cont =>
   obtain⟨σ3,H3,I3,n3⟩:=q3
   obtain⟨m',hm,w3⟩:=hN σ3 H3 n3
   exact⟨m',hm,σ3,H3,I3,w3⟩
  | brk=>exact q3
  | ret v=>exact q3
 | false =>
  rw[if_neg Bool.false_ne_true]
  exact wpAny_execs_nil ⟨σ1,H2,I2,q2⟩
end
structure It where
 go:Nat→Hp→Prop
 yld:Nat→Hp→V→Hp→Prop
 stop:Nat→Hp→Prop
def FpOk(X:Cx)(pins:List (Addr×Obj))(H:Hp)(b:Addr):Prop :=
 H b=none∧b≠X.env.locals∧b ∉ X.fs∧(b∈X.ex∨X.s₀.heap.objs.size≤b)∧(∀x c,X.env.cells.lookup x=some c→c≠b)∧∀p∈X.pn++pins,p.1≠b
theorem Inv.fpOk{X:Cx}{pins:List (Addr×Obj)}{σ:St}{H H':Hp}{s:Shared}{b:Addr}(I:Inv X pins σ H s)(hb:s.heap.objs.size≤b)(hn:H' b=none):FpOk X pins H' b:=by
 refine⟨hn,Nat.ne_of_gt (Nat.lt_of_lt_of_le I.lt hb),I.nofs hb,.inr (Nat.le_trans I.sz hb),fun x c e z=>?_,fun p hp z=>?_⟩
 ·obtain⟨v,q⟩:=I.cell x c e
  exact absurd (Nat.lt_of_lt_of_le q.lt (by rw[z];exact hb)) (Nat.lt_irrefl _)
 ·exact absurd (Nat.lt_of_lt_of_le (Heap.lt_size (I.pin p hp).1) (by rw[z];exact hb)) (Nat.lt_irrefl _)
structure Turn(P:Program)(w:World)(K:W.Frag)(tg:Expr)(J:It)(fp:List Addr)(it:Addr)(tn:Nat→Heap→Prop):Prop where
 mem:it∈fp
 obj:∀i h,tn i h→∀b∈fp,∃o,h.get? b=some o∧∀v,o.data≠.cell v
 keep:∀i h h',tn i h→(∀b∈fp,∀o,h.get? b=some o→h'.get? b=some o)→tn i h'
 item:∀(X:Cx),X.prog=P→X.w=w→X.K=K→X.calm=true→∀(i:Nat) (pins:List (Addr×Obj)) (s:Shared) (σ:St) (H:Hp) (E:Value→Shared→Prop),Inv X pins σ H s→(∀b∈fp,FpOk X pins H b)→tn i s.heap→J.go i H →
  wpAny (model P w) X.A (pyNext (.ref it)) (fun r s1=>∃u,r=some u ∧
   wpAny (model P w) X.A (letOwnedTupleGo tg (.ref it) u) (fun _ s2=>∃x H',Inv X pins σ H' s2∧RelV x u∧J.yld i H x H'∧tn (i+1) s2.heap∧∀b∈fp,H' b=none) E s1) E s
 done:∀(X:Cx),X.prog=P→X.w=w→X.K=K→X.calm=true→∀(i:Nat) (pins:List (Addr×Obj)) (s:Shared) (σ:St) (H:Hp) (E:Value→Shared→Prop),Inv X pins σ H s→(∀b∈fp,FpOk X pins H b)→tn i s.heap→J.stop i H →
  wpAny (model P w) X.A (pyNext (.ref it)) (fun r s1=>r=none∧Inv X pins σ H s1) E s
 self:∀(A:Around) (i:Nat) (s:Shared) (Q:Value→Shared→Prop) (E:Value→Shared→Prop),tn i s.heap→Q (.ref it) s→wpAny (model P w) A (pyIter (.ref it)) Q E s
abbrev TI:=St→Hp→(It→Hp→Prop)→Prop
def PIE(X:Cx)(pins:List (Addr×Obj))(σ:St)(tg:Expr)(R:It→Hp→Prop)(itv:Value)(s2:Shared):Prop :=
 ∃(it:Addr) (fp:List Addr) (tn:Nat→Heap→Prop) (J:It) (H':Hp),itv=.ref it∧Inv X pins σ H' s2∧Turn X.prog X.w X.K tg J fp it tn∧tn 0 s2.heap∧(∀b∈fp,FpOk X pins H' b)∧R J H'
def PI(X:Cx)(tg iter:Expr)(wi:TI):Prop :=
 ∀(pins:List (Addr×Obj)) (s:Shared) (σ:St) (H:Hp) (R:It→Hp→Prop),Inv X pins σ H s→wi σ H R →
  wpAny (model X.prog X.w) X.A (eval iter X.env) (fun v s1=>wpAny (model X.prog X.w) X.A (pyIter v) (PIE X pins σ tg R) X.xe s1) X.xe s
theorem a3f{M:Model}{A:Around}{E:Value→Shared→Prop}{s:Shared}{tg:Expr}{it:Addr}{u:Value}{o:Obj}{n:String}{vs:Array Value}{Q:Unit→Shared→Prop}(ho:s.heap.get? it=some o)(hc:o.cls=.type n)(hd:o.data=.fields vs)
  (hn:["enumerate","zip","dict_itemiterator","dict_reverseitemiterator","odict_iterator","itertools.zip_longest","itertools.pairwise"].contains n=false) (hQ:Q () s):wpAny M A (letOwnedTupleGo tg (.ref it) u) Q E s:=by
 unfold letOwnedTupleGo
 cases tg<;>first
  | exact wpAny_pure hQ
  | (cases u<;>first
    | exact wpAny_pure hQ
    | (refine wpAny_bind (wpAny_load ho ?_)
       rw[hc,hd]
       show wpAny M A (if(["enumerate","zip","dict_itemiterator","dict_reverseitemiterator","odict_iterator","itertools.zip_longest","itertools.pairwise"].contains n && vs[0]? == some (rawInt _))=true then _ else _) Q E s
       rw[if_neg (by intro h;rw[hn,Bool.false_and]at h;cases h)]
       exact wpAny_pure hQ))
def Itl(K:W.Frag)(a:Addr):It :=
 ⟨fun i H=>∃xs x,SqL K H a xs∧xs[i]? = some x,fun i H x H'=>H'=H∧∀xs,SqL K H a xs→xs[i]? = some x,fun i H=>∃xs,SqL K H a xs∧xs.length≤i⟩
def Itt(K:W.Frag)(a:Addr):It :=
 ⟨fun i H=>∃xs x,SqT K H a xs∧xs[i]? = some x,fun i H x H'=>H'=H∧∀xs,SqT K H a xs→xs[i]? = some x,fun i H=>∃xs,SqT K H a xs∧xs.length≤i⟩
def X6(lo:Int)(n:Nat):It:=⟨fun i _=>i<n,fun i H x H'=>H'=H∧x=.int (lo+i),fun i _=>n≤i⟩
theorem a3Y{P:Program}{w:World}{K:W.Frag}{tg:Expr}(a it:Addr):Turn P w K tg (Itl K a) [it] it (fun i h=>h.IsListIter it a i) where
 mem:=by simp
 obj:=fun i h st b hb=>by
  have e:b=it:=by simpa using hb
  subst e
  obtain⟨o,e,c,d⟩:=st
  exact⟨o,e,fun v z=>by rw[d]at z;cases z⟩
 keep:=fun i h h' st k=>st.at fun o e=>k it (by simp) o e
 item:=by
  intro X hP hw hK hc i pins s σ H E I hf st hg
  subst hP hw hK
  obtain⟨xs,x,hq,hx⟩:=hg
  obtain⟨its,rv,p,hz⟩:=I.list hq
  obtain⟨u,hu,ru⟩:=rv.get hx
  obtain⟨f0,f1,f2,f3,f4,f5⟩:=hf it (by simp)
  refine wpAny_pyNext_list_item st p.isList (x:=u) (by simpa using hu) fun h' st' sb=>?_
  have I1:Inv X pins σ H { s with heap:=h' }:=I.turned (t':=s.toks) (fun b o hb e=>(sb.2 b hb).trans e) f0 f1 f3 f4 f5
  obtain⟨o,e,c,d⟩:=id st'
  exact⟨u,rfl,a3f (s:={ s with heap:=h' }) e c d (by decide) ⟨x,H,I1,ru,⟨rfl,fun ys hy=>by rw[I.list_inj hy hq];exact hx⟩,st',fun b hb=>(hf b hb).1⟩⟩
 done:=by
  intro X hP hw hK hc i pins s σ H E I hf st hg
  subst hP hw hK
  obtain⟨xs,hq,hx⟩:=hg
  obtain⟨its,rv,p,hz⟩:=I.list hq
  obtain⟨f0,f1,f2,f3,f4,f5⟩:=hf it (by simp)
  have hl:=rv.length
  exact wpAny_pyNext_list_end (I.ok.hd hc) st p.isList (by simp;omega) fun h' eb=>⟨rfl,I.turned (t':=s.toks) (fun b o hb e=>eb b o hb e) f0 f1 f3 f4 f5⟩
 self:=fun _ _ _ _ _ st h=>wpAny_pyIter_listiter st h
theorem a3g{P:Program}{w:World}{K:W.Frag}{tg:Expr}(a it:Addr):Turn P w K tg (Itt K a) [it] it (fun i h=>h.IsTupleIter it a i) where
 mem:=by simp
 obj:=fun i h st b hb=>by
  have e:b=it:=by simpa using hb
  subst e
  obtain⟨o,e,c,d⟩:=st
  exact⟨o,e,fun v z=>by rw[d]at z;cases z⟩
 keep:=fun i h h' st k=>st.at fun o e=>k it (by simp) o e
 item:=by
  intro X hP hw hK hc i pins s σ H E I hf st hg
  subst hP hw hK
  obtain⟨xs,x,hq,hx⟩:=hg
  obtain⟨its,rv,p,hz⟩:=I.tuple hq
  obtain⟨u,hu,ru⟩:=rv.get hx
  obtain⟨f0,f1,f2,f3,f4,f5⟩:=hf it (by simp)
  refine wpAny_pyNext_tuple_item st (show s.heap.IsTuple a its.toArray from p) (x:=u) (by simpa using hu) fun h' st' sb=>?_
  have I1:Inv X pins σ H { s with heap:=h' }:=I.turned (t':=s.toks) (fun b o hb e=>(sb.2 b hb).trans e) f0 f1 f3 f4 f5
  obtain⟨o,e,c,d⟩:=id st'
  exact⟨u,rfl,a3f (s:={ s with heap:=h' }) e c d (by decide) ⟨x,H,I1,ru,⟨rfl,fun ys hy=>by rw[I.tuple_inj hy hq];exact hx⟩,st',fun b hb=>(hf b hb).1⟩⟩
 done:=by
  intro X hP hw hK hc i pins s σ H E I hf st hg
  subst hP hw hK
  obtain⟨xs,hq,hx⟩:=hg
  obtain⟨its,rv,p,hz⟩:=I.tuple hq
  obtain⟨f0,f1,f2,f3,f4,f5⟩:=hf it (by simp)
  have hl:=rv.length
  exact wpAny_pyNext_tuple_end (I.ok.hd hc) st (show s.heap.IsTuple a its.toArray from p) (by simp;omega) fun h' eb=>⟨rfl,I.turned (t':=s.toks) (fun b o hb e=>eb b o hb e) f0 f1 f3 f4 f5⟩
 self:=fun _ _ _ _ _ st h=>wpAny_pyIter_tupleiter st h
theorem a3h{P:Program}{w:World}{K:PySem.W.Frag}{tg:Expr}(it:Addr)(lo:Int)(n:Nat):Turn P w K tg (X6 lo n) [it] it (fun i h=>IsRangeIter h it (lo+(i:Nat)*1) ((n:Int)-(i:Nat)) 1) where
 mem:=by simp
 obj:=fun i h st b hb=>by
  have e:b=it:=by simpa using hb
  subst e
  exact⟨_,st,fun v z=>by
   have z':Data.fields _=Data.cell v:=z
   cases z'⟩
 keep:=fun i h h' st k=>k it (by simp) _ st
 item:=by
  intro X hP hw hK hc i pins s σ H E I hf st hg
  subst hP hw hK
  obtain⟨f0,f1,f2,f3,f4,f5⟩:=hf it (by simp)
  have W:=Walks.range (prog:=X.prog) (w:=X.w) (I.ok.hd hc) it lo 1 n
  refine W.item i s _ _ hg st fun v h' tk hv st' kk=>?_
  obtain⟨t,rfl⟩:=hv
  have I1:Inv X pins σ H { s with heap:=h',toks:=tk }:=I.turned (fun b o hb e=>kk b o (by simpa using hb) e) f0 f1 f3 f4 f5
  refine⟨_,rfl,a3f (s:={ s with heap:=h',toks:=tk }) (n := "range_iterator") st' rfl rfl (by decide) ⟨.int (lo+i),H,I1,⟨t,?_⟩,⟨rfl,rfl⟩,st',fun b hb=>(hf b hb).1⟩⟩
  rw[Int.mul_one]
 done:=by
  intro X hP hw hK hc i pins s σ H E I hf st hg
  subst hP hw hK
  obtain⟨f0,f1,f2,f3,f4,f5⟩:=hf it (by simp)
  exact wpAny_pyNext_range_end (I.ok.hd hc) st (by have:n≤i:=hg;omega) fun h' eb=>⟨rfl,I.turned (t':=s.toks) (fun b o hb e=>eb b o hb e) f0 f1 f3 f4 f5⟩
 self:=fun _ _ _ _ _ st h=>wpAny_pyIter_rangeiter st h
section
variable {X:Cx}{tg:Expr}
def a53(K:W.Frag)(tl:TE):TI:=fun σ H R=>tl σ H fun x H1=>∃a,x=.ref a∧(∃xs,SqL K H1 a xs)∧R (Itl K a) H1
def a8d(K:W.Frag)(tl:TE):TI:=fun σ H R=>tl σ H fun x H1=>∃a,x=.ref a∧(∃xs,SqT K H1 a xs)∧R (Itt K a) H1
theorem a6z{l:Expr}{tl:TE}(hl:PE X l tl):PI X tg l (a53 X.K tl):=by
 intro pins s σ H R I h
 refine i6 (hl pins s σ H _ I h) fun v s1 ⟨x,H1,I1,r1,q1⟩=>?_
 obtain⟨a,e,⟨xs,hq⟩,q⟩:=q1
 subst e
 cases r1
 obtain⟨its,rv,p,hz⟩:=I1.list hq
 refine wpAny_pyIter_list p.isList ?_
 refine⟨s1.heap.objs.size,[s1.heap.objs.size],_,_,H1,rfl,I1.kept (t':=s1.toks) fun b o e=>Heap.get?_push_of_some _ e,a3Y a _,⟨_,Heap.get?_push_size _ rfl,rfl,rfl⟩,fun b hb=>?_,q⟩
 have e:b=s1.heap.objs.size:=by simpa using hb
 subst e
 exact I1.fpOk (Nat.le_refl _) (I1.hok.fresh (Nat.le_refl _))
theorem a1U{l:Expr}{tl:TE}(hl:PE X l tl):PI X tg l (a8d X.K tl):=by
 intro pins s σ H R I h
 refine i6 (hl pins s σ H _ I h) fun v s1 ⟨x,H1,I1,r1,q1⟩=>?_
 obtain⟨a,e,⟨xs,hq⟩,q⟩:=q1
 subst e
 cases r1
 obtain⟨its,rv,p,hz⟩:=I1.tuple hq
 refine wpAny_pyIter_tuple (show s1.heap.IsTuple a its.toArray from p) ?_
 refine⟨s1.heap.objs.size,[s1.heap.objs.size],_,_,H1,rfl,I1.kept (t':=s1.toks) fun b o e=>Heap.get?_push_of_some _ e,a3g a _,⟨_,Heap.get?_push_size _ rfl,rfl,rfl⟩,fun b hb=>?_,q⟩
 have e:b=s1.heap.objs.size:=by simpa using hb
 subst e
 exact I1.fpOk (Nat.le_refl _) (I1.hok.fresh (Nat.le_refl _))
theorem a4W{pins:List (Addr×Obj)}{σ:St}{H:Hp}{s:Shared}{R:It→Hp→Prop}{E:Value→Shared→Prop}{lo hi:Int}{t u v:Tok}{tk:Nat}(I:Inv X pins σ H s)(h1 : -(2 ^ 62)≤lo)(h2:lo<2 ^ 62)(h3 : -(2 ^ 62)≤hi)(h4:hi<2 ^ 62)
  (q:R (X6 lo (hi-lo).toNat) H):wpAny (model X.prog X.w) X.A (pyIter (.ref s.heap.objs.size)) (PIE X pins σ tg R) E { s with heap:=s.heap.push { cls:=.type "range",data:=.fields #[.int lo t,.int hi u,.int 1 v] },toks:=tk }:=by
 refine wpAny_pyIter_range (IsRange.new ..) (small_one h1 h2 h3 h4) ?_
 have I1:Inv X pins σ H { s with heap:=s.heap.push { cls:=.type "range",data:=.fields #[.int lo t,.int hi u,.int 1 v] },toks:=tk }:=I.kept fun b o e=>Heap.get?_push_of_some _ e
 refine⟨(s.heap.push { cls:=.type "range",data:=.fields #[.int lo t,.int hi u,.int 1 v] }).objs.size,[(s.heap.push { cls:=.type "range",data:=.fields #[.int lo t,.int hi u,.int 1 v] }).objs.size],_,_,H,rfl,
  I1.kept (t':=tk) fun b o e=>Heap.get?_push_of_some _ e,a3h _ lo (hi-lo).toNat,?_,fun b hb=>?_,q⟩
 ·have e1:lo+((0:Nat):Int)*1=lo:=by simp
  have e2:(((hi-lo).toNat:Nat):Int)-((0:Nat):Int)=Builtin.Range.rangeSize lo hi 1:=by rw[rangeSize_one];split<;>omega
  show IsRangeIter _ _ (lo+((0:Nat):Int)*1) ((((hi-lo).toNat:Nat):Int)-((0:Nat):Int)) 1
  rw[e1,e2]
  exact Heap.get?_push_size _ rfl
 ·have e:b=(s.heap.push { cls:=.type "range",data:=.fields #[.int lo t,.int hi u,.int 1 v] }).objs.size:=by simpa using hb
  subst e
  exact I1.fpOk (Nat.le_refl _) (I1.hok.fresh (Nat.le_refl _))
def a3i(ta:TA):TI:=fun σ H R=>ta σ H fun vs H1=>∃j:Int,vs=[.int j]∧-(2 ^ 62)≤j∧j<2 ^ 62∧R (X6 0 j.toNat) H1
theorem M1{a:Expr}{ta:TA}{p pos:Pos}(hg:Gl X "range")(hm:X.mg "range" = none)(ha:PA X [a] ta)(hs:starEach [a] X.env=[(false,eval a X.env)]:=by rfl):PI X tg (.Call (.Name "range" p) [a] [] pos) (a3i ta):=by
 intro pins s σ H R I h
 refine Call_ (X2 I hg hm boot_range (PyProof.Rows.callWith_type1 (i6 (ha pos pins s σ H _ I h) fun us s1 ⟨vs,H1,I1,r1,q1⟩=>?_) hs rfl))
 obtain⟨j,e,q1,q2,q⟩:=q1
 subst e
 cases r1 with
 | cons r rr =>
  cases rr
  obtain⟨t,rfl⟩:=r
  exact call_range_1 (a4W I1 (by omega) (by omega) q1 q2 (by simpa using q))
def a8e(wi:TI)(g:TG)(tb:TS):TS:=fun D σ H=>wi σ H fun J H1=>∃W:Nat→Nat→St→Hp→Prop,(∃m,W 0 m σ H1)∧∀i m σ H,W i m σ H →
 (J.stop i H∧D.nx σ H)∨(J.go i H∧∃N:St→Hp→Prop,(∀σ' H',N σ' H'→∃m',m'<m∧W (i+1) m' σ' H')∧∀x H',J.yld i H x H'→g x σ H' fun σ2 H2=>tb { D with nx:=N,ct:=N,bk:=D.nx } σ2 H2)
def X7(fp:List Addr)(h:Heap):List (Addr×Obj):=fp.filterMap fun b=>(h.get? b).map fun o=>(b,o)
theorem N8{fp:List Addr}{h:Heap}{b:Addr}{o:Obj}(hb:b∈fp)(e:h.get? b=some o):(b,o)∈X7 fp h:=List.mem_filterMap.mpr ⟨b,hb,by rw[e];rfl⟩
theorem a3Z{fp:List Addr}{h:Heap}{p:Addr×Obj}(hp:p∈X7 fp h):p.1∈fp∧h.get? p.1=some p.2:=by
 obtain⟨b,hb,e⟩:=List.mem_filterMap.mp hp
 cases q:h.get? b with
 | none=>rw[q]at e;cases e
 | some o =>
  rw[q]at e
  have e':(b,o)=p:=Option.some.inj e
  subst e'
  exact⟨hb,q⟩
theorem Inv.pinned{pins:List (Addr×Obj)}{σ:St}{H:Hp}{s:Shared}{fp:List Addr}(I:Inv X pins σ H s)(hf:∀b∈fp,FpOk X pins H b)(ho:∀b∈fp,∃o,s.heap.get? b=some o∧∀v,o.data≠.cell v):Inv X (pins++X7 fp s.heap) σ H s :=
 I.pins_of fun p hp=>(List.mem_append.mp hp).elim (fun z=>I.pin p (List.mem_append_right _ z)) fun z=>by
  obtain⟨hb,e⟩:=a3Z z
  obtain⟨f0,f1,f2,_⟩:=hf p.1 hb
  obtain⟨o,e',d⟩:=ho p.1 hb
  rw[e]at e';cases e'
  exact⟨e,f0,f1,f2,d⟩
theorem Inv.unpinned{pins pl:List (Addr×Obj)}{σ:St}{H:Hp}{s:Shared}(I:Inv X (pins++pl) σ H s):Inv X pins σ H s:=I.pins_of fun p hp=>I.pin p (List.mem_append_right _ (List.mem_append_left _ hp))
theorem a30{iter:Expr}{body:List Stmt}{wi:TI}{g:TG}{tb:TS}{pos:Pos}(hp:PassesOwn (model X.prog X.w) X.A X.env X.xe)(hc:X.calm=true)(hi:PI X tg iter wi)(hg:PG X tg g)(hb:PSs X body tb)
  (hs:∀x,foldedSetIterable iter X.env x=pure x:=by intro _;rfl):PS X (.For tg iter body [] pos) (a8e wi g tb):=by
 intro pins s σ H D I h
 refine wpAny_For (i6 (hi pins s σ H _ I h) fun v s1 h1=>i6 h1 fun itv s2 h2=>?_) hs
 obtain⟨it,fp,tn,J,H2,e,I2,T,st2,f2,W,⟨m0,w0⟩,turn⟩:=h2
 subst e
 -- what stays true of the iterator's objects through the loop
 have stat:∀{H':Hp},(∀b∈fp,H' b=none)→∀b∈fp,FpOk X pins H' b:=fun hn b hb=>⟨hn b hb,(f2 b hb).2⟩
 refine codeAny_forLoop_any (fun n s'=>∃i σ' H',Inv X pins σ' H' s'∧tn i s'.heap∧(∀b∈fp,H' b=none)∧W i n σ' H') ?_ m0 ⟨0,σ,H2,I2,st2,fun b hb=>(f2 b hb).1,w0⟩
 rintro n s3 ⟨i,σ3,H3,I3,st3,fr3,w3⟩
 rcases turn i n σ3 H3 w3 with⟨stop,qn⟩ | ⟨go,N,hN,step⟩
 ·refine wpAny_passesOwn hp (i6 (T.done X rfl rfl rfl hc i pins s3 σ3 H3 X.xe I3 (stat fr3) st3 stop) fun r s4 ⟨hr,I4⟩=>?_)
  subst hr
  exact wpAny_execs_nil ⟨σ3,H3,I4,qn⟩
 ·refine wpAny_passesOwn hp (i6 (T.item X rfl rfl rfl hc i pins s3 σ3 H3 X.xe I3 (stat fr3) st3 go) fun r s4 ⟨u,hr,h4⟩=>?_)
  subst hr
  refine wpAny_passesOwn hp (i6 h4 fun _ s5 ⟨x,H5,I5,r5,y5,st5,fr5⟩=>?_)
  have I5':=I5.pinned (stat fr5) (T.obj _ _ st5)
  refine wpAny_passesOwn hp (i6 (hg _ s5 σ3 H5 x u _ I5' r5 (step x H5 y5)) fun _ s6 ⟨σ6,H6,I6,q6⟩=>?_)
  refine wpAny_passesOwn hp (i6 (hb _ s6 σ6 H6 _ I6 q6) fun f s7 q7=>?_)
  have again:∀{σ7:St} {H7:Hp},Inv X (pins++X7 fp s5.heap) σ7 H7 s7→N σ7 H7→∃m,m<n∧∃i σ' H',Inv X pins σ' H' s7∧tn i s7.heap∧(∀b∈fp,H' b=none)∧W i m σ' H':=fun{σ7 H7} I7 n7=>by
   obtain⟨m',hm,w7⟩:=hN σ7 H7 n7
   refine⟨m',hm,i+1,σ7,H7,I7.unpinned,T.keep _ _ _ st5 fun b hb o e=>(I7.pin (b,o) (List.mem_append_right _ (List.mem_append_right _ (N8 hb e)))).1,fun b hb=>?_,w7⟩
   obtain⟨o,e,d⟩:=T.obj _ _ st5 b hb
   exact(I7.pin (b,o) (List.mem_append_right _ (List.mem_append_right _ (N8 hb e)))).2.1
  cases f with
  | next=>obtain⟨σ7,H7,I7,n7⟩:=q7;exact again I7 n7
  | cont=>obtain⟨σ7,H7,I7,n7⟩:=q7;exact again I7 n7
  | brk=>obtain⟨σ7,H7,I7,q7⟩:=q7;exact⟨σ7,H7,I7.unpinned,q7⟩
  | ret v=>obtain⟨x7,σ7,H7,I7,r7,q7⟩:=q7;exact⟨x7,σ7,H7,I7.unpinned,r7,q7⟩
end
theorem a31{lo:Int}{n:Nat}{g:TG}{tb:TS}{D:Ends}{σ:St}{H:Hp}(Pv:Nat→St→Hp→Prop)(h0:Pv 0 σ H)
  (hs:∀i σ H,i<n→Pv i σ H→g (.int (lo+i)) σ H fun σ2 H2=>tb { D with nx:=Pv (i+1),ct:=Pv (i+1),bk:=D.nx } σ2 H2) (hd:∀σ H,Pv n σ H→D.nx σ H) :
  ∃W:Nat→Nat→St→Hp→Prop,(∃m,W 0 m σ H)∧∀i m σ H,W i m σ H →
   ((X6 lo n).stop i H∧D.nx σ H)∨((X6 lo n).go i H∧∃N:St→Hp→Prop,(∀σ' H',N σ' H'→∃m',m'<m∧W (i+1) m' σ' H')∧∀x H',(X6 lo n).yld i H x H'→g x σ H' fun σ2 H2=>tb { D with nx:=N,ct:=N,bk:=D.nx } σ2 H2):=by
 refine⟨fun i m σ H=>m=n-i∧i≤n∧Pv i σ H,⟨n,by simp,Nat.zero_le _,h0⟩,?_⟩
 rintro i m σ H ⟨rfl,hi,p⟩
 by_cases hlt:i<n
 ·refine .inr ⟨hlt,Pv (i+1),fun σ' H' p'=>⟨n-(i+1),by omega,rfl,hlt,p'⟩,fun x H' y=>?_⟩
  obtain⟨e,y⟩:=y
  subst e y
  exact hs i σ _ hlt p
 ·have e:i=n:=by omega
  subst e
  exact .inl ⟨Nat.le_refl _,hd σ H p⟩
abbrev R2:=V→V→Hp→VK→Prop
def I0(X:Cx)(f:Value→Value→Sem Value)(r:R2):Prop :=
 ∀(pins:List (Addr×Obj)) (s:Shared) (σ:St) (H:Hp) (x y:V) (v u:Value) (Q:VK),Inv X pins σ H s→RelV x v→RelV y u→r x y H Q →
  wpAny (model X.prog X.w) X.A (f v u) (EP X pins σ Q) X.xe s
def E3(X:Cx)(f:Value)(r:List V→Hp→VK→Prop):Prop :=
 ∀(pins:List (Addr×Obj)) (s:Shared) (σ:St) (H:Hp) (xs:List V) (us:List Value) (Q:VK),Inv X pins σ H s→Vals xs us→r xs H Q →
  wpAny (model X.prog X.w) X.A (call f us) (EP X pins σ Q) X.xe s
def tOp(r:R2)(ta tb:TE):TE:=fun σ H Q=>ta σ H fun x H1=>tb σ H1 fun y H2=>r x y H2 Q
def tUn(r:V→Hp→VK→Prop)(ta:TE):TE:=fun σ H Q=>ta σ H fun x H1=>r x H1 Q
def rI(C:Int→Int→Prop)(g:Int→Int→V):R2:=fun x y H Q=>∃i j,x=.int i∧y=.int j∧C i j∧Q (g i j) H
def T5(g:Int→Int→V):R2:=fun x y H Q=>∃i j,x=.int i∧y=.int j∧Q (g i j) H
section
variable {X:Cx}{a b c:Expr}{ta tb tc:TE}{pos:Pos}
theorem a4X(ha:PE X a ta)(hb:PE X b tb){pins:List (Addr×Obj)}{s:Shared}{σ:St}{H:Hp}{R:V→V→Hp→Prop}(I:Inv X pins σ H s)
  (h:ta σ H fun x H1=>tb σ H1 fun y H2=>R x y H2) {Q:Value→Shared→Prop} {f:Value→Value→Sem Value}
  (hf:∀v u s2 x y H2,Inv X pins σ H2 s2→RelV x v→RelV y u→R x y H2→wpAny (model X.prog X.w) X.A (f v u) Q X.xe s2) :
  wpAny (model X.prog X.w) X.A (eval a X.env) (fun v s₁=>wpAny (model X.prog X.w) X.A (eval b X.env) (fun u s₂=>wpAny (model X.prog X.w) X.A (f v u) Q X.xe s₂) X.xe s₁) X.xe s:=by
 refine i6 (ha pins s σ H _ I h) fun v s1 ⟨x,H1,I1,r1,q1⟩=>?_
 refine i6 (hb pins s1 σ H1 _ I1 q1) fun u s2 ⟨y,H2,I2,r2,q2⟩=>?_
 exact hf v u s2 x y H2 I2 r1 r2 q2
theorem d5{op:Operator}{r:R2}(ho:I0 X (binaryOp op) r)(ha:PE X a ta)(hb:PE X b tb):PE X (.BinOp a op b pos) (tOp r ta tb):=by
 intro pins s σ H Q I h
 exact wpAny_BinOp (a4X ha hb I h fun v u s2 x y H2 I2 rx ry q=>ho pins s2 σ H2 x y v u Q I2 rx ry q)
theorem opI{f:Value→Value→Sem Value}{C:Int→Int→Prop}{g:Int→Int→Int}
  (rule:∀(i j:Int) (t u:Tok) (s:Shared) (Q:Value→Shared→Prop) (E:Value→Shared→Prop),C i j→Q (.int (g i j) s.toks) { s with toks:=s.toks+1 }→wpAny (model X.prog X.w) X.A (f (.int i t) (.int j u)) Q E s) :
  I0 X f (rI C fun i j=>.int (g i j)):=by
 intro pins s σ H x y v u Q I rx ry h
 obtain⟨i,j,rfl,rfl,hc,q⟩:=h
 obtain⟨t,rfl⟩:=rx
 obtain⟨t',rfl⟩:=ry
 exact rule i j t t' s _ _ hc ⟨.int (g i j),H,I.tok _,⟨_,rfl⟩,q⟩
theorem a8f{f:Value→Value→Sem Value}{g:Int→Int→Int}
  (rule:∀(i j:Int) (t u:Tok) (s:Shared) (Q:Value→Shared→Prop) (E:Value→Shared→Prop),Q (.int (g i j) s.toks) { s with toks:=s.toks+1 }→wpAny (model X.prog X.w) X.A (f (.int i t) (.int j u)) Q E s) :
  I0 X f (T5 fun i j=>.int (g i j)):=by
 intro pins s σ H x y v u Q I rx ry h
 obtain⟨i,j,rfl,rfl,q⟩:=h
 obtain⟨t,rfl⟩:=rx
 obtain⟨t',rfl⟩:=ry
 exact rule i j t t' s _ _ ⟨.int (g i j),H,I.tok _,⟨_,rfl⟩,q⟩
theorem a4Y{f:Value→Value→Sem Value}{g:Int→Int→Bool}
  (rule:∀(i j:Int) (t u:Tok) (s:Shared) (Q:Value→Shared→Prop) (E:Value→Shared→Prop),Q (.bool (g i j)) s→wpAny (model X.prog X.w) X.A (f (.int i t) (.int j u)) Q E s) :
  I0 X f (T5 fun i j=>.bl (g i j)):=by
 intro pins s σ H x y v u Q I rx ry h
 obtain⟨i,j,rfl,rfl,q⟩:=h
 obtain⟨t,rfl⟩:=rx
 obtain⟨t',rfl⟩:=ry
 exact rule i j t t' s _ _ ⟨.bl (g i j),H,I,rfl,q⟩
def a04(i j:Int):Prop:=0≤j∧j≤1000000∧i.natAbs<2 ^ 64
def CMul(i j:Int):Prop:=(-(2 ^ 64)<i∧i<2 ^ 64)∨(-(2 ^ 64)<j∧j<2 ^ 64)
theorem CMul.ok{i j:Int}(h:CMul i j):IntMulOk i j:=by
 rcases h with⟨h1,h2⟩ | ⟨h1,h2⟩
 ·exact .of_left (intBits_le_64 h1 h2)
 ·exact .of_right (intBits_le_64 h1 h2)
theorem p9:I0 X (binaryOp .Add) (T5 fun i j=>.int (i+j)):=a8f fun _ _ _ _ _ _ _ q=>add_int q
theorem a0C:I0 X (binaryOp .Sub) (T5 fun i j=>.int (i-j)):=a8f fun _ _ _ _ _ _ _ q=>sub_int q
theorem l9:I0 X (binaryOp .Mod) (rI (fun _ j=>0<j) fun i j=>.int (i%j)):=opI fun i j _ _ _ _ _ hc q=>by
 have h1:(0:Int)<j:=hc
 exact mod_int' (by omega) (by rw[Int.fmod_eq_emod_of_nonneg i (by omega)];exact q)
theorem a8g:I0 X (binaryOp .Pow) (rI a04 fun i j=>.int (i ^ j.toNat)):=opI fun _ _ _ _ _ _ _ hc q=>pow_int_small hc.1 hc.2.1 hc.2.2 q
end
def a1W:V→V→Bool
 | .non,.non=>true | .non,.int _=>true | .int _,.non=>true | .non,.bl _=>true | .bl _,.non=>true | .non,.str _=>true | .str _,.non=>true
 | .int _,.int _=>true | .bl _,.bl _=>true | .str _,.str _=>true | .byt _,.byt _=>true
 | .int _,.str _=>true | .str _,.int _=>true | .bl _,.str _=>true | .str _,.bl _=>true
 | _,_=>false
def rEq:R2:=fun x y H Q=>a1W x y=true∧Q (.bl (decide (x=y))) H
def rNe:R2:=fun x y H Q=>a1W x y=true∧Q (.bl (!decide (x=y))) H
theorem a2N{i j:Int}:decide (V.int i=V.int j)=(i == j):=by
 rw[Bool.eq_iff_iff]
 simp
theorem a32{i j:Bool}:decide (V.bl i=V.bl j)=(i == j):=by
 rw[Bool.eq_iff_iff]
 simp
theorem a2O{i j:Str}:decide (V.str i=V.str j)=(i == j):=by
 rw[Bool.eq_iff_iff]
 simp
theorem a2P{i j:Array UInt8}:decide (V.byt i=V.byt j)=(i.toList == j.toList):=by
 rw[Bool.eq_iff_iff]
 cases i
 cases j
 simp
section
variable {X:Cx}{a b c:Expr}{ta tb tc:TE}{pos:Pos}
theorem j9{pins:List (Addr×Obj)}{σ:St}{H:Hp}{s:Shared}{Q:VK}{k k':Bool}(I:Inv X pins σ H s)(q:Q (.bl k) H)(e:k=k'):EP X pins σ Q (.bool k') s:=by
 subst e
 exact⟨.bl k,H,I,rfl,q⟩
theorem J6:I0 X (compareOp .Eq) rEq:=by
 intro pins s σ H x y v u Q I rx ry h
 obtain⟨hs,q⟩:=h
 cases x with
 | non =>
  cases rx
  cases y with
  | non=>cases ry;exact PySem.EqNone.eq_none_none (j9 I q (by simp))
  | bl j=>cases ry;exact PySem.EqNone.eq_none_bool (j9 I q (by simp))
  | int j=>obtain⟨t',rfl⟩:=ry;exact PySem.EqNone.eq_none_int (j9 I q (by simp))
  | str j=>obtain⟨t',rfl⟩:=ry;exact PySem.EqNone.eq_none_str (j9 I q (by simp))
  | _=>exact absurd (show false=true from hs) Bool.false_ne_true
 | bl i =>
  cases rx
  cases y with
  | non=>cases ry;exact PySem.EqNone.eq_bool_none (j9 I q (by simp))
  | bl j=>cases ry;exact eq_bool (j9 I q a32)
  | str j=>obtain⟨t',rfl⟩:=ry;exact PySem.EqMixed.eq_bool_str (j9 I q (by simp))
  | _=>exact absurd (show false=true from hs) Bool.false_ne_true
 | int i =>
  obtain⟨t,rfl⟩:=rx
  cases y with
  | non=>cases ry;exact PySem.EqNone.eq_int_none (j9 I q (by simp))
  | int j=>obtain⟨t',rfl⟩:=ry;exact eq_int (j9 I q a2N)
  | str j=>obtain⟨t',rfl⟩:=ry;exact PySem.EqMixed.eq_int_str (j9 I q (by simp))
  | _=>exact absurd (show false=true from hs) Bool.false_ne_true
 | str i =>
  obtain⟨t,rfl⟩:=rx
  cases y with
  | non=>cases ry;exact PySem.EqNone.eq_str_none (j9 I q (by simp))
  | bl j=>cases ry;exact PySem.EqMixed.eq_str_bool (j9 I q (by simp))
  | int j=>obtain⟨t',rfl⟩:=ry;exact PySem.EqMixed.eq_str_int (j9 I q (by simp))
  | str j=>obtain⟨t',rfl⟩:=ry;exact eq_str (j9 I q a2O)
  | _=>exact absurd (show false=true from hs) Bool.false_ne_true
 | byt i =>
  obtain⟨t,rfl⟩:=rx
  cases y with
  | byt j=>obtain⟨t',rfl⟩:=ry;exact W.eq_bytes (j9 I q a2P)
  | _=>exact absurd (show false=true from hs) Bool.false_ne_true
 | _=>cases y<;>exact absurd (show false=true from hs) Bool.false_ne_true
theorem a3j:I0 X (compareOp .NotEq) rNe:=by
 intro pins s σ H x y v u Q I rx ry h
 obtain⟨hs,q⟩:=h
 cases x with
 | non =>
  cases rx
  cases y with
  | non=>cases ry;exact PySem.EqNone.ne_none_none (j9 I q (by simp))
  | bl j=>cases ry;exact PySem.EqNone.ne_none_bool (j9 I q (by simp))
  | int j=>obtain⟨t',rfl⟩:=ry;exact PySem.EqNone.ne_none_int (j9 I q (by simp))
  | str j=>obtain⟨t',rfl⟩:=ry;exact PySem.EqNone.ne_none_str (j9 I q (by simp))
  | _=>exact absurd (show false=true from hs) Bool.false_ne_true
 | bl i =>
  cases rx
  cases y with
  | non=>cases ry;exact PySem.EqNone.ne_bool_none (j9 I q (by simp))
  | bl j=>cases ry;exact ne_bool (j9 I q (congrArg not a32))
  | str j=>obtain⟨t',rfl⟩:=ry;exact PySem.EqMixed.ne_bool_str (j9 I q (by simp))
  | _=>exact absurd (show false=true from hs) Bool.false_ne_true
 | int i =>
  obtain⟨t,rfl⟩:=rx
  cases y with
  | non=>cases ry;exact PySem.EqNone.ne_int_none (j9 I q (by simp))
  | int j=>obtain⟨t',rfl⟩:=ry;exact ne_int (j9 I q (congrArg not a2N))
  | str j=>obtain⟨t',rfl⟩:=ry;exact PySem.EqMixed.ne_int_str (j9 I q (by simp))
  | _=>exact absurd (show false=true from hs) Bool.false_ne_true
 | str i =>
  obtain⟨t,rfl⟩:=rx
  cases y with
  | non=>cases ry;exact PySem.EqNone.ne_str_none (j9 I q (by simp))
  | bl j=>cases ry;exact PySem.EqMixed.ne_str_bool (j9 I q (by simp))
  | int j=>obtain⟨t',rfl⟩:=ry;exact PySem.EqMixed.ne_str_int (j9 I q (by simp))
  | str j=>obtain⟨t',rfl⟩:=ry;exact ne_str (j9 I q (congrArg not a2O))
  | _=>exact absurd (show false=true from hs) Bool.false_ne_true
 | byt i =>
  obtain⟨t,rfl⟩:=rx
  cases y with
  | byt j=>obtain⟨t',rfl⟩:=ry;exact W.ne_bytes (j9 I q (congrArg not a2P))
  | _=>exact absurd (show false=true from hs) Bool.false_ne_true
 | _=>cases y<;>exact absurd (show false=true from hs) Bool.false_ne_true
theorem a9b:I0 X (compareOp .Lt) (T5 fun i j=>.bl (decide (i<j))):=a4Y fun _ _ _ _ _ _ _ q=>lt_int q
theorem Q6:I0 X (compareOp .LtE) (T5 fun i j=>.bl (decide (i≤j))):=a4Y fun _ _ _ _ _ _ _ q=>le_int q
theorem a55:I0 X (compareOp .Gt) (T5 fun i j=>.bl (decide (j<i))):=a4Y fun _ _ _ _ _ _ _ q=>gt_int q
theorem a8h:I0 X (compareOp .Is) (fun x y H Q=>y=.non∧Q (.bl (decide (x=.non))) H):=by
 intro pins s σ H x y v u Q I rx ry h
 obtain⟨rfl,q⟩:=h
 cases ry
 refine is_none_gen (j9 I q ?_)
 cases x<;>first
  | (cases rx;rfl)
  | (obtain⟨t,rfl⟩:=rx;rfl)
theorem j3(b:Expr){op:CmpOp}(h:op≠.In:=by decide)(h2:op≠.NotIn:=by decide):behindInMarks op b=false:=by
 have e1:(op == CmpOp.In)=false:=by cases op<;>first | rfl | exact absurd rfl h
 have e2:(op == CmpOp.NotIn)=false:=by cases op<;>first | rfl | exact absurd rfl h2
 cases b<;>simp[behindInMarks,e1,e2]
theorem B4{op:CmpOp}{r:R2}(ho:I0 X (compareOp op) r)(ha:PE X a ta)(hb:PE X b tb)(hm:behindInMarks op b=false):PE X (.Compare a [op] [b] pos) (tOp r ta tb):=by
 intro pins s σ H Q I h
 exact wpAny_Compare1 (a4X ha hb I h fun v u s2 x y H2 I2 rx ry q=>ho pins s2 σ H2 x y v u Q I2 rx ry q) hm
def a56(t:TE):TT:=fun σ H Q=>t σ H fun x H'=>∃k,x=.bl k∧Q k H'
theorem n8{op:CmpOp}{r:R2}(ho:I0 X (compareOp op) r)(ha:PE X a ta)(hb:PE X b tb)(hm:behindInMarks op b=false):PT X (.Compare a [op] [b] pos) (a56 (tOp r ta tb)):=by
 intro pins s σ H Q I h
 refine wpAny_isTrue_Compare1 (i6 (ha pins s σ H _ I h) fun v s1 ⟨x,H1,I1,r1,q1⟩=>i6 (hb pins s1 σ H1 _ I1 q1) fun u s2 ⟨y,H2,I2,r2,q2⟩ =>
  i6 (ho pins s2 σ H2 x y v u _ I2 r1 r2 q2) fun c s3 ⟨z,H3,I3,r3,k,e,q3⟩=>?_) hm
 subst e
 cases r3
 exact wpAny_truthy_bool ⟨H3,I3,q3⟩
theorem X8:(sizeLine:Nat)<2 ^ 63:=by rw[sizeLine_eq];decide
theorem a0D{x:V}{us:List Value}(r:Vals [x] us):∃u,us=[u]∧RelV x u:=by
 cases r with
 | cons r1 r2=>cases r2;exact⟨_,rfl,r1⟩
theorem a57{x y:V}{us:List Value}(r:Vals [x,y] us):∃u w',us=[u,w']∧RelV x u∧RelV y w':=by
 cases r with
 | cons r1 r2 =>
  cases r2 with
  | cons r3 r4=>cases r4;exact⟨_,_,rfl,r1,r3⟩
theorem X9(hc:X.calm=true):E3 X (.builtin "max") (fun xs H Q=>∃i j,xs=[.int i,.int j]∧Q (.int (if j > i then j else i)) H):=by
 intro pins s σ H xs us Q I r h
 obtain⟨i,j,rfl,q⟩:=h
 obtain⟨u,w',rfl,⟨t,rfl⟩,⟨t',rfl⟩⟩:=a57 r
 refine max_two_ints (I.ok.hd hc) fun h' tk k=>⟨_,H,I.kept k,?_,q⟩
 by_cases hj:j > i
 ·rw[if_pos hj,if_pos hj];exact⟨_,rfl⟩
 ·rw[if_neg hj,if_neg hj];exact⟨_,rfl⟩
theorem a33:E3 X (.type "int") (fun xs H Q=>(∃i,xs=[.int i]∧Q (.int i) H)∨∃k,xs=[.bl k]∧Q (.int (if k then 1 else 0)) H):=by
 intro pins s σ H xs us Q I r h
 rcases h with⟨i,rfl,q⟩ | ⟨k,rfl,q⟩
 ·obtain⟨u,rfl,t,rfl⟩:=a0D r
  exact call_int_int ⟨.int i,H,I,⟨_,rfl⟩,q⟩
 ·obtain⟨u,rfl,r1⟩:=a0D r
  cases r1
  exact call_int_bool ⟨.int (if k then 1 else 0),H,I.tok _,⟨_,rfl⟩,q⟩
end
structure ObjM(h:Heap)(x dx C:Addr)(mA:Str→Option Value):Prop where
 obj:h.get? x=some (W.instObj C dx)
 ns:h.Ns1 dx mA
 ne:dx≠x
theorem a1p{h:Heap}{dx:Addr}{mA:Str→Option Value}(n:h.Ns1 dx mA):∃od,h.get? dx=some od∧∀name,W.lookIn name od=some (mA name):=by
 obtain⟨o,es,ep,ho,hd,hk,_,hm⟩:=n
 refine⟨o,ho,fun name=>?_⟩
 have e:=hm name
 unfold nsFind findBy at e
 rw[← Array.find?_toList]at e
 unfold W.lookIn
 rw[hd]
 dsimp only
 split
 ·rename_i y q
  rw[q]at e
  exact congrArg some e
 ·rename_i q
  rw[q]at e
  have a:es.toList.any (·.refKey)=false:=by
   rw[List.any_eq_false]
   intro y hy
   obtain⟨z,t,hkey⟩:=hk y (Array.mem_toList_iff.mp hy)
   simp[DictEntry.refKey,hkey]
  have a':¬es.toList.any (·.refKey)=true:=by rw[a];exact Bool.false_ne_true
  rw[if_neg a']
  exact congrArg some e
theorem ObjM.look{h:Heap}{x dx C:Addr}{mA:Str→Option Value}(I:ObjM h x dx C mA):∃od,W.InstAt h x (W.instObj C dx) C (some od)∧∀name,W.lookIn name od=some (mA name) :=
 let ⟨od,ho,hl⟩:=a1p I.ns
 ⟨od,⟨I.obj,rfl,rfl,ho⟩,hl⟩
theorem RelO.some_of{v:V}{o:Option Value}(r:RelO (some v) o):∃u,o=some u∧RelV v u:=by
 cases o with
 | none=>exact(show False from r).elim
 | some u=>exact⟨u,rfl,r⟩
theorem a34{v:V}{u:Value}(r:RelV v u):W.handedIn u=true:=by
 cases v with
 | non=>cases (show u=Value.none from r);rfl
 | bl b=>cases (show u=Value.bool b from r);rfl
 | int i=>obtain⟨t,e⟩:=(show ∃t,u=Value.int i t from r);cases e;rfl
 | str x=>obtain⟨t,e⟩:=(show ∃t,u=Value.str x t from r);cases e;rfl
 | byt b=>obtain⟨t,e⟩:=(show ∃t,u=Value.bytes b t from r);cases e;rfl
 | flt b=>obtain⟨t,e⟩:=(show ∃t,u=Value.float b t from r);cases e;rfl
 | ref a=>cases (show u=Value.ref a from r);rfl
 | ty n=>cases (show u=Value.type n from r);rfl
section
variable {P:Program}{w:World}{H H':Hp}{h h':Heap}{a C dx:Addr}{fs fs':List (Str×V)}
theorem a6A(hok:HOk P w H h)(e:H a=some (.ins C dx fs)):∃mA,ObjM h a dx C mA∧(∀f,RelO (fs.lookup f) (mA f))∧PySem.Within mA (fs.map (·.1))∧fs.length≤1000∧H dx=some (.own a):=by
 obtain⟨d,z,ne,ob,mA,n,r,q⟩:=(show ObjOk P w H h a (.ins C dx fs)from hok a _ e)
 exact⟨mA,⟨ob,n,ne⟩,r,q,z,d⟩
end
structure Cls(K:W.Frag)(C:Addr):Prop where
 pg:W.plainGet K C Str.empty=true
 hd:W.hasDictIn K C=true
 po:W.plainOver K C=true
 sa:W.findIn K (.ref C) "__setattr__" = some (some (.builtin "object.__setattr__"))
theorem Cls.get{K:W.Frag}{C:Addr}(c:Cls K C)(f:Str):W.plainGet K C f=true:=c.pg
section
variable {X:Cx}{pins:List (Addr×Obj)}{σ:St}{H:Hp}{s:Shared}{a C dx:Addr}{fs:List (Str×V)}{f:Str}{v:V}{A:Around}{E:Value→Shared→Prop}
theorem Inv.made(I:Inv X pins σ H s):Inv X pins σ (upd (upd H s.heap.objs.size (.own (s.heap.objs.size+1))) (s.heap.objs.size+1) (.ins C s.heap.objs.size []))
  { s with heap:=(s.heap.push W.emptyDict).push (W.instObj C s.heap.objs.size) }:=by
 have e1:(s.heap.push W.emptyDict).get? s.heap.objs.size=some W.emptyDict:=Heap.get?_push_size s.heap rfl
 have e2:((s.heap.push W.emptyDict).push (W.instObj C s.heap.objs.size)).get? (s.heap.objs.size+1)=some (W.instObj C s.heap.objs.size):=by
  have:=Heap.get?_push_size (s.heap.push W.emptyDict) (o:=W.instObj C s.heap.objs.size) rfl
  rwa [Heap.size_push]at this
 have e3:(s.heap.push W.emptyDict).Ns s.heap.objs.size (fun _=>none):=⟨W.emptyDict,#[],_,e1,rfl,(fun e he=>absurd he (by simp)),fun _=>rfl⟩
 have I1:=I.laid (a:=s.heap.objs.size) (o:=.own (s.heap.objs.size+1)) (h':=s.heap.push W.emptyDict) (t':=s.toks) (fun b u q=>Heap.get?_push_of_some _ q) (Nat.le_refl _) ⟨_,e1⟩
 refine I1.laid (a:=s.heap.objs.size+1) (o:=.ins C s.heap.objs.size []) (t':=s.toks) (fun b u q=>Heap.get?_push_of_some _ q) (Nat.le_of_eq (Heap.size_push _ _)) ?_
 have ne:s.heap.objs.size≠s.heap.objs.size+1:=Nat.ne_of_lt (Nat.lt_succ_self _)
 refine⟨by rw[b9 ne,g9],Nat.zero_le _,ne,e2,fun _=>none,(Heap.Ns1.of_empty e3).at fun o q=>Heap.get?_push_of_some _ q,fun _=>True.intro,fun y hy=>absurd rfl hy⟩
theorem a6B{prog:Program}{w:World}{env:Env}{e:Expr}{f:Str}{pos:Pos}{s:Shared}{Q:Value→Shared→Prop}(hb:attributeBase e f env (eval e env)=eval e env)
  (h:wpAny (model prog w) A (eval e env) (fun o s₁=>wpAny (model prog w) A (getAttr o f true) Q E s₁) E s):wpAny (model prog w) A (eval (.Attribute e f pos) env) Q E s :=
 Attribute_any_ h (by rw[arm_eval_Attribute,hb])
end
section
variable {X:Cx}{pins:List (Addr×Obj)}{σ:St}{H:Hp}{s:Shared}{A:Around}{E:Value→Shared→Prop}{Q:Value→Shared→Prop}{c:Value}{b:Bool}
inductive TyOf(K:W.Frag)(H:Hp):V→Value→Prop where
 | non:TyOf K H .non (.type "NoneType")
 | bl (x:Bool):TyOf K H (.bl x) (.type "bool")
 | int (i:Int):TyOf K H (.int i) (.type "int")
 | str (x:Str):TyOf K H (.str x) (.type "str")
 | flt (x:UInt64):TyOf K H (.flt x) (.type "float")
 | lst {a:Addr} {xs:List V} (e:H a=some (.lst xs)):TyOf K H (.ref a) (.type "list")
 | frz {a:Addr} {o:Obj} {xs:List V} (e:H a=some (.frz o (.lst xs))):TyOf K H (.ref a) (.type "list")
 | tup {a:Addr} {xs:List V} (e:H a=some (.tup xs)):TyOf K H (.ref a) (.type "tuple")
 | dK {a:Addr} {kvs:List (u7×V)} (e:H a=some (.dK kvs)):TyOf K H (.ref a) (.type "dict")
 | dT {a:Addr} {kvs:List (List u7×V)} (e:H a=some (.dT kvs)):TyOf K H (.ref a) (.type "dict")
 | ins {a C dx:Addr} {fs:List (Str×V)} (e:H a=some (.ins C dx fs)) (cl:Cls K C) (ha:W.findIn K (.ref C) "__class__" = some (some (.builtin "object.__class__")))
   (hn:W.specialIn K (.builtin "object.__class__") "__get__" = some (some (.builtin "getset_descriptor.__get__"))) (htk:W.takesIn K (.builtin "object.__class__")=some true)
   (hm:W.mroIn K C (.type "object")=some true):TyOf K H (.ref a) (.ref C)
end
structure Room(k:Nat)(A:Around):Prop where
 hd:A.handled=none
 dp:A.depth+3*k+5<recursionLimit
 un:A.units+16*k+200<cLine
theorem Room.mono{j k:Nat}{A:Around}(r:Room k A)(h:j≤k):Room j A:=⟨r.hd,by have:=r.dp;omega,by have:=r.un;omega⟩
theorem Room.deeper{k:Nat}{A:Around}(r:Room (k+1) A)(env:Env):Room k (A.deeper env) :=
 ⟨r.hd,by have:=r.dp;show A.depth+1+3*k+5<_;omega,by have:=r.un;show A.units+3+16*k+200<_;omega⟩
theorem Room.in1{k:Nat}{A:Around}(r:Room (k+1) A):Room k A.in1 :=
 ⟨r.hd,by have:=r.dp;show A.depth+3*k+5<_;omega,by have:=r.un;show A.units+1+16*k+200<_;omega⟩
theorem a3k{A:Around}{C:Addr}{us:List Value}{kw:List (Str×Value)}:(A.under (.builtin "type.__call__" ⟨.ref C::us,kw⟩)).depth=A.depth+1:=by
 first | rfl | simp[Around.under,Code.weight,Code.isCreation,Code.isGuard,Code.isCaller,Code.frames,Code.isFrame,guardIds]
theorem a3l{A:Around}{C:Addr}{us:List Value}{kw:List (Str×Value)}:(A.under (.builtin "type.__call__" ⟨.ref C::us,kw⟩)).units=A.units+1:=by
 first | rfl | simp[Around.under,Code.cUnits,Code.frames,Code.isFrame]
theorem Room.make{k:Nat}{A:Around}(r:Room (k+1) A)(C:Addr)(us:List Value)(kw:List (Str×Value)):Room k (A.under (.builtin "type.__call__" ⟨.ref C::us,kw⟩)) :=
 ⟨r.hd,by have:=r.dp;rw[a3k];omega,by have:=r.un;rw[a3l];omega⟩
theorem Room.depth{k:Nat}{A:Around}(r:Room k A):A.depth<recursionLimit:=by have:=r.dp;omega
theorem Room.units{k:Nat}{A:Around}(r:Room k A):A.units+64<cLine:=by have:=r.un;omega
def a0n:TA:=fun _ H Q=>Q [] H
def N9(ta:TE)(tr:TA):TA:=fun σ H Q=>ta σ H fun x H1=>tr σ H1 fun xs H2=>Q (x::xs) H2
section
variable {X:Cx}{e:Expr}{es:List Expr}{te:TE}{t:TA}{pos:Pos}
theorem c5:PA X [] a0n:=fun _ _ _ _ H Q I h=>Calls.spliced_nil ⟨[],H,I,.nil,h⟩
theorem a6(ha:PE X e te)(hr:PA X es t)(hs:starEach (e::es) X.env=(false,eval e X.env)::starEach es X.env:=by rfl):PA X (e::es) (N9 te t):=by
 intro pos pins s σ H Q I h
 rw[hs]
 show wpAny _ _ (spliced ((false,eval e X.env)::backTo pos (starEach es X.env))) _ _ s
 refine Calls.spliced_cons (i6 (ha pins s σ H _ I h) fun u s1 ⟨x,H1,I1,r1,q1⟩=>?_)
 exact i6 (hr pos pins s1 σ H1 _ I1 q1) fun us s2 ⟨xs,H2,I2,r2,q2⟩=>⟨x::xs,H2,I2,.cons r1 r2,q2⟩
def a8i(t:TA):TE:=fun σ H Q=>t σ H fun xs H1=>xs.length≤sizeLine∧∀p,H1 p=none→Q (.ref p) (upd H1 p (.tup xs))
def a8j(t:TA):TE:=fun σ H Q=>t σ H fun xs H1=>xs.length≤sizeLine∧∀p,H1 p=none→Q (.ref p) (upd H1 p (.lst xs))
theorem u3{x1}(h:PA X es t):PE X (.Tuple es x1 pos) (a8i t):=by
 intro pins s σ H Q I hq
 refine wpAny_Tuple_spliced (i6 (h pos pins s σ H _ I hq) fun us s1 ⟨xs,H1,I1,r,z,q⟩=>⟨by rw[← r.length];exact z,?_⟩)
 have hf:H1 s1.heap.objs.size=none:=I1.hok.fresh (Nat.le_refl _)
 refine⟨.ref s1.heap.objs.size,upd H1 s1.heap.objs.size (.tup xs),I1.laid (t':=s1.toks) (fun b u e=>Heap.get?_push_of_some _ e) (Nat.le_refl _) ?_,rfl,q _ hf⟩
 exact⟨z,us,r,⟨_,Heap.get?_push_size _ rfl,rfl,_,rfl⟩⟩
theorem O6(h:PA X es t):PE X (.List es pos) (a8j t):=by
 intro pins s σ H Q I hq
 refine wpAny_List_spliced (i6 (h pos pins s σ H _ I hq) fun us s1 ⟨xs,H1,I1,r,z,q⟩=>⟨by rw[← r.length];exact z,?_⟩)
 have hf:H1 s1.heap.objs.size=none:=I1.hok.fresh (Nat.le_refl _)
 refine⟨.ref s1.heap.objs.size,upd H1 s1.heap.objs.size (.lst xs),I1.laid (t':=s1.toks) (fun b u e=>Heap.get?_push_of_some _ e) (Nat.le_refl _) ?_,rfl,q _ hf⟩
 exact⟨z,us,0,r,Heap.get?_push_size _ rfl⟩
end
abbrev Sp:=List V→Hp→VK→XK→Prop
abbrev T6:=List Env→Hp→Shared→XK→Value→Shared→Prop
structure Env0(P:Program)(w:World)(K:W.Frag)(mg:Str→Option Value)(base:Heap)(A:Around)(outer:List Env)(s:Shared)(H:Hp):Prop where
 frames:A.frames=some outer
 mod:Mod K mg base
 bs:∀b o,base.get? b=some o→s.heap.get? b=some o∧H b=none
 bsz:base.objs.size≤s.heap.objs.size
 funs:s.heap.FunFrames base outer
 frf:∀b∈B3 outer,H b=none
 hok:HOk P w H s.heap
 bare:AllBare s.gens
def CE(outer:List Env)(P:Program)(w:World)(H:Hp)(s:Shared)(Q:VK)(u:Value)(s':Shared):Prop :=
 ∃v H',s'.os=s.os∧AllBare s'.gens∧Un (B3 outer) [] H H' s.heap s'.heap∧HOk P w H' s'.heap∧RelV v u∧Q v H'
def CR(CX:T6)(outer:List Env)(P:Program)(w:World)(H:Hp)(s:Shared)(Q:VK)(E:XK)(r:Result)(s':Shared):Prop :=
 match r with
 | .ok (.ret u)=>CE outer P w H s Q u s'
 | .ok _=>False
 | .error e=>CX outer H s E e s'
structure FnOk(P:Program)(w:World)(K:W.Frag)(mg:Str→Option Value)(base:Heap)(CX:T6)(k:Nat)(f:Addr)(fd:FuncData)(ps:List Str)(sp:Sp):Prop where
 len:∀vs H Q E,sp vs H Q E→vs.length=ps.length
 run:∀(A:Around) (outer:List Env) (s:Shared) (H:Hp) (args:Args) (us:List Value) (vs:List V) (Q:VK) (E:XK),Room k A→Env0 P w K mg base A outer s H→BindsTo s fd args (ps.zip us)→Vals vs us→sp vs H Q E →
  codeAny (model P w) A (.call (.ref f) args) (CR CX outer P w H s Q E) s
theorem FnOk.mono{P:Program}{w:World}{K:W.Frag}{mg:Str→Option Value}{base:Heap}{CX:T6}{j k:Nat}{f:Addr}{fd:FuncData}{ps:List Str}{sp:Sp}(F:FnOk P w K mg base CX j f fd ps sp)(h:j≤k) :
  FnOk P w K mg base CX k f fd ps sp:=⟨F.len,fun A outer s H args us vs Q E hr=>F.run A outer s H args us vs Q E (hr.mono h)⟩
theorem FnOk.imp{P:Program}{w:World}{K:W.Frag}{mg:Str→Option Value}{base:Heap}{CX:T6}{k:Nat}{f:Addr}{fd:FuncData}{ps:List Str}{sp sp':Sp}(F:FnOk P w K mg base CX k f fd ps sp)
  (h:∀vs H Q E,sp' vs H Q E→sp vs H Q E):FnOk P w K mg base CX k f fd ps sp' :=
 ⟨fun vs H Q E q=>F.len vs H Q E (h _ _ _ _ q),fun A outer s H args us vs Q E hr he hb hv hs=>F.run A outer s H args us vs Q E hr he hb hv (h _ _ _ _ hs)⟩
theorem Env0.make{P:Program}{w:World}{K:W.Frag}{mg:Str→Option Value}{base:Heap}{A:Around}{outer:List Env}{s:Shared}{H:Hp}(e:Env0 P w K mg base A outer s H)(C:Addr)(us:List Value)(kw:List (Str×Value)) :
  Env0 P w K mg base (A.under (.builtin "type.__call__" ⟨.ref C::us,kw⟩)) outer s H:=⟨by first | exact e.frames | (simpa [Around.under,Code.envs,Code.isFrame,pushEnvs]using e.frames),e.mod,e.bs,e.bsz,e.funs,e.frf,e.hok,e.bare⟩
theorem Env0.in1{P:Program}{w:World}{K:W.Frag}{mg:Str→Option Value}{base:Heap}{A:Around}{outer:List Env}{s:Shared}{H:Hp}(e:Env0 P w K mg base A outer s H) :
  Env0 P w K mg base A.in1 outer s H:=⟨e.frames,e.mod,e.bs,e.bsz,e.funs,e.frf,e.hok,e.bare⟩
section
variable {X:Cx}{pins:List (Addr×Obj)}{σ:St}{H:Hp}{s s':Shared}
theorem Inv.env0(I:Inv X pins σ H s):Env0 X.prog X.w X.K X.mg X.base X.A X.stack s H :=
 ⟨I.ok.frames,I.ok.mod,I.bs,Nat.le_trans I.ok.bsz I.sz,I.stack,I.stkFree,I.hok,I.bare⟩
theorem Inv.after{Q:VK}{u:Value}(I:Inv X pins σ H s)(h:CE X.stack X.prog X.w H s Q u s'):EP X pins σ Q u s':=by
 obtain⟨v,H',os,bare,un,hok,r,q⟩:=h
 obtain⟨hh,g,d,t,os'⟩:=s'
 obtain rfl:os'=s.os:=os
 exact⟨v,H',I.call (h':=hh) (g':=g) (d':=d) (t':=t) (ch:=[]) un hok bare (fun b z=>absurd z (by simp)),r,q⟩
end
def Q7(sp:Sp)(dvs:List V)(E:XK)(t:TA):TE:=fun σ H Q=>t σ H fun vs H1=>sp (vs++dvs) H1 Q E
def Binds(K:W.Frag)(fd:FuncData)(ps:List Str)(ds:List Value):Prop :=
 ∀(s:Shared) (us:List Value),K.In s.heap→(us++ds).length=ps.length→BindsTo s fd ⟨us,[]⟩ (ps.zip (us++ds))
theorem Binds.all{K:W.Frag}{fd:FuncData}{ps:List Str}(h:∀us:List Value,us.length=ps.length→bindArgs fd ⟨us,[]⟩=pure (ps.zip us)):Binds K fd ps []:=fun s us _ hl=>by
 rw[List.append_nil]at hl ⊢
 exact .of_eq (h us hl)
def Y0(CX:T6)(X:Cx)(E:XK):Prop:=∀(pins:List (Addr×Obj)) (σ:St) (H:Hp) (s:Shared) (e:Value) (s':Shared),Inv X pins σ H s→CX X.stack H s E e s'→X.xe e s'
section
variable {X:Cx}{CX:T6}{k:Nat}{f C:Addr}{fd:FuncData}{ps:List Str}{sp:Sp}{dvs:List V}{ds:List Value}{E:XK}{x m:Str}{p pos apos:Pos}{e o:Expr}{es:List Expr}{ta:TE}{t:TA}
theorem a8k{pins:List (Addr×Obj)}{σ:St}{H:Hp}{s:Shared}{Q:VK}{us:List Value}{vs:List V}(F:FnOk X.prog X.w X.K X.mg X.base CX k f fd ps sp)(hr:Room k X.A)(hb:Binds X.K fd ps ds)(hd:Vals dvs ds)(hx:Y0 CX X E)
  (I:Inv X pins σ H s) (r:Vals vs us) (h:sp (vs++dvs) H Q E):wpAny (model X.prog X.w) X.A (call (.ref f) us) (EP X pins σ Q) X.xe s:=by
 have r2:Vals (vs++dvs) (us++ds):=r.append hd
 have hl:(us++ds).length=ps.length:=by rw[← r2.length];exact F.len _ _ _ _ h
 refine wpAny_call (codeAny_mono (F.run X.A X.stack s H ⟨us,[]⟩ (us++ds) (vs++dvs) Q E hr I.env0 (hb s us I.kIn hl) r2 h) fun r s' hq=>?_)
 cases r with
 | error e=>exact hx pins σ H s e s' I hq
 | ok fl =>
  cases fl with
  | ret u=>exact I.after hq
  | next=>exact False.elim hq
  | brk=>exact False.elim hq
  | cont=>exact False.elim hq
theorem a6C(F:FnOk X.prog X.w X.K X.mg X.base CX k f fd ps sp)(hr:Room k X.A)(hg:Gl X x)(hm:X.mg x=some (.ref f))(hk:W.keepIn X.K (.ref f)=true)(hb:Binds X.K fd ps ds)(hd:Vals dvs ds)(hx:Y0 CX X E)
  (ha:PA X (e::es) t) (hdb:(x == ("__debug__" : Str))=false:=by decide) (he:starEach (e::es) X.env=(false,eval e X.env)::starEach es X.env:=by rfl) (hpl:(backTo pos (starEach es X.env)).any (·.1)=false:=by rfl) :
  PE X (.Call (.Name x p) (e::es) [] pos) (Q7 sp dvs E t):=by
 intro pins s σ H Q I h
 refine wpAny_Call_Name_kw (O2 I hg hm ?_ hdb)
 refine W.callWith_K (h₀:=X.base) I.ok.mod.kin hk (i6 (ha pos pins s σ H _ I h) fun us s1 ⟨vs,H1,I1,r,q⟩=>⟨I1.kIn,?_⟩) he hpl
 exact a8k F hr hb hd hx I1 r q
end
structure FnScope(N P:List Str)(sc:Scope):Prop where
 kind:sc.kind=.function
 co:sc.isCoroutine=false
 gen:sc.isGenerator=false
 nd:N.Nodup
 pre:N.take P.length=P
 par:∀x∈P,sc.names.lookup x=some .local∨sc.names.lookup x=some .cell
 nofree:∀y∈sc.names,y.2≠.free
theorem a1q{kindOf:Str→Option NameKind}{x:Str}:∀{binds:List (Str×Value)} {m:Str→Option Value},(∀v,(x,v) ∉ binds)→bindL kindOf binds m x=m x
 | [],_,_=>rfl
 | (n,v)::r,m,h=>by
  unfold bindL
  rw[a1q fun w hw=>h w (List.mem_cons_of_mem _ hw)]
  split
  ·have:x≠n:=by rintro rfl;exact h v List.mem_cons_self
   simp[this]
  ·rfl
theorem a1r{kindOf:Str→Option NameKind}{x:Str}:∀{binds:List (Str×Value)} {m:Str→Option Value},(∀v,(x,v) ∉ binds)→bindC kindOf binds m x=m x
 | [],_,_=>rfl
 | (n,v)::r,m,h=>by
  unfold bindC
  rw[a1r fun w hw=>h w (List.mem_cons_of_mem _ hw)]
  split
  ·rfl
  ·have:x≠n:=by rintro rfl;exact h v List.mem_cons_self
   simp[this]
theorem a1s{kindOf:Str→Option NameKind}{x:Str}{v:Value}:∀{P:List Str} {vs:List Value} {i:Nat} {m:Str→Option Value},P.Nodup→P[i]? = some x→vs[i]? = some v→kindOf x=some .local →
  bindL kindOf (P.zip vs) m x=some v
 | [],_,_,_,_,h,_,_=>by simp at h
 | _::_,[],_,_,_,_,h,_=>by simp at h
 | p::P,w::vs,0,m,nd,h1,h2,hk=>by
  simp at h1 h2;subst h1;subst h2
  show bindL kindOf ((p,w)::P.zip vs) m p=_
  unfold bindL
  rw[a1q fun v hv=>(List.nodup_cons.mp nd).1 (List.of_mem_zip hv).1,if_pos hk]
  simp
 | p::P,w::vs,i+1,m,nd,h1,h2,hk=>by
  show bindL kindOf ((p,w)::P.zip vs) m x=_
  unfold bindL
  exact a1s (i:=i) (List.nodup_cons.mp nd).2 (by simpa using h1) (by simpa using h2) hk
theorem a1t{kindOf:Str→Option NameKind}{x:Str}{v:Value}:∀{P:List Str} {vs:List Value} {i:Nat} {m:Str→Option Value},P.Nodup→P[i]? = some x→vs[i]? = some v→kindOf x≠some .local →
  bindC kindOf (P.zip vs) m x=some v
 | [],_,_,_,_,h,_,_=>by simp at h
 | _::_,[],_,_,_,_,h,_=>by simp at h
 | p::P,w::vs,0,m,nd,h1,h2,hk=>by
  simp at h1 h2;subst h1;subst h2
  show bindC kindOf ((p,w)::P.zip vs) m p=_
  unfold bindC
  rw[a1r fun v hv=>(List.nodup_cons.mp nd).1 (List.of_mem_zip hv).1,if_neg hk]
  simp
 | p::P,w::vs,i+1,m,nd,h1,h2,hk=>by
  show bindC kindOf ((p,w)::P.zip vs) m x=_
  unfold bindC
  exact a1t (i:=i) (List.nodup_cons.mp nd).2 (by simpa using h1) (by simpa using h2) hk
def start(N:List Str)(vs:List V):St:=vs.map some++List.replicate (N.length-vs.length) none
def M8(CX:T6)(P:Program)(w:World)(K:W.Frag)(mg:Str→Option Value)(base:Heap)(N:List Str)(qual:Str)(scope:Scope)(f:Addr)(cd:Value)(A:Around)(outer:List Env)(s:Shared)(H:Hp)(E:XK):Cx where
 prog:=P
 w:=w
 K:=K
 mg:=mg
 base:=base
 A:=A.deeper (envOfC qual scope s.heap.objs.size f cd)
 N:=N
 s₀:=s
 H₀:=H
 env:=envOfC qual scope s.heap.objs.size f cd
 outer:=outer
 stack:=envOfC qual scope s.heap.objs.size f cd::outer
 ex:=[]
 calm:=true
 fn:=fun _=>true
 pn:=[]
 xe:=fun e s'=>wpAny (model P w) (A.deeper (envOfC qual scope s.heap.objs.size f cd)) (leaving (envOfC qual scope s.heap.objs.size f cd) e) (fun _ s''=>CX outer H s E e s'') (fun e' s''=>CX outer H s E e' s'') s'
theorem a1X{sc:Scope}{n:Nat}{x:Str}(h:sc.names.lookup x=some .cell):∃c,(cellsFrom n sc.names []).lookup x=some c:=by
 have q:=W.cellsFrom_some sc.names n [] (.inl h)
 exact Option.isSome_iff_exists.mp q
theorem a35{CX:T6}{P:Program}{w:World}{K:W.Frag}{mg:Str→Option Value}{base:Heap}{N ps:List Str}{qual:Str}{scope:Scope}{f:Addr}{cd:Value}{A:Around}{outer:List Env}{s s1:Shared}{H:Hp}{E:XK}{us:List Value}{vs:List V}
  (S:FnScope N ps scope) (hd:A.handled=none) (e0:Env0 P w K mg base A outer s H) (hl:vs.length=ps.length) (r:Vals vs us)
  (x:InCallC s s.heap.objs.size (bindL (envOfC qual scope s.heap.objs.size f cd).kindOf (ps.zip us) fun _=>none) (cellsFrom (s.heap.objs.size+1) scope.names []) (bindC (envOfC qual scope s.heap.objs.size f cd).kindOf (ps.zip us) fun _=>none) s1) :
  Inv (M8 CX P w K mg base N qual scope f cd A outer s H E) [] (start N vs) H s1:=by
 have hpl:ps.length≤N.length:=by have:=congrArg List.length S.pre;rw[List.length_take]at this;omega
 obtain⟨h1,tk,rfl,hk⟩:=x.done
 have noA:∀b:Addr,b ∉ (M8 CX P w K mg base N qual scope f cd A outer s H E).ex:=fun b z=>absurd (show b∈([]:List Addr)from z) (by simp)
 refine⟨⟨e0.mod,S.kind,rfl,rfl,Nat.le_refl _,fun y z c h1 h2=>?_,fun y hy=>?_,fun y c _ h=>?_,fun _=>hd,Around.frames_deeper e0.frames,.inr ⟨rfl,rfl⟩,fun b z=>absurd z (noA b),e0.bs,e0.bsz,fun b _ _=>noA b,fun b z=>absurd z (noA b),e0.funs,e0.frf⟩,
  rfl,e0.bare,Un.kept hk,⟨_,x.toInCall.ns,fun i y v h1 h2 h3=>?_⟩,fun y c h=>⟨_,x.cell y c h⟩,e0.hok.fresh (Nat.le_refl _),fun y c h=>?_,fun p hp=>absurd (show p∈([]:List (Addr×Obj))from hp) (by simp),e0.hok.kept hk,?_⟩
 ·exact name_of_addr x.apart (PySem.mem_of_lookup h1) (PySem.mem_of_lookup h2)
 ·have hy:scope.names.lookup y=some .cell∨scope.names.lookup y=some .free:=hy
  rcases hy with hy | hy
  ·exact a1X hy
  ·exact absurd rfl (S.nofree _ (PySem.mem_of_lookup hy))
 ·exact Nat.le_of_lt (x.above y c (PySem.mem_of_lookup h))
 ·have hi:i<vs.length:=by
   unfold start at h2
   by_cases hi:i<vs.length
   ·exact hi
   ·rw[List.getElem?_append_right (by simpa using hi)]at h2
    rw[List.getElem?_replicate]at h2
    split at h2<;>cases h2
  have ha:vs[i]? = some v:=by
   unfold start at h2
   rw[List.getElem?_append_left (by simpa using hi),List.getElem?_map]at h2
   cases e:vs[i]? with
   | none=>rw[e]at h2;cases h2
   | some a=>rw[e]at h2;cases h2;rfl
  obtain⟨u,hu,rv⟩:=r.get ha
  have hp:ps[i]? = some y:=by
   rw[← S.pre,List.getElem?_take_of_lt (by omega)];exact h1
  have ndP:ps.Nodup:=by rw[← S.pre];exact S.nd.sublist (List.take_sublist _ _)
  refine⟨u,rv,?_⟩
  rcases S.par y (List.mem_of_getElem? hp)with k | k
  ·exact .inl ⟨k,a1s ndP hp hu k⟩
  ·obtain⟨c,e⟩:=a1X (n:=s.heap.objs.size+1) k
   refine .inr ⟨.inl k,c,e,?_⟩
   have q:=x.cell y c e
   rw[a1t ndP hp hu (by show scope.names.lookup y≠_;rw[k];decide)]at q
   exact q
 ·exact e0.hok.fresh (Nat.le_of_lt (x.above y c (PySem.mem_of_lookup h)))
 ·unfold start
  show _=N.length
  rw[List.length_append,List.length_map,List.length_replicate]
  omega
theorem a3m{CX:T6}{P:Program}{w:World}{K:W.Frag}{mg:Str→Option Value}{base:Heap}{k:Nat}{f:Addr}{name qual:Str}{params:Arguments}{body:List Stmt}{scope:Scope}{dV kV doc pm cdv ct oc:Value}{an od:Option Addr}
  {osl:Array (Option Value)} {N ps:List Str} {sp:Sp} (lk:K.lookup f=some ⟨oc,od,.func (W.fnOf name qual params body scope dV kV doc pm an cdv ct),osl⟩) (hcd:W.codeIn K cdv qual=true) (S:FnScope N ps scope)
  (len:∀vs H Q E,sp vs H Q E→vs.length=ps.length)
  (hbody:∀(A:Around) (outer:List Env) (s:Shared) (H:Hp) (vs:List V) (Q:VK) (E:XK),Room k (A.deeper (envOfC qual scope s.heap.objs.size f cdv))→sp vs H Q E →
   ∃t,PSs (M8 CX P w K mg base N qual scope f cdv A outer s H E) body t∧t { nx:=fun _ H'=>Q .non H',rt:=Q } (start N vs) H) :
  FnOk P w K mg base CX (k+1) f (W.fnOf name qual params body scope dV kV doc pm an cdv ct) ps sp:=by
 refine⟨len,fun A outer s H args us vs Q E hr e0 hb r hsp=>?_⟩
 have hl:=len _ _ _ _ hsp
 have KX:K.In s.heap:=e0.mod.kin.keeps fun b o e=>(e0.bs b o e).1
 have lim:s.heap.NoLimit:=e0.mod.nolimit.keeps fun b o e=>(e0.bs b o e).1
 have hkind:∀y∈ps.zip us,scope.names.lookup y.1=some .local∨(scope.names.lookup y.1=some .cell∧((cellsFrom (s.heap.objs.size+1) scope.names []).lookup y.1).isSome=true):=fun⟨n,v⟩ hy=>by
  rcases S.par n (List.of_mem_zip hy).1 with q | q
  ·exact .inl q
  ·exact .inr ⟨q,W.cellsFrom_some _ _ _ (.inl q)⟩
 refine codeAny_call_function hr.depth (KX _ _ lk) rfl S.co S.gen rfl (W.codeRec_of KX hcd) (hb _ _ _ _ ?_)
 refine wpAny_newFunctionEnv_cells S.kind hkind fun env he s1 x=>?_
 subst he
 refine⟨lim.keeps x.toInCall.keep,codeAny_func ?_⟩
 obtain⟨t,ht,hq⟩:=hbody A outer s H vs Q E (hr.deeper _) hsp
 have I:Inv (M8 CX P w K mg base N qual scope f cdv A outer s H E) [] (start N vs) H s1:=a35 S hr.hd e0 hl r x
 refine wpAny_mono (ht [] s1 (start N vs) H _ I hq) (fun fl s' hs=>?_) fun e s' hs=>hs
 have fin:∀{σ':St} {H':Hp} {v:V} {u:Value},Inv (M8 CX P w K mg base N qual scope f cdv A outer s H E) [] σ' H' s'→RelV v u→Q v H'→CE outer P w H s Q u s' :=
  fun{σ' H' v u} J rv q=>⟨v,H',J.os,J.bare,J.base,J.hok,rv,q⟩
 cases fl with
 | ret u =>
  obtain⟨v,σ',H',J,rv,q⟩:=hs
  exact fin J rv q
 | next =>
  obtain⟨σ',H',J,q⟩:=hs
  exact fin (v:=V.non) (u:=Value.none) J rfl q
 | brk =>
  obtain⟨_,_,_,q⟩:=hs
  exact False.elim q
 | cont =>
  obtain⟨_,_,_,q⟩:=hs
  exact False.elim q
section
variable {X:Cx}{x:Str}{p pos:Pos}{e:Expr}{es:List Expr}{t:TA}{id T:String}{r:List V→Hp→VK→Prop}
def tCB(r:List V→Hp→VK→Prop)(t:TA):TE:=fun σ H Q=>t σ H fun vs H1=>r vs H1 Q
theorem n5(hc:E3 X (.builtin id) r)(hg:Gl X x)(hm:X.mg x=none)(hv:bootBuiltins x=some (.builtin id))(ha:PA X (e::es) t)(hn:x≠"__name__" := by decide)(hdb:(x == ("__debug__" : Str))=false:=by decide)
  (he:starEach (e::es) X.env=(false,eval e X.env)::starEach es X.env:=by rfl) (hpl:(backTo pos (starEach es X.env)).any (·.1)=false:=by rfl):PE X (.Call (.Name x p) (e::es) [] pos) (tCB r t):=by
 intro pins s σ H Q I h
 refine wpAny_Call_Name_kw (X2 I hg hm hv ?_ hn hdb)
 exact PyProof.Rows.callWith_builtin1 (i6 (ha pos pins s σ H _ I h) fun us s1 ⟨vs,H1,I1,r1,q1⟩=>hc pins s1 σ H1 vs us Q I1 r1 q1) he hpl
theorem M3(hc:E3 X (.type T) r)(hg:Gl X x)(hm:X.mg x=none)(hv:bootBuiltins x=some (.type T))(ha:PA X (e::es) t)(hn:x≠"__name__" := by decide)(hdb:(x == ("__debug__" : Str))=false:=by decide)
  (he:starEach (e::es) X.env=(false,eval e X.env)::starEach es X.env:=by rfl) (hpl:(backTo pos (starEach es X.env)).any (·.1)=false:=by rfl):PE X (.Call (.Name x p) (e::es) [] pos) (tCB r t):=by
 intro pins s σ H Q I h
 refine wpAny_Call_Name_kw (X2 I hg hm hv ?_ hn hdb)
 exact PyProof.Rows.callWith_type1 (i6 (ha pos pins s σ H _ I h) fun us s1 ⟨vs,H1,I1,r1,q1⟩=>hc pins s1 σ H1 vs us Q I1 r1 q1) he hpl
end
end L2
namespace HT
open PySem PyProof.Rows
def lexLt:List Int→List Int→Bool
 | [],[]=>false
 | [],_::_=>true
 | _::_,[]=>false
 | x::xs,y::ys=>if x=y then lexLt xs ys else decide (x<y)
theorem lexLt_cons(x y:Int)(xs ys:List Int):lexLt (x::xs) (y::ys)=if x=y then lexLt xs ys else decide (x<y):=rfl
end HT
namespace L2
open PySem PySem.Spec PyProof.Rows
abbrev TO:=St→Hp→(Option Int→Hp→Prop)→Prop
def O7(n:Nat)(i:Int):Option Nat:=if 0≤i then(if i<n then some i.toNat else none)else if -(n:Int)≤i then some (i+n).toNat else none
def atI{α:Type}(xs:List α)(i:Int):Option α:=(O7 xs.length i).bind fun j=>xs[j]?
theorem a2R{n:Nat}{i:Int}{j:Nat}(h:O7 n i=some j):seqIndex? i n=some j∧j<n∧-(n:Int)≤i∧i<n:=by
 unfold O7 at h
 by_cases h0:0≤i
 ·rw[if_pos h0]at h
  by_cases h1:i<n
  ·rw[if_pos h1]at h
   have e:i.toNat=j:=Option.some.inj h
   exact⟨by rw[seqIndex_of h0 h1,e],by omega,by omega,h1⟩
  ·rw[if_neg h1]at h;cases h
 ·rw[if_neg h0]at h
  by_cases h1 : -(n:Int)≤i
  ·rw[if_pos h1]at h
   have e:(i+n).toNat=j:=Option.some.inj h
   exact⟨by rw[seqIndex_neg (by omega) h1,e],by omega,h1,by omega⟩
  ·rw[if_neg h1]at h;cases h
theorem a2S{α:Type}{xs:List α}{i:Int}{v:α}(h:atI xs i=some v):∃j,seqIndex? i xs.length=some j∧xs[j]? = some v∧j<xs.length∧-(xs.length:Int)≤i∧i<xs.length:=by
 unfold atI at h
 cases e:O7 xs.length i with
 | none=>rw[e]at h;cases h
 | some j =>
  rw[e]at h
  obtain⟨h1,h2,h3,h4⟩:=a2R e
  exact⟨j,h1,h,h2,h3,h4⟩
def a6D(b:Expr):Prop:=∀o i,subscripted b false o i=operate [o,i] (getItem o i)
def IxR(X:Cx)(r:R2):Prop :=
 ∀(value slice:Expr) (pins:List (Addr×Obj)) (s:Shared) (σ:St) (H:Hp) (x y:V) (v u:Value) (Q:VK),Inv X pins σ H s→RelV x v→RelV y u→r x y H Q →
  subscripted slice false v u=operate [v,u] (getItem v u)→wpAny (model X.prog X.w) X.A (subscriptTail value slice v u) (EP X pins σ Q) X.xe s
def MtR(X:Cx)(id:String)(r:V→List V→Hp→VK→Prop):Prop :=
 ∀(pins:List (Addr×Obj)) (s:Shared) (σ:St) (H:Hp) (x:V) (xs:List V) (v:Value) (us:List Value) (Q:VK),Inv X pins σ H s→RelV x v→Vals xs us→r x xs H Q →
  wpAny (model X.prog X.w) X.A (call (.builtin id) (v::us)) (EP X pins σ Q) X.xe s
section
variable {X:Cx}{a b:Expr}{ta tb:TE}{pos:Pos}
theorem c8{r:R2}(hr:IxR X r)(ha:PE X a ta)(hb:PE X b tb)(hs:a6D b):PE X (.Subscript a b pos) (tOp r ta tb):=by
 intro pins s σ H Q I h
 exact Subscript_ (a4X ha hb I h fun v u s2 x y H2 I2 rx ry q=>hr a b pins s2 σ H2 x y v u Q I2 rx ry q (hs _ _))
def a4Z(K:W.Frag):R2:=fun x y H Q=>∃p xs i v,x=.ref p∧y=.int i∧SqL K H p xs∧atI xs i=some v∧Q v H
def a40(K:W.Frag):R2:=fun x y H Q=>∃p xs i v,x=.ref p∧y=.int i∧SqT K H p xs∧atI xs i=some v∧Q v H
theorem a6E:IxR X (a4Z X.K):=by
 intro value slice pins s σ H x y v u Q I rx ry h hs
 obtain⟨p,xs,i,z,rfl,rfl,hq,he,q⟩:=h
 cases rx
 obtain⟨t,rfl⟩:=ry
 obtain⟨its,r,pl,hz⟩:=I.list hq
 obtain⟨j,h1,h2,h3,h4,h5⟩:=a2S he
 obtain⟨w,ew,rw'⟩:=r.get h2
 have hl:=r.length
 have hn:=X8
 have fin:EP X pins σ Q w s:=⟨z,H,I,rw',q⟩
 by_cases h0:0≤i
 ·have hj:i.toNat=j:=by
   rw[seqIndex_of h0 h5]at h1
   exact Option.some.inj h1
  exact item_listR pl.isList h0 (by omega) (by rw[hj];simpa using ew) fin hs
 ·have hj:(i+(its.toArray.size:Int)).toNat=j:=by
   rw[seqIndex_neg (by omega) h4]at h1
   rw[List.size_toArray,← hl]
   exact Option.some.inj h1
  exact subscriptTail_builtinR (x:=w) pl.isList.typeIs slot_list_getitem.lookup
   (wpAny_getItem_list_neg (Q:=fun r s'=>r=w∧EP X pins σ Q r s') pl.isList (by omega) (by rw[List.size_toArray]<;>omega) (by omega) (by rw[hj];simpa using ew) ⟨rfl,fin⟩) hs
theorem a8l:IxR X (a40 X.K):=by
 intro value slice pins s σ H x y v u Q I rx ry h hs
 obtain⟨p,xs,i,z,rfl,rfl,hq,he,q⟩:=h
 cases rx
 obtain⟨t,rfl⟩:=ry
 obtain⟨its,r,pl,hz⟩:=I.tuple hq
 obtain⟨j,h1,h2,h3,h4,h5⟩:=a2S he
 obtain⟨w,ew,rw'⟩:=r.get h2
 have hl:=r.length
 have hn:=X8
 have fin:EP X pins σ Q w s:=⟨z,H,I,rw',q⟩
 exact subscriptTail_builtinR (x:=w) pl.typeIs slot_tuple_getitem.lookup
  (getItem_tuple (j:=j) (Q:=fun r s'=>r=w∧EP X pins σ Q r s') pl (by omega) (by omega) (by rw[List.size_toArray,← hl];exact h1) (by simpa using ew) ⟨rfl,fin⟩) hs
theorem a3n(its:List Value)(n j:Nat)(u:Value):Obj.mapSeq (·.setIfInBounds j u) { cls:=.type "list",data:=.seq its.toArray n }={ cls:=.type "list",data:=.seq (its.set j u).toArray n }:=by
 simp[Obj.mapSeq]
theorem Inv.lst{pins:List (Addr×Obj)}{σ:St}{H:Hp}{s:Shared}{p:Addr}{xs:List V}(I:Inv X pins σ H s)(h:H p=some (.lst xs)) :
  ∃(its:List Value) (n:Nat),Vals xs its∧s.heap.get? p=some { cls:=.type "list",data:=.seq its.toArray n }∧xs.length≤sizeLine:=by
 obtain⟨z,its,n,r,e⟩:=I.hok p _ h
 exact⟨its,n,r,e,z⟩
theorem Inv.lstUpd{pins:List (Addr×Obj)}{σ:St}{H:Hp}{s:Shared}{p:Addr}{xs ys:List V}{its its':List Value}{n n':Nat}{f:Obj→Obj}(I:Inv X pins σ H s)(h:H p=some (.lst xs))
  (ho:s.heap.get? p=some { cls:=.type "list",data:=.seq its.toArray n }) (hf:f { cls:=.type "list",data:=.seq its.toArray n }={ cls:=.type "list",data:=.seq its'.toArray n' }) (r:Vals ys its') (hz:ys.length≤sizeLine) (t:Nat) :
  Inv X pins σ (upd H p (.lst ys)) { s with heap:=s.heap.update p f,toks:=t }:=by
 have e:(s.heap.update p f).get? p=some { cls:=.type "list",data:=.seq its'.toArray n' }:=by
  rw[Heap.get?_update_self f ho (by rw[hf]<;>rfl),hf]
 refine I.write (x:=p) (e:=p) (by rw[h];trivial) (.inl rfl) (fun b u hb q=>(Heap.get?_update_other _ _ (Ne.symm hb)).trans q) ⟨_,e⟩ ?_
 exact⟨hz,its',n',r,e⟩
def a58:V→V→V→Hp→(Hp→Prop)→Prop:=fun o i v H Q=>∃p xs k j,o=.ref p∧i=.int k∧H p=some (.lst xs)∧O7 xs.length k=some j∧Q (upd H p (.lst (xs.set j v)))
theorem a41:a79 X a58:=by
 intro pins s σ H o i v ov iv u Q I ro ri rv h
 obtain⟨p,xs,k,j,rfl,rfl,hp,hj,q⟩:=h
 cases ro
 obtain⟨t,rfl⟩:=ri
 obtain⟨its,n,r,ho,hz⟩:=I.lst hp
 obtain⟨h1,h2,h3,h4⟩:=a2R hj
 have hl:=r.length
 have hn:=X8
 have I':Inv X pins σ (upd H p (.lst (xs.set j v))) { s with heap:=s.heap.update p (Obj.mapSeq (·.setIfInBounds j u)) } :=
  I.lstUpd hp ho (a3n its n j u) (r.set rv j) (by rw[List.length_set];exact hz) s.toks
 by_cases h0:0≤k
 ·have hk:k.toNat=j:=by
   rw[seqIndex_of h0 h4]at h1
   exact Option.some.inj h1
  exact W.ki_setAt ho h0 (by omega) (by rw[List.size_toArray,← hl];exact h4) (by rw[hk];exact⟨_,I',q⟩)
 ·have hk:(k+(its.toArray.size:Int)).toNat=j:=by
   rw[seqIndex_neg (by omega) h3]at h1
   rw[List.size_toArray,← hl]
   exact Option.some.inj h1
  exact W.ki_setBack ho (by omega) (by rw[List.size_toArray,← hl];exact h3) (by omega) (by rw[hk];exact⟨_,I',q⟩)
def a1R:V→Bool
 | .non=>true
 | .bl _=>true
 | .int _=>true
 | .str _=>true
 | _=>false
def eqV:V→V→Bool
 | .non,.non=>true
 | .bl a,.bl b=>a == b
 | .bl a,.int b=>(if a then 1 else 0) == b
 | .int a,.bl b=>a == (if b then 1 else 0)
 | .int a,.int b=>a == b
 | .str a,.str b=>a == b
 | _,_=>false
theorem a8n{A:Around}{s:Shared}{y x:V}{u v:Value}(ry:RelV y u)(rx:RelV x v)(fy:a1R y=true)(fx:a1R x=true):SeqAt.EqAt A s u v (eqV y x):=by
 cases y with
 | non =>
  cases ry
  cases x with
  | non=>cases rx;exact SeqAt.EqAt.same _
  | bl b=>cases rx;exact SeqAt.EqAt.none_bool b
  | int b=>obtain⟨t,rfl⟩:=rx;exact SeqAt.EqAt.none_int b t
  | str b=>obtain⟨t,rfl⟩:=rx;exact SeqAt.EqAt.none_str b t
  | _=>exact absurd (show false=true from fx) Bool.false_ne_true
 | bl a =>
  cases ry
  cases x with
  | non=>cases rx;exact SeqAt.EqAt.bool_none a
  | bl b=>cases rx;exact SeqAt.EqAt.bool_bool a b
  | int b=>obtain⟨t,rfl⟩:=rx;exact SeqAt.EqAt.bool_int a b t
  | str b=>obtain⟨t,rfl⟩:=rx;exact SeqAt.EqAt.bool_str a b t
  | _=>exact absurd (show false=true from fx) Bool.false_ne_true
 | int a =>
  obtain⟨t',rfl⟩:=ry
  cases x with
  | non=>cases rx;exact SeqAt.EqAt.int_none a t'
  | bl b=>cases rx;exact SeqAt.EqAt.int_bool a t' b
  | int b=>obtain⟨t,rfl⟩:=rx;exact SeqAt.EqAt.int_int a t' b t
  | str b=>obtain⟨t,rfl⟩:=rx;exact SeqAt.EqAt.int_str a t' b t
  | _=>exact absurd (show false=true from fx) Bool.false_ne_true
 | str a =>
  obtain⟨t',rfl⟩:=ry
  cases x with
  | non=>cases rx;exact SeqAt.EqAt.str_none a t'
  | bl b=>cases rx;exact SeqAt.EqAt.str_bool a t' b
  | int b=>obtain⟨t,rfl⟩:=rx;exact SeqAt.EqAt.str_int a t' b t
  | str b=>obtain⟨t,rfl⟩:=rx;exact SeqAt.EqAt.str_str a t' b t
  | _=>exact absurd (show false=true from fx) Bool.false_ne_true
 | _=>exact absurd (show false=true from fy) Bool.false_ne_true
theorem a1Y:E3 X (.builtin "len") (fun xs H Q=>∃p ys,xs=[.ref p]∧(SqL X.K H p ys∨SqT X.K H p ys)∧Q (.int ys.length) H):=by
 intro pins s σ H xs us Q I r h
 obtain⟨p,ys,rfl,hq,q⟩:=h
 obtain⟨u,rfl,rx⟩:=a0D r
 cases rx
 have hn:=X8
 rcases hq with hq | hq
 ·obtain⟨its,r',pl,hz⟩:=I.list hq
  have hlen:=r'.length
  exact Calls.call_len_list pl.isList (by simp only[List.size_toArray]<;>omega) ⟨.int ys.length,H,I.tok _,⟨s.toks+1,by rw[List.size_toArray,hlen]⟩,q⟩
 ·obtain⟨its,r',pl,hz⟩:=I.tuple hq
  have hlen:=r'.length
  exact len_tuple pl (by simp only[List.size_toArray]<;>omega) ⟨.int ys.length,H,I.tok _,⟨s.toks+1,by rw[List.size_toArray,hlen]⟩,q⟩
theorem a1Z:E3 X (.type "list") (fun xs H Q=>∃p ys,xs=[.ref p]∧(SqL X.K H p ys∨SqT X.K H p ys)∧∀l,H l=none→Q (.ref l) (upd H l (.lst ys))):=by
 intro pins s σ H xs us Q I r h
 obtain⟨p,ys,rfl,hq,q⟩:=h
 obtain⟨u,rfl,rx⟩:=a0D r
 cases rx
 have fin:∀(its:List Value),Vals ys its→ys.length≤sizeLine→∀(h':Heap) (c':Nat),(∀b o',s.heap.get? b=some o'→h'.get? b=some o') →
   h'.get? s.heap.objs.size=some { cls:=.type "list",dict:=none,data:=.seq its.toArray c',slots := #[] }→EP X pins σ Q (.ref s.heap.objs.size) { s with heap:=h' }:=fun its r' hz h' c' kp e =>
  ⟨.ref s.heap.objs.size,_,I.laid (t':=s.toks) kp (Nat.le_refl _) (show ObjOk X.prog X.w _ h' _ (.lst ys)from⟨hz,its,c',r',e⟩),rfl,q _ (I.hok.fresh (Nat.le_refl _))⟩
 rcases hq with hq | hq
 ·obtain⟨its,r',pl,hz⟩:=I.list hq
  have hlen:=r'.length
  obtain⟨o,ho,hc,n,hd⟩:=pl.isList
  exact call_list_seq p (.inl rfl) ho hc hd (fun h' c' kp e=>fin its r' hz h' c' kp e) (by simp only[List.size_toArray]<;>omega)
 ·obtain⟨its,r',pl,hz⟩:=I.tuple hq
  have hlen:=r'.length
  obtain⟨o,ho,hc,n,hd⟩:=pl
  exact call_list_seq p (.inr rfl) ho hc hd (fun h' c' kp e=>fin its r' hz h' c' kp e) (by simp only[List.size_toArray]<;>omega)
theorem a1O:E3 X (.type "tuple") (fun xs H Q=>∃p ys,xs=[.ref p]∧((SqL X.K H p ys∧∀l,H l=none→Q (.ref l) (upd H l (.tup ys)))∨(SqT X.K H p ys∧Q (.ref p) H))):=by
 intro pins s σ H xs us Q I r h
 obtain⟨p,ys,rfl,h⟩:=h
 obtain⟨u,rfl,rx⟩:=a0D r
 cases rx
 rcases h with⟨hq,q⟩ | ⟨hq,q⟩
 ·obtain⟨its,r',pl,hz⟩:=I.list hq
  have hlen:=r'.length
  refine call_tuple_list pl.isList (fun h' kp=>?_) (by simp only[List.size_toArray]<;>omega)
  have I1:Inv X pins σ H { s with heap:=h' }:=I.kept (t':=s.toks) kp
  have I2:Inv X pins σ (upd H h'.objs.size (.tup ys)) { s with heap:=h'.push { cls:=.type "tuple",data:=.seq its.toArray } } :=
   I1.laid (t':=s.toks) (fun b o e=>Heap.get?_push_of_some _ e) (Nat.le_refl _) (show ObjOk X.prog X.w _ _ _ (.tup ys)from⟨hz,its,r',IsTup.new _ _⟩)
  exact⟨.ref h'.objs.size,_,I2,rfl,q _ (I1.hok.fresh (Nat.le_refl _))⟩
 ·obtain⟨its,r',pl,hz⟩:=I.tuple hq
  exact call_tuple_same pl ⟨.ref p,H,I,rfl,q⟩
def tyV(K:W.Frag)(T:String)(x:V)(H:Hp):Prop:=match x with
 | .str _=>T = "str"
 | .int _=>T = "int"
 | .ref p=>(T = "list"∧∃xs,SqL K H p xs)∨(T = "tuple"∧∃o,K.lookup p=some o∧o.cls=.type "tuple"∧o.dict=none) ∨
   (T = "dict"∧((∃kvs,H p=some (.dK kvs))∨∃kvs,H p=some (.dT kvs)))∨(T = "set"∧∃S n,H p=some (.set S n))
 | _=>False
theorem a8p{pins:List (Addr×Obj)}{σ:St}{H:Hp}{s:Shared}{T:String}{x:V}{v:Value}(I:Inv X pins σ H s)(r:RelV x v)(ty:tyV X.K T x H) :
  s.TypeIs v T∧∀a,v=.ref a→∃ob,s.heap.get? a=some ob∧ob.dict=none:=by
 cases x with
 | str z =>
  obtain⟨t,rfl⟩:=r
  cases (show T = "str" from ty)
  exact⟨typeIs_str s z t,fun _ e=>nomatch e⟩
 | int i =>
  obtain⟨t,rfl⟩:=r
  cases (show T = "int" from ty)
  exact⟨typeIs_int s i t,fun _ e=>nomatch e⟩
 | ref p =>
  cases r
  rcases ty with⟨rfl,xs,hq⟩ | ⟨rfl,o,hk,hc,hd⟩ | ⟨rfl,hk⟩ | ⟨rfl,S,n,hk⟩
  ·obtain⟨its,_,pl,_⟩:=I.list hq
   refine⟨pl.isList.typeIs,fun a e=>?_⟩
   cases e
   obtain⟨o,n,e,c,hd,_⟩:=pl
   exact⟨o,e,hd⟩
  ·refine⟨⟨o,I.kIn p o hk,hc⟩,fun a e=>?_⟩
   cases e
   exact⟨o,I.kIn _ o hk,hd⟩
  ·have z:∃o,s.heap.get? p=some o∧o.ExactDict:=by
    rcases hk with⟨kvs,hk⟩ | ⟨kvs,hk⟩
    ·obtain⟨_,_,_,_,o,_,_,e,ex,_⟩:=I.hok p _ hk
     exact⟨o,e,ex⟩
    ·obtain⟨_,_,_,_,o,_,_,e,ex,_⟩:=I.hok p _ hk
     exact⟨o,e,ex⟩
   obtain⟨o,e,ex⟩:=z
   refine⟨⟨o,e,ex.1⟩,fun a e2=>?_⟩
   cases e2
   exact⟨o,e,ex.2.1⟩
  ·obtain⟨o,_,_,_,e,ex,_⟩:=I.hok p _ hk
   refine⟨⟨o,e,ex.1⟩,fun a e2=>?_⟩
   cases e2
   exact⟨o,e,ex.2.1⟩
 | _=>exact False.elim ty
def tBM(K:W.Frag)(T:String)(r:V→List V→Hp→VK→Prop)(to:TE)(t:TA):TE:=fun σ H Q=>to σ H fun x H1=>tyV K T x H1∧t σ H1 fun xs H2=>r x xs H2 Q
variable {o e:Expr}{es:List Expr}{to:TE}{t:TA}{name:Str}{apos cpos:Pos}{T id:String}{r:V→List V→Hp→VK→Prop}
theorem a9c(pa:PlainAttrs T)(slot:Slot T name id)(hty:typeOf (.builtin id)=pure (.type "method_descriptor"))(hm:MtR X id r)(ho:PE X o to)(ha:PA X (e::es) t)
  (hbase:attributeBase o name X.env (eval o X.env)=eval o X.env:=by rfl)
  (hfew:((backTo cpos (starEach (e::es) X.env)).all (fun x=>!x.1) && (backToKw cpos (keywordEach [] X.env)).all (fun x=>x.1.isSome)
   && decide ((e::es).length+([]:List Keyword).length+(if([]:List Keyword).isEmpty then 0 else 1)<30))=true:=by rfl)
  (hline:(apos.endLine == cpos.line)=true:=by rfl) (hs:starEach (e::es) X.env=(false,eval e X.env)::starEach es X.env:=by rfl) (hplain:(backTo cpos (starEach es X.env)).any (·.1)=false:=by rfl) :
  PE X (.Call (.Attribute o name apos) (e::es) [] cpos) (tBM X.K T r to t):=by
 intro pins s σ H Q I h
 refine wpAny_Call_method_late hbase hfew hline rfl (i6 (ho pins s σ H _ I h) fun v s1 ⟨x,H1,I1,r1,ty,q1⟩=>?_)
 obtain⟨h1,h2⟩:=a8p I1 r1 ty
 refine⟨T,id,pa,slot,hty,h1,h2,?_⟩
 have hA:=ha cpos pins s1 σ H1 _ I1 q1
 rw[hs]at hA ⊢
 refine Calls.callWith_builtin (by show(false || (backTo cpos (starEach es X.env)).any (·.1))=false;rw[hplain]<;>rfl) (Calls.evalArgs_plain ?_)
 exact i6 hA fun us s2 ⟨vs,H2,I2,r2,q2⟩=>hm pins s2 σ H2 x vs v us Q I2 r1 r2 q2
end
def MtM(X:Cx)(id:String)(r:V→List V→Hp→VK→Prop):Prop :=
 ∀(pins:List (Addr×Obj)) (s:Shared) (σ:St) (H:Hp) (x:V) (xs:List V) (v:Value) (us:List Value) (Q:VK),Inv X pins σ H s→RelV x v→Vals xs us→r x xs H Q →
  wpAny (model X.prog X.w) X.A (call (.builtin id) (v::us)) (EP X pins σ Q) X.xe s
theorem Vals.one:∀{x:V} {us:List Value},Vals [x] us→∃u,us=[u]∧RelV x u
 | _,_,.cons r .nil=>⟨_,rfl,r⟩
theorem Vals.zero:∀{us:List Value},Vals [] us→us=[]
 | _,.nil=>rfl
section
variable {X:Cx}{pins:List (Addr×Obj)}{σ:St}{H:Hp}{s:Shared}{l b:Addr}{xs ys zs:List V}
theorem Inv.lset{its its':List Value}{n:Nat}{f:Array Value→Array Value}{t':Nat}(I:Inv X pins σ H s)(hH:H l=some (.lst xs))
  (e:s.heap.get? l=some { cls:=.type "list",data:=.seq its.toArray n }) (hf:f its.toArray=its'.toArray) (hv:Vals ys its') (hz:ys.length≤sizeLine) :
  Inv X pins σ (upd H l (.lst ys)) { s with heap:=s.heap.update l (Obj.mapSeq f),toks:=t' }:=by
 have q:=PySem.IsL.update e f
 rw[hf]at q
 refine I.write (x:=l) (e:=l) (by rw[hH];exact trivial) (.inl rfl) (fun b' u hb hu=>(Heap.get?_update_other s.heap (Obj.mapSeq f) (Ne.symm hb)).trans hu) ⟨_,q⟩ ?_
 exact⟨hz,its',_,hv,q⟩
theorem Inv.lnew{its:List Value}{t':Nat}(I:Inv X pins σ H s)(hv:Vals ys its)(hz:ys.length≤sizeLine) :
  Inv X pins σ (upd H s.heap.objs.size (.lst ys)) { s with heap:=s.heap.push { cls:=.type "list",data:=.seq its.toArray },toks:=t' } :=
 I.laid (fun _ _ q=>Heap.get?_push_of_some _ q) (Nat.le_refl _) ⟨hz,its,0,hv,Heap.get?_push_size _ rfl⟩
theorem Inv.fresh(I:Inv X pins σ H s):H s.heap.objs.size=none:=I.hok.fresh (Nat.le_refl _)
theorem Inv.lstM(I:Inv X pins σ H s)(hH:H l=some (.lst xs)):xs.length≤sizeLine∧∃(its:List Value) (n:Nat),Vals xs its∧xs.length=its.length∧s.heap.get? l=some { cls:=.type "list",data:=.seq its.toArray n }:=by
 obtain⟨z,its,n,r,e⟩:=I.hok l _ hH
 exact⟨z,its,n,r,r.length,e⟩
end
section
variable {X:Cx}
def a2T:V→List V→Hp→VK→Prop:=fun x vs H Q=>∃l xs y,x=.ref l∧vs=[y]∧H l=some (.lst xs)∧xs.length<sizeLine∧Q .non (upd H l (.lst (xs++[y])))
theorem Y1:MtM X "list.append" a2T:=by
 intro pins s σ H x vs v us Q I rx rv h
 obtain⟨l,xs,y,rfl,rfl,hH,hz,q⟩:=h
 cases rx
 obtain⟨u,rfl,ru⟩:=rv.one
 obtain⟨z,its,n,r,hl,e⟩:=I.lstM hH
 refine call_meets F.slot_list_append ⟨_,e,rfl⟩ F.entry_list_append (F.args_list_append_2 _ _) (PySem.list_append l its.toArray n u (by rw[List.size_toArray];omega)) ⟨e,?_⟩
 refine⟨.non,_,I.lset (its':=its++[u]) hH e (by simp) (r.append (.cons ru .nil)) ?_,rfl,q⟩
 rw[List.length_append,List.length_singleton]
 omega
end
end L2
namespace Att
open PySem PySem.W PySem.Calls PyProof.Rows
theorem a0E{P:Params}{h:Heap}:∀(ns:List Int) (vs:List Value),WellAll P h vs (ns.map WData.int)→IntsAre vs ns:=by
 intro ns
 induction ns with
 | nil =>
  intro vs w
  rw[List.map_nil]at w
  cases w
  exact .nil
 | cons n ns ih =>
  intro vs w
  rw[List.map_cons]at w
  cases w with
  | cons a b =>
   cases a
   exact .cons _ _ (ih _ b)
theorem script_of{l:OpenLaw}{n:Nat}(hn:l.most=some n){P:Params}{h:Heap}{args:List WData}{vals:List Value}
  (hpre:l.row.toRowW.claim.pre args=true) (hwl:WellAll P h vals args) :
  ∃a vs ns,vals=[Value.ref a]∧args=[WData.list (ns.map WData.int)]∧h.get? a=some { cls:=.type "list",data:=.seq vs.toArray }∧IntsAre vs ns∧ns.length≤n:=by
 have hsh:WShape.hasAll [] args [.list .int]=true:=(pre_splitW hpre).1
 have hc:l.pre.holds [] { args:=args }=true:=(pre_splitW hpre).2
 obtain⟨d,r,rfl,h1,h2⟩:=hasAllW_cons hsh
 obtain rfl:=hasAllW_nil h2
 obtain⟨xs,rfl,h3⟩:=hasW_list h1
 obtain⟨ns,rfl⟩:=items_int h3
 have hlen:ns.length≤n:=by
  unfold OpenLaw.pre at hc
  have h4:(WTm.not (.lt (.lit (.int (n:Int))) (.len (.arg 0)))).holds [] { args:=[.list (ns.map .int)] }=true:=by
   have h4:=(holds_andW hc).1
   rw[hn]at h4
   exact h4
  have h5:=condW_of h4 (w_not (w_lt w_lit (w_len_list (w_arg rfl))))
  rw[List.length_map]at h5
  refine Nat.le_of_not_lt fun q=>?_
  have q':(n:Int)<((ns.length:Nat):Int):=by omega
  first
   | (rw[decide_eq_true q']at h5;exact absurd h5 (by decide))
   | (simp at h5;omega)
 cases hwl with
 | cons w1 w2 =>
  cases w2
  cases w1 with
  | list ho hall=>exact⟨_,_,ns,rfl,rfl,ho,a0E ns _ hall,hlen⟩
theorem post_true(l:OpenLaw)(args:List WData):l.row.toRowW.claim.post args (.bool true) args=true :=
 postW_of (r:=l.row.toRowW) (X:=(true == true))
  (show WShape.has [] (.bool true) .bool=true by first | rfl | decide | simp[WShape.has,WShape.arms,WShape.armsAll])
  (show(WTm.eq .res (.lit (.bool true))).value [] { args:=args,res:=some (.bool true),after:=args }=some (.bool (true == true))from w_eq_bool (w_res rfl) w_lit) rfl
end Att
namespace L2
open PySem PySem.Spec PyProof.Rows
theorem a1u:∀{vs:List Value} {ns:List Int},IntsAre vs ns→Vals (ns.map V.int) vs
 | _,_,.nil=>.nil
 | _,_,.cons n t h=>.cons ⟨t,rfl⟩ (a1u h)
def a3o(H:Hp):Prop:=∀b,H b=none∨∃o xs,H b=some (.frz o (.lst xs))
theorem a42{P:Program}{w:World}{K:W.Frag}{mg mb:Str→Option Value}{CX:T6}{k:Nat}{fa a:Addr}{fd:FuncData}{x:Str}{sp:Sp}{s₁:Shared}{vs:List Value}{ns:List Int}
  (KX:K.In s₁.heap) (hns:s₁.heap.Ns mainGlobals mg) (hb:s₁.heap.Ns builtinsNs mb) (hbb:∀x:Str,x≠"__name__"→mb x=bootBuiltins x) (hlim:s₁.heap.NoLimit) (hg:s₁.gens = #[])
  (ha:s₁.heap.get? a=some { cls:=.type "list",data:=.seq vs.toArray }) (hi:IntsAre vs ns) (hl:ns.length≤sizeLine) (hr:Room k callerA)
  (F:∀base:Heap,K.In base→base.Ns mainGlobals mg→FnOk P w K mg base CX k fa fd [x] sp) (hbind:∀(s:Shared) (u:Value),BindsTo s fd ⟨[u],[]⟩ [(x,u)])
  (hsp:∀H:Hp,a3o H→SqL K H a (ns.map V.int)→sp [.ref a] H (fun v _=>v=.bl true) fun _ _ _=>False)
  (hCX:∀H e s',CX [] H s₁ (fun _ _ _=>False) e s'→False) :
  codeAny (model P w) callerA (.call (.ref fa) ⟨[.ref a],[]⟩) (fun r s'=>r=.ok (.ret (.bool true))∧OldK s₁.heap s'.heap∧s'.os=s₁.os∧AllBare s'.gens) s₁:=by
 have rv:=a1u hi
 have lenV:=hi.length
 -- from an abstract heap in which nothing but the script may be tracked
 have core:∀H:Hp,a3o H→SqL K H a (ns.map V.int)→HOk P w H s₁.heap→(∀b,H b≠none→b=a)→(H a≠none→K.lookup a=none) →
   codeAny (model P w) callerA (.call (.ref fa) ⟨[.ref a],[]⟩) (fun r s'=>r=.ok (.ret (.bool true))∧OldK s₁.heap s'.heap∧s'.os=s₁.os∧AllBare s'.gens) s₁:=by
  intro H hO hS hok hA hK
  have base_of:∀{b:Addr} {o:Obj},s₁.heap.get? b=some o→H b=none→(U4 s₁.heap H).get? b=some o:=fun e n=>a4S e n
  have noA:∀{b:Addr} {o:Obj} {es:Array DictEntry} {ep:Nat},s₁.heap.get? b=some o→o.data=.dict es ep→H b=none:=fun{b o es ep} e d=>by
   cases q:H b with
   | none=>rfl
   | some u =>
    have e':b=a:=hA b (by rw[q];simp)
    subst e'
    rw[ha]at e;cases e
    have d':Data.seq vs.toArray _=Data.dict es ep:=d
    cases d'
  have nsK:∀{b:Addr} {m:Str→Option Value},s₁.heap.Ns b m→(U4 s₁.heap H).Ns b m:=fun{b m} ⟨o,es,ep,e,d,r⟩=>⟨o,es,ep,base_of e (noA e d),d,r⟩
  have hKb:K.In (U4 s₁.heap H):=fun b o e=>base_of (KX b o e) (by
   cases q:H b with
   | none=>rfl
   | some u =>
    have e':b=a:=hA b (by rw[q];simp)
    subst e'
    rw[hK (by rw[q];simp)]at e;cases e)
  have hM:Mod K mg (U4 s₁.heap H):=⟨hKb,nsK hns,⟨mb,nsK hb,hbb⟩,let ⟨mc,h1,h2⟩:=hlim; ⟨mc,nsK h1,h2⟩⟩
  have e0:Env0 P w K mg (U4 s₁.heap H) callerA [] s₁ H:=⟨rfl,hM,fun b o e=>a6w e,Nat.le_of_eq (a3T _ _),trivial,fun b hb=>absurd (show b∈([]:List Addr)from hb) (by simp),hok,.of_eq hg⟩
  refine codeAny_mono ((F _ hKb (nsK hns)).run callerA [] s₁ H ⟨[.ref a],[]⟩ [.ref a] [.ref a] _ _ hr e0 (hbind s₁ (.ref a)) (.cons rfl .nil) (hsp H hO hS)) fun r s' h=>?_
  cases r with
  | error e=>exact(hCX H e s' h).elim
  | ok fl =>
   cases fl with
   | next=>exact False.elim h
   | brk=>exact False.elim h
   | cont=>exact False.elim h
   | ret u =>
    obtain⟨v,H',os,bare,un,hok',r',q⟩:=h
    have q':v=.bl true:=q
    subst q'
    obtain rfl:u=Value.bool true:=r'
    refine⟨rfl,OldK.of_keep fun b o e=>?_,os,bare⟩
    cases q:H b with
    | none=>exact un.keep b o e q (by intro z;exact absurd (show b∈([]:List Addr)from z) (by simp)) (by simp)
    | some u =>
     rcases hO b with z | ⟨ob,xs,z⟩
     ·rw[q]at z;cases z
     ·have z2:=un.frzs b ob _ z
      obtain⟨e1,_⟩:=hok b _ z
      obtain⟨e2,_⟩:=hok' b _ z2
      rw[e]at e1;cases e1
      exact e2
 cases hk:K.lookup a with
 | some o =>
  -- the script is one of the module's own objects
  have e:=KX a o hk
  rw[ha]at e
  cases e
  refine core (fun _=>none) (fun _=>.inl rfl) (.inr ⟨_,vs.toArray,_,hk,rfl,rfl,rfl,by rw[List.size_toArray,lenV];exact hl,by simpa using rv⟩) (fun b u z=>by have z':(none:Option HO)=some u:=z;cases z') (fun b z=>absurd rfl z) fun z=>absurd rfl z
 | none =>
  refine core (fun b=>if b=a then some (.frz { cls:=.type "list",data:=.seq vs.toArray } (.lst (ns.map V.int)))else none) (fun b=>?_) (.inl (.inr ⟨{ cls:=.type "list",data:=.seq vs.toArray },if_pos rfl⟩)) (fun b u z=>?_) (fun b z=>?_) fun _=>hk
  ·by_cases hb:b=a
   ·exact .inr ⟨_,_,if_pos hb⟩
   ·exact .inl (if_neg hb)
  ·by_cases hb:b=a
   ·have z':=(if_pos hb).symm.trans z
    cases z'
    subst hb
    exact⟨ha,by rw[List.length_map];exact hl,vs,_,rv,ha⟩
   ·have z':=(if_neg hb).symm.trans z
    cases z'
  ·by_cases hb:b=a
   ·exact hb
   ·exact absurd (if_neg hb) z
def a6F(s:Stmt)(j:Nat):Stmt:=match s with
 | .ClassDef _ _ _ body _ _ _ _ _ _ _=>body.getD j (.Pass ⟨0,0,0,0⟩)
 | _=>.Pass ⟨0,0,0,0⟩
def m9(s:Stmt):Arguments:=match s with
 | .FunctionDef _ a _ _ _ _ _ _ _ _=>a
 | _=>{ posonlyargs:=[],args:=[],vararg:=none,kwonlyargs:=[],kw_defaults:=[],kwarg:=none,defaults:=[] }
def j7(s:Stmt):List Stmt:=match s with
 | .FunctionDef _ _ b _ _ _ _ _ _ _=>b
 | _=>[]
def b8(s:Stmt):Scope:=match s with
 | .FunctionDef _ _ _ _ _ _ sc _ _ _=>sc
 | _=>{ kind:=.function,names:=[],isGenerator:=false,isCoroutine:=false }
abbrev CX0:T6:=fun _ _ _ _ _ _=>False
abbrev E0:XK:=fun _ _ _=>False
structure Fun(K:W.Frag)(x qual:Str)(st:Stmt)(f:Addr)(fd:FuncData):Prop where
 ex:∃(oc:Value) (od:Option Addr) (kV doc pm:Value) (an:Option Addr) (cdv ct:Value) (osl:Array (Option Value)),
  fd=W.fnOf x qual (m9 st) (j7 st) (b8 st) .none kV doc pm an cdv ct∧K.lookup f=some ⟨oc,od,.func fd,osl⟩∧W.codeIn K cdv qual=true
 kp:W.keepIn K (.ref f)=true
section
variable {P:Program}{w:World}{K:W.Frag}{mg:Str→Option Value}{base:Heap}
theorem Fun.ok{x qual:Str}{st:Stmt}{f:Addr}{fd:FuncData}{N ps:List Str}{k:Nat}{sp:Sp}(F:Fun K x qual st f fd)(S:FnScope N ps (b8 st))(len:∀vs H Q E,sp vs H Q E→vs.length=ps.length)
  (hbody:∀(cdv:Value) (A:Around) (outer:List Env) (s:Shared) (H:Hp) (vs:List V) (Q:VK) (E:XK),Room k (A.deeper (envOfC qual (b8 st) s.heap.objs.size f cdv))→sp vs H Q E →
   ∃t,PSs (M8 CX0 P w K mg base N qual (b8 st) f cdv A outer s H E).nox (j7 st) t∧t { nx:=fun _ H'=>Q .non H',rt:=Q } (start N vs) H):FnOk P w K mg base CX0 (k+1) f fd ps sp:=by
 obtain⟨oc,od,kV,doc,pm,an,cdv,ct,osl,rfl,lk,hcd⟩:=F.ex
 refine a3m lk hcd S len fun A outer s H vs Q E hr hsp=>?_
 obtain⟨t,h,q⟩:=hbody cdv A outer s H vs Q E hr hsp
 exact⟨t,h.nox,q⟩
theorem Fun.binds{x qual:Str}{st:Stmt}{f:Addr}{fd:FuncData}{ps:List Str}(F:Fun K x qual st f fd)
  (h:∀(kV doc pm:Value) (an:Option Addr) (cdv ct:Value) (us:List Value),us.length=ps.length→bindArgs (W.fnOf x qual (m9 st) (j7 st) (b8 st) .none kV doc pm an cdv ct) ⟨us,[]⟩=pure (ps.zip us)):Binds K fd ps []:=by
 obtain⟨oc,od,kV,doc,pm,an,cdv,ct,osl,rfl,lk,hcd⟩:=F.ex
 exact .all (h kV doc pm an cdv ct)
theorem A1{x qual:Str}{st:Stmt}{f:Addr}{oc:Value}{od an:Option Addr}{osl:Array (Option Value)}{kV doc pm cdv ct:Value}(l:K.lookup f=some ⟨oc,od,.func (W.fnOf x qual (m9 st) (j7 st) (b8 st) .none kV doc pm an cdv ct),osl⟩)
  (c:W.codeIn K cdv qual=true) (k:W.keepIn K (.ref f)=true):Fun K x qual st f (W.fnOf x qual (m9 st) (j7 st) (b8 st) .none kV doc pm an cdv ct):=⟨⟨oc,od,kV,doc,pm,an,cdv,ct,osl,rfl,l,c⟩,k⟩
end
section
variable {X:Cx}
theorem pv(i:Nat){x:Str}{pos:Pos}(hN:X.N[i]? = some x:=by rfl)(hv:Vis X.env.scope x:=by first | exact Or.inl rfl | exact Or.inr (Or.inl rfl) | exact Or.inr (Or.inr rfl))(hd:(x == ("__debug__" : Str))=false:=by decide)
  (hcd:(x == ("__classdict__" : Str))=false:=by decide):PE X (.Name x pos) (J5 i):=a72 hN hv hd hcd
end
def Same(H H':Hp):Prop:=∀b o,H b=some o→H' b=some o
theorem Same.refl(H:Hp):Same H H:=fun _ _ h=>h
theorem Same.trans{H H1 H2:Hp}(a:Same H H1)(b:Same H1 H2):Same H H2:=fun c o h=>b c o (a c o h)
theorem Same.free{H H':Hp}(e:Same H H'){l:Addr}(h:H' l=Option.none):H l=Option.none:=by
 cases q:H l with
 | none=>rfl
 | some o =>
  rw[e l o q]at h
  cases h
theorem Same.seq{K:W.Frag}{H H':Hp}{a:Addr}{xs:List V}(e:Same H H')(h:SqL K H a xs):SqL K H' a xs:=by
 rcases h with(h | ⟨o,h⟩) | h
 ·exact .inl (.inl (e _ _ h))
 ·exact .inl (.inr ⟨o,e _ _ h⟩)
 ·exact .inr h
end L2
set_option maxHeartbeats 4000000
namespace L2
open PySem PySem.Spec PyProof.Rows
theorem ObjOk.there{P:Program}{w:World}{H:Hp}{h:Heap}{a:Addr}{o:HO}(x:ObjOk P w H h a o):∃ob,h.get? a=some ob:=by
 cases o with
 | lst xs=>obtain⟨_,_,_,_,e⟩:=x;exact⟨_,e⟩
 | tup xs=>obtain⟨_,_,_,p⟩:=x;obtain⟨o,e,_⟩:=p;exact⟨_,e⟩
 | dK kvs=>obtain⟨_,_,_,_,o,_,_,e,_⟩:=x;exact⟨_,e⟩
 | dT kvs=>obtain⟨_,_,_,_,o,_,_,e,_⟩:=x;exact⟨_,e⟩
 | set S n=>obtain⟨o,_,_,_,e,_⟩:=x;exact⟨_,e⟩
 | ins C dx fs=>obtain⟨_,_,_,e,_⟩:=x;exact⟨_,e⟩
 | own y=>obtain⟨_,e⟩:=x;exact⟨_,e⟩
 | xd fs=>obtain⟨_,⟨_,_,_,e,_⟩,_⟩:=x;exact⟨_,e⟩
 | rng lo hi=>obtain⟨_,_,_,e⟩:=x;exact⟨_,e⟩
 | frz ob u=>obtain⟨e,_⟩:=x;exact⟨_,e⟩
 | tbl ps=>obtain⟨_,e,_⟩:=x;exact⟨_,e⟩
 | met f y=>exact⟨_,(show h.get? a=some _ from x)⟩
 | ext φ=>obtain⟨_,⟨_,e⟩,_⟩:=x;exact⟨_,e⟩
def Imp(X:Cx)(pins:List (Addr×Obj))(H:Hp)(b:Addr):Prop:=H b≠none∨(b ∉ X.ex∧∃o,X.s₀.heap.get? b=some o)∨∃p∈X.pn++pins,p.1=b
def a0o:Option Addr→Value
 | none=>.none
 | some n=>if n%2=0 then .ref (n/2)else .none
def Y2:Option Addr→Option Addr
 | none=>none
 | some n=>if n%2=0 then none else some (n/2)
def TrX(h B:Heap)(e:Addr)(cls:Value)(cx:Option Addr)(fl:Value):Prop :=
 ∃oe vs T oT ts,(h.get? e=some oe∧oe.cls=cls∧oe.data=.fields vs∧oe.dict=Y2 cx)∧(vs[1]? = some (.ref T)∧vs[2]? = some (a0o cx))∧(B.get? T=none∧T≠e)∧h.get? T=some oT∧oT.data=.fields ts∧ts[3]? = some fl
theorem Obj.dict_mapF(o:Obj)(g:Array Value→Array Value):(Obj.mapFields g o).dict=o.dict:=by
 obtain⟨a,b,c,d⟩:=o
 cases c<;>rfl
theorem O8(T:Addr):(Value.ref T != Value.none)=true:=by simp
inductive Ph where | new | fly | any
def XTr(B h:Heap)(a:Addr)(cls:Value)(cx:Option Addr):Ph→Prop
 | .new=>∃oe vs,h.get? a=some oe∧oe.cls=cls∧oe.data=.fields vs∧vs[1]? = some .none∧vs[2]? = some (a0o cx)∧oe.dict=Y2 cx
 | .fly=>TrX h B a cls cx .none
 | .any=>∃fl,TrX h B a cls cx fl
theorem XTr.there{B h:Heap}{a:Addr}{cls:Value}{cx:Option Addr}{ph:Ph}(x:XTr B h a cls cx ph):∃oe vs,h.get? a=some oe∧oe.cls=cls∧oe.data=.fields vs∧vs[2]? = some (a0o cx)∧oe.dict=Y2 cx:=by
 cases ph with
 | new=>obtain⟨oe,vs,h1,h2,h3,_,h4,h5⟩:=x;exact⟨oe,vs,h1,h2,h3,h4,h5⟩
 | fly=>obtain⟨oe,vs,_,_,_,⟨h1,h2,h3,h5⟩,⟨_,h4⟩,_⟩:=x;exact⟨oe,vs,h1,h2,h3,h4,h5⟩
 | any=>obtain⟨_,oe,vs,_,_,_,⟨h1,h2,h3,h5⟩,⟨_,h4⟩,_⟩:=x;exact⟨oe,vs,h1,h2,h3,h4,h5⟩
section
variable {M:Model}{A:Around}{E:Value→Shared→Prop}{s:Shared}
def a0F(B:Heap)(l:List Env)(e:Addr)(cls:Value)(cx:Option Addr)(fl:Value)(h h':Heap):Prop:=B.StaysIn h'∧h'.FunFrames B l∧TrX h' B e cls cx fl∧h.UpToSlots h'
theorem a2U{B:Heap}{env:Env}{outer:List Env}{L e:Addr}{oe:Obj}{vs:Array Value}{head:Value}{cx:Option Addr}{nx:Bool}{Q:Unit→Shared→Prop}(fr:A.frames=some (env::outer))(ff:s.heap.FunFrames B (env::outer))(hf:env.frame=some L)
  (ge:s.heap.get? e=some oe) (st:B.StaysIn s.heap) (be:B.get? e=none) (de:oe.data=.fields vs) (z1:1<vs.size) (z2:vs[2]? = some (a0o cx)) (z6:oe.dict=Y2 cx) (q:∀h',a0F B (env::outer) e oe.cls cx (rawInt L) s.heap h'→Q () { s with heap:=h' }) :
  wpAny M A (do let a ← frameOf env;let pl ← entryPlaceOf L nx;let b ← EntryCells.newEntry head a .none (rawInt L) .none pl;setField (.ref e) 1 b) Q E s:=by
 have nf:∀b o,s.heap.get? b=some o→(∀ws,o.data≠.fields ws)→b≠e:=fun b o gb nb zb=>by subst zb;rw[ge]at gb;cases gb;exact nb vs de
 have out:e ∉ (env::outer).filterMap (·.frame):=fun m=>by obtain⟨_,o,go,no⟩:=ff.mem m;exact nf e o go no rfl
 refine wpAny_bind (wpAny_frameOf_fun fr ff hf fun h1 only=>wpAny_bind (wpAny_entryPlaceOf fun pl place=>?_))
 unfold EntryCells.newEntry newFields
 refine wpAny_bind (wpAny_newObj_type ?_ (place.sizeOk5 _ _ _ _ _))
 have ge1:h1.get? e=some oe:=(only.2.1 e out).trans ge
 have st1:B.StaysIn h1:=fun b o gb=>(only.2.1 b fun m=>by have:=(ff.mem m).1;rw[this]at gb;cases gb).trans (st b o gb)
 have ne1:h1.objs.size≠e:=fun z=>absurd (Heap.lt_size ge1) (by rw[z];exact Nat.lt_irrefl _)
 refine wpAny_setField (Heap.get?_push_of_some _ ge1) de z1 (q _ ?_)
 have far:∀{ob:Obj} {g:Obj→Obj} {b:Addr} {o:Obj},b≠e→h1.get? b=some o→((h1.push ob).update e g).get? b=some o:=fun ne gb=>(Heap.get?_update_other _ _ (Ne.symm ne)).trans (Heap.get?_push_of_some _ gb)
 refine⟨fun b o gb=>far (fun z=>by rw[z,be]at gb;cases gb) (st1 b o gb),ff.of_keeps fun b o gb nb=>?_,?_,fun b o gb nb=>?_⟩
 ·obtain⟨sl,g⟩:=only.2.2 b o gb;exact⟨_,far (nf b o gb nb) g,rfl⟩
 ·have dd:=Obj.data_mapFields de (·.setIfInBounds 1 (Value.ref h1.objs.size))
  refine⟨_,_,h1.objs.size,_,_,⟨Heap.get?_update_self _ (Heap.get?_push_of_some _ ge1) (Obj.isFreed_of_fields dd),Obj.cls_mapFields _ _,dd,(Obj.dict_mapF _ _).trans z6⟩,⟨by simp[z1],by rw[Array.getElem?_setIfInBounds_ne (by decide)];exact z2⟩,⟨st1.fresh,ne1⟩,(Heap.get?_update_other _ _ (Ne.symm ne1)).trans (Heap.get?_push_size h1 rfl),rfl,?_⟩
  first | (simp;done) | (rcases place with rfl | ⟨_,_,_,_,_,_,_,rfl⟩<;>simp)
 ·obtain⟨sl,g⟩:=only.2.2 b o gb;exact⟨sl,far (nf b o gb nb) g⟩
theorem a3p{B:Heap}{env:Env}{outer:List Env}{L e:Addr}{oe:Obj}{vs:Array Value}{cx:Option Addr}{Q:Unit→Shared→Prop}(fr:A.frames=some (env::outer))(ff:s.heap.FunFrames B (env::outer))(hf:env.frame=some L)
  (ge:s.heap.get? e=some oe) (st:B.StaysIn s.heap) (be:B.get? e=none) (de:oe.data=.fields vs) (z1:vs[1]? = some .none) (z2:vs[2]? = some (a0o cx)) (z6:oe.dict=Y2 cx) (q:∀h',a0F B (env::outer) e oe.cls cx (rawInt L) s.heap h'→Q () { s with heap:=h' }):wpAny M A (noteFrame (.ref e) env) Q E s:=by
 unfold noteFrame
 simp only[hf]
 refine wpAny_bind (wpAny_field ge de z1 ?_)
 rw[if_neg (by decide)]
 exact a2U fr ff hf ge st be de (Array.getElem?_eq_some_iff.mp z1).1 z2 z6 q
theorem a6G{B:Heap}{env:Env}{outer:List Env}{L e:Addr}{cls:Value}{cx:Option Addr}{Q:Unit→Shared→Prop}(fr:A.frames=some (env::outer))(ff:s.heap.FunFrames B (env::outer))(hf:env.frame=some L)
  {fl:Value} (t:TrX s.heap B e cls cx fl) (nl:¬(fl == rawInt L)=true) (st:B.StaysIn s.heap) (be:B.get? e=none) (q:∀h',a0F B (env::outer) e cls cx (rawInt L) s.heap h'→Q () { s with heap:=h' }):wpAny M A (noteFrame (.ref e) env) Q E s:=by
 obtain⟨oe,vs,T,oT,ts,⟨ge,rfl,de,z6⟩,⟨z1,z2⟩,⟨bT,nT⟩,gT,dT,z3⟩:=t
 unfold noteFrame
 simp only[hf]
 refine wpAny_bind (wpAny_field ge de z1 ?_)
 rw[if_pos (O8 T)]
 refine wpAny_bind (wpAny_field gT dT z3 ?_)
 rw[if_neg nl]
 refine wpAny_bind (wpAny_setField gT dT (Array.getElem?_eq_some_iff.mp z3).1 ?_)
 have far:∀{g:Obj→Obj} b,b≠T→(s.heap.update T g).get? b=s.heap.get? b:=fun b ne=>Heap.get?_update_other _ _ (Ne.symm ne)
 have nf:∀b o,s.heap.get? b=some o→(∀ws,o.data≠.fields ws)→b≠T:=fun b o gb nb zb=>by subst zb;rw[gT]at gb;cases gb;exact nb ts dT
 refine a2U fr (ff.of_keeps fun b o gb nb=>⟨o,(far b (nf b o gb nb)).trans gb,rfl⟩) hf ((far e (Ne.symm nT)).trans ge) (fun b o gb=>(far b fun z=>by rw[z,bT]at gb;cases gb).trans (st b o gb)) be de (Array.getElem?_eq_some_iff.mp z1).1 z2 z6 fun h' x=>q h' ⟨x.1,x.2.1,x.2.2.1,fun b o gb nb=>?_⟩
 exact x.2.2.2 b o ((far b (nf b o gb nb)).trans gb) nb
theorem a3q{B:Heap}{env:Env}{L e:Addr}{cls:Value}{cx:Option Addr}{fl:Value}{Q:Unit→Shared→Prop}(hf:env.frame=some L)(t:TrX s.heap B e cls cx fl)(el:(fl == rawInt L)=true)(q:Q () s):wpAny M A (noteFrame (.ref e) env) Q E s:=by
 obtain⟨oe,vs,T,oT,ts,⟨ge,rfl,de,z6⟩,⟨z1,z2⟩,⟨bT,nT⟩,gT,dT,z3⟩:=t
 unfold noteFrame
 simp only[hf]
 refine wpAny_bind (wpAny_field ge de z1 ?_)
 rw[if_pos (O8 T)]
 refine wpAny_bind (wpAny_field gT dT z3 ?_)
 rw[if_pos el]
 exact wpAny_pure q
theorem a10{B:Heap}{l:List Env}{e:Addr}{cls fl:Value}{cx fr:Option Addr}{Q:Unit→Shared→Prop}(st:B.StaysIn s.heap)(ff:s.heap.FunFrames B l)(t:TrX s.heap B e cls cx fl)
  (q:∀h',a0F B l e cls cx (fr.elim Value.none fun f=>rawInt f) s.heap h'→Q () { s with heap:=h' }):wpAny M A (setFlight (.ref e) fr) Q E s:=by
 obtain⟨oe,vs,T,oT,ts,⟨ge,rfl,de,z6⟩,⟨z1,z2⟩,⟨bT,nT⟩,gT,dT,z3⟩:=t
 have z4:3<ts.size:=(Array.getElem?_eq_some_iff.mp z3).1
 have far:∀{g:Obj→Obj} b,b≠T→(s.heap.update T g).get? b=s.heap.get? b:=fun b ne=>Heap.get?_update_other _ _ (Ne.symm ne)
 have nf:∀b o,s.heap.get? b=some o→(∀ws,o.data≠.fields ws)→b≠T:=fun b o gb nb zb=>by subst zb;rw[gT]at gb;cases gb;exact nb ts dT
 unfold setFlight
 refine wpAny_bind (wpAny_field ge de z1 ?_)
 rw[if_pos (O8 T)]
 refine wpAny_setField gT dT z4 (q _ ⟨fun b o gb=>(far b fun z=>by rw[z,bT]at gb;cases gb).trans (st b o gb),ff.of_keeps fun b o gb nb=>⟨o,(far b (nf b o gb nb)).trans gb,rfl⟩,?_,fun b o gb nb=>⟨o.slots,(far b (nf b o gb nb)).trans gb⟩⟩)
 have dd:=Obj.data_mapFields dT (·.setIfInBounds 3 (fr.elim Value.none fun f=>rawInt f))
 exact⟨oe,vs,T,_,_,⟨(far e (Ne.symm nT)).trans ge,rfl,de,z6⟩,⟨z1,z2⟩,⟨bT,nT⟩,Heap.get?_update_self _ gT (Obj.isFreed_of_fields dd),dd,by simp[z4]⟩
end
structure XAt(X:Cx)(pins:List (Addr×Obj))(H:Hp)(s:Shared)(a:Addr)(cls:Value)(cx:Option Addr)(B:Heap)(ph:Ph):Prop where
 free:H a=none
 stays:B.StaysIn s.heap
 fresh:B.get? a=none
 frames:s.heap.FunFrames B X.stack
 cov:∀b o,s.heap.get? b=some o→Imp X pins H b→b ∉ B3 X.stack→B.get? b=some o
 tr:XTr B s.heap a cls cx ph
section
variable {X:Cx}{pins:List (Addr×Obj)}{σ:St}{H:Hp}{s:Shared}{a:Addr}{cls:Value}{cx:Option Addr}{B h':Heap}{ph:Ph}
theorem Imp.there(I:Inv X pins σ H s){b:Addr}(i:Imp X pins H b):∃o,s.heap.get? b=some o:=by
 rcases i with i | ⟨hx,o,i⟩ | ⟨p,hp,e⟩
 ·cases q:H b with
  | none=>exact absurd q i
  | some u=>exact(I.hok b u q).there
 ·exact I.base.there b o i hx
 ·exact⟨p.2,by rw[← e];exact(I.pin p hp).1⟩
theorem Inv.exc(I:Inv X pins σ H s)(cov:∀b o,s.heap.get? b=some o→Imp X pins H b→b ∉ B3 X.stack→B.get? b=some o)(st:B.StaysIn h')(ups:s.heap.UpToSlots h') :
  Inv X pins σ H { s with heap:=h' }:=by
 have fr:∀b,b∈B3 X.stack→∀o,s.heap.get? b=some o→∃sl,h'.get? b=some { o with slots:=sl }:=fun b hb o e=>by
  obtain⟨_,o',e',d⟩:=I.stack.mem hb
  rw[e]at e';cases e'
  exact ups b o e d
 have nfr:∀b,b ∉ X.fs→b≠X.env.locals→b ∉ B3 X.stack:=fun b h1 h2 z=>(List.mem_cons.mp (I.stkSub b z)).elim h2 h1
 have neL:∀b o,X.s₀.heap.get? b=some o→b≠X.env.locals:=fun b o e=>Nat.ne_of_lt (Nat.lt_of_lt_of_le (Heap.lt_size e) I.ok.above)
 have cellK:∀c v,s.heap.IsCell c v→h'.IsCell c v:=fun c v ⟨o,ho,hd⟩=>by
  obtain⟨sl,q⟩:=ups c o ho (fun vs z=>by rw[hd]at z;cases z)
  exact⟨_,q,hd⟩
 refine⟨I.ok,I.os,I.bare,⟨fun b o e n hb hx=>?_,fun b o e n hb hx=>?_,I.base.free,fun b o e hx=>?_,I.base.tups,I.base.frzs,I.base.tbls⟩,?_,fun x c e=>?_,I.free,I.freeC,fun p hp=>?_,?_,I.len⟩
 ·exact st _ _ (cov b o (I.base.keep b o e n hb hx) (.inr (.inl ⟨hx,o,e⟩)) (nfr b hb (neL b o e)))
 ·obtain⟨sl,e1⟩:=I.base.slot b o e n hb hx
  have hb':b∈B3 X.stack:=by
   rcases I.ok.stk with q | ⟨q,hf⟩
   ·rw[q];exact hb
   ·rw[q];unfold B3;rw[List.filterMap_cons,hf];exact List.mem_cons_of_mem _ hb
  obtain⟨sl',e2⟩:=fr b hb' _ e1
  exact⟨sl',e2⟩
 ·obtain⟨o',e1⟩:=I.base.there b o e hx
  by_cases hb:b∈B3 X.stack
  ·obtain⟨sl,q⟩:=fr b hb _ e1
   exact⟨_,q⟩
  ·exact⟨o',st _ _ (cov b o' e1 (.inr (.inl ⟨hx,o,e⟩)) hb)⟩
 ·obtain⟨m,hn,hl⟩:=I.loc
  refine⟨m,ups.ns hn,fun i x v e1 e2 e3=>?_⟩
  obtain⟨u,r,l⟩:=hl i x v e1 e2 e3
  refine⟨u,r,?_⟩
  rcases l with l | ⟨k,c,e,z⟩
  ·exact .inl l
  ·exact .inr ⟨k,c,e,cellK c _ z⟩
 ·obtain⟨v,z⟩:=I.cell x c e
  exact⟨v,cellK c v z⟩
 ·obtain⟨e,n,ne,nf,d⟩:=I.pin p hp
  exact⟨st _ _ (cov p.1 p.2 e (.inr (.inr ⟨p,hp,rfl⟩)) (nfr p.1 nf ne)),n,ne,nf,d⟩
 ·intro b u e
  refine(I.hok b u e).stay (fun c v hc q=>?_) (fun _ q=>q) (fun _ _ q=>q) fun _ _ _ q=>q
  have hc':H c≠none:=by
   rcases hc with z | z
   ·rw[z,e];exact fun q=>nomatch q
   ·rw[z];exact fun q=>nomatch q
  exact st _ _ (cov c v q (.inl hc') fun z=>hc' (I.stkFree c z))
theorem XAt.cov'(x:XAt X pins H s a cls cx B ph)(I:Inv X pins σ H s)(st:B.StaysIn h'):∀b o,h'.get? b=some o→Imp X pins H b→b ∉ B3 X.stack→B.get? b=some o:=fun b o e i n=>by
 obtain⟨o1,e1⟩:=i.there I
 have q:=x.cov b o1 e1 i n
 have q2:=st _ _ q
 rw[e]at q2;cases q2
 exact q
variable {M:Model}{A:Around}{E:Value→Shared→Prop}{Q:Unit→Shared→Prop}
theorem a43{e:Value}{env env0:Env}(h:env0.frame=env.frame):noteFrame e env=noteFrame e env0:=by
 unfold noteFrame PySem.frameOf
 rw[h]
theorem a05{env0:Env}{out0:List Env}{F:Addr}(hA:A.frames=some X.stack)(hs:X.stack=env0::out0)(h0:env0.frame=X.env.frame)(hf:X.env.frame=some F)(I:Inv X pins σ H s)(x:XAt X pins H s a cls cx B ph)
  (hQ:∀h',Inv X pins σ H { s with heap:=h' }→XAt X pins H { s with heap:=h' } a cls cx B .any→Q () { s with heap:=h' }):wpAny M A (noteFrame (.ref a) X.env) Q E s:=by
 have hfr:A.frames=some (env0::out0):=by rw[hA,hs]
 have hl:s.heap.FunFrames B (env0::out0):=by rw[← hs];exact x.frames
 rw[a43 h0]
 have hf:env0.frame=some F:=h0.trans hf
 have fin:∀{fl:Value} h',a0F B (env0::out0) a cls cx fl s.heap h'→Q () { s with heap:=h' }:=fun h' ⟨k1,k2,k3,k4⟩ =>
  hQ h' (I.exc x.cov k1 k4) ⟨x.free,k1,x.fresh,by rw[hs];exact k2,x.cov' I k1,_,k3⟩
 have on:∀fl,TrX s.heap B a cls cx fl→wpAny M A (noteFrame (.ref a) env0) Q E s:=fun fl t=>by
  by_cases z:(fl == rawInt F)=true
  ·exact a3q hf t z (hQ s.heap I ⟨x.free,x.stays,x.fresh,x.frames,x.cov,fl,t⟩)
  ·exact a6G hfr hl hf t z x.stays x.fresh fin
 cases ph with
 | new =>
  obtain⟨oe,vs,he,hc,hd,h1,h2,h6⟩:=x.tr
  refine a3p hfr hl hf he x.stays x.fresh hd h1 h2 h6 fun h' hN=>?_
  rw[hc]at hN
  exact fin h' hN
 | fly=>exact on _ x.tr
 | any=>obtain⟨fl,t⟩:=x.tr;exact on fl t
theorem a06(I:Inv X pins σ H s)(x:XAt X pins H s a cls cx B ph)(hn:ph≠.new)
  (hQ:∀h',Inv X pins σ H { s with heap:=h' }→XAt X pins H { s with heap:=h' } a cls cx B .fly→Q () { s with heap:=h' }):wpAny M A (setFlight (.ref a) none) Q E s:=by
 have go:∀fl,TrX s.heap B a cls cx fl→wpAny M A (setFlight (.ref a) none) Q E s:=fun fl ht =>
  a10 x.stays x.frames ht fun h' ⟨k1,k2,k3,k4⟩=>hQ h' (I.exc x.cov k1 k4) ⟨x.free,k1,x.fresh,k2,x.cov' I k1,k3⟩
 cases ph with
 | new=>exact absurd rfl hn
 | fly=>exact go _ x.tr
 | any=>obtain⟨fl,t⟩:=x.tr;exact go fl t
end
def w6(P:Program)(w:World):T6:=fun outer H s E e s' =>
 ∃(a:Addr) (cls:Value) (cx:Option Addr) (H':Hp) (B:Heap),e=.ref a∧s'.os=s.os∧AllBare s'.gens∧Un (B3 outer) [] H H' s.heap s'.heap∧HOk P w H' s'.heap∧B.StaysIn s'.heap∧B.get? a=none∧s'.heap.FunFrames B outer ∧
  TrX s'.heap B a cls cx .none∧H' a=none∧(∀b o,s'.heap.get? b=some o→(H' b≠none∨∃o',s.heap.get? b=some o')→b ∉ B3 outer→B.get? b=some o)∧E cls cx H'
def XAcc(X:Cx)(E:XK):Prop:=∀(pins:List (Addr×Obj)) (σ:St) (H:Hp) (s:Shared) (a:Addr) (cls:Value) (cx:Option Addr) (B:Heap) (ph:Ph),Inv X pins σ H s→XAt X pins H s a cls cx B ph→E cls cx H→X.xe (.ref a) s
theorem O3{P:Program}{w:World}{K:W.Frag}{mg:Str→Option Value}{base:Heap}{N:List Str}{qual:Str}{scope:Scope}{f:Addr}{cd:Value}{A:Around}{outer:List Env}{s:Shared}{H:Hp}{E:XK} :
  XAcc (M8 (w6 P w) P w K mg base N qual scope f cd A outer s H E) E:=by
 intro pins σ H1 s1 a cls cx B ph I x e
 show wpAny (model P w) (A.deeper (envOfC qual scope s.heap.objs.size f cd)) (leaving (envOfC qual scope s.heap.objs.size f cd) (.ref a)) _ _ s1
 unfold leaving
 refine wpAny_bind (a05 (X:=M8 (w6 P w) P w K mg base N qual scope f cd A outer s H E) I.ok.frames rfl rfl rfl I x fun h1 I1 x1=>?_)
 refine a06 I1 x1 (fun z=>nomatch z) fun h2 I2 x2=>?_
 refine⟨a,cls,cx,H1,B,rfl,I2.os,I2.bare,I2.base,I2.hok,x2.stays,x2.fresh,x2.frames.2.2,x2.tr,x2.free,fun b o e1 i n=>?_,e⟩
 have nl:b≠(envOfC qual scope s.heap.objs.size f cd).locals:=fun z=>by
  rcases i with i | ⟨o',i⟩
  ·exact i (by rw[z];exact I2.free)
  ·have:=Heap.lt_size i
   rw[z]at this
   exact absurd this (Nat.lt_irrefl _)
 refine x2.cov b o e1 (i.elim .inl fun z=>.inr (.inl ⟨List.not_mem_nil,z⟩)) fun z=>?_
 rcases List.mem_cons.mp (I2.stkSub b z)with q | q
 ·exact nl q
 ·exact n q
theorem XAcc.passes{X:Cx}{E:XK}(acc:XAcc X E):Y0 (w6 X.prog X.w) X E:=by
 intro pins σ H s e s' I h
 obtain⟨a,cls,cx,H',B,rfl,os,bare,un,hok,st,fr,ff,tr,free,cov,hE⟩:=h
 have I':Inv X pins σ H' s':=I.call' (ch:=[]) os un hok bare (fun b z=>absurd z (by simp))
 refine acc pins σ H' s' a cls cx B .fly I' ⟨free,st,fr,ff,fun b o e i n=>cov b o e ?_ n,tr⟩ hE
 rcases i with i | ⟨hx,o',i⟩ | ⟨p,hp,q⟩
 ·exact .inl i
 ·exact .inr (I.base.there b o' i hx)
 ·exact .inr ⟨p.2,by rw[← q];exact(I.pin p hp).1⟩
end L2
namespace PySem.W
open PySem PySem.Spec PySem.Calls PyProof.Rows
structure ExcT(K:Frag)(C:Addr):Prop where
 ga:findIn K (.ref C) "__getattribute__" = some (some (.builtin "BaseException.__getattribute__"))
 gt:findIn K (.ref C) "__getattr__" = some none
 cl:findIn K (.ref C) "__class__" = some (some (.builtin "object.__class__"))
 mo:mroIn K C (.type "object")=some true
 sb:subIn K (.ref C) (.type "BaseException")=some true
section
variable {prog:Program}{w:World}{A:Around}{E:Value→Shared→Prop}{h:Heap}{g:Array GenState}{d:Drawn}{t:Nat}{os:OsState}{K:Frag}{x C:Addr}{o:Obj}{R:Result→Shared→Prop}
theorem a1P{tp:Value}(X:K.In h)(hx:h.get? x=some o)(hc:o.cls=.ref C)(hm:mroIn K C (.type "object")=some true)
  (q:R (.ok (.ret (.ref C))) ⟨h,g,d,t,os⟩):codeAny (model prog w) A (.call (.builtin "getset_descriptor.__get__") ⟨[.builtin "object.__class__",.ref x,tp],[]⟩) R ⟨h,g,d,t,os⟩:=by
 have L0:Looks (model prog w) h (typeOf (.ref x)) (.ref C):=hc▸(Looks.ld hx).andThen .now
 have L1:=looks_mroIn (M:=model prog w) X hm
 refine codeAny_call_builtin KF.slot_gs.plain KF.entry_gs (KF.slot_gs.check _ _ _ _ _ _ _ _ KF.type_class (KF.args_gs _ _ _) ?_)
 unfold Builtin.«getset_descriptor.__get__» Builtin.Getset_descriptor.descrGet
 rw[dga_obj]
 refine wpAny_bind (wpAny_pure ?_)
 unfold Builtin.Getset_descriptor.descrGetter Builtin.Getset_descriptor.descrCheckInstance Builtin.Getset_descriptor.descrNameAndClass isInstance
 simp only[KF.owner_class]
 repeat lk
 refine⟨Code.quiet_builtin _ (by decide +kernel),codeAny_builtin KF.entry_class ?_⟩
 unfold Builtin.«object.__class__» shownTypeOf
 repeat lk
 exact q
theorem a0G{tk:Tok}{Q:Fin→Shared→Prop}(X:K.In h)(T:ExcT K C)(hx:h.get? x=some o)(hc:o.cls=.ref C)(q:Q (.done (.ret (.ref C))) ⟨h,g,d,t,os⟩) :
  wpAny (model prog w) A (Builtin.«object.__getattribute__» ⟨[.ref x,.str "__class__" tk],[]⟩) Q E ⟨h,g,d,t,os⟩:=by
 have L0:Looks (model prog w) h (typeOf (.ref x)) (.ref C):=hc▸(Looks.ld hx).andThen .now
 have L1:=looks_findIn (M:=model prog w) X T.cl
 have hT5:(⟨h,g,d,t,os⟩:Shared).TypeIs (.builtin "object.__class__") "getset_descriptor" := F.typeOf_object_class
 have f5:=F.typeOf_object_class
 have f6:=F.slot_gs_get.lookup
 have f7:=F.slot_gs_set.lookup
 repeat (any_goals (first | assumption | (with_reducible refine L0.at ?_) | (with_reducible refine wpAny_bind (L0.at ?_)) | (with_reducible refine L1.at ?_) | (with_reducible refine wpAny_bind (L1.at ?_)) | wp_step))
 refine a1P X hx hc T.mo ?_
 repeat (any_goals (first | assumption | wp_step))
theorem Y3{M:Model}{nameV:Value}{Q:Unit→Shared→Prop}(X:K.In h)(T:ExcT K C)(hx:h.get? x=some o)(hc:o.cls=.ref C)(hq:Q () ⟨h,g,d,t,os⟩):wpAny M A (checkBuiltinCall "BaseException.__getattribute__" ⟨[.ref x,nameV],[]⟩) Q E ⟨h,g,d,t,os⟩:=by
 have hk:builtinKind "BaseException.__getattribute__" = some .slot:=by decide +kernel
 have hsplit:splitId "BaseException.__getattribute__" = some ("BaseException","__getattribute__"):=by decide +kernel
 have L0:Looks M h (typeOf (.ref x)) (.ref C):=hc▸(Looks.ld hx).andThen .now
 have L1:=looks_subIn (M:=M) X T.sb
 have L2:Looks M h (isInstance (.ref x) (.type "BaseException")) true:=L0.andThen L1
 have ha:=F.args_bexc_ga (.ref x) nameV
 simp only[checkBuiltinCall,hk,hsplit]
 refine wpAny_bind (L2.at ?_)
 repeat (first | assumption | wp_step)
theorem a11{tk:Tok}{Q:Value→Shared→Prop}(X:K.In h)(T:ExcT K C)(hx:h.get? x=some o)(hc:o.cls=.ref C)(hq:Q (.ref C) ⟨h,g,d,t,os⟩):wpAny (model prog w) A (getAttrBy (.ref x) (.str "__class__" tk) false) Q E ⟨h,g,d,t,os⟩:=by
 have L0:Looks (model prog w) h (typeOf (.ref x)) (.ref C):=hc▸(Looks.ld hx).andThen .now
 have L1:=looks_findIn (M:=model prog w) X T.ga
 have L2:=looks_findIn (M:=model prog w) X T.gt
 have f3:=F.attr_ValueError.ga.bind (.ref x)
 have hx2:(Value.builtin "BaseException.__getattribute__" == Value.builtin "object.__getattribute__")=false:=by decide +kernel
 have hx1:(onTheHeap (Value.ref C) && Value.builtin "BaseException.__getattribute__" == Value.builtin "object.__getattribute__")=false:=by rw[hx2];rfl
 repeat (any_goals (first | assumption | (with_reducible refine L0.at ?_) | (with_reducible refine wpAny_bind (L0.at ?_)) | (with_reducible refine L1.at ?_) | (with_reducible refine wpAny_bind (L1.at ?_)) | (with_reducible refine L2.at ?_) | (with_reducible refine wpAny_bind (L2.at ?_)) | wp_step))
 refine codeAny_call_builtin F.attr_ValueError.ga.plain F.entry_bexc_ga (Y3 X T hx hc (a0G X T hx hc ?_))
 repeat (any_goals (first | assumption | wp_step))
theorem a07{Q:Option Value→Shared→Prop}(X:K.In h)(T:ExcT K C)(hx:h.get? x=some o)(hc:o.cls=.ref C)(hq:Q (some (.ref C)) ⟨h,g,d,t+1,os⟩):wpAny (model prog w) A (getAttr? (.ref x) "__class__") Q E ⟨h,g,d,t,os⟩:=by
 unfold getAttr? getAttrBy?
 repeat (any_goals (first | assumption | with_reducible apply a11 X T hx hc | wp_step))
end
def a8q(x C:Addr)(h:Heap):Prop:=∃o vs,h.get? x=some o∧o.cls=.ref C∧o.data=.fields vs
theorem kitx_exc{K:Frag}{x C:Addr}(T:ExcT K C):KitX K (.ref x) (.ref C) (a8q x C) where
 ty:=fun _ _ _ ⟨_,_,hx,hc,_⟩=>hc▸(Looks.ld hx).andThen .now
 it:=fun M h X _=>by
  have hm:=T.mo
  unfold mroIn at hm
  obtain⟨cd,hcd⟩:∃cd,clsIn K C=some cd:=by
   cases q:clsIn K C with
   | none=>rw[q]at hm;cases hm
   | some cd=>exact⟨cd,rfl⟩
  unfold clsIn at hcd
  split at hcd
  ·rename_i c' d' cd' sl' ho
   intro A' Q' E' s' k q
   unfold isType loadHead
   exact wpAny_bind (wpAny_loadPart (k _ _ (X _ _ ho)) (wpAny_pure q))
  ·cases hcd
 ne:=fun h tp dd its n sl X htp=>by
  have hm:=T.mo
  unfold mroIn at hm
  obtain⟨cd,hcd⟩:∃cd,clsIn K C=some cd:=by
   cases q:clsIn K C with
   | none=>rw[q]at hm;cases hm
   | some cd=>exact⟨cd,rfl⟩
  refine Bool.eq_false_iff.mpr fun q=>?_
  have e:C=tp:=Value.ref.inj (beq_iff_eq.mp q)
  subst e
  unfold clsIn at hcd
  split at hcd
  ·rename_i c' d' cd' sl' ho
   have z:=(X _ _ ho).symm.trans htp
   cases z
  ·cases hcd
 ca:=fun{_ _ _ _ _ s} X ⟨_,_,hx,hc,_⟩ k=>by
  obtain⟨h,g,d,t,os⟩:=s
  exact a07 X T hx hc k
end PySem.W
namespace L2
open PySem PySem.Spec PyProof.Rows
abbrev TJ:=St→Hp→Str→(Str→Hp→Prop)→Prop
def vErr:List Value:=[.type "ValueError",.type "Exception",.type "BaseException",.type "object"]
theorem a6H{K:W.Frag}{h₀:Heap}{C:Addr}(KX:K.In h₀)(q:W.excIn K C vErr "ValueError.__new__" = true) :
  ∃bm N nm q bs hdct sn sub ab col dd k0 k1 k2 k3 k5 mN,h₀.get? C=some (excClassObj nm q C N bs bm hdct sn sub ab col dd k0 k1 k2 k3 k5 "ValueError.__new__")∧h₀.Ns N mN∧mN "__init__" = none∧OwnTail h₀ vErr bm:=by
 unfold W.excIn at q
 split at q
 ·rename_i dd cd sl ho
  split at q
  ·rename_i C' bm k0 k1 k2 k3 n k5 hm hs
   simp only[Bool.and_eq_true,beq_iff_eq,Bool.not_eq_true']at q
   obtain⟨⟨⟨⟨⟨rfl,rfl⟩,hdel⟩,ht⟩,hok⟩,hni⟩:=q
   obtain⟨nm,bs,mro,ns,qn,hd,sn,sub,ab,col,del⟩:=cd
   dsimp only at hm hdel hok hni
   subst hm hdel
   have hsl:sl = #[k0,k1,k2,k3,some (.builtin "ValueError.__new__"),k5]:=by
    obtain⟨l⟩:=sl
    simp only at hs
    rw[hs]
   subst hsl
   exact⟨bm,ns,nm,qn,bs,hd,sn,sub,ab,col,dd,k0,k1,k2,k3,k5,_,KX _ _ ho,.of_isNs (W.isNs_of_in KX hok),W.nsMap_none_of_in KX hok hni,W.tail_of_in KX ht⟩
  ·cases q
 ·cases q
section
variable {X:Cx}{E:XK}
theorem XAt.first{pins:List (Addr×Obj)}{σ:St}{H:Hp}{s:Shared}{h':Heap}{a:Addr}{cls:Value}{cx:Option Addr}{oe:Obj}{vs:Array Value}(I:Inv X pins σ H s)(k:∀b o,s.heap.get? b=some o→h'.get? b=some o)
  (n:s.heap.get? a=none) (g:h'.get? a=some oe) (hc:oe.cls=cls) (hd:oe.data=.fields vs) (z1:vs[1]? = some .none) (z2:vs[2]? = some (a0o cx)) (z6:oe.dict=Y2 cx) :
  Inv X pins σ H { s with heap:=h' }∧XAt X pins H { s with heap:=h' } a cls cx (W.hideAll s.heap (B3 X.stack)) .new:=by
 have I':Inv X pins σ H { s with heap:=h' }:=I.kept (t':=s.toks) k
 have fr:H a=none:=by
  cases q:H a with
  | none=>rfl
  | some u=>obtain⟨o,e⟩:=(I.hok a u q).there;rw[n]at e;cases e
 refine⟨I',fr,fun b o e=>k b o (W.of_hideAll _ e),?_,(W.funFrames_hide I.stack fun env he b hb=>List.mem_filterMap.mpr ⟨env,he,hb⟩).of_keeps fun b o e _=>⟨o,k b o e,rfl⟩,fun b o e i n=>?_,⟨oe,vs,g,hc,hd,z1,z2,z6⟩⟩
 ·cases q:(W.hideAll s.heap (B3 X.stack)).get? a with
  | none=>rfl
  | some o=>have:=W.of_hideAll _ q;rw[n]at this;cases this
 ·obtain⟨o1,e1⟩:=i.there I
  have e2:=k _ _ e1
  rw[e]at e2;cases e2
  exact W.hideAll_get _ e1 n
theorem XAt.made{pins:List (Addr×Obj)}{σ:St}{H:Hp}{s:Shared}{h':Heap}{a:Addr}{cls:Value}{vs:List Value}(I:Inv X pins σ H s)(m:Heap.MadeExcOf s.heap h' a cls vs) :
  Inv X pins σ H { s with heap:=h' }∧XAt X pins H { s with heap:=h' } a cls none (W.hideAll s.heap (B3 X.stack)) .new:=by
 obtain⟨t,he,_,_⟩:=m.there
 exact XAt.first I m.keeps m.new he rfl rfl rfl rfl rfl
def a37(C:Addr)(E:XK)(ta:TA):TS:=fun _ σ H=>ta σ H fun vs H1=>vs.length≤sizeLine∧E (.ref C) none H1
theorem a44{x:Str}{C:Addr}{e₀:Expr}{h9:List Expr}{np cpos pos:Pos}{ta:TA}(acc:XAcc X E)(q:W.excIn X.K C vErr "ValueError.__new__" = true)(hg:Gl X x)(hm:X.mg x=some (.ref C))(ha:PA X (e₀::h9) ta)
  (hc:X.calm=true:=by rfl) (hex:X.ex=[]:=by rfl)
  (he:starEach (e₀::h9) X.env=(false,eval e₀ X.env)::starEach h9 X.env:=by rfl) (hplain:(backTo cpos (starEach h9 X.env)).any (·.1)=false:=by rfl) (hd:(x == ("__debug__" : Str))=false:=by decide) :
  PS X (.Raise (some (.Call (.Name x np) (e₀::h9) [] cpos)) none pos) (a37 C E ta):=by
 intro pins s σ H D I h
 obtain⟨tl,N,nm,qn,bs,hdct,sn,sub,ab,col,dd,k0,k1,k2,k3,k5,mN,hC,hN,hni,T⟩:=a6H I.mod.kin q
 have hp:=ha cpos pins s σ H _ I h
 rw[he]at hp
 refine wpAny_Raise_call_subT (C:=C) (nm:=nm) (q:=qn) (N:=N) (bs:=bs) (bm:=tl) (hdct:=hdct) (sn:=sn) (sub:=sub) (ab:=ab) (col:=col) (dd:=dd) (k0:=k0) (k1:=k1) (k2:=k2) (k3:=k3) (k5:=k5)
  PySem.F.excBase_ValueError (mN:=mN) (T.hasType PySem.F.excBase_ValueError.hasBase) (I.ok.hd hc) (by rw[he];show(false || (backTo cpos (starEach h9 X.env)).any (·.1))=false;rw[hplain];rfl) hni (O2 I hg hm ⟨rfl,?_⟩ hd)
 rw[he]
 refine Calls.evalArgs_plain (i6 hp fun us s2 ⟨vs,H2,I2,rv,z,hE⟩=>⟨rfl,by rw[← rv.length];exact z,I2.bk _ _ hC,hN.keeps I2.bk,T.keeps I2.bk,fun h' e m=>?_⟩)
 obtain⟨I3,x3⟩:=XAt.made I2 m
 exact acc pins σ H2 _ e _ none _ .new I3 x3 hE
end
def D5(a:Addr)(cls:Value)(cx:Option Addr):HO:=.ext fun h=>∃o vs,h.get? a=some o∧o.cls=cls∧o.data=.fields vs∧vs[2]? = some (a0o cx)∧o.dict=Y2 cx
section
variable {X:Cx}{pins:List (Addr×Obj)}{σ:St}{H:Hp}{s:Shared}{a:Addr}{cls:Value}{cx:Option Addr}{B:Heap}{ph:Ph}
theorem XAt.nofr(x:XAt X pins H s a cls cx B ph):a ∉ B3 X.stack:=fun z=>by
 obtain⟨oe,vs,e,_,d,_⟩:=x.tr.there
 obtain⟨_,o,e',d'⟩:=x.frames.mem z
 rw[e]at e';cases e'
 exact d' vs d
theorem XAt.noimp(x:XAt X pins H s a cls cx B ph):¬Imp X pins H a:=fun i=>by
 obtain⟨oe,vs,e,_,d,_⟩:=x.tr.there
 have:=x.cov a oe e i x.nofr
 rw[x.fresh]at this;cases this
theorem Inv.track(I:Inv X pins σ H s)(x:XAt X pins H s a cls cx B ph):Inv X pins σ (upd H a (D5 a cls cx)) s:=by
 obtain⟨oe,vs,e,hc,d,d2⟩:=x.tr.there
 have ni:=x.noimp
 refine⟨I.ok,I.os,I.bare,⟨I.base.keep,I.base.slot,fun b o e1 n hx=>?_,I.base.there,fun b xs q=>?_,fun b o u q=>?_,fun b ps q=>?_⟩,I.loc,I.cell,?_,fun y c q=>?_,fun p hp=>?_,fun b u q=>?_,I.len⟩
 ·rw[b9 (fun z=>ni (.inr (.inl ⟨by rw[← z];exact hx,o,by rw[← z];exact e1⟩)))]
  exact I.base.free b o e1 n hx
 ·have q1:=I.base.tups b xs q
  rw[b9 (i9 q1 x.free)];exact q1
 ·have q1:=I.base.frzs b o u q
  rw[b9 (i9 q1 x.free)];exact q1
 ·obtain⟨more,q1⟩:=I.base.tbls b ps q
  exact⟨more,by rw[b9 (i9 q1 x.free)];exact q1⟩
 ·rw[b9 fun z=>?_]
  ·exact I.free
  ·obtain⟨m,⟨o,es,ep,ho,hd,_⟩,_⟩:=I.loc
   rw[z,e]at ho;cases ho
   rw[d]at hd;cases hd
 ·rw[b9 fun z=>?_]
  ·exact I.freeC y c q
  ·obtain⟨v,o,ho,hd⟩:=I.cell y c q
   rw[z,e]at ho;cases ho
   rw[d]at hd;cases hd
 ·obtain⟨h1,h2,h3,h4,h5⟩:=I.pin p hp
  exact⟨h1,by rw[b9 (fun z=>ni (.inr (.inr ⟨p,hp,z⟩)))];exact h2,h3,h4,h5⟩
 ·by_cases hb:b=a
  ·subst hb
   rw[g9]at q;cases q
   exact⟨⟨oe,vs,e,hc,d,d2⟩,⟨oe,e⟩,fun h1 h2 ⟨o,ws,z1,z2,z3⟩ k=>⟨o,ws,k o z1,z2,z3⟩⟩
  ·rw[b9 hb]at q
   refine(I.hok b u q).stay (fun _ _ _ z=>z) (fun c z=>?_) (fun c xs z=>?_) fun c ob u z=>?_
   ·rw[b9 (i9 z x.free)];exact z
   ·rw[b9 (i9 z x.free)];exact z
   ·rw[b9 (i9 z x.free)];exact z
end
abbrev Cx.tryCx(X:Cx)(E2:Value→Shared→Prop)(pins:List (Addr×Obj)):Cx:={ X with xe:=E2,pn:=X.pn++pins }
abbrev Cx.inExc(X:Cx)(a:Addr):Cx:={ X with A:=X.A.mark (some (.ref a)),calm:=false }
section
variable {X:Cx}{pins:List (Addr×Obj)}{σ:St}{H:Hp}{s:Shared}{a:Addr}{E2:Value→Shared→Prop}
theorem Cx.Ok.tryCx(ok:X.Ok):(X.tryCx E2 pins).Ok:=⟨ok.mod,ok.kind,ok.glob,ok.blt,ok.above,ok.inj,ok.has,ok.cab,ok.hd,ok.frames,ok.stk,ok.exf,ok.bs,ok.bsz,ok.noex,ok.exfs,ok.funs,ok.frf⟩
theorem Cx.Ok.inExc(ok:X.Ok):(X.inExc a).Ok:=⟨ok.mod,ok.kind,ok.glob,ok.blt,ok.above,ok.inj,ok.has,ok.cab,(fun z=>nomatch z),ok.frames,ok.stk,ok.exf,ok.bs,ok.bsz,ok.noex,ok.exfs,ok.funs,ok.frf⟩
theorem Inv.toTry(I:Inv X pins σ H s):Inv (X.tryCx E2 pins) [] σ H s :=
 ⟨I.ok.tryCx,I.os,I.bare,I.base,I.loc,I.cell,I.free,I.freeC,fun p hp=>I.pin p (by rw[List.append_nil]at hp;exact hp),I.hok,I.len⟩
theorem Inv.ofTry{pins':List (Addr×Obj)}(ok:X.Ok)(I:Inv (X.tryCx E2 pins) pins' σ H s):Inv X pins σ H s :=
 ⟨ok,I.os,I.bare,I.base,I.loc,I.cell,I.free,I.freeC,fun p hp=>I.pin p (List.mem_append_left _ hp),I.hok,I.len⟩
theorem Inv.toExc(I:Inv X pins σ H s):Inv (X.inExc a) pins σ H s :=
 ⟨I.ok.inExc,I.os,I.bare,I.base,I.loc,I.cell,I.free,I.freeC,I.pin,I.hok,I.len⟩
theorem Inv.ofExc(ok:X.Ok)(I:Inv (X.inExc a) pins σ H s):Inv X pins σ H s :=
 ⟨ok,I.os,I.bare,I.base,I.loc,I.cell,I.free,I.freeC,I.pin,I.hok,I.len⟩
theorem SP.ofTry{pins':List (Addr×Obj)}{D:Ends}{f:Flow}{s':Shared}(ok:X.Ok)(h:SP (X.tryCx E2 pins) pins' D f s'):SP X pins D f s':=by
 cases f with
 | next=>obtain⟨σ',H',I,q⟩:=h;exact⟨σ',H',I.ofTry ok,q⟩
 | brk=>obtain⟨σ',H',I,q⟩:=h;exact⟨σ',H',I.ofTry ok,q⟩
 | cont=>obtain⟨σ',H',I,q⟩:=h;exact⟨σ',H',I.ofTry ok,q⟩
 | ret u=>obtain⟨v,σ',H',I,r,q⟩:=h;exact⟨v,σ',H',I.ofTry ok,r,q⟩
theorem SP.ofExc{D:Ends}{f:Flow}{s':Shared}(ok:X.Ok)(h:SP (X.inExc a) pins D f s'):SP X pins D f s':=by
 cases f with
 | next=>obtain⟨σ',H',I,q⟩:=h;exact⟨σ',H',I.ofExc ok,q⟩
 | brk=>obtain⟨σ',H',I,q⟩:=h;exact⟨σ',H',I.ofExc ok,q⟩
 | cont=>obtain⟨σ',H',I,q⟩:=h;exact⟨σ',H',I.ofExc ok,q⟩
 | ret u=>obtain⟨v,σ',H',I,r,q⟩:=h;exact⟨v,σ',H',I.ofExc ok,r,q⟩
theorem XAcc.inExc{E:XK}{a:Addr}(acc:XAcc X E)(ok:X.Ok):XAcc (X.inExc a) E:=fun pins σ H s b cls cx B ph I x e=>acc pins σ H s b cls cx B ph (I.ofExc ok) ⟨x.free,x.stays,x.fresh,x.frames,x.cov,x.tr⟩ e
end
section
variable {X:Cx}{pins:List (Addr×Obj)}{σ:St}{H:Hp}{s:Shared}{a:Addr}{E2:Value→Shared→Prop}
theorem Inv.nameGoes{M:Model}{A:Around}{E:Value→Shared→Prop}{n:Str}{i:Nat}{pos:Pos}{Q:Unit→Shared→Prop}(I:Inv X pins σ H s)(hN:X.N.Nodup)(hi:X.N[i]? = some n)(hl:X.env.scope.names.lookup n=some .local)
  (h:∀h',Inv X pins (σ.set i none) H { s with heap:=h',toks:=s.toks+1 }→Q () { s with heap:=h',toks:=s.toks+1 }):wpAny M A (do bindName X.env n .none;unbindBehindTheSuite X.env n pos) Q E s:=by
 obtain⟨m,hn,hlo⟩:=id I.loc
 have hcls:(X.env.scope.kind == .class || (X.env.scope.kind == .module && X.env.locals != X.env.globals))=false:=by rw[I.ok.kind];rfl
 refine wpAny_nameGoes_keeps hl hn hcls fun h' v hn' hs=>h h' ?_
 obtain⟨oL,_,_,hoL,_⟩:=id hn
 have cne:=I.cne
 have neL:∀b o,X.s₀.heap.get? b=some o→b≠X.env.locals:=fun b o e=>Nat.ne_of_lt (Nat.lt_of_lt_of_le (Heap.lt_size e) I.ok.above)
 refine⟨I.ok,I.os,I.bare,⟨fun b o e k hb hx=>(hs.2 b (neL b o e)).trans (I.base.keep b o e k hb hx),fun b o e k hb hx=>?_,I.base.free,fun b o e hx=>?_,I.base.tups,I.base.frzs,I.base.tbls⟩,⟨_,hn',fun j y v' e1 e2 e3=>?_⟩,fun y c e=>?_,I.free,I.freeC,fun p hp=>?_,?_,by simpa using I.len⟩
 ·obtain⟨sl,e1⟩:=I.base.slot b o e k hb hx
  exact⟨sl,(hs.2 b (neL b o e)).trans e1⟩
 ·obtain⟨o',e1⟩:=I.base.there b o e hx
  exact⟨o',(hs.2 b (neL b o e)).trans e1⟩
 ·by_cases hj:j=i
  ·subst hj
   by_cases hlt:j<σ.length
   ·rw[List.getElem?_set_self hlt]at e2;cases e2
   ·rw[List.getElem?_eq_none (by rw[List.length_set];omega)]at e2;cases e2
  ·rw[List.getElem?_set_ne (Ne.symm hj)]at e2
   obtain⟨u',r',q⟩:=hlo j y v' e1 e2 e3
   refine⟨u',r',?_⟩
   rcases q with⟨k,e⟩ | ⟨k,c,e,z⟩
   ·refine .inl ⟨k,?_⟩
    have:y≠n:=fun e=>hj (a0m hN e1 (e▸hi))
    simp[this,e]
   ·exact .inr ⟨k,c,e,z.sameBut hs (cne y c e)⟩
 ·obtain⟨w',z⟩:=I.cell y c e
  exact⟨w',z.sameBut hs (cne y c e)⟩
 ·obtain⟨e,n',ne,nf,d⟩:=I.pin p hp
  exact⟨(hs.2 p.1 ne).trans e,n',ne,nf,d⟩
 ·intro b ob e
  refine(I.hok b ob e).stay (fun c w' hc q=>(hs.2 c ?_).trans q) (fun _ q=>q) (fun _ _ q=>q) fun _ _ _ q=>q
  rintro rfl
  rcases hc with rfl | hc
  ·rw[I.free]at e;cases e
  ·rw[I.free]at hc;cases hc
end
theorem x8{X:Cx}{P:Program}{w:World}:Y0 (w6 P w) X E0:=fun _ _ _ _ _ _ _ h=>by
 obtain⟨_,_,_,_,_,_,_,_,_,_,_,_,_,_,_,_,hE⟩:=h
 exact hE.elim
section
variable {P:Program}{w:World}{K:W.Frag}{mg:Str→Option Value}{base:Heap}
theorem Fun.okE{x qual:Str}{st:Stmt}{f:Addr}{fd:FuncData}{N ps:List Str}{k:Nat}{sp:Sp}(F:Fun K x qual st f fd)(S:FnScope N ps (b8 st))(len:∀vs H Q E,sp vs H Q E→vs.length=ps.length)
  (hbody:∀(cdv:Value) (A:Around) (outer:List Env) (s:Shared) (H:Hp) (vs:List V) (Q:VK) (E:XK),Room k (A.deeper (envOfC qual (b8 st) s.heap.objs.size f cdv))→sp vs H Q E →
   ∃t,PSs (M8 (w6 P w) P w K mg base N qual (b8 st) f cdv A outer s H E) (j7 st) t∧t { nx:=fun _ H'=>Q .non H',rt:=Q } (start N vs) H):FnOk P w K mg base (w6 P w) (k+1) f fd ps sp:=by
 obtain⟨oc,od,kV,doc,pm,an,cdv,ct,osl,rfl,lk,hcd⟩:=F.ex
 exact a3m lk hcd S len fun A outer s H vs Q E hr hsp=>hbody cdv A outer s H vs Q E hr hsp
structure FunD(K:W.Frag)(x qual:Str)(st:Stmt)(dT:Addr)(f:Addr)(fd:FuncData):Prop where
 ex:∃(oc:Value) (od:Option Addr) (kV doc pm:Value) (an:Option Addr) (cdv ct:Value) (osl:Array (Option Value)),
  fd=W.fnOf x qual (m9 st) (j7 st) (b8 st) (.ref dT) kV doc pm an cdv ct∧K.lookup f=some ⟨oc,od,.func fd,osl⟩∧W.codeIn K cdv qual=true
 kp:W.keepIn K (.ref f)=true
theorem FunD.okE{x qual:Str}{st:Stmt}{dT f:Addr}{fd:FuncData}{N ps:List Str}{k:Nat}{sp:Sp}(F:FunD K x qual st dT f fd)(S:FnScope N ps (b8 st))(len:∀vs H Q E,sp vs H Q E→vs.length=ps.length)
  (hbody:∀(cdv:Value) (A:Around) (outer:List Env) (s:Shared) (H:Hp) (vs:List V) (Q:VK) (E:XK),Room k (A.deeper (envOfC qual (b8 st) s.heap.objs.size f cdv))→sp vs H Q E →
   ∃t,PSs (M8 (w6 P w) P w K mg base N qual (b8 st) f cdv A outer s H E) (j7 st) t∧t { nx:=fun _ H'=>Q .non H',rt:=Q } (start N vs) H):FnOk P w K mg base (w6 P w) (k+1) f fd ps sp:=by
 obtain⟨oc,od,kV,doc,pm,an,cdv,ct,osl,rfl,lk,hcd⟩:=F.ex
 exact a3m lk hcd S len fun A outer s H vs Q E hr hsp=>hbody cdv A outer s H vs Q E hr hsp
theorem FunD.binds{x qual:Str}{st:Stmt}{dT f:Addr}{fd:FuncData}{ps:List Str}{ds:List Value}{items:List Value}{o:Obj}{nn:Nat}(F:FunD K x qual st dT f fd)(ho:K.lookup dT=some o)(hs:o.data=.seq items.toArray nn)
  (h:∀(kV doc pm:Value) (an:Option Addr) (cdv ct:Value) (us:List Value),(us++ds).length=ps.length→∃k:Option (Array Value)→Sem (List (Str×Value)),
   bindArgs (W.fnOf x qual (m9 st) (j7 st) (b8 st) (.ref dT) kV doc pm an cdv ct) ⟨us,[]⟩=seqItems? (.ref dT) >>= k∧k (some items.toArray)=pure (ps.zip (us++ds))):Binds K fd ps ds:=by
 obtain⟨oc,od,kV,doc,pm,an,cdv,ct,osl,rfl,lk,hcd⟩:=F.ex
 intro s us KX hl
 obtain⟨k,h1,h2⟩:=h kV doc pm an cdv ct us hl
 exact W.binds_K KX rfl ho hs h1 h2
end
structure RoomW(k:Nat)(A:Around):Prop where
 dp:A.depth+3*k+5<recursionLimit
 un:A.units+16*k+200<cLine
theorem Room.w{k:Nat}{A:Around}(r:Room k A)(h:Option Value):RoomW k (A.mark h):=⟨r.dp,r.un⟩
theorem RoomW.deeper{k:Nat}{A:Around}(r:RoomW (k+1) A)(env:Env):RoomW k (A.deeper env) :=
 ⟨by have:=r.dp;show A.depth+1+3*k+5<_;omega,by have:=r.un;show A.units+3+16*k+200<_;omega⟩
def a8r:V→Option Value
 | .ty n=>some (.type n)
 | .ref a=>some (.ref a)
 | _=>none
theorem a6I{y:V}{c u:Value}(e:a8r y=some c)(r:RelV y u):u=c:=by
 cases y with
 | ty n=>cases e;exact r
 | ref a=>cases e;exact r
 | _=>cases e
inductive TyX(K:W.Frag)(H:Hp):V→Value→Prop where
 | of {x:V} {t:Value} (h:TyOf K H x t):TyX K H x t
 | exc {a C:Addr} {cx:Option Addr} (h:H a=some (D5 a (.ref C) cx)) (T:W.ExcT K C):TyX K H (.ref a) (.ref C)
section
variable {X:Cx}{pins:List (Addr×Obj)}{σ:St}{H:Hp}{s:Shared}{A:Around}{E:Value→Shared→Prop}{Q:Value→Shared→Prop}
theorem TyX.kit{x:V}{u t:Value}(I:Inv X pins σ H s)(rx:RelV x u)(ty:TyX X.K H x t):∃Φ:Heap→Prop,W.KitX X.K u t Φ∧Φ s.heap∧u≠.builtin "__main__.__loader__#opaque" := by
 cases ty with
 | @exc a C cx h T =>
  cases (show u=Value.ref a from rx)
  obtain⟨⟨o,vs,h1,h2,h3,_⟩,_⟩:=(show ObjOk X.prog X.w H s.heap a (D5 a (.ref C) cx)from I.hok a _ h)
  exact⟨_,W.kitx_exc T,⟨o,vs,h1,h2,h3⟩,fun z=>nomatch z⟩
 | of h =>
 cases h with
 | non=>cases (show u=Value.none from rx);exact⟨_,W.kitx_none,True.intro,fun z=>nomatch z⟩
 | bl y=>cases (show u=Value.bool y from rx);exact⟨_,W.kitx_bool,True.intro,fun z=>nomatch z⟩
 | int i=>obtain⟨t,q⟩:=(show ∃t,u=Value.int i t from rx);cases q;exact⟨_,W.kitx_int,True.intro,fun z=>nomatch z⟩
 | str y=>obtain⟨t,q⟩:=(show ∃t,u=Value.str y t from rx);cases q;exact⟨_,W.kitx_str,True.intro,fun z=>nomatch z⟩
 | flt y=>obtain⟨t,q⟩:=(show ∃t,u=Value.float y t from rx);cases q;exact⟨_,W.kitx_float,True.intro,fun z=>nomatch z⟩
 | @lst a xs ea =>
  cases (show u=Value.ref a from rx)
  obtain⟨_,_,n,_,h1⟩:=(show ObjOk X.prog X.w H s.heap a (.lst xs)from I.hok a _ ea)
  exact⟨_,W.kitx_list,⟨_,h1,rfl⟩,fun z=>nomatch z⟩
 | @frz a ob xs ea =>
  cases (show u=Value.ref a from rx)
  obtain⟨_,_,_,n,_,h1⟩:=(show ObjOk X.prog X.w H s.heap a (.frz ob (.lst xs))from I.hok a _ ea)
  exact⟨_,W.kitx_list,⟨_,h1,rfl⟩,fun z=>nomatch z⟩
 | @tup a xs ea =>
  cases (show u=Value.ref a from rx)
  obtain⟨_,_,_,p⟩:=(show ObjOk X.prog X.w H s.heap a (.tup xs)from I.hok a _ ea)
  obtain⟨o,h1,h2,_⟩:=p
  exact⟨_,W.kitx_tuple,⟨o,h1,h2⟩,fun z=>nomatch z⟩
 | @dK a kvs ea =>
  cases (show u=Value.ref a from rx)
  obtain⟨_,_,vs,_,p⟩:=(show ObjOk X.prog X.w H s.heap a (.dK kvs)from I.hok a _ ea)
  obtain⟨o,es,ep,h1,h2,_⟩:=p
  exact⟨_,W.kitx_dict,⟨o,h1,h2.1⟩,fun z=>nomatch z⟩
 | @dT a kvs ea =>
  cases (show u=Value.ref a from rx)
  obtain⟨_,_,xs,_,o,es,ep,h1,h2,_⟩:=(show ObjOk X.prog X.w H s.heap a (.dT kvs)from I.hok a _ ea)
  exact⟨_,W.kitx_dict,⟨o,h1,h2.1⟩,fun z=>nomatch z⟩
 | @ins a C dx fs ea cl ha hn htk hm =>
  cases (show u=Value.ref a from rx)
  obtain⟨mA,O,_⟩:=a6A I.hok ea
  obtain⟨od,J,_⟩:=O.look
  exact⟨_,W.kitx_own (cl.get _) cl.hd ha hn htk hm,J,fun z=>nomatch z⟩
def a12(K:W.Frag):List V→Hp→VK→Prop:=fun xs H Q=>∃x y t c b,xs=[x,y]∧a8r y=some c∧TyX K H x t∧W.kitOne K t c=some b∧Q (.bl b) H
theorem a45:E3 X (.builtin "isinstance") (a12 X.K):=by
 intro pins s σ H xs us Q I r h
 obtain⟨x,y,t,c,b,rfl,e1,e2,e3,q⟩:=h
 obtain⟨u,v,rfl,r1,r2⟩:=a57 r
 obtain rfl:=a6I e1 r2
 obtain⟨Φ,Z,p,n⟩:=e2.kit I r1
 exact W.kia_one Z I.kIn p e3 n fun tk=>⟨.bl b,H,I.tok _,rfl,q⟩
end
def a46:List V→List V→Bool
 | [],[]=>true
 | x::xs,y::ys=>eqV x y && a46 xs ys
 | _,_=>false
section
variable {X:Cx}{pins:List (Addr×Obj)}{σ:St}{H:Hp}{s:Shared}
theorem C7:I0 X (binaryOp .Mult) (rI IntMulOk fun i j=>.int (i*j)):=opI fun _ _ _ _ _ _ _ hc q=>mul_int q hc
theorem u6:I0 X (binaryOp .FloorDiv) (rI (fun _ j=>0<j∧j.natAbs.log2<9000) fun i j=>.int (i/j)):=opI fun i j _ _ _ _ _ hc q=>by
 have h0:j≠0:=by have:=hc.1;omega
 refine floordiv_int h0 ?_ (.inl (PyProof.noPylong_of_log2 hc.2))
 rw[Int.fdiv_eq_ediv_of_nonneg _ (Int.le_of_lt hc.1)]
 exact q
end
open PySem.W PySem.Calls
theorem a2D{ns:List Int}(h:WData.layableAll [WData.list (ns.map WData.int)]=true):∀n∈ns,Builtin.Int.intBits n≤2 ^ 20:=fun n hn=>by
 have h1:(WData.list (ns.map WData.int)).layable=true:=layableW_arg h _ (List.mem_singleton.mpr rfl)
 have h2:=layableW_item h1 (WData.int n) (List.mem_map.mpr ⟨n,hn,rfl⟩)
 have h3:=(layableW_iff.mp h2).2.2
 simpa only[WData.weight,Builtin.Int.intBits]using h3
theorem walk_ofB{l:OpenLaw}{n k:Nat}{q:Program}{loose:List Str}{XP:(Str→Option Value)→Heap→Prop}{YP:World→Heap→Prop}{d:DefRec}{K:Params→Frag}{CX:World→T6}{sp:World→Sp}{x:Str}
  (hn:l.most=some n) (hn2:n≤sizeLine) (hdf:d.params.defaults=[]) (hr:Room k callerA)
  (hY:∀(w:World) (h:Heap),YP w h→(K w.params).In h)
  (F:∀(w:World) (mg:Str→Option Value) (fa:Addr) (h:Heap),(K w.params).In h→h.Ns mainGlobals mg→mg d.name=some (.ref fa) →
   ∃fd:FuncData,(∀(s:Shared) (u:Value),BindsTo s fd ⟨[u],[]⟩ [(x,u)]) ∧
    ∀base:Heap,(K w.params).In base→base.Ns mainGlobals mg→FnOk l.prog w (K w.params) mg base (CX w) k fa fd [x] (sp w))
  (hsp:∀(w:World) (H:Hp) (a:Addr) (ns:List Int),ns.length≤n→(∀m∈ns,Builtin.Int.intBits m≤2 ^ 20)→a3o H→SqL (K w.params) H a (ns.map V.int)→sp w [.ref a] H (fun v _=>v=.bl true) fun _ _ _=>False)
  (hCX:∀(w:World) (H:Hp) (s:Shared) (e:Value) (s':Shared),CX w [] H s (fun _ _ _=>False) e s'→False) :
  WalkO q loose XP YP l.row.toRowW d [] (fun f vs=>PySem.call f vs):=by
 intro w s₀ s₁ mg mb G Y fa o pm cd doc dV kV ho hd hcd hD hmg hg args vals as hpre hlay hrd hwl hlo
 obtain rfl:dV=.none:=Dflts.none hD hdf
 obtain rfl:kV=.none:=Dflts.noKw hD
 obtain⟨a,vs,ns,rfl,rfl,hobj,hints,hlen⟩:=Att.script_of hn hpre hwl
 have KX:=hY w _ Y
 obtain⟨fd,hb,hF⟩:=F w mg fa _ KX G.T.g hmg
 refine enter_call (codeAny_mono (a42 KX G.T.g G.T.b G.T.builtins G.T.nolimit hg hobj hints (Nat.le_trans hlen hn2) hr hF hb (fun H hO hS=>hsp w H a ns hlen (a2D hlay) hO hS) fun H e s'=>hCX w H s₁ e s') fun r s' hq=>?_)
 obtain⟨rfl,h2,h3,h4⟩:=hq
 exact⟨.inl ⟨.bool true,.bool true,[],rfl,fun _=>rfl,.bool true,Att.post_true l _,fun _=>⟨List.Pairwise.nil,fun _ hm=>(nomatch hm)⟩⟩,h2,h3,h4⟩
theorem a9d{P:Program}{w:World}{outer:List Env}(H:Hp)(s:Shared)(e:Value)(s':Shared)(h:w6 P w outer H s (fun _ _ _=>False) e s'):False:=by
 obtain⟨_,_,_,_,_,_,_,_,_,_,_,_,_,_,_,_,hE⟩:=h
 exact hE
structure Own(P:Program)(w:World)(K:W.Frag)(mg:Str→Option Value)(base:Heap)(k:Nat)(x:Str)(ps:List Str)(sp:Sp):Prop where
 ex:∃f fd,FnOk P w K mg base (w6 P w) k f fd ps sp∧Binds K fd ps []∧W.keepIn K (.ref f)=true∧mg x=some (.ref f)
structure OwnD(P:Program)(w:World)(K:W.Frag)(mg:Str→Option Value)(base:Heap)(k:Nat)(x:Str)(ps:List Str)(sp:Sp)(d:V):Prop where
 ex:∃f fd du,FnOk P w K mg base (w6 P w) k f fd ps sp∧Binds K fd ps []∧Binds K fd ps [du]∧RelV d du∧W.keepIn K (.ref f)=true∧mg x=some (.ref f)
section
variable {X:Cx}{k k':Nat}{ps:List Str}{sp:Sp}{x:Str}{p pos:Pos}{e:Expr}{es:List Expr}{t:TA}{E:XK}{d:V}
theorem u2(G:Own X.prog X.w X.K X.mg X.base k x ps sp)(hr:Room k' X.A)(hk:k≤k')(hx:Y0 (w6 X.prog X.w) X E)(ha:PA X (e::es) t)(hg:Gl X x:=by rfl)
  (hdb:(x == ("__debug__" : Str))=false:=by decide) (he:starEach (e::es) X.env=(false,eval e X.env)::starEach es X.env:=by rfl) (hpl:(backTo pos (starEach es X.env)).any (·.1)=false:=by rfl) :
  PE X (.Call (.Name x p) (e::es) [] pos) (Q7 sp [] E t):=by
 obtain⟨f,fd,F,b,kp,m⟩:=G.ex
 exact a6C F (hr.mono hk) hg m kp b .nil hx ha hdb he hpl
end
theorem a8s:bootBuiltins "int" = some (.type "int"):=by decide +kernel
theorem a6J:bootBuiltins "bool" = some (.type "bool"):=by decide +kernel
theorem T7:bootBuiltins "list" = some (.type "list"):=by decide +kernel
theorem a0p:bootBuiltins "tuple" = some (.type "tuple"):=by decide +kernel
theorem w8:bootBuiltins "isinstance" = some (.builtin "isinstance"):=by decide +kernel
theorem T8:bootBuiltins "len" = some (.builtin "len"):=by decide +kernel
theorem K6{H:Hp}{p:Addr}(h:H p=none)(o:HO):Same H (upd H p o):=fun b u q=>by rw[b9 (i9 q h)];exact q
def Scr(K:W.Frag)(H:Hp)(a:Addr)(xs:List V):Prop:=(∃o,H a=some (.frz o (.lst xs))) ∨
  ∃(o:Obj) (its:Array Value) (n:Nat),K.lookup a=some o∧o.cls=.type "list"∧o.dict=none∧o.data=.seq its n∧its.size≤sizeLine∧Vals xs its.toList
theorem Scr.seq{K:W.Frag}{H:Hp}{a:Addr}{xs:List V}(h:Scr K H a xs):SqL K H a xs:=h.elim (fun z=>.inl (.inr z)) .inr
theorem Scr.of{K:W.Frag}{H:Hp}{a:Addr}{xs:List V}(h:SqL K H a xs)(o:a3o H):Scr K H a xs:=by
 rcases h with(h | h) | h
 ·rcases o a with z | ⟨o,ys,z⟩
  ·rw[h]at z;cases z
  ·rw[h]at z;cases z
 ·exact .inl h
 ·exact .inr h
theorem Scr.same{K:W.Frag}{H H':Hp}{a:Addr}{xs:List V}(g:Same H H')(h:Scr K H a xs):Scr K H' a xs:=h.elim (fun⟨o,z⟩=>.inl ⟨o,g _ _ z⟩) .inr
theorem Scr.upd{K:W.Frag}{H:Hp}{a l:Addr}{xs ys:List V}{o:HO}(hl:H l=some (.lst ys))(h:Scr K H a xs):Scr K (L2.upd H l o) a xs:=h.elim (fun⟨ob,z⟩=>.inl ⟨ob,by rw[b9 (a8_ z hl (by intro q;cases q))];exact z⟩) .inr
section
variable {prog:Program}{w:World}{A:Around}{R:Result→Shared→Prop}{s:Shared}
theorem a2E{elt target iter:Expr}{ifs:List Expr}{scope:Scope}{pos:Pos}{it acc:Value}{env:Env}{N:Value→Shared→Prop}(hN:N=notedBy (model prog w) A env fun e s'=>R (.error e) s')(I:Nat→Shared→Prop)
  (turn:∀n s,I n s→wpAny (model prog w) A (pyNext it) (fun r s₁=>match r with
   | none=>R (.ok .next) s₁
   | some v=>wpAny (model prog w) A (letOwnedTupleGo target it v) (fun _ s₁'=>wpAny (model prog w) A (assign target env v) (fun _ s₂ =>
     wpAny (model prog w) A (forIn ifs true fun c r=>if r=true then do let ok ← isTrue c env (eval c env);pure (ForInStep.yield ok)else pure (ForInStep.yield r)) (fun ok s₃ =>
      if ok=true then wpAny (model prog w) A (eval elt env) (fun x s₄ =>
       wpAny (model prog w) A (call (.builtin "list.append") [acc,x]) (fun _ s₅=>∃m,m<n∧I m s₅) N s₄) N s₃
      else ∃m,m<n∧I m s₃) N s₂) N s₁') N s₁) N s)
  (n:Nat) (h:I n s) :
  codeAny (model prog w) A (.compLoop (.ListComp elt [⟨target,iter,ifs,0⟩] scope pos) 0 it acc env) R s:=by
 subst hN
 refine codeAny_loop rfl I (fun k z q=>?_) n h
 show wpAny _ A ((compTurn (.ListComp elt [⟨target,iter,ifs,0⟩] scope pos) 0 it acc env).onRaise (fun ex=>do noteFrame ex env;theTreesLotGoes ex)) _ _ z
 refine wpAny_noted ?_
 rw[compTurn_list]
 refine wpAny_bind (wpAny_standAt (wpAny_bind (i6 (turn k z q) fun r z1 q1=>?_)))
 cases r with
 | none=>exact wpAny_pure q1
 | some v =>
  refine wpAny_bind (i6 q1 fun _ z2 q2=>?_)
  refine wpAny_bind (i6 q2 fun _ z3 q3=>?_)
  refine wpAny_bind (i6 q3 fun ok z4 q4=>?_)
  cases ok with
  | false=>exact wpAny_pure ⟨rfl,q4⟩
  | true=>exact wpAny_bind (wpAny_bind (i6 q4 fun x z5 q5=>wpAny_bind (i6 q5 fun _ z6 q6=>wpAny_pure (wpAny_pure ⟨rfl,q6⟩))))
end
def A5(cells:List (Str×Addr)):List (Str×NameKind)→List (Str×Addr)→List (Str×Addr)
 | [],acc=>acc
 | (n,k)::r,acc=>if k == .free then(match cells.lookup n with
   | some c=>A5 cells r ((n,c)::acc)
   | none=>A5 cells r acc)else A5 cells r acc
theorem Q8{cells:List (Str×Addr)}{x:Str}{c:Addr}:∀{names:List (Str×NameKind)} {acc:List (Str×Addr)},(∀d,acc.lookup x=some d→cells.lookup x=some d)→(A5 cells names acc).lookup x=some c→cells.lookup x=some c
 | [],acc,h,e=>h c e
 | (n,k)::r,acc,h,e=>by
  unfold A5 at e
  split at e
  ·split at e
   ·rename_i c' hc'
    refine Q8 (fun d q=>?_) e
    rw[List.lookup_cons]at q
    split at q
    ·rename_i hx
     have hx':x=n:=by simpa using hx
     cases q
     rw[hx'];exact hc'
    ·exact h d q
   ·exact Q8 h e
  ·exact Q8 h e
theorem L6{cells:List (Str×Addr)}{x:Str}:∀{names:List (Str×NameKind)} {acc:List (Str×Addr)},(∃d,acc.lookup x=some d)→∃d,(A5 cells names acc).lookup x=some d
 | [],acc,h=>h
 | (n,k)::r,acc,h=>by
  unfold A5
  split
  ·split
   ·refine L6 ?_
    rw[List.lookup_cons]
    split
    ·exact⟨_,rfl⟩
    ·exact h
   ·exact L6 h
  ·exact L6 h
theorem M4{cells:List (Str×Addr)}{x:Str}:∀{names:List (Str×NameKind)} {acc:List (Str×Addr)},(x,NameKind.free)∈names→(∃c,cells.lookup x=some c)→∃d,(A5 cells names acc).lookup x=some d
 | [],acc,h,_=>by simp at h
 | (n,k)::r,acc,h,hc=>by
  unfold A5
  rcases List.mem_cons.mp h with e | h
  ·cases e
   obtain⟨c,hc⟩:=hc
   rw[if_pos (by rfl),hc]
   exact L6 ⟨c,by simp[List.lookup_cons]⟩
  ·split
   ·split
    ·exact M4 h hc
    ·exact M4 h hc
   ·exact M4 h hc
theorem U7{env:Env}:∀(names:List (Str×NameKind)) (acc:List (Str×Addr)),(∀y∈names,y.2=.free→∃c,env.cells.lookup y.1=some c) →
  (forIn names acc fun(x:Str×NameKind) (cs:List (Str×Addr))=>if(x.2 == NameKind.free)=true then do let a ← cellOf env x.1;pure (ForInStep.yield ((x.1,a)::cs))else pure (ForInStep.yield cs):Sem (List (Str×Addr)))=pure (A5 env.cells names acc)
 | [],acc,_=>rfl
 | (n,k)::r,acc,h=>by
  rw[List.forIn_cons]
  unfold A5
  by_cases hk:(k == NameKind.free)=true
  ·obtain⟨c,hc⟩:=h (n,k) List.mem_cons_self (by simpa using hk)
   have e:cellOf env n=pure c:=by unfold cellOf;rw[hc]
   rw[if_pos hk,if_pos hk,hc,e]
   exact U7 r _ fun y hy=>h y (List.mem_cons_of_mem _ hy)
  ·rw[if_neg hk,if_neg hk]
   exact U7 r acc fun y hy=>h y (List.mem_cons_of_mem _ hy)
theorem S3{scope:Scope}{env:Env}(h:∀y∈scope.names,y.2=.free→∃c,env.cells.lookup y.1=some c):closureFor scope env=pure (A5 env.cells scope.names []):=by
 have:=U7 (env:=env) scope.names [] h
 unfold closureFor
 exact(congrArg (· >>= pure) this).trans (by first | rfl | simp)
theorem E4{env:Env}:∀{names:List (Str×NameKind)} {x:Str} {k':NameKind},
  (names.map fun(n,k)=>if(k == NameKind.free && env.scope.kind == .function && env.kindOf n == some .cell)then(n,NameKind.cell)else(n,k)).lookup x=some k' →
  ∃k,names.lookup x=some k∧(k'=k∨(k=.free∧k'=.cell))
 | [],_,_,h=>by simp at h
 | (n,k)::r,x,k',h=>by
  rw[List.map_cons]at h
  dsimp only at h
  by_cases hc:(k == NameKind.free && env.scope.kind == .function && env.kindOf n == some .cell)=true
  ·rw[if_pos hc,List.lookup_cons]at h
   rw[List.lookup_cons]
   split at h
   ·rename_i hx
    cases h
    have hk:k=.free:=by
     have:=(Bool.and_eq_true _ _▸(Bool.and_eq_true _ _▸hc).1).1
     simpa using this
    exact⟨k,rfl,.inr ⟨hk,rfl⟩⟩
   ·rename_i hx
    obtain⟨k2,q1,q2⟩:=E4 h
    exact⟨k2,q1,q2⟩
  ·rw[if_neg hc,List.lookup_cons]at h
   rw[List.lookup_cons]
   split at h
   ·rename_i hx
    cases h
    exact⟨k,rfl,.inl rfl⟩
   ·rename_i hx
    obtain⟨k2,q1,q2⟩:=E4 h
    exact⟨k2,q1,q2⟩
theorem C9{env:Env}:∀{names:List (Str×NameKind)} {x:Str},names.lookup x=some .free →
  (names.map fun(n,k)=>if(k == NameKind.free && env.scope.kind == .function && env.kindOf n == some .cell)then(n,NameKind.cell)else(n,k)).lookup x=some .cell ∨
  (names.map fun(n,k)=>if(k == NameKind.free && env.scope.kind == .function && env.kindOf n == some .cell)then(n,NameKind.cell)else(n,k)).lookup x=some .free
 | [],_,h=>by simp at h
 | (n,k)::r,x,h=>by
  rw[List.map_cons]
  dsimp only
  rw[List.lookup_cons]at h
  by_cases hc:(k == NameKind.free && env.scope.kind == .function && env.kindOf n == some .cell)=true
  ·rw[if_pos hc,List.lookup_cons]
   split at h
   ·rename_i hx
    left;rfl
   ·rename_i hx
    exact C9 (env:=env) h
  ·rw[if_neg hc,List.lookup_cons]
   split at h
   ·rename_i hx
    right;exact h
   ·rename_i hx
    exact C9 (env:=env) h
structure CompSc(Sc scope:Scope)(N Nc:List Str)(k:Nat)(js:List Nat):Prop where
 cell:∀y∈scope.names,y.2≠.cell
 kind:scope.kind=.function
 names:∀y∈scope.names,y.2=.local→scope.names.lookup y.1=some .local
 free:∀y∈scope.names,y.2=.free→Sc.names.lookup y.1=some .cell∨Sc.names.lookup y.1=some .free
 nd:Nc.Nodup
 len:Nc.length=k+js.length
 cap:(Nc.drop k).map some=js.map fun j=>N[j]?
 caps:∀x∈Nc.drop k,scope.names.lookup x=some .free
def l4(k:Nat)(js:List Nat)(σ:St):St:=List.replicate k none++js.map fun j=>(σ[j]?).getD none
theorem O9{names:List (Str×NameKind)}{x:Str}{k:NameKind}(h:names.lookup x=some k):(x,k)∈names:=PySem.mem_of_lookup h
abbrev l5(X:Cx)(scope:Scope)(Nc:List Str)(C:Addr)(s3:Shared)(H3:Hp)(fp:List Addr)(xe:Value→Shared→Prop):Cx :=
 { X with N:=Nc,s₀:=s3,H₀:=H3,env:=compEnvC scope (A5 X.env.cells scope.names []) C X.env,outer:=X.stack,ex:=fp,fn:=fun _=>false,pn:=[],xe:=xe }
section
variable {X:Cx}{pins:List (Addr×Obj)}{σ:St}{H3:Hp}{s3:Shared}{scope:Scope}{Nc:List Str}{k:Nat}{js:List Nat}{fp:List Addr}{xe:Value→Shared→Prop}{h₁:Heap}{m₀:Str→Option Value}{tk:Nat}
theorem U8(I:Inv X pins σ H3 s3)(S:CompSc X.env.scope scope X.N Nc k js):∀y∈scope.names,y.2=.free→∃c,X.env.cells.lookup y.1=some c:=fun y hy hk=>I.ok.has y.1 (S.free y hy hk)
theorem G2{x:Str}{c:Addr}(e:(A5 X.env.cells scope.names []).lookup x=some c):X.env.cells.lookup x=some c:=Q8 (fun d q=>by simp at q) e
theorem a47(I:Inv X pins σ H3 s3)(S:CompSc X.env.scope scope X.N Nc k js)(hf:∀b∈fp,FpOk X pins H3 b)(hfo:∀b∈fp,b<s3.heap.objs.size)(hns:h₁.Ns s3.heap.objs.size m₀)(old:∀b o,s3.heap.get? b=some o→h₁.get? b=some o) :
  Inv (l5 X scope Nc s3.heap.objs.size s3 H3 fp xe) [] (l4 k js σ) H3 { s3 with heap:=h₁,toks:=tk }:=by
 have ok:=I.ok
 have hb0:∀b o,X.base.get? b=some o→b<X.s₀.heap.objs.size:=fun b o e=>Nat.lt_of_lt_of_le (Heap.lt_size e) ok.bsz
 refine⟨⟨ok.mod,S.kind,ok.glob,ok.blt,Nat.le_refl _,fun x y c h1 h2=>ok.inj x y c (G2 h1) (G2 h2),fun x hx=>?_,(fun x c z=>nomatch z),ok.hd,ok.frames,.inl rfl,fun b hb=>⟨Nat.ne_of_lt (hfo b hb),fun x c e=>(hf b hb).2.2.2.2.1 x c (G2 e)⟩,I.bs,Nat.le_trans ok.bsz I.sz,fun b o e hb=>?_,fun b hb z=>?_,I.stack,I.stkFree⟩,
  rfl,I.bare,Un.kept old,⟨m₀,hns,fun i x v e1 e2 e3=>?_⟩,fun x c e=>?_,I.hok.fresh (Nat.le_refl _),fun x c e=>I.freeC x c (G2 e),fun p hp=>absurd (show p∈([]:List (Addr×Obj))from hp) (by simp),I.hok.kept old,?_⟩
 ·have hx:(relabel scope X.env).names.lookup x=some .cell∨(relabel scope X.env).names.lookup x=some .free:=hx
  have hfree:scope.names.lookup x=some .free:=by
   rcases hx with hx | hx
   ·obtain⟨k2,q1,q2⟩:=E4 (env:=X.env) hx
    rcases q2 with q2 | ⟨q2,_⟩
    ·subst q2;exact absurd rfl (S.cell _ (O9 q1))
    ·rw[q2]at q1;exact q1
   ·obtain⟨k2,q1,q2⟩:=E4 (env:=X.env) hx
    rcases q2 with q2 | ⟨q2,q3⟩
    ·subst q2;exact q1
    ·cases q3
  exact M4 (O9 hfree) (ok.has x (S.free _ (O9 hfree) rfl))
 ·rcases(hf b hb).2.2.2.1 with z | z
  ·exact ok.noex b o e z
  ·exact absurd (Nat.lt_of_lt_of_le (hb0 b o e) z) (Nat.lt_irrefl _)
 ·rcases List.mem_cons.mp (I.stkSub b z)with q | q
  ·exact(hf b hb).2.1 q
  ·exact(hf b hb).2.2.1 q
 ·have hlen:(List.replicate k (none:Option V)).length=k:=List.length_replicate
  by_cases hi:i<k
  ·unfold l4 at e2
   rw[List.getElem?_append_left (by omega),List.getElem?_replicate]at e2
   split at e2<;>cases e2
  ·unfold l4 at e2
   rw[List.getElem?_append_right (by omega),hlen,List.getElem?_map]at e2
   cases hj:js[i-k]? with
   | none=>rw[hj]at e2;cases e2
   | some j =>
    rw[hj]at e2
    have e2':(σ[j]?).getD none=some v:=Option.some.inj e2
    have hσ:σ[j]? = some (some v):=by
     cases q:σ[j]? with
     | none=>rw[q]at e2';cases e2'
     | some y=>rw[q]at e2';simp at e2';rw[e2']
    have hx:(Nc.drop k)[i-k]? = some x:=by rw[List.getElem?_drop];rw[show k+(i-k)=i by omega];exact e1
    have hNj:X.N[j]? = some x:=by
     have:=congrArg (fun l=>l[i-k]?) S.cap
     simp only[List.getElem?_map,hx,hj,Option.map_some]at this
     exact(Option.some.inj this).symm
    have hfr:scope.names.lookup x=some .free:=S.caps x (List.mem_of_getElem? hx)
    have hk:=S.free _ (O9 hfr) rfl
    obtain⟨m,hn,hl⟩:=I.loc
    obtain⟨u,r,l⟩:=hl j x v hNj hσ (.inr hk)
    refine⟨u,r,.inr ⟨C9 hfr,?_⟩⟩
    rcases l with⟨l1,_⟩ | ⟨_,c,hc,hcell⟩
    ·have l1:X.env.scope.names.lookup x=some .local:=l1
     rcases hk with hk | hk
     ·rw[l1]at hk;cases hk
     ·rw[l1]at hk;cases hk
    ·obtain⟨d,hd⟩:=M4 (cells:=X.env.cells) (acc:=[]) (O9 hfr) ⟨c,hc⟩
     have:=G2 hd
     rw[hc]at this;cases this
     obtain⟨o,ho,hdd⟩:=hcell
     exact⟨c,hd,⟨o,old _ _ ho,hdd⟩⟩
 ·obtain⟨v,o,ho,hd⟩:=I.cell x c (G2 e)
  exact⟨v,o,old _ _ ho,hd⟩
 ·unfold l4
  rw[List.length_append,List.length_replicate,List.length_map]
  exact S.len.symm
end
def PF(X:Cx)(ifs:List Expr)(t:TT):Prop :=
 ∀(pins:List (Addr×Obj)) (s:Shared) (σ:St) (H:Hp) (Q:Bool→Hp→Prop),Inv X pins σ H s→t σ H Q →
  wpAny (model X.prog X.w) X.A (forIn ifs true fun c r=>if r=true then do let ok ← isTrue c X.env (eval c X.env);pure (ForInStep.yield ok)else pure (ForInStep.yield r)) (TP X pins σ Q) X.xe s
def a5_:TT:=fun _ H Q=>Q true H
theorem P0{X:Cx}:PF X [] a5_:=fun pins s σ H Q I h=>wpAny_tests_nil ⟨H,I,h⟩
theorem a8t{X:Cx}{c:Expr}{t:TT}(h:PT X c t):PF X [c] t:=fun pins s σ H Q I q=>wpAny_tests_one (h pins s σ H Q I q)
def D6(J:It)(g:TG)(tf:TT)(te:TE)(k:Nat)(σ0:St)(D:Addr)(Fin:Hp→Prop)(H1:Hp):Prop :=
 ∃W:Nat→Nat→List V→Hp→Prop,(∃m,W 0 m [] (upd H1 D (.lst [])))∧∀i m ys H,W i m ys H →
  (J.stop i H∧Fin H)∨(J.go i H∧∃N:List V→Hp→Prop,(∀ys' H',N ys' H'→∃m',m'<m∧W (i+1) m' ys' H')∧∀x H',J.yld i H x H'→g x σ0 H' fun σ2 H2=>(σ2.drop k=σ0.drop k∧σ2.length=σ0.length)∧tf σ2 H2 fun b H3 =>
   if b=true then te σ2 H3 fun y H4=>H4 D=some (.lst ys)∧ys.length<sizeLine∧N (ys++[y]) (upd H4 D (.lst (ys++[y])))else N ys H3)
section
variable {X:Cx}{pins:List (Addr×Obj)}{σ:St}{H:Hp}{s:Shared}{elt tg iter:Expr}{ifs:List Expr}{scope:Scope}{pos:Pos}{Nc:List Str}{k:Nat}{js:List Nat}{g:TG}{tf:TT}{te:TE}
theorem U9{J:It}{fp:List Addr}{it:Addr}{tn:Nat→Heap→Prop}{E:Value→Shared→Prop}{RR:Value→Addr→Result→Shared→Prop}{Fin:Addr→Hp→Prop}(hc:X.calm=true)(S:CompSc X.env.scope scope X.N Nc k js)
  (hg:∀C s3 H3 fp xe,PG (l5 X scope Nc C s3 H3 fp xe) tg g) (hf:∀C s3 H3 fp xe,PF (l5 X scope Nc C s3 H3 fp xe) ifs tf)
  (he:∀C D H3,∃xe:Value→Shared→Prop,(∀e s',xe e s'→notedBy (model X.prog X.w) X.A (compEnvC scope (A5 X.env.cells scope.names []) C X.env) (fun e s'=>RR (.ref D) C (.error e) s') e s') ∧
   ∀s3,Inv X pins σ H3 s3→C=s3.heap.objs.size→(∀b∈fp,FpOk X pins H3 b)→PE (l5 X scope Nc C s3 H3 fp xe) elt te)
  (I2:Inv X pins σ H s) (T:Turn X.prog X.w X.K tg J fp it tn) (st2:tn 0 s.heap) (f2:∀b∈fp,FpOk X pins H b) (hR:∀D,H D=none→D6 J g tf te k (l4 k js σ) D (Fin D) H)
  (hRR:∀D C H' s' m',Inv X pins σ H' s'→s'.heap.Ns C m'→H' C=none→C≠X.env.locals→X.s₀.heap.objs.size≤C→(∀x c,X.env.cells.lookup x=some c→c≠C)→(∀p∈X.pn++pins,p.1≠C)→Fin D H'→RR (.ref D) C (.ok .next) s') :
  wpAny (model X.prog X.w) X.A (newList []) (fun acc s₃=>wpAny (model X.prog X.w) X.A (newFunctionEnv scope X.env.globals (A5 X.env.cells scope.names []) [] X.env.qual none .none (some X.env)) (fun cenv s₄ =>
   codeAny (model X.prog X.w) X.A (.compStart (.ListComp elt [⟨tg,iter,ifs,0⟩] scope pos) 0 (.ref it) acc { cenv with scope:=relabel scope X.env }) (RR acc cenv.locals) s₄) E s₃) E s:=by
 refine wpAny_newObj_type (wpAny_newFunctionEnv S.cell (by intro y hy;simp at hy) (fun h₁ hns₁ hsb₁=>?_) S.kind)
 dsimp only at hns₁ hsb₁ ⊢
 have I3:Inv X pins σ (upd H s.heap.objs.size (.lst [])) { s with heap:=s.heap.push { cls:=.type "list",data:=.seq ([]:List Value).toArray },toks:=s.toks }:=I2.lnew (its:=[]) .nil (Nat.zero_le _)
 have hDn:H s.heap.objs.size=none:=I2.fresh
 obtain⟨W,⟨m0,w0⟩,turn⟩:=hR _ hDn
 generalize hs3:({ s with heap:=s.heap.push { cls:=.type "list",data:=.seq ([]:List Value).toArray },toks:=s.toks }:Shared)=s3 at I3
 have e3:s3.heap=s.heap.push { cls:=.type "list",dict:=none,data:=.seq ([]:List Value).toArray }:=by rw[← hs3]
 rw[← e3]at hns₁ hsb₁ ⊢
 have fpo:∀b∈fp,b<s.heap.objs.size:=fun b hb=>by obtain⟨o,e,_⟩:=T.obj _ _ st2 b hb;exact Heap.lt_size e
 have sz3:s3.heap.objs.size=s.heap.objs.size+1:=by rw[e3,Heap.size_push]
 have fpo3:∀b∈fp,b<s3.heap.objs.size:=fun b hb=>by rw[sz3];exact Nat.lt_succ_of_lt (fpo b hb)
 have f3:∀b∈fp,FpOk X pins (upd H s.heap.objs.size (.lst [])) b:=fun b hb=>⟨by rw[b9 (Nat.ne_of_lt (fpo b hb))];exact(f2 b hb).1,(f2 b hb).2⟩
 have old:∀b o,s3.heap.get? b=some o→h₁.get? b=some o:=fun b o e=>hsb₁.extBut b o (Nat.ne_of_lt (Heap.lt_size e)) (Heap.get?_push_of_some _ e)
 have oldS:∀b o,s.heap.get? b=some o→h₁.get? b=some o:=fun b o e=>old b o (by rw[e3];exact Heap.get?_push_of_some _ e)
 obtain⟨xe,hxe,hel⟩:=he s3.heap.objs.size s.heap.objs.size (upd H s.heap.objs.size (.lst []))
 have hel:=hel s3 I3 rfl f3
 have I4:Inv (l5 X scope Nc s3.heap.objs.size s3 (upd H s.heap.objs.size (.lst [])) fp xe) [] (l4 k js σ) (upd H s.heap.objs.size (.lst [])) { s3 with heap:=h₁,toks:=s.toks+([]:List (Str×Value)).length } :=
  a47 I3 S f3 fpo3 hns₁ old
 have st4:tn 0 h₁:=T.keep _ _ _ st2 fun b hb o e=>oldS b o e
 have es3:({ s3 with heap:=h₁,toks:=s.toks+([]:List (Str×Value)).length }:Shared)={ s with heap:=h₁,toks:=s.toks+([]:List (Str×Value)).length }:=by rw[← hs3]
 rw[es3]at I4
 have ok:=I2.ok
 have lk:=I3.lt
 have hCL:s3.heap.objs.size≠X.env.locals:=Nat.ne_of_gt lk
 have stat:∀{H':Hp},(∀b∈fp,H' b=none)→∀b∈fp,FpOk (l5 X scope Nc s3.heap.objs.size s3 (upd H s.heap.objs.size (.lst [])) fp xe) [] H' b:=fun hn b hb =>
  ⟨hn b hb,Nat.ne_of_lt (fpo3 b hb),fun z=>(List.mem_cons.mp (I3.stkSub b z)).elim (fun q=>(f3 b hb).2.1 q) fun q=>(f3 b hb).2.2.1 q,.inl hb,fun x c e=>(f3 b hb).2.2.2.2.1 x c (G2 e),fun p hp=>absurd (show p∈([]:List (Addr×Obj))from hp) (by simp)⟩
 have loop:codeAny (model X.prog X.w) X.A (.compLoop (.ListComp elt [⟨tg,iter,ifs,0⟩] scope pos) 0 (.ref it) (.ref s.heap.objs.size) (compEnvC scope (A5 X.env.cells scope.names []) s3.heap.objs.size X.env))
    (RR (.ref s.heap.objs.size) s3.heap.objs.size) { s with heap:=h₁,toks:=s.toks+([]:List (Str×Value)).length }:=by
  refine a2E rfl (fun n s'=>∃i ys H',Inv (l5 X scope Nc s3.heap.objs.size s3 (upd H s.heap.objs.size (.lst [])) fp xe) [] (l4 k js σ) H' s'∧tn i s'.heap∧(∀b∈fp,H' b=none)∧W i n ys H') ?_ m0 ⟨0,[],_,I4,st4,fun b hb=>(f3 b hb).1,w0⟩
  rintro n s5 ⟨i,ys,H5,I5,st5,fr5,w5⟩
  rcases turn i n ys H5 w5 with⟨stop,fin⟩ | ⟨go,Nx,hNx,step⟩
  ·refine i6 (T.done (l5 X scope Nc s3.heap.objs.size s3 (upd H s.heap.objs.size (.lst [])) fp xe) rfl rfl rfl hc i [] s5 (l4 k js σ) H5 _ I5 (stat fr5) st5 stop) fun r s6 ⟨hr,I6⟩=>?_
   subst hr
   obtain⟨m6,hn6,_⟩:=I6.loc
   have J:Inv X pins σ H5 s6:=I3.call' (ch:=fp) (I6.os.trans rfl) I6.base I6.hok I6.bare fun b hb=>⟨(f3 b hb).2.2.2.1,(f3 b hb).2.1,(f3 b hb).2.2.2.2.1,(f3 b hb).2.2.2.2.2⟩
   refine hRR _ _ H5 s6 m6 J hn6 I6.free hCL (I3.sz) (fun x c e z=>?_) (fun p hp z=>?_) fin
   ·obtain⟨v,q⟩:=I3.cell x c e
    exact absurd q.lt (by rw[z];exact Nat.lt_irrefl _)
   ·exact absurd (Heap.lt_size (I3.pin p hp).1) (by rw[z];exact Nat.lt_irrefl _)
  ·refine i6 (T.item (l5 X scope Nc s3.heap.objs.size s3 (upd H s.heap.objs.size (.lst [])) fp xe) rfl rfl rfl hc i [] s5 (l4 k js σ) H5 _ I5 (stat fr5) st5 go) fun r s6 ⟨u,hr,h6⟩=>?_
   subst hr
   refine i6 h6 fun _ s7 ⟨x,H7,I7,r7,y7,st7,fr7⟩=>?_
   have I7':=I7.pinned (stat fr7) (T.obj _ _ st7)
   refine wpAny_mono (hg _ _ _ _ _ _ s7 _ H7 x u _ I7' r7 (step x H7 y7)) (fun _ s8 ⟨σ8,H8,I8,⟨d8,l8⟩,q8⟩=>?_) fun e s' z=>hxe e s' z
   refine wpAny_mono (hf _ _ _ _ _ _ s8 σ8 H8 _ I8 q8) (fun b s9 ⟨H9,I9,q9⟩=>?_) fun e s' z=>hxe e s' z
   have again:∀{H':Hp} {s':Shared} {ys':List V},Inv (l5 X scope Nc s3.heap.objs.size s3 (upd H s.heap.objs.size (.lst [])) fp xe) ([]++X7 fp s7.heap) σ8 H' s'→Nx ys' H' →
     ∃m,m<n∧∃i ys H',Inv (l5 X scope Nc s3.heap.objs.size s3 (upd H s.heap.objs.size (.lst [])) fp xe) [] (l4 k js σ) H' s'∧tn i s'.heap∧(∀b∈fp,H' b=none)∧W i m ys H':=fun{H' s' ys'} I' hw=>by
    obtain⟨m',hm,w'⟩:=hNx _ _ hw
    refine⟨m',hm,i+1,ys',H',(I'.unpinned).weak l8.symm fun j v e=>?_,T.keep _ _ _ st7 fun b hb o e=>(I'.pin (b,o) (List.mem_append_right _ (List.mem_append_right _ (N8 hb e)))).1,fun b hb=>?_,w'⟩
    ·by_cases hj:j<k
     ·unfold l4 at e
      rw[List.getElem?_append_left (by rw[List.length_replicate];exact hj),List.getElem?_replicate]at e
      split at e<;>cases e
     ·have e':((l4 k js σ).drop k)[j-k]? = some (some v):=by rw[List.getElem?_drop,show k+(j-k)=j by omega];exact e
      rw[← d8,List.getElem?_drop,show k+(j-k)=j by omega]at e'
      exact e'
    ·obtain⟨o,e,d⟩:=T.obj _ _ st7 b hb
     exact(I'.pin (b,o) (List.mem_append_right _ (List.mem_append_right _ (N8 hb e)))).2.1
   cases b with
   | false =>
    rw[if_neg Bool.false_ne_true]at q9 ⊢
    exact again I9 q9
   | true =>
    rw[if_pos rfl]at q9 ⊢
    refine wpAny_mono (hel _ s9 σ8 H9 _ I9 q9) (fun v s10 ⟨y,H10,I10,r10,hD,hz,w'⟩=>?_) fun e s' z=>hxe e s' z
    refine wpAny_mono (Y1 (X:=l5 X scope Nc s3.heap.objs.size s3 (upd H s.heap.objs.size (.lst [])) fp xe) _ s10 σ8 H10 (.ref s.heap.objs.size) [y] (.ref s.heap.objs.size) [v] (fun _ H'=>H'=upd H10 s.heap.objs.size (.lst (ys++[y]))) I10 rfl (.cons r10 .nil)
     ⟨_,ys,y,rfl,rfl,hD,hz,rfl⟩) (fun _ s11 ⟨_,H11,I11,_,q11⟩=>?_) fun e s' z=>hxe e s' z
    subst q11
    exact again I11 w'
 exact codeAny_compStart_list loop (T.self _ 0 _ _ _ st4 loop)
end
def V0(wi:TI)(g:TG)(tf:TT)(te:TE)(k:Nat)(js:List Nat):TE:=fun σ H Q=>wi σ H fun J H1=>∀D,H1 D=none→D6 J g tf te k (l4 k js σ) D (fun H'=>Q (.ref D) H') H1
def a13(i:Nat)(wi:TI)(g:TG)(tf:TT)(te:TE)(k:Nat)(js:List Nat):TS:=fun N σ H=>wi σ H fun J H1=>∀D,H1 D=none→D6 J g tf te k (l4 k js σ) D (fun H'=>N.nx (σ.set i (some (.ref D))) H') H1
section
variable {X:Cx}{elt tg iter:Expr}{ifs:List Expr}{scope:Scope}{pos:Pos}{Nc:List Str}{k:Nat}{js:List Nat}{wi:TI}{g:TG}{tf:TT}{te:TE}
theorem Z4(hc:X.calm=true)(S:CompSc X.env.scope scope X.N Nc k js)(hi:PI X tg iter wi)(hg:∀C s3 H3 fp xe,PG (l5 X scope Nc C s3 H3 fp xe) tg g)(hf:∀C s3 H3 fp xe,PF (l5 X scope Nc C s3 H3 fp xe) ifs tf)
  (he:∀C s3 H3 fp xe,PE (l5 X scope Nc C s3 H3 fp xe) elt te) (hs:∀x,foldedSetIterable iter X.env x=pure x:=by intro _;rfl):PE X (.ListComp elt [⟨tg,iter,ifs,0⟩] scope pos) (V0 wi g tf te k js):=by
 intro pins s σ H Q I h
 rw[eval_ListComp]
 refine wpAny_comprehension_free (use:=none) rfl hs (S3 (U8 I S)) S.kind S.names (i6 (hi pins s σ H _ I h) fun v s1 h1=>i6 h1 fun itv s2 h2=>?_)
 obtain⟨it,fp,tn,J,H2,rfl,I2,T,st2,f2,hR⟩:=h2
 refine U9 (RR:=fun acc C=>compPost (model X.prog X.w) X.A X.xe none (EP X pins σ Q) acc C) (Fin:=fun D H'=>Q (.ref D) H') hc S hg hf (fun C D H3=>⟨fun _ _=>False,fun _ _ z=>z.elim,fun s3 _ _ _=>he _ _ _ _ _⟩) I2 T st2 f2 hR ?_
 intro D C H' s' m' I' hn hC hCL hsz hcl hpn q
 exact⟨m',hn,fun h' hs'=>⟨.ref D,H',I'.turned (t':=s'.toks) (fun b o hb e=>(hs'.2 b hb).trans e) hC hCL (.inr hsz) hcl hpn,rfl,q⟩⟩
theorem V1{i:Nat}{y:Str}{py spos:Pos}(hc:X.calm=true)(S:CompSc X.env.scope scope X.N Nc k js)(hN:X.N.Nodup)(hy:X.N[i]? = some y)(hi:PI X tg iter wi)(hg:∀C s3 H3 fp xe,PG (l5 X scope Nc C s3 H3 fp xe) tg g)(hf:∀C s3 H3 fp xe,PF (l5 X scope Nc C s3 H3 fp xe) ifs tf)
  (he:∀C s3 H3 fp xe,PE (l5 X scope Nc C s3 H3 fp xe) elt te) (hl:X.env.scope.names.lookup y=some .local:=by rfl) (hs:∀x,foldedSetIterable iter X.env x=pure x:=by intro _;rfl)
  (hsw:swapsWith (.ListComp elt [⟨tg,iter,ifs,0⟩] scope pos) (some (.Name y py)) spos.line X.env=pure true:=by rfl):PS X (.Assign [.Name y py] (.ListComp elt [⟨tg,iter,ifs,0⟩] scope pos) spos) (a13 i wi g tf te k js):=by
 intro pins s σ H N I h
 rw[exec_Assign_Name_used _ _ _ _ hsw]
 refine wpAny_bind (wpAny_standAt (wpAny_bind ?_))
 show wpAny _ X.A (do let _ ← comprehension (.ListComp elt [⟨tg,iter,ifs,0⟩] scope pos) scope X.env _ (newList []) false (eval iter X.env) (some (assign (.Name y py) X.env))) _ _ s
 refine wpAny_bind (i6 (wpAny_comprehension_free (use:=some (assign (.Name y py) X.env)) (Q:=fun _ z=>SP X pins N .next z) rfl hs (S3 (U8 I S)) S.kind S.names
  (i6 (hi pins s σ H _ I h) fun v s1 h1=>i6 h1 fun itv s2 h2=>?_)) fun _ z hq=>wpAny_pure (wpAny_pure hq))
 obtain⟨it,fp,tn,J,H2,rfl,I2,T,st2,f2,hR⟩:=h2
 refine U9 (RR:=fun acc C=>compPost (model X.prog X.w) X.A X.xe (some (assign (.Name y py) X.env)) (fun _ z=>SP X pins N .next z) acc C) (Fin:=fun D H'=>N.nx (σ.set i (some (.ref D))) H') hc S hg hf
  (fun C D H3=>⟨fun _ _=>False,fun _ _ z=>z.elim,fun s3 _ _ _=>he _ _ _ _ _⟩) I2 T st2 f2 hR ?_
 intro D C H' s' m' I' hn hC hCL hsz hcl hpn q
 show wpAny _ X.A (assign (.Name y py) X.env (.ref D)) _ _ s'
 refine wpAny_assign_Name (a1o (v:=.ref D) I' hN hy (.inl hl) rfl (fun s'' I'' ⟨a,hsb,ha⟩=>?_) (.inr hl))
 have hCa:C≠a:=by
  rcases ha with ha | ha
  ·rw[ha];exact hCL
  ·exact fun z=>hcl y a ha z.symm
 exact⟨m',hn.sameBut hsb hCa,fun h' hs'=>⟨_,H',I''.turned (t':=s''.toks) (fun b o hb e=>(hs'.2 b hb).trans e) hC hCL (.inr hsz) hcl hpn,q⟩⟩
end
theorem a38{K:W.Frag}{a:Addr}{xs:List V}{g:TG}{tf:TT}{te:TE}{k:Nat}{σ0:St}{D:Addr}{Fin:Hp→Prop}{H1:Hp}(Pv:Nat→List V→Hp→Prop)(h0:Pv 0 [] (upd H1 D (.lst [])))(hl:∀i ys H,i≤xs.length→Pv i ys H→SqL K H a xs)
  (hs:∀i x ys H,xs[i]? = some x→Pv i ys H→g x σ0 H fun σ2 H2=>(σ2.drop k=σ0.drop k∧σ2.length=σ0.length)∧tf σ2 H2 fun b H3 =>
   if b=true then te σ2 H3 fun y H4=>H4 D=some (.lst ys)∧ys.length<sizeLine∧Pv (i+1) (ys++[y]) (upd H4 D (.lst (ys++[y])))else Pv (i+1) ys H3)
  (hd:∀ys H,Pv xs.length ys H→Fin H):D6 (Itl K a) g tf te k σ0 D Fin H1:=by
 refine⟨fun i m ys H=>m=xs.length-i∧i≤xs.length∧Pv i ys H,⟨xs.length,by simp,Nat.zero_le _,h0⟩,?_⟩
 rintro i m ys H ⟨rfl,hi,p⟩
 have q:=hl i ys H hi p
 by_cases hlt:i<xs.length
 ·refine .inr ⟨⟨xs,xs[i],q,by simp[hlt]⟩,Pv (i+1),fun ys' H' z=>⟨xs.length-(i+1),by omega,rfl,hlt,z⟩,fun x H' y=>?_⟩
  obtain⟨e,y⟩:=y
  subst e
  exact hs i x ys _ (y xs q) p
 ·have e:i=xs.length:=by omega
  subst e
  exact .inl ⟨⟨xs,q,Nat.le_refl _⟩,hd ys H p⟩
theorem a3r{lo:Int}{n:Nat}{g:TG}{tf:TT}{te:TE}{k:Nat}{σ0:St}{D:Addr}{Fin:Hp→Prop}{H1:Hp}(Pv:Nat→List V→Hp→Prop)(h0:Pv 0 [] (upd H1 D (.lst [])))
  (hs:∀i ys H,i<n→Pv i ys H→g (.int (lo+i)) σ0 H fun σ2 H2=>(σ2.drop k=σ0.drop k∧σ2.length=σ0.length)∧tf σ2 H2 fun b H3 =>
   if b=true then te σ2 H3 fun y H4=>H4 D=some (.lst ys)∧ys.length<sizeLine∧Pv (i+1) (ys++[y]) (upd H4 D (.lst (ys++[y])))else Pv (i+1) ys H3)
  (hd:∀ys H,Pv n ys H→Fin H):D6 (X6 lo n) g tf te k σ0 D Fin H1:=by
 refine⟨fun i m ys H=>m=n-i∧i≤n∧Pv i ys H,⟨n,by simp,Nat.zero_le _,h0⟩,?_⟩
 rintro i m ys H ⟨rfl,hi,p⟩
 by_cases hlt:i<n
 ·refine .inr ⟨hlt,Pv (i+1),fun ys' H' z=>⟨n-(i+1),by omega,rfl,hlt,z⟩,fun x H' y=>?_⟩
  obtain⟨e,y⟩:=y
  subst e y
  exact hs i ys _ hlt p
 ·have e:i=n:=by omega
  subst e
  exact .inl ⟨Nat.le_refl _,hd ys H p⟩
section
variable {X:Cx}{pins:List (Addr×Obj)}{σ:St}{H:Hp}{s:Shared}
theorem Inv.turnedL{h':Heap}{t':Nat}{ch:List Addr}{p:Addr}{o:HO}(I:Inv X pins σ H s)(k:∀b u,b ∉ ch→s.heap.get? b=some u→h'.get? b=some u)(hf:∀b∈ch,FpOk X pins H b)(hp:s.heap.objs.size≤p)(new:ObjOk X.prog X.w (upd H p o) h' p o) :
  Inv X pins σ (upd H p o) { s with heap:=h',toks:=t' }:=by
 have hn:=I.hok.fresh hp
 have nch:∀b u,H b=some u→b ∉ ch:=fun b u q z=>by rw[(hf b z).1]at q;cases q
 refine I.call (g':=s.gens) (d':=s.drawn) (ch:=ch) ⟨fun b u q _ _ hx=>k b u hx q,fun b u q _ _ hx=>⟨u.slots,k b u hx q⟩,fun b u q n _=>?_,fun b u q hx=>⟨u,k b u hx q⟩,fun b xs q=>?_,fun b u xs q=>?_,fun b ps q=>⟨#[],?_⟩⟩ (fun b u q=>?_) I.bare
  fun b hb=>⟨(hf b hb).2.2.2.1,(hf b hb).2.1,(hf b hb).2.2.2.2.1,(hf b hb).2.2.2.2.2⟩
 ·rw[b9 (Nat.ne_of_lt (Nat.lt_of_lt_of_le (Heap.lt_size q) hp))];exact n
 ·rw[b9 (i9 q hn)];exact q
 ·rw[b9 (i9 q hn)];exact q
 ·rw[b9 (i9 q hn),q];simp
 ·by_cases hb:b=p
  ·subst hb;rw[g9]at q;cases q;exact new
  ·rw[b9 hb]at q
   refine(I.hok b u q).stay (fun c v hc r=>k c v ?_ r) (fun c z=>?_) (fun c xs z=>?_) fun c ob u z=>?_
   ·rcases hc with hc | hc
    ·rw[hc];exact nch b u q
    ·exact nch c _ hc
   ·rw[b9 (i9 z hn)];exact z
   ·rw[b9 (i9 z hn)];exact z
   ·rw[b9 (i9 z hn)];exact z
theorem Inv.turnedN{h':Heap}{t':Nat}{ch:List Addr}(I:Inv X pins σ H s)(k:∀b u,b ∉ ch→s.heap.get? b=some u→h'.get? b=some u)(hf:∀b∈ch,FpOk X pins H b):Inv X pins σ H { s with heap:=h',toks:=t' }:=by
 have nch:∀b u,H b=some u→b ∉ ch:=fun b u q z=>by rw[(hf b z).1]at q;cases q
 refine I.call (g':=s.gens) (d':=s.drawn) (ch:=ch) ⟨fun b u q _ _ hx=>k b u hx q,fun b u q _ _ hx=>⟨u.slots,k b u hx q⟩,fun b u q n _=>n,fun b u q hx=>⟨u,k b u hx q⟩,fun b xs q=>q,fun b u xs q=>q,fun b ps q=>⟨#[],by rw[q];simp⟩⟩ (fun b u q=>?_) I.bare
  fun b hb=>⟨(hf b hb).2.2.2.1,(hf b hb).2.1,(hf b hb).2.2.2.2.1,(hf b hb).2.2.2.2.2⟩
 refine(I.hok b u q).stay (fun c v hc r=>k c v ?_ r) (fun c z=>z) (fun c xs z=>z) fun c ob u z=>z
 rcases hc with hc | hc
 ·rw[hc];exact nch b u q
 ·exact nch c _ hc
end
section
variable {X:Cx}
theorem a14:bootBuiltins "max" = some (.builtin "max"):=by decide +kernel
end
section
variable {X:Cx}{K:W.Frag}
theorem h7(hK:X.K=K:=by rfl):IxR X (a4Z K):=hK▸a6E
theorem c9(hK:X.K=K:=by rfl):IxR X (a40 K):=hK▸a8l
def a2V(K:W.Frag):List V→Hp→VK→Prop:=fun xs H Q=>∃p ys,xs=[.ref p]∧(SqL K H p ys∨SqT K H p ys)∧Q (.int ys.length) H
theorem A6(hK:X.K=K:=by rfl):E3 X (.builtin "len") (a2V K):=hK▸a1Y
def a2W(K:W.Frag):List V→Hp→VK→Prop:=fun xs H Q=>∃p ys,xs=[.ref p]∧(SqL K H p ys∨SqT K H p ys)∧∀l,H l=none→Q (.ref l) (upd H l (.lst ys))
theorem M9(hK:X.K=K:=by rfl):E3 X (.type "list") (a2W K):=hK▸a1Z
theorem B7(hK:X.K=K:=by rfl):E3 X (.builtin "isinstance") (a12 K):=hK▸a45
theorem Z5{es:List Expr}{k:Nat}{t:X4}{n:Nat}{pos:Pos}(hc:X.calm=true)(h:PGs X es t)(hK:X.K=K:=by rfl)(hn:(assignEach es X.env).length=n:=by rfl)(hst:(assignEach es X.env).findIdx? (·.1)=none:=by rfl) :
  PG X (.Tuple es k pos) (a4V K n t):=hK▸a8a hc h hn hst
variable {o e:Expr}{es:List Expr}{to:TE}{t:TA}{name:Str}{apos cpos:Pos}{T id:String}{r:V→List V→Hp→VK→Prop}
theorem a15(pa:PlainAttrs T)(slot:Slot T name id)(hty:typeOf (.builtin id)=pure (.type "method_descriptor"))(hm:MtR X id r)(ho:PE X o to)(ha:PA X (e::es) t)(hK:X.K=K:=by rfl)
  (hbase:attributeBase o name X.env (eval o X.env)=eval o X.env:=by rfl)
  (hfew:((backTo cpos (starEach (e::es) X.env)).all (fun x=>!x.1) && (backToKw cpos (keywordEach [] X.env)).all (fun x=>x.1.isSome)
   && decide ((e::es).length+([]:List Keyword).length+(if([]:List Keyword).isEmpty then 0 else 1)<30))=true:=by rfl)
  (hline:(apos.endLine == cpos.line)=true:=by rfl) (hs:starEach (e::es) X.env=(false,eval e X.env)::starEach es X.env:=by rfl) (hplain:(backTo cpos (starEach es X.env)).any (·.1)=false:=by rfl) :
  PE X (.Call (.Attribute o name apos) (e::es) [] cpos) (tBM K T r to t):=hK▸a9c pa slot hty hm ho ha hbase hfew hline hs hplain
end
section
variable {X:Cx}
def a8u(K:W.Frag):List V→Hp→VK→Prop:=fun xs H Q=>∃(a:Addr) (bs:List Bool),xs=[.ref a]∧SqL K H a (bs.map V.bl)∧Q (.bl (bs.any id)) H
theorem a1v:∀(bs:List Bool),(List.range bs.length).any (fun i=>bs.getD i false)=bs.any id
 | []=>rfl
 | b::r=>by
  rw[List.length_cons,List.range_succ_eq_map,List.any_cons,List.any_map,List.any_cons,← a1v r];rfl
theorem a48{bs:List Bool}{us:List Value}(r:Vals (bs.map V.bl) us){i:Nat}{v:Value}(h:us.toArray[i]? = some v):v=.bool (bs.getD i false):=by
 have h:us[i]? = some v:=by simpa using h
 have hi:i<bs.length:=by
  have:=(List.getElem?_eq_some_iff.mp h).1
  rw[← r.length,List.length_map]at this;exact this
 obtain⟨u,hu,ru⟩:=r.get (i:=i) (x:=.bl (bs.getD i false)) (by rw[List.getElem?_map,List.getElem?_eq_getElem hi];simp[hi])
 rw[h]at hu;cases hu
 exact ru
theorem a2F{prog:Program}{w:World}{A:Around}{bs:List Bool}{us:List Value}(r:Vals (bs.map V.bl) us):TruthOf prog w A (fun i v=>us.toArray[i]? = some v) (fun i=>bs.getD i false):=fun i v s Q E hP hQ=>by
 rw[a48 r hP]
 exact wpAny_truthy_bool hQ
theorem a1w{K:W.Frag}(hc:X.calm=true:=by rfl)(hK:X.K=K:=by rfl):E3 X (.builtin "any") (a8u K):=by
 subst hK
 intro pins s σ H xs us Q I r h
 obtain⟨a,bs,rfl,hq,q⟩:=h
 obtain⟨u,rfl,ru⟩:=r.one
 cases (show u=Value.ref a from ru)
 obtain⟨its,rv,pl,hz⟩:=I.list hq
 have hlt:a<s.heap.objs.size:=by obtain⟨_,e,_⟩:=pl.isList;exact Heap.lt_size e
 refine call_any_walk (wpAny_pyIter_list pl.isList ⟨_,_,_,_,_,_,_,rfl,Walks.list (A:=X.A.in1) (I.ok.hd hc) s.heap.objs.size a (Nat.ne_of_lt hlt) its.toArray,⟨⟨_,Heap.get?_push_size _ rfl,rfl,rfl⟩,pl.isList.push _⟩,a2F rv,fun h' tk hk=>?_⟩)
 have I':Inv X pins σ H { s with heap:=h',toks:=tk }:=I.kept fun b o e=>hk b o (by simpa using Nat.ne_of_lt (Heap.lt_size e)) (Heap.get?_push_of_some _ e)
 refine⟨.bl _,H,I',rfl,?_⟩
 rw[show its.toArray.size=bs.length by rw[List.size_toArray,← rv.length,List.length_map],a1v]
 exact q
theorem a39:bootBuiltins "any" = some (.builtin "any"):=by decide +kernel
end
theorem a0i{h h' B B':Heap}:∀{l:List Env},h.FunFrames B l→(∀b∈B3 l,h'.get? b=h.get? b)→(∀b,B.get? b=none→B'.get? b=none)→h'.FunFrames B' l
 | [],_,_,_=>trivial
 | env::h9,⟨k,⟨L,o,f,b,g,n⟩,r⟩,hk,hb=>by
  refine⟨k,⟨L,o,f,hb L b,(hk L ?_).trans g,n⟩,a0i r (fun c hc=>hk c ?_) hb⟩
  ·exact List.mem_filterMap.mpr ⟨env,List.mem_cons_self,f⟩
  ·obtain⟨e,he,q⟩:=List.mem_filterMap.mp hc
   exact List.mem_filterMap.mpr ⟨e,List.mem_cons_of_mem _ he,q⟩
section
variable {X:Cx}{E:XK}{pins pins':List (Addr×Obj)}{σ σ':St}{H3 H':Hp}{s3 s':Shared}{scope:Scope}{Nc:List Str}{C a:Addr}{fp:List Addr}{xe:Value→Shared→Prop}{cls:Value}{cx:Option Addr}{B:Heap}
theorem a3s(acc:XAcc X E)(I3:Inv X pins σ H3 s3)(hC:C=s3.heap.objs.size)(hfp:∀b∈fp,FpOk X pins H3 b)(I:Inv (l5 X scope Nc C s3 H3 fp xe) pins' σ' H' s')(x:XAt (l5 X scope Nc C s3 H3 fp xe) pins' H' s' a cls cx B .any)(hE:E cls cx H') :
  ∃m,s'.heap.Ns C m∧∀h',Heap.SameBut C s'.heap h'→∀cenv:Env,cenv.locals=C→wpAny (model X.prog X.w) X.A (passOn "comprehension.variables-let-go" (.ref a) cenv:Sem Value) (fun _ _=>False) X.xe { s' with heap:=h' }:=by
 obtain⟨m,hn,_⟩:=id I.loc
 refine⟨m,hn,fun h' hs cenv _=>?_⟩
 have J:Inv X pins σ H' s':=I3.call' (ch:=fp) (I.os.trans rfl) I.base I.hok I.bare fun b hb=>⟨(hfp b hb).2.2.2.1,(hfp b hb).2.1,(hfp b hb).2.2.2.2.1,(hfp b hb).2.2.2.2.2⟩
 have lt3:∀b o,s3.heap.get? b=some o→b≠C:=fun b o g z=>absurd (Heap.lt_size g) (by rw[z,hC];exact Nat.lt_irrefl _)
 have hCL:C≠X.env.locals:=by rw[hC];exact Nat.ne_of_gt I3.lt
 have hsz:X.s₀.heap.objs.size≤C:=by rw[hC];exact I3.sz
 have hcl:∀y c,X.env.cells.lookup y=some c→c≠C:=fun y c e z=>by
  obtain⟨v,o,ho,_⟩:=I3.cell y c e
  exact lt3 c o ho z
 have hpn:∀p∈X.pn++pins,p.1≠C:=fun p hp z=>lt3 p.1 p.2 (I3.pin p hp).1 z
 have hC0:H' C=none:=I.free
 have J':Inv X pins σ H' { s' with heap:=h' }:=J.turned (t':=s'.toks) (fun b o hb e=>(hs.2 b hb).trans e) hC0 hCL (.inr hsz) hcl hpn
 have nC:∀b∈B3 X.stack,b≠C:=fun b hb=>by
  obtain⟨_,o,g,_⟩:=I3.stack.mem hb
  exact lt3 b o g
 obtain⟨fl,oe,vs,T,oT,ts,⟨ge,ec,de,z6⟩,⟨z1,z2⟩,⟨bT,nT⟩,gT,dT,z3⟩:=x.tr
 have nf:∀{b:Addr} {o:Obj} {ws:Array Value},s'.heap.get? b=some o→o.data=.fields ws→b≠C:=fun g d z=>by
  obtain⟨o,es,ep,ho,hd,_⟩:=id hn
  rw[z]at g
  have:s'.heap.get? C=some o:=ho
  rw[g]at this;cases this
  rw[d]at hd;cases hd
 have ge':=(hs.2 a (nf ge de)).trans ge
 have gT':=(hs.2 T (nf gT dT)).trans gT
 have hid:∀{b:Addr},B.get? b=none→(W.hideAll B [C]).get? b=none:=fun{b} q=>by
  cases w:(W.hideAll B [C]).get? b with
  | none=>rfl
  | some o=>rw[W.of_hideAll _ w]at q;cases q
 have st:(W.hideAll B [C]).StaysIn h':=fun b o e=>by
  have hb:b≠C:=fun z=>by rw[z,W.hideAll_none [C] (by simp)]at e;cases e
  exact(hs.2 b hb).trans (x.stays b o (W.of_hideAll _ e))
 have ff:h'.FunFrames (W.hideAll B [C]) X.stack:=a0i x.frames (fun b hb=>hs.2 b (nC b hb)) fun b q=>hid q
 have tr:TrX h' (W.hideAll B [C]) a cls cx fl:=⟨oe,vs,T,oT,ts,⟨ge',ec,de,z6⟩,⟨z1,z2⟩,⟨hid bT,nT⟩,gT',dT,z3⟩
 have xx:XAt X pins H' { s' with heap:=h' } a cls cx (W.hideAll B [C]) .any:=by
  refine⟨x.free,st,hid x.fresh,ff,fun b o e i n=>?_,fl,tr⟩
  have hb:b≠C:=by
   rcases i with i | ⟨_,o',i⟩ | ⟨p,hp,q⟩
   ·exact fun z=>i (by rw[z];exact hC0)
   ·exact Nat.ne_of_lt (Nat.lt_of_lt_of_le (Heap.lt_size i) hsz)
   ·rw[← q];exact hpn p hp
  refine W.hideAll_get _ (x.cov b o ((hs.2 b hb).symm.trans e) ?_ n) (by simpa using hb)
  by_cases hh:H' b=none
  ·refine .inr (.inl ⟨fun hf=>?_,?_⟩)
   ·obtain⟨_,_,_,f4,_,f6⟩:=hfp b hf
    rcases i with i | ⟨hx,o',i⟩ | ⟨p,hp,q⟩
    ·exact i hh
    ·rcases f4 with f4 | f4
     ·exact hx f4
     ·exact absurd (Nat.lt_of_lt_of_le (Heap.lt_size i) f4) (Nat.lt_irrefl _)
    ·exact f6 p hp q
   ·rcases i with i | ⟨hx,o',i⟩ | ⟨p,hp,q⟩
    ·exact absurd hh i
    ·exact I3.base.there b o' i hx
    ·exact⟨p.2,by rw[← q];exact(I3.pin p hp).1⟩
  ·exact .inl hh
 unfold PySem.passOn
 refine wpAny_bind (wpAny_field (s:={ s' with heap:=h' }) ge' de z1 ?_)
 rw[if_neg (by simp)]
 refine wpAny_bind (a10 (s:={ s' with heap:=h' }) st ff tr fun h2 k=>wpAny_throw ?_)
 exact acc pins σ H' _ a cls cx _ .any (J'.exc xx.cov k.1 k.2.2.2) ⟨xx.free,k.1,xx.fresh,k.2.1,xx.cov' J' k.1,_,k.2.2.1⟩ hE
end
def a16(X:Cx)(scope:Scope)(Nc:List Str)(C:Addr)(H3:Hp)(fp:List Addr)(pins:List (Addr×Obj))(σ:St)(E:XK):Value→Shared→Prop:=fun e s' =>
 ∃s3 a cls cx H' B ph pins' σ',e=.ref a∧Inv X pins σ H3 s3∧C=s3.heap.objs.size∧(∀b∈fp,FpOk X pins H3 b)∧Inv (l5 X scope Nc C s3 H3 fp fun _ _=>False) pins' σ' H' s'∧XAt (l5 X scope Nc C s3 H3 fp fun _ _=>False) pins' H' s' a cls cx B ph∧E cls cx H'
section
variable {X:Cx}{E:XK}{elt tg iter:Expr}{ifs:List Expr}{scope:Scope}{pos:Pos}{Nc:List Str}{k:Nat}{js:List Nat}{wi:TI}{g:TG}{tf:TT}{te:TE}
theorem a49{pins:List (Addr×Obj)}{σ:St}{H3:Hp}{s3:Shared}{C:Addr}{fp:List Addr}(I3:Inv X pins σ H3 s3)(hC:C=s3.heap.objs.size)(hfp:∀b∈fp,FpOk X pins H3 b):XAcc (l5 X scope Nc C s3 H3 fp (a16 X scope Nc C H3 fp pins σ E)) E :=
 fun pins' σ' H' s' a cls cx B ph I x hE=>⟨s3,a,cls,cx,H',B,ph,pins',σ',rfl,I3,hC,hfp,I.wish _,⟨x.free,x.stays,x.fresh,x.frames,x.cov,x.tr⟩,hE⟩
theorem a3t{pins:List (Addr×Obj)}{σ:St}{H3:Hp}{C F:Addr}{fp:List Addr}{env0:Env}{out0:List Env}{R:Value→Shared→Prop}(acc:XAcc X E)(hs0:X.stack=env0::out0)(h0:env0.frame=X.env.frame)(hF:X.env.frame=some F)
  (hR:∀a s',(∃m,s'.heap.Ns C m∧∀h',Heap.SameBut C s'.heap h'→∀cenv:Env,cenv.locals=C→wpAny (model X.prog X.w) X.A (passOn "comprehension.variables-let-go" (.ref a) cenv:Sem Value) (fun _ _=>False) X.xe { s' with heap:=h' })→R (.ref a) s') :
  ∀e s',a16 X scope Nc C H3 fp pins σ E e s'→notedBy (model X.prog X.w) X.A (compEnvC scope (A5 X.env.cells scope.names []) C X.env) R e s':=by
 rintro e s' ⟨s3,a,cls,cx,H',B,ph,pins',σ',rfl,I3,hC,hfp,I,x,hE⟩
 unfold notedBy
 exact a05 (X:=l5 X scope Nc C s3 H3 fp fun _ _=>False) I.ok.frames hs0 h0 hF I x fun h1 I1 x1=>hR a _ (a3s acc I3 hC hfp I1 x1 hE)
theorem a4_{env0:Env}{out0:List Env}{F:Addr}(acc:XAcc X E)(hc:X.calm=true)(S:CompSc X.env.scope scope X.N Nc k js)(hi:PI X tg iter wi)(hg:∀C s3 H3 fp xe,PG (l5 X scope Nc C s3 H3 fp xe) tg g)(hf:∀C s3 H3 fp xe,PF (l5 X scope Nc C s3 H3 fp xe) ifs tf)
  (he:∀C s3 H3 fp xe,XAcc (l5 X scope Nc C s3 H3 fp xe) E→PE (l5 X scope Nc C s3 H3 fp xe) elt te) (hs:∀x,foldedSetIterable iter X.env x=pure x:=by intro _;rfl)
  (hs0:X.stack=env0::out0:=by rfl) (h0:env0.frame=X.env.frame:=by rfl) (hF:X.env.frame=some F:=by rfl):PE X (.ListComp elt [⟨tg,iter,ifs,0⟩] scope pos) (V0 wi g tf te k js):=by
 intro pins s σ H Q I h
 rw[eval_ListComp]
 refine wpAny_comprehension_free (use:=none) rfl hs (S3 (U8 I S)) S.kind S.names (i6 (hi pins s σ H _ I h) fun v s1 h1=>i6 h1 fun itv s2 h2=>?_)
 obtain⟨it,fp,tn,J,H2,rfl,I2,T,st2,f2,hR⟩:=h2
 refine U9 (RR:=fun acc C=>compPost (model X.prog X.w) X.A X.xe none (EP X pins σ Q) acc C) (Fin:=fun D H'=>Q (.ref D) H') hc S hg hf
  (fun C D H3=>⟨a16 X scope Nc C H3 fp pins σ E,a3t acc hs0 h0 hF fun a s' z=>z,fun s3 I3 hC hfp=>he _ _ _ _ _ (a49 I3 hC hfp)⟩) I2 T st2 f2 hR ?_
 intro D C H' s' m' I' hn hC hCL hsz hcl hpn q
 exact⟨m',hn,fun h' hs'=>⟨.ref D,H',I'.turned (t':=s'.toks) (fun b o hb e=>(hs'.2 b hb).trans e) hC hCL (.inr hsz) hcl hpn,rfl,q⟩⟩
end
theorem F7{X:Cx}{x:Str}{j:Nat}{pos:Pos}{es:List Expr}{t:TA}(hr:PA X es t):PA X (.Constant (.str x) j pos::es) (N9 (tC (.str x)) t):=a6 F6 hr
def Itz(K:W.Frag)(a b:Addr):It :=
 ⟨fun i H=>∃xs ys x y,SqL K H a xs∧SqL K H b ys∧xs[i]? = some x∧ys[i]? = some y,fun i H v H'=>∃p x y,v=.ref p∧H p=none∧H'=upd H p (.tup [x,y])∧(∀xs,SqL K H a xs→xs[i]? = some x)∧∀ys,SqL K H b ys→ys[i]? = some y,
  fun i H=>∃xs ys,SqL K H a xs∧SqL K H b ys∧(xs.length≤i∨ys.length≤i)⟩
theorem a5a{P:Program}{w:World}{K:W.Frag}{elts:List Expr}{x1}{tpos:Pos}(l1 l2 z TI TO i1 i2:Addr)(D:ZipApart z TI TO i1 i2 l1 l2):Turn P w K (.Tuple elts x1 tpos) (Itz K l1 l2) [z,TI,TO,i1,i2] z
  (fun i h=>IsZip h z TI TO .none∧IsPair h TI (.ref i1) (.ref i2)∧(∃a b,IsPair h TO a b)∧h.IsListIter i1 l1 i∧h.IsListIter i2 l2 i) where
 mem:=by simp
 obj:=fun i h ⟨hz,hTI,⟨a,b,hTO⟩,h1,h2⟩ c hc=>by
  simp only[List.mem_cons,List.not_mem_nil,or_false]at hc
  rcases hc with rfl | rfl | rfl | rfl | rfl
  ·exact⟨_,hz,fun v z=>nomatch (show Data.fields _=Data.cell v from z)⟩
  ·exact⟨_,hTI,fun v z=>nomatch (show Data.seq _ _=Data.cell v from z)⟩
  ·exact⟨_,hTO,fun v z=>nomatch (show Data.seq _ _=Data.cell v from z)⟩
  ·obtain⟨o,e1,c,d⟩:=h1;exact⟨o,e1,fun v z=>by rw[d]at z;cases z⟩
  ·obtain⟨o,e1,c,d⟩:=h2;exact⟨o,e1,fun v z=>by rw[d]at z;cases z⟩
 keep:=fun i h h' ⟨hz,hTI,⟨a,b,hTO⟩,h1,h2⟩ k=>⟨k z (by simp) _ hz,k TI (by simp) _ hTI,⟨a,b,k TO (by simp) _ hTO⟩,h1.at fun o q=>k i1 (by simp) o q,h2.at fun o q=>k i2 (by simp) o q⟩
 item:=by
  intro X hP hw hK hc i pins s σ H E I hf st hg
  subst hP hw hK
  obtain⟨hz,hTI,⟨a,b,hTO⟩,h1,h2⟩:=st
  obtain⟨xs,ys,x,y,hq,hq',hx,hy⟩:=hg
  obtain⟨its,rv,p,_⟩:=I.list hq
  obtain⟨u,hu,ru⟩:=rv.get hx
  obtain⟨its',rv',p',_⟩:=I.list hq'
  obtain⟨u',hu',ru'⟩:=rv'.get hy
  refine wpAny_pyNext_zip_item D hz hTI hTO h1 h2 p.isList p'.isList (x:=u) (y:=u') (by simpa using hu) (by simpa using hu') fun h' q1 q2 q3 q4 q5 q6 q7=>⟨_,rfl,?_⟩
  refine wpAny_letOwnedTupleGo_zip (s:={ s with heap:=h',toks:=s.toks }) q1 fun h3 r1 r2=>?_
  have nez:s.heap.objs.size≠z:=Nat.ne_of_gt (Heap.lt_size hz)
  have k2:∀c o,c ∉ [z,TI,TO,i1,i2]→s.heap.get? c=some o→h3.get? c=some o:=fun c o hb q =>
   (r2.2 c fun e=>hb (by simp[e])).trans (q7 c o (fun e=>hb (by simp[e])) (fun e=>hb (by simp[e])) (fun e=>hb (by simp[e])) (fun e=>hb (by simp[e])) q)
  have I1:Inv X pins σ (upd H s.heap.objs.size (.tup [x,y])) { s with heap:=h3,toks:=s.toks }:=I.turnedL k2 hf (Nat.le_refl _)
   ⟨by show 2≤sizeLine;decide,[u,u'],.cons ru (.cons ru' .nil),⟨_,(r2.2 _ nez).trans q5,rfl,_,rfl⟩⟩
  refine⟨.ref s.heap.objs.size,_,I1,rfl,⟨_,x,y,rfl,I.fresh,rfl,(fun zs hs=>by rw[I.list_inj hs hq];exact hx),fun zs hs=>by rw[I.list_inj hs hq'];exact hy⟩,
   ⟨r1,(r2.2 _ D.TIz).trans (q7 _ _ D.TIz D.TITO D.TIi1 D.TIi2 hTI),⟨_,_,(r2.2 _ D.TOz).trans q2⟩,q3.extBut r2.extBut D.i1z,q4.extBut r2.extBut D.i2z⟩,fun c hc=>?_⟩
  have:∃o,s.heap.get? c=some o:=by
   simp only[List.mem_cons,List.not_mem_nil,or_false]at hc
   rcases hc with rfl | rfl | rfl | rfl | rfl
   ·exact⟨_,hz⟩
   ·exact⟨_,hTI⟩
   ·exact⟨_,hTO⟩
   ·obtain⟨o,e1,_⟩:=h1;exact⟨o,e1⟩
   ·obtain⟨o,e1,_⟩:=h2;exact⟨o,e1⟩
  obtain⟨o,e1⟩:=this
  rw[b9 (Nat.ne_of_lt (Heap.lt_size e1))]
  exact(hf c hc).1
 done:=by
  intro X hP hw hK hc i pins s σ H E I hf st hg
  subst hP hw hK
  obtain⟨hz,hTI,⟨a,b,hTO⟩,h1,h2⟩:=st
  obtain⟨xs,ys,hq,hq',hx⟩:=hg
  obtain⟨its,rv,p,_⟩:=I.list hq
  obtain⟨its',rv',p',_⟩:=I.list hq'
  have hl:=rv.length
  have hl':=rv'.length
  refine wpAny_pyNext_zip_end (I.ok.hd hc) D hz hTI hTO h1 h2 p.isList p'.isList (hx.imp (fun h=>by simp;omega) fun h=>by simp;omega) fun h' eb=>⟨rfl,I.turnedN (t':=s.toks) (fun c o hb q=>?_) hf⟩
  exact eb c o (fun e=>hb (by simp[e])) (fun e=>hb (by simp[e])) (fun e=>hb (by simp[e])) (fun e=>hb (by simp[e])) q
 self:=fun _ _ _ _ _ st h=>wpAny_pyIter_zip st.1 h
theorem a5b{K:W.Frag}{a b:Addr}{xs ys:List V}{g:TG}{tf:TT}{te:TE}{k:Nat}{σ0:St}{D:Addr}{Fin:Hp→Prop}{H1:Hp}(Pv:Nat→List V→Hp→Prop)(h0:Pv 0 [] (upd H1 D (.lst [])))(hl:∀i zs H,Pv i zs H→SqL K H a xs∧SqL K H b ys)
  (hs:∀i x y zs H p,xs[i]? = some x→ys[i]? = some y→Pv i zs H→H p=none→g (.ref p) σ0 (upd H p (.tup [x,y])) fun σ2 H2=>(σ2.drop k=σ0.drop k∧σ2.length=σ0.length)∧tf σ2 H2 fun b H3 =>
   if b=true then te σ2 H3 fun y H4=>H4 D=some (.lst zs)∧zs.length<sizeLine∧Pv (i+1) (zs++[y]) (upd H4 D (.lst (zs++[y])))else Pv (i+1) zs H3)
  (hd:∀zs H,Pv (min xs.length ys.length) zs H→Fin H):D6 (Itz K a b) g tf te k σ0 D Fin H1:=by
 refine⟨fun i m zs H=>m=min xs.length ys.length-i∧i≤min xs.length ys.length∧Pv i zs H,⟨min xs.length ys.length,by simp,Nat.zero_le _,h0⟩,?_⟩
 rintro i m zs H ⟨rfl,hi,p⟩
 obtain⟨q,q'⟩:=hl i zs H p
 by_cases hlt:i<min xs.length ys.length
 ·have h1:i<xs.length:=by omega
  have h2:i<ys.length:=by omega
  refine .inr ⟨⟨xs,ys,xs[i],ys[i],q,q',by simp[h1],by simp[h2]⟩,Pv (i+1),fun ys' H' z=>⟨_,by omega,rfl,hlt,z⟩,fun v H' y=>?_⟩
  obtain⟨c,x,y',rfl,hc,rfl,e1,e2⟩:=y
  exact hs i x y' zs _ c (e1 xs q) (e2 ys q') p hc
 ·have e:i=min xs.length ys.length:=by omega
  subst e
  exact .inl ⟨⟨xs,ys,q,q',by omega⟩,hd zs H p⟩
theorem a8v:bootBuiltins "zip" = some (.type "zip"):=by decide +kernel
def a8w(K:W.Frag)(ta:TA):TI:=fun σ H R=>ta σ H fun vs H1=>∃a b,vs=[.ref a,.ref b]∧(∃xs,SqL K H1 a xs)∧(∃ys,SqL K H1 b ys)∧R (Itz K a b) H1
section
variable {X:Cx}
theorem a8x{elts:List Expr}{x1}{tpos:Pos}{l l':Expr}{ta:TA}{p pos:Pos}(hg:Gl X "zip")(hm:X.mg "zip" = none)(ha:PA X [l,l'] ta)(hs:starEach [l,l'] X.env=(false,eval l X.env)::starEach [l'] X.env:=by rfl)(hpl:(backTo pos (starEach [l'] X.env)).any (·.1)=false:=by rfl) :
  PI X (.Tuple elts x1 tpos) (.Call (.Name "zip" p) [l,l'] [] pos) (a8w X.K ta):=by
 intro pins s σ H R I h
 refine Call_ (X2 I hg hm a8v (PyProof.Rows.callWith_type1 (i6 (ha pos pins s σ H _ I h) fun us s1 ⟨vs,H1,I1,r1,q1⟩=>?_) hs hpl))
 obtain⟨a,b,e,⟨xs,hq⟩,⟨ys,hq'⟩,q⟩:=q1
 subst e
 obtain⟨u,u',rfl,ru,ru'⟩:∃u u',us=[u,u']∧RelV (.ref a) u∧RelV (.ref b) u':=by
  cases r1 with
  | cons r t=>cases t with
   | cons r' t'=>cases t';exact⟨_,_,rfl,r,r'⟩
 cases (show u=Value.ref a from ru)
 cases (show u'=Value.ref b from ru')
 obtain⟨its,rv,pl,hz⟩:=I1.list hq
 obtain⟨its',rv',pl',hz'⟩:=I1.list hq'
 refine call_zip_2 pl.isList pl'.isList fun h' q1 q2 q3 q4 q5 q6 q7=>?_
 have I2:Inv X pins σ H1 { s1 with heap:=h' }:=I1.kept (t':=s1.toks) q7
 refine wpAny_pyIter_zip (s:={ s1 with heap:=h' }) q1 ?_
 have la:a<s1.heap.objs.size:=by obtain⟨o,n,e,_⟩:=pl;exact Heap.lt_size e
 have lb:b<s1.heap.objs.size:=by obtain⟨o,n,e,_⟩:=pl';exact Heap.lt_size e
 refine⟨s1.heap.objs.size+4,[s1.heap.objs.size+4,s1.heap.objs.size+2,s1.heap.objs.size+3,s1.heap.objs.size,s1.heap.objs.size+1],_,_,H1,rfl,I2,a5a a b (s1.heap.objs.size+4) (s1.heap.objs.size+2) (s1.heap.objs.size+3) s1.heap.objs.size (s1.heap.objs.size+1) ?_,⟨q1,q2,⟨_,_,q3⟩,q4,q5⟩,fun c hc=>?_,q⟩
 ·constructor<;> (simp only[Addr,ne_eq]at *;omega)
 ·have hb':s1.heap.objs.size≤c:=by
   simp only[List.mem_cons,List.not_mem_nil,or_false]at hc
   rcases hc with rfl | rfl | rfl | rfl | rfl<;> (simp only[Addr]at *;omega)
  exact I1.fpOk hb' (I1.hok.fresh hb')
end
theorem a5c{K:W.Frag}{a:Addr}{xs:List V}{g:TG}{tf:TT}{te:TE}{k:Nat}{σ0:St}{D:Addr}{Fin:Hp→Prop}{H1:Hp}(Pv:Nat→List V→Hp→Prop)(h0:Pv 0 [] (upd H1 D (.lst [])))(hl:∀i ys H,i≤xs.length→Pv i ys H→SqT K H a xs)
  (hs:∀i x ys H,xs[i]? = some x→Pv i ys H→g x σ0 H fun σ2 H2=>(σ2.drop k=σ0.drop k∧σ2.length=σ0.length)∧tf σ2 H2 fun b H3 =>
   if b=true then te σ2 H3 fun y H4=>H4 D=some (.lst ys)∧ys.length<sizeLine∧Pv (i+1) (ys++[y]) (upd H4 D (.lst (ys++[y])))else Pv (i+1) ys H3)
  (hd:∀ys H,Pv xs.length ys H→Fin H):D6 (Itt K a) g tf te k σ0 D Fin H1:=by
 refine⟨fun i m ys H=>m=xs.length-i∧i≤xs.length∧Pv i ys H,⟨xs.length,by simp,Nat.zero_le _,h0⟩,?_⟩
 rintro i m ys H ⟨rfl,hi,p⟩
 have q:=hl i ys H hi p
 by_cases hlt:i<xs.length
 ·refine .inr ⟨⟨xs,xs[i],q,by simp[hlt]⟩,Pv (i+1),fun ys' H' z=>⟨xs.length-(i+1),by omega,rfl,hlt,z⟩,fun v H' y=>?_⟩
  obtain⟨rfl,y⟩:=y
  exact hs i v ys _ (y xs q) p
 ·have e:i=xs.length:=by omega
  subst e
  exact .inl ⟨⟨xs,q,Nat.le_refl _⟩,hd ys H p⟩
def Gd(n:Nat)(lt:Nat→Nat→Bool){α:Type}:KasT α→(α→Prop)→Prop
 | .ret a,P=>P a
 | .ask i j k,P=>i<n∧j<n∧Gd n lt (k (lt i j)) P
theorem Gd.mono{n:Nat}{lt:Nat→Nat→Bool}{α:Type}{P P':α→Prop}(h:∀a,P a→P' a):∀{t:KasT α},Gd n lt t P→Gd n lt t P'
 | .ret a,g=>h a g
 | .ask i j k,g=>⟨g.1,g.2.1,Gd.mono h g.2.2⟩
theorem Gd.bind{n:Nat}{lt:Nat→Nat→Bool}{α β:Type}{P:β→Prop}{f:α→KasT β}:∀{t:KasT α},Gd n lt t (fun a=>Gd n lt (f a) P)→Gd n lt (t.bind f) P
 | .ret a,g=>g
 | .ask i j k,g=>⟨g.1,g.2.1,Gd.bind (t:=k (lt i j)) g.2.2⟩
def ga(p:Array Nat)(k:Nat):Nat:=p.getD k 0
structure TPre(lt:Nat→Nat→Bool):Prop where
 irr:∀i,lt i i=false
 tr:∀i j k,lt j i=false→lt k j=false→lt k i=false
 asy:∀i j,lt i j=true→lt j i=false
section
variable {n:Nat}{lt:Nat→Nat→Bool}
def Pmn(n:Nat)(p:Array Nat):Prop:=p.toList.Perm (List.range n)
theorem Pmn.size{p:Array Nat}(h:Pmn n p):p.size=n:=by have:=h.length_eq;simpa using this
end
section
variable {prog:Program}{w:World}{A:Around}{E:Value→Shared→Prop}{s:Shared}{b fin:Bool}{Q:Bool→Shared→Prop}
theorem a0j:∀{vs ws:List Value} {ns ms:List Int} (i:Nat),IntsAre vs ns→IntsAre ws ms→fin=decide (ns.length<ms.length)→Q (HT.lexLt ns ms) s→KatLex prog w A true fin Q (vs.zip ws) i s
 | _,_,_,_,i,.nil,.nil,hf,h=>by rw[List.zip_nil_left];refine kat_nil ?_;rw[hf];exact h
 | _,_,_,_,i,.nil,.cons c u t,hf,h=>by
  rw[List.zip_nil_left];refine kat_nil ?_;rw[hf,decide_eq_true (by simp)];exact h
 | _,_,_,_,i,.cons a t r,.nil,hf,h=>by
  rw[List.zip_nil_right];refine kat_nil ?_;rw[hf,decide_eq_false (by simp)];exact h
 | _,_,_,_,i,.cons (ns:=ns) a t r,.cons (ns:=ms) c u r',hf,h=>by
  rw[List.zip_cons_cons]
  rw[HT.lexLt_cons]at h
  refine kat_cons (wpAny_eqBool_int (kat_go (fun e=>?_) fun e=>?_))
  ·rw[if_pos (by simpa using e)]at h
   exact kat_yes (a0j (i+1) r r' (by rw[hf];simp) h)
  ·rw[if_neg (by simpa using e)]at h
   refine kat_no ?_
   by_cases hi:i=0
   ·subst hi
    show wpAny _ _ (oneLt' true _ _) _ _ _
    exact oneLt_int h
   ·have e0:(true && i == 0)=false:=by simpa using hi
    rw[e0]
    exact kat_one _ _ (PyProof.Rows.lt_int h)
def TupKey(h:Heap)(v:Value)(k:List Int):Prop:=∃a o xs m,v=.ref a∧h.get? a=some o∧o.cls=.type "tuple"∧o.data=.seq xs m∧IntsAre xs.toList k∧k≠[]
theorem TupKey.keeps{h h':Heap}{v:Value}{k:List Int}(t:TupKey h v k)(kp:∀a o,h.get? a=some o→h'.get? a=some o):TupKey h' v k:=by
 obtain⟨a,o,xs,m,e,ho,r⟩:=t
 exact⟨a,o,xs,m,e,kp _ _ ho,r⟩
theorem TupKey.lt{v u:Value}{k l:List Int}{C:Bool→Shared→Prop}{E:Value→Shared→Prop}(t:TupKey s.heap v k)(t':TupKey s.heap u l)(h:C (HT.lexLt k l) s):wpAny (model prog w) A (keyLt' (tuples' true) v u) C E s:=by
 obtain⟨a,o,xs,m,rfl,ho,_,hd,hi,_⟩:=t
 obtain⟨a',o',xs',m',rfl,ho',_,hd',hi',_⟩:=t'
 have z1:xs.size=k.length:=by rw[← hi.length];simp
 have z2:xs'.size=l.length:=by rw[← hi'.length];simp
 exact kat_lt ho hd ho' hd' (a0j 0 hi hi' (by rw[z1,z2]) h)
def TKs(h:Heap):List Value→List (List Int)→Prop
 | [],[]=>True
 | v::vs,k::ks=>TupKey h v k∧TKs h vs ks
 | _,_=>False
theorem TKs.keeps{h h':Heap}(kp:∀a o,h.get? a=some o→h'.get? a=some o):∀{vs:List Value} {ks:List (List Int)},TKs h vs ks→TKs h' vs ks
 | [],[],_=>trivial
 | [],_::_,t=>t.elim
 | _::_,[],t=>t.elim
 | v::vs,k::ks,t=>⟨t.1.keeps kp,TKs.keeps kp t.2⟩
theorem TKs.len{h:Heap}:∀{vs:List Value} {ks:List (List Int)},TKs h vs ks→vs.length=ks.length
 | [],[],_=>rfl
 | [],_::_,t=>t.elim
 | _::_,[],t=>t.elim
 | v::vs,k::ks,t=>by simp[t.2.len]
theorem TKs.at{h:Heap}:∀{vs:List Value} {ks:List (List Int)} (i:Nat),TKs h vs ks→i<vs.length→TupKey h (vs.getD i Value.none) (ks.getD i [])
 | [],_,i,_,hi=>absurd hi (Nat.not_lt_zero _)
 | _::_,[],_,t,_=>t.elim
 | v::vs,k::ks,0,t,_=>t.1
 | v::vs,k::ks,i+1,t,hi=>TKs.at (vs:=vs) (ks:=ks) i t.2 (by simpa using hi)
end
namespace F'
end F'
open PySem PySem.Spec PyProof.Rows PySem.W
abbrev TH:=Value→Option Addr→Addr→Ends→St→Hp→Prop
def PH(X:Cx)(hs:List ExceptHandler)(th:TH):Prop :=
 ∀(pins:List (Addr×Obj)) (s:Shared) (σ:St) (H:Hp) (a:Addr) (cls:Value) (cx:Option Addr) (B:Heap) (D:Ends),Inv X pins σ H s→XAt X pins H s a cls cx B .fly→th cls cx a D σ H→wpAny (model X.prog X.w) X.A (handleBy (.ref a) X.env hs) (SP X pins D) X.xe s
def a6b:TH:=fun _ _ _ _ _ _=>False
def a8y(K:W.Frag)(C:Addr)(i:Nat)(ts:Addr→TS)(h9:TH):TH:=fun cls cx a D σ H =>
 (W.exmOne K cls (.ref C)=some true∧ts a { nx:=fun σ' H2=>D.nx (σ'.set i none) H2,rt:=D.rt,bk:=fun σ' H2=>D.bk (σ'.set i none) H2,ct:=fun σ' H2=>D.ct (σ'.set i none) H2 } (σ.set i (some (.ref a))) (upd H a (D5 a cls cx)))∨(W.exmOne K cls (.ref C)=some false∧h9 cls cx a D σ H)
section
variable {X:Cx}
theorem a8z:PH X [] a6b:=fun _ _ _ _ _ _ _ _ _ _ _ h=>h.elim
theorem a6c{x n:Str}{i:Nat}{C:Addr}{suite:List Stmt}{b₀:Stmt}{np hpos:Pos}{hs:List ExceptHandler}{ts:Addr→TS}{h9:TH}(hg:Gl X x)(hm:X.mg x=some (.ref C))(hN:X.N.Nodup)(hi:X.N[i]? = some n)(hh:∀a,PSs (X.inExc a).nox (b₀::suite) (ts a))(hr:PH X hs h9)
  (hl:X.env.scope.names.lookup n=some .local:=by rfl) (hd:(x == ("__debug__" : Str))=false:=by decide):PH X (.ExceptHandler (some (.Name x np)) (some n) (b₀::suite) hpos::hs) (a8y X.K C i ts h9):=by
 intro pins s σ H a cls cx B D I x4 h
 have ok:=I.ok
 refine wpAny_handleBy_cons (codeAny_handlers_test (O2 (I.toExc (a:=a)) hg hm ?_ hd)) (by intro q;cases q)
 obtain⟨oe,vs,e,hc,d,_⟩:=x4.tr.there
 have LT:W.Looks (model X.prog X.w) s.heap (typeOf (.ref a)) cls:=hc▸(W.Looks.ld e).andThen .now
 rcases h with⟨hx,hsu⟩ | ⟨hx,hn⟩
 ·refine(W.exm_one I.kIn LT hx).here ?_
  refine codeAny_handlers_suite_as ?_
  refine a06 I x4 (fun z=>nomatch z) fun h5 I5 x5=>?_
  have I6:=(I5.track x5).toExc (a:=a)
  refine U5 (X:=X.inExc a) (v:=.ref a) I6 hN hi (.inl hl) rfl (fun s6 I7=>?_) (.inr hl)
  refine wpAny_mono (hh a pins s6 _ _ _ (I7.wish _) hsu) (fun f s7 q=>?_) fun _ _ z=>z.elim
  have q:=(q.unwish).ofExc ok
  cases f with
  | next =>
   obtain⟨σ7,H7,I8,q⟩:=q
   exact I8.nameGoes hN hi hl fun h8 I9=>⟨_,H7,I9,q⟩
  | brk =>
   obtain⟨σ7,H7,I8,q⟩:=q
   exact I8.nameGoes hN hi hl fun h8 I9=>⟨_,H7,I9,q⟩
  | cont =>
   obtain⟨σ7,H7,I8,q⟩:=q
   exact I8.nameGoes hN hi hl fun h8 I9=>⟨_,H7,I9,q⟩
  | ret u =>
   obtain⟨v7,σ7,H7,I8,r,q⟩:=q
   exact I8.nameGoes hN hi hl fun h8 I9=>⟨v7,_,H7,I9,r,q⟩
 ·refine(W.exm_one I.kIn LT hx).here ?_
  exact hr pins s σ H a cls cx B D I x4 hn
def XAccAt(X:Cx)(σ:St)(E:XK):Prop:=∀(pins:List (Addr×Obj)) (H:Hp) (s:Shared) (a:Addr) (cls:Value) (cx:Option Addr) (B:Heap) (ph:Ph),Inv X pins σ H s→XAt X pins H s a cls cx B ph→E cls cx H→X.xe (.ref a) s
theorem XAccAt.passes{σ:St}{E:XK}(acc:XAccAt X σ E):∀(pins:List (Addr×Obj)) (H:Hp) (s:Shared) (e:Value) (s':Shared),Inv X pins σ H s→w6 X.prog X.w X.stack H s E e s'→X.xe e s':=by
 intro pins H s e s' I h
 obtain⟨a,cls,cx,H',B,rfl,os,bare,un,hok,st,fr,ff,tr,free,cov,hE⟩:=h
 have I':Inv X pins σ H' s':=I.call' (ch:=[]) os un hok bare (fun b z=>absurd z (by simp))
 refine acc pins H' s' a cls cx B .fly I' ⟨free,st,fr,ff,fun b o e i n=>cov b o e ?_ n,tr⟩ hE
 rcases i with i | ⟨hx,o',i⟩ | ⟨p,hp,q⟩
 ·exact .inl i
 ·exact .inr (I.base.there b o' i hx)
 ·exact .inr ⟨p.2,by rw[← q];exact(I.pin p hp).1⟩
theorem a6K{k k':Nat}{ps:List Str}{sp:Sp}{x:Str}{p pos:Pos}{e:Expr}{es:List Expr}{t:TA}{E:XK}{σ:St}(G:Own X.prog X.w X.K X.mg X.base k x ps sp)(hr:Room k' X.A)(hk:k≤k')(acc:XAccAt X σ E)(ha:PA X (e::es) t)(hg:Gl X x)
  (hdb:(x == ("__debug__" : Str))=false:=by decide) (he:starEach (e::es) X.env=(false,eval e X.env)::starEach es X.env:=by rfl) (hpl:(backTo pos (starEach es X.env)).any (·.1)=false:=by rfl)
  {pins:List (Addr×Obj)} {s:Shared} {H:Hp} {Q:VK} (I:Inv X pins σ H s) (h:Q7 sp [] E t σ H Q):wpAny (model X.prog X.w) X.A (eval (.Call (.Name x p) (e::es) [] pos) X.env) (EP X pins σ Q) X.xe s:=by
 obtain⟨f,fd,F,b,kp,m⟩:=G.ex
 refine wpAny_Call_Name_kw (O2 I hg m ?_ hdb)
 refine W.callWith_K (h₀:=X.base) I.ok.mod.kin kp (i6 (ha pos pins s σ H _ I h) fun us s1 ⟨vs,H1,I1,r,q⟩=>⟨I1.kIn,?_⟩) he hpl
 have q:sp (vs++[]) H1 Q E:=q
 rw[List.append_nil]at q
 have hl:us.length=ps.length:=by rw[← r.length];exact F.len _ _ _ _ q
 have hb:=b s1 us I1.kIn (by rw[List.append_nil];exact hl)
 rw[List.append_nil]at hb
 refine wpAny_call (codeAny_mono (F.run X.A X.stack s1 H1 ⟨us,[]⟩ us vs Q E (hr.mono hk) I1.env0 hb r q) fun r s' hq=>?_)
 cases r with
 | error e=>exact acc.passes pins H1 s1 e s' I1 hq
 | ok fl =>
  cases fl with
  | ret u=>exact I1.after hq
  | next=>exact False.elim hq
  | brk=>exact False.elim hq
  | cont=>exact False.elim hq
end
section
variable {prog:Program}{w:World}{A:Around}{E:Value→Shared→Prop}{s:Shared}{fin:Bool}{Q:Bool→Shared→Prop}
theorem a6L{v:Value}(hv:(v == v)=true){E:Value→Shared→Prop}(h:Q true s):wpAny (model prog w) A (eqBool v v) Q E s:=by
 unfold eqBool
 refine wpAny_holding ?_
 rw[if_pos hv]
 exact wpAny_bind (wpAny_rule (wpAny_pure h))
theorem a0H{rs rs':List Value}:∀{vs ws:List Value} {ns ms:List Int} (i:Nat),IntsAre vs ns→IntsAre ws ms→ns.length=ms.length→ns≠ms→Q (HT.lexLt ns ms) s→KatLex prog w A true fin Q ((vs++rs).zip (ws++rs')) i s
 | _,_,_,_,i,.nil,.nil,_,hn,_=>absurd rfl hn
 | _,_,_,_,i,.nil,.cons c u t,hf,_,_=>by simp at hf
 | _,_,_,_,i,.cons a t r,.nil,hf,_,_=>by simp at hf
 | _,_,_,_,i,.cons (ns:=ns) a t r,.cons (ns:=ms) c u r',hf,hn,h=>by
  rw[List.cons_append,List.cons_append,List.zip_cons_cons]
  rw[HT.lexLt_cons]at h
  refine kat_cons (wpAny_eqBool_int (kat_go (fun e=>?_) fun e=>?_))
  ·have e':a=c:=by simpa using e
   rw[if_pos e']at h
   exact kat_yes (a0H (i+1) r r' (by simpa using hf) (fun z=>hn (by rw[e',z])) h)
  ·rw[if_neg (by simpa using e)]at h
   refine kat_no ?_
   by_cases hi:i=0
   ·subst hi
    show wpAny _ _ (oneLt' true _ _) _ _ _
    exact oneLt_int h
   ·have e0:(true && i == 0)=false:=by simpa using hi
    rw[e0]
    exact kat_one _ _ (PyProof.Rows.lt_int h)
def TupPre(h:Heap)(v:Value)(k:List Int):Prop:=∃a o xs m vs rs,v=.ref a∧h.get? a=some o∧o.cls=.type "tuple"∧o.data=.seq xs m∧xs.toList=vs++rs∧IntsAre vs k∧k≠[]∧∀u∈xs.toList,(u == u)=true
theorem TupPre.keeps{h h':Heap}{v:Value}{k:List Int}(t:TupPre h v k)(kp:∀a o,h.get? a=some o→h'.get? a=some o):TupPre h' v k:=by
 obtain⟨a,o,xs,m,vs,rs,e,ho,r⟩:=t
 exact⟨a,o,xs,m,vs,rs,e,kp _ _ ho,r⟩
theorem TupPre.lt{v u:Value}{k l:List Int}{C:Bool→Shared→Prop}(t:TupPre s.heap v k)(t':TupPre s.heap u l)(hl:k.length=l.length)(hn:k≠l)(h:C (HT.lexLt k l) s):wpAny (model prog w) A (keyLt' (tuples' true) v u) C E s:=by
 obtain⟨a,o,xs,m,vs,rs,rfl,ho,_,hd,hx,hi,_⟩:=t
 obtain⟨a',o',xs',m',vs',rs',rfl,ho',_,hd',hx',hi',_⟩:=t'
 refine kat_lt ho hd ho' hd' ?_
 rw[hx,hx']
 exact a0H 0 hi hi' hl hn h
def TPs(h:Heap):List Value→List (List Int)→Prop
 | [],[]=>True
 | v::vs,k::ks=>TupPre h v k∧TPs h vs ks
 | _,_=>False
theorem TPs.keeps{h h':Heap}(kp:∀a o,h.get? a=some o→h'.get? a=some o):∀{vs:List Value} {ks:List (List Int)},TPs h vs ks→TPs h' vs ks
 | [],[],_=>trivial
 | [],_::_,t=>t.elim
 | _::_,[],t=>t.elim
 | v::vs,k::ks,t=>⟨t.1.keeps kp,TPs.keeps kp t.2⟩
theorem TPs.at{h:Heap}:∀{vs:List Value} {ks:List (List Int)} (i:Nat),TPs h vs ks→i<vs.length→TupPre h (vs.getD i Value.none) (ks.getD i [])
 | [],_,i,_,hi=>absurd hi (Nat.not_lt_zero _)
 | _::_,[],_,t,_=>t.elim
 | v::vs,k::ks,0,t,_=>t.1
 | v::vs,k::ks,i+1,t,hi=>TPs.at (vs:=vs) (ks:=ks) i t.2 (by simpa using hi)
end
section
variable {X:Cx}{pins:List (Addr×Obj)}{σ:St}{H:Hp}{s:Shared}{A':Around}{E:Value→Shared→Prop}
theorem FpOk.to{H':Hp}{b:Addr}(f:FpOk X pins H b)(n:H' b=none):FpOk X pins H' b:=⟨n,f.2⟩
end
def TbAt(P:Addr)(q:Str)(H:Hp):Prop:=∃(qs:Array Value) (t:Tok),H P=some (.tbl qs)∧qs[0]? = some (Value.str q t)
theorem TbAt.now{P:Addr}{q:Str}{fs ex:List Addr}{H H':Hp}{h h':Heap}(t:TbAt P q H)(u:Un fs ex H H' h h'):TbAt P q H':=by
 obtain⟨qs,t,e,e2⟩:=t
 obtain⟨more,e3⟩:=u.tbls _ _ e
 refine⟨_,t,e3,?_⟩
 have h0:0<qs.size:=by
  by_cases z:0<qs.size
  ·exact z
  ·rw[Array.getElem?_eq_none (by omega)]at e2;cases e2
 rw[Array.getElem?_append_left h0];exact e2
def TbAll(TB:List (Addr×Str))(H:Hp):Prop:=∀P q,TB.lookup P=some q→TbAt P q H
theorem TbAll.now{TB:List (Addr×Str)}{fs ex:List Addr}{H H':Hp}{h h':Heap}(t:TbAll TB H)(u:Un fs ex H H' h h'):TbAll TB H':=fun P q e=>(t P q e).now u
end L2
namespace HT
open PySem PyProof.Rows
end HT
namespace L2
open PySem PySem.Spec PyProof.Rows
open PySem.W
def Rise(a:Array Nat):Prop:=a.toList.Pairwise (· < ·)
theorem Rise.lt{a:Array Nat}(h:Rise a){i j:Nat}(hij:i<j)(hj:j<a.size):a.getD i 0<a.getD j 0:=by
 have hi:i<a.size:=Nat.lt_trans hij hj
 have:=List.pairwise_iff_getElem.mp h i j (by simpa using hi) (by simpa using hj) hij
 simpa [Array.getD,hi,hj]using this
structure TbR(led:Bool)(t:SetTable):Prop where
 rise:Rise t.place
 dum:t.dummies = #[]
 led:t.led=led
def a8A(e:Int×Value):Int:=match e.2 with
 | .int k _=>k
 | _=>0
def IsI(e:Int×Value):Prop:=∃k t,e=(hashInt k,Value.int k t)
structure SetR(w:World)(h:Heap)(a:Addr)(L:List Int):Prop where
 ex:∃o es ep t,h.get? a=some o∧o.ExactSet∧o.data=.set es ep t∧(∀e∈es.toList,IsI e)∧(es.toList.map a8A).Nodup∧(∀k,k∈es.toList.map a8A↔k∈L)∧es.size<scanBound∧t.fits es.size=true∧TbR (!w.params.followText "set-order") t
section
variable {prog:Program}{w:World}{A:Around}{E:Value→Shared→Prop}{s:Shared}
theorem SetR.frame{h h':Heap}{a:Addr}{L:List Int}(S:SetR w h a L)(e:∀o,h.get? a=some o→h'.get? a=some o):SetR w h' a L:=by
 obtain⟨o,es,ep,t,ho,r⟩:=S.ex
 exact⟨o,es,ep,t,e o ho,r⟩
end
end L2
namespace HT
open PySem PyProof.Rows
inductive IB:List Value→List Value→List Int→List Int→Prop
 | nil:IB [] [] [] []
 | int (a:Int) (t:Tok) (c:Int) (u:Tok) {vs ws:List Value} {ns ms:List Int} (h:IB vs ws ns ms):IB (.int a t::vs) (.int c u::ws) (a::ns) (c::ms)
 | bl (p q:Bool) {vs ws:List Value} {ns ms:List Int} (h:IB vs ws ns ms):IB (.bool p::vs) (.bool q::ws) (b2i p::ns) (b2i q::ms)
theorem IB.len{vs ws:List Value}{ns ms:List Int}(h:IB vs ws ns ms):vs.length=ws.length:=by
 induction h with
 | nil=>rfl
 | int _ _ _ _ _ ih=>simp[ih]
 | bl _ _ _ ih=>simp[ih]
end HT
namespace L2
open PySem PySem.Spec PyProof.Rows
section
variable {X:Cx}
def a3_(K:W.Frag):List V→Hp→VK→Prop:=fun xs H Q=>∃p ys,xs=[.ref p]∧((SqL K H p ys∧∀l,H l=none→Q (.ref l) (upd H l (.tup ys)))∨(SqT K H p ys∧Q (.ref p) H))
theorem a08{K:W.Frag}(hK:X.K=K:=by rfl):E3 X (.type "tuple") (a3_ K):=hK▸a1O
end
open PySem.W
section
variable {n:Nat}{lt:Nat→Nat→Bool}
def Prx(n:Nat)(p:Array Nat)(m:Nat):Prop:=(∀i,i<m→ga p i<m)∧∀i,m≤i→i<n→ga p i=i
theorem Prx.up{p:Array Nat}{m k:Nat}(h:Prx n p m)(hk:m≤k)(hn:k≤n):Prx n p k:=by
 refine⟨fun i hi=>?_,fun i h1 h2=>h.2 i (by omega) h2⟩
 by_cases z:i<m
 ·have:=h.1 i z;omega
 ·rw[h.2 i (by omega) (by omega)];exact hi
structure DR(n:Nat)(lt:Nat→Nat→Bool)(p:Array Nat)(k:Nat):Prop where
 pre:Prx n p k
 d1:∀i j,i<j→j<k→lt (ga p i) (ga p j)=false
 d2:∀i j,i<j→j<k→lt (ga p j) (ga p i)=false→ga p j<ga p i
structure DG(n:Nat)(lt:Nat→Nat→Bool)(p:Array Nat)(k q:Nat):Prop where
 pre:Prx n p (k-(q+1))
 d1:∀i j,i<j→j<k→lt (ga p i) (ga p j)=false
 d2:∀i j,i<j→j<k-(q+1)→lt (ga p j) (ga p i)=false→ga p j<ga p i
 d3:∀i,i<k-(q+1)→lt (ga p (k-1)) (ga p i)=true
 d4:∀i,k-(q+1)≤i→i<k→lt (ga p (k-1)) (ga p i)=false
theorem DR.snoc{p:Array Nat}{k:Nat}(T:TPre lt)(d:DR n lt p k)(h:∀i,i<k→lt (ga p k) (ga p i)=true)(hk:k<n):DG n lt p (k+1) 0:=by
 have e:k+1-(0+1)=k:=by omega
 refine⟨by rw[e];exact d.pre,fun i j hij hj=>?_,fun i j hij hj=>by rw[e]at hj;exact d.d2 i j hij hj,fun i hi=>by rw[e]at hi;rw[Nat.add_sub_cancel];exact h i hi,fun i h1 h2=>?_⟩
 ·by_cases z:j<k
  ·exact d.d1 i j hij z
  ·have e:j=k:=by omega
   subst e
   exact T.asy _ _ (h i hij)
 ·have e:i=k:=by omega
  subst e
  rw[Nat.add_sub_cancel];exact T.irr _
theorem DG.one{p:Array Nat}{k:Nat}(T:TPre lt)(d:DG n lt p k 0)(hk1:1≤k)(hk:k≤n):DR n lt p k:=by
 refine⟨d.pre.up (by omega) hk,d.d1,fun i j hij hj z=>?_⟩
 by_cases e:j=k-1
 ·subst e
  rw[d.d3 i (by omega)]at z
  cases z
 ·exact d.d2 i j hij (by omega) z
end
theorem SqL.ext{K:W.Frag}{H1 H2:Hp}{a:Addr}{xs:List V}(h:SqL K H1 a xs)(ex:∀a o,H1 a=some o→H2 a=some o):SqL K H2 a xs:=by
 rcases h with(h | ⟨o,h⟩) | h
 ·exact .inl (.inl (ex _ _ h))
 ·exact .inl (.inr ⟨o,ex _ _ h⟩)
 ·exact .inr h
def Srt(lt:Keyed→Keyed→Bool)(l:List Keyed):Prop:=l.Pairwise fun x y=>lt y x=false
section
variable {lt:Keyed→Keyed→Bool}{aL bL o ra rb u:List Keyed}{x y:Keyed}
theorem Srt.drop{l:List Keyed}(h:Srt lt l)(n:Nat):Srt lt (l.drop n):=List.Pairwise.sublist (List.drop_sublist n l) h
end
def SameG(st st':SortSt):Prop:=kindOf st'=kindOf st∧arrOf st'=arrOf st∧pendingOf st'=pendingOf st∧failedOf st'=failedOf st
theorem SameG.refl(st:SortSt):SameG st st:=⟨rfl,rfl,rfl,rfl⟩
theorem SameG.trans{a b c:SortSt}(h:SameG a b)(g:SameG b c):SameG a c:=⟨g.1.trans h.1,g.2.1.trans h.2.1,g.2.2.1.trans h.2.2.1,g.2.2.2.trans h.2.2.2⟩
section
variable {lt:Keyed→Keyed→Bool}{aL bL o ra rb u:List Keyed}{x y:Keyed}
theorem Srt.left{l m:List Keyed}(h:Srt lt (l++m)):Srt lt l:=(List.pairwise_append.mp h).1
end
section
variable {lt:Keyed→Keyed→Bool}{Dm:Keyed→Prop}{a b out:Array Keyed}{na nb:Nat}{x y:Keyed}
theorem Srt.take{l:List Keyed}(h:Srt lt l)(n:Nat):Srt lt (l.take n):=List.Pairwise.sublist (List.take_sublist n l) h
end
section
variable {prog:Program}{w:World}{A:Around}{E:Value→Shared→Prop}{s:Shared}{κ:SortKind}{lt:Keyed→Keyed→Bool}{Dm:Keyed→Prop}{st:SortSt}
theorem Srt.right{l m:List Keyed}(h:Srt lt (l++m)):Srt lt m:=(List.pairwise_append.mp h).2.1
end
def gk(p:Array Keyed)(k:Nat):Keyed:=p.getD k (Value.none,Value.none)
structure Rst(a0:Array Keyed)(lo hi:Nat)(a:Array Keyed):Prop where
 pm:a.Perm a0
 out:∀x,(x<lo∨hi≤x)→gk a x=gk a0 x
theorem Rst.refl(a:Array Keyed)(lo hi:Nat):Rst a lo hi a:=⟨.refl _,fun _ _=>rfl⟩
theorem Rst.size{a0 a:Array Keyed}{lo hi:Nat}(h:Rst a0 lo hi a):a.size=a0.size:=h.pm.size_eq
def PRun(lt:Keyed→Keyed→Bool):List (Nat×Nat×Nat)→List (List Keyed)→Nat→Prop
 | [],[],_=>True
 | p::ps,S::ss,o=>p.1=o∧p.2.1=S.length∧1≤S.length∧Srt lt S∧PRun lt ps ss (o+S.length)
 | _,_,_=>False
section
variable {lt:Keyed→Keyed→Bool}
theorem PRun.len:∀{pl:List (Nat×Nat×Nat)} {segs:List (List Keyed)} {o:Nat},PRun lt pl segs o→pl.length=segs.length∧pl.length≤segs.flatten.length
 | [],[],_,_=>⟨rfl,Nat.le_refl _⟩
 | p::ps,S::ss,o,h=>by
  obtain⟨_,_,h1,_,h2⟩:=h
  have:=PRun.len h2
  simp only[List.length_cons,List.flatten_cons,List.length_append]
  omega
 | [],_::_,_,h=>h.elim
 | _::_,[],_,h=>h.elim
theorem PRun.snoc:∀{pl:List (Nat×Nat×Nat)} {segs:List (List Keyed)} {o:Nat} {c:Nat×Nat×Nat} {S:List Keyed},PRun lt pl segs o→c.1=o+segs.flatten.length→c.2.1=S.length→1≤S.length→Srt lt S→PRun lt (pl++[c]) (segs++[S]) o
 | [],[],o,c,S,_,h1,h2,h3,h4=>⟨by simpa using h1,h2,h3,h4,trivial⟩
 | p::ps,U::ss,o,c,S,h,h1,h2,h3,h4=>by
  obtain⟨a1,a2,a3,a4,a5⟩:=h
  refine⟨a1,a2,a3,a4,PRun.snoc a5 ?_ h2 h3 h4⟩
  rw[h1];simp only[List.flatten_cons,List.length_append];omega
 | [],_::_,_,_,_,h,_,_,_,_=>h.elim
 | _::_,[],_,_,_,h,_,_,_,_=>h.elim
theorem PRun.split:∀{pl:List (Nat×Nat×Nat)} {segs:List (List Keyed)} {o i:Nat},PRun lt pl segs o→i+1<pl.length→∃p1 a b p2 s1 U V s2,pl=p1++a::b::p2∧p1.length=i∧segs=s1++U::V::s2∧a.1=o+s1.flatten.length∧a.2.1=U.length∧b.1=a.1+U.length∧b.2.1=V.length∧1≤U.length∧1≤V.length∧Srt lt U∧Srt lt V ∧
  ∀(W:List Keyed) (c:Nat×Nat×Nat),W.length=U.length+V.length→Srt lt W→c.1=a.1→c.2.1=W.length→PRun lt (p1++c::p2) (s1++W::s2) o
 | p::q::ps,S::S'::ss,o,0,h,_=>by
  obtain⟨a1,a2,a3,a4,b1,b2,b3,b4,b5⟩:=h
  refine⟨[],p,q,ps,[],S,S',ss,rfl,rfl,rfl,by simpa using a1,a2,by omega,b2,a3,b3,a4,b4,fun W c hW hs h1 h2=>⟨by rw[h1];exact a1,h2,by omega,hs,?_⟩⟩
  rw[hW,← Nat.add_assoc]
  exact b5
 | p::ps,S::ss,o,i+1,h,hi=>by
  obtain⟨a1,a2,a3,a4,a5⟩:=h
  obtain⟨p1,a,b,p2,s1,U,V,s2,e1,e2,e3,e4,e5,e6,e7,e8,e9,e10,e11,e12⟩:=PRun.split a5 (i:=i) (by rw[List.length_cons]at hi;omega)
  refine⟨p::p1,a,b,p2,S::s1,U,V,s2,by rw[e1];rfl,by rw[List.length_cons,e2],by rw[e3];rfl,by rw[e4];simp only[List.flatten_cons,List.length_append];omega,e5,e6,e7,e8,e9,e10,e11,fun W c hW hs h1 h2=>⟨a1,a2,a3,a4,e12 W c hW hs h1 h2⟩⟩
 | [p],[S],o,0,h,hi=>by simp at hi
 | [p],S::S'::ss,o,0,h,hi=>by simp at hi
 | p::q::ps,[S],o,0,h,_=>by obtain⟨_,_,_,_,h⟩:=h;exact h.elim
 | [],[],_,_,_,hi=>by simp at hi
 | [],_::_,_,_,h,_=>h.elim
 | _::_,[],_,_,h,_=>h.elim
end
structure SI(lt:Keyed→Keyed→Bool)(st0 st:SortSt)(lo:Nat)(h9:List Keyed):Prop where
 k:kindOf st=kindOf st0
 f:failedOf st=none
 pm:(arrOf st).Perm (arrOf st0)
 run:∃segs,(arrOf st).toList=segs.flatten++h9∧segs.flatten.length=lo∧PRun lt (pendingOf st).toList segs 0
section
variable {prog:Program}{w:World}{A:Around}{E:Value→Shared→Prop}{s:Shared}{κ:SortKind}{lt:Keyed→Keyed→Bool}{Dm:Keyed→Prop}{st0 st:SortSt}{lo n:Nat}{h9:List Keyed}
theorem SI.push{S:List Keyed}{pw:Nat}(I:SI lt st0 st lo (S++h9))(hn:S.length=n)(h1:1≤n)(hs:Srt lt S):SI lt st0 (setPending st ((pendingOf st).push (lo,n,pw))) (lo+n) h9:=by
 obtain⟨segs,e1,e2,pr⟩:=I.run
 refine⟨I.k,I.f,I.pm,segs++[S],by show(arrOf st).toList=_;rw[e1];simp,by simp only[List.flatten_append,List.flatten_cons,List.flatten_nil,List.length_append,List.length_nil];omega,?_⟩
 show PRun lt ((pendingOf st).push (lo,n,pw)).toList _ 0
 rw[Array.toList_push]
 exact pr.snoc (by show lo=_;omega) (by show n=_;omega) (by omega) hs
end
section
variable {κ:Type} [DecidableEq κ]
def N0(kvs:List (κ×V))(k:κ):Option V:=(kvs.find? fun kv=>decide (kv.1=k)).map (·.2)
def Y4(kvs:List (κ×V))(k:κ)(v:V):List (κ×V) :=
 if(kvs.any fun kv=>decide (kv.1=k))=true then kvs.map (fun kv=>if kv.1=k then(kv.1,v)else kv)else kvs++[(k,v)]
def a6d(kvs:List (κ×V))(k:κ):List (κ×V):=kvs.filter fun kv=>decide (kv.1≠k)
theorem a0q{p:κ×V}{r:List (κ×V)}{k:κ}(e:p.1=k):N0 (p::r) k=some p.2:=by simp[N0,List.find?_cons,e]
theorem a0r{p:κ×V}{r:List (κ×V)}{k:κ}(e:¬p.1=k):N0 (p::r) k=N0 r k:=by simp[N0,List.find?_cons,e]
theorem a17(k:κ):∀kvs:List (κ×V),(kvs.any fun kv=>decide (kv.1=k))=(N0 kvs k).isSome
 | []=>rfl
 | p::r=>by
  rw[List.any_cons]
  by_cases e:p.1=k
  ·simp only[a0q e,decide_eq_true e,Bool.true_or,Option.isSome_some]
  ·rw[a0r e,decide_eq_false e,Bool.false_or];exact a17 k r
theorem RelO.isSome_eq{o:Option V}{u:Option Value}(r:RelO o u):o.isSome=u.isSome:=by
 cases o with
 | none=>cases u with
  | none=>rfl
  | some _=>exact(show False from r).elim
 | some _=>cases u with
  | none=>exact(show False from r).elim
  | some _=>rfl
theorem RelO.getD{o:Option V}{u:Option Value}{d:V}{d':Value}(r:RelO o u)(rd:RelV d d'):RelV (o.getD d) (u.getD d'):=by
 cases o with
 | none=>cases u with
  | none=>exact rd
  | some _=>exact(show False from r).elim
 | some _=>cases u with
  | none=>exact(show False from r).elim
  | some _=>exact r
theorem KV.val{kvs:List (κ×V)}{vs:List (κ×Value)}(r:KV kvs vs)(k:κ):RelO (N0 kvs k) (valueAt vs k):=by
 unfold KV at r
 induction r with
 | nil=>exact True.intro
 | @cons p q ps qs h t ih =>
  obtain⟨h1,h2⟩:=h
  by_cases e:p.1=k
  ·have e':q.1=k:=h1.symm.trans e
   have b:valueAt (q::qs) k=some q.2:=by simp[valueAt,List.find?_cons,e']
   rw[a0q e,b];exact h2
  ·have e':¬q.1=k:=fun z=>e (h1.trans z)
   have b:valueAt (q::qs) k=valueAt qs k:=by simp[valueAt,List.find?_cons,e']
   rw[a0r e,b];exact ih
theorem KV.any{kvs:List (κ×V)}{vs:List (κ×Value)}(r:KV kvs vs)(k:κ):(kvs.any fun kv=>decide (kv.1=k))=vs.any fun kv=>decide (kv.1=k):=by
 unfold KV at r
 induction r with
 | nil=>rfl
 | cons h t ih=>rw[List.any_cons,List.any_cons,ih,h.1]
theorem KV.repl{kvs:List (κ×V)}{vs:List (κ×Value)}(r:KV kvs vs)(k:κ){y:V}{u:Value}(ry:RelV y u) :
  KV (kvs.map fun kv=>if kv.1=k then(kv.1,y)else kv) (vs.map fun kv=>if kv.1=k then(kv.1,u)else kv):=by
 unfold KV at r ⊢
 induction r with
 | nil=>exact .nil
 | @cons p q ps qs h t ih =>
  rw[List.map_cons,List.map_cons]
  refine .cons ?_ ih
  obtain⟨h1,h2⟩:=h
  by_cases e:p.1=k
  ·rw[if_pos e,if_pos (h1.symm.trans e)];exact⟨h1,ry⟩
  ·rw[if_neg e,if_neg (fun z=>e (h1.trans z))];exact⟨h1,h2⟩
theorem KV.put{kvs:List (κ×V)}{vs:List (κ×Value)}(r:KV kvs vs)(k:κ){y:V}{u:Value}(ry:RelV y u):KV (Y4 kvs k y) (stored vs k u):=by
 unfold Y4 stored
 rw[r.any k]
 by_cases e:(vs.any fun kv=>decide (kv.1=k))=true
 ·rw[if_pos e,if_pos e];exact r.repl k ry
 ·rw[if_neg e,if_neg e];exact Paired.snoc r ⟨rfl,ry⟩
theorem KV.drop{kvs:List (κ×V)}{vs:List (κ×Value)}(r:KV kvs vs)(k:κ):KV (a6d kvs k) (without vs k):=by
 unfold KV at r ⊢
 unfold a6d without
 induction r with
 | nil=>exact .nil
 | @cons p q ps qs h t ih =>
  obtain⟨h1,h2⟩:=h
  rw[List.filter_cons,List.filter_cons]
  by_cases e:p.1=k
  ·have a:¬decide (p.1≠k)=true:=by simp[e]
   have b:¬decide (q.1≠k)=true:=by simp[h1.symm.trans e]
   rw[if_neg a,if_neg b];exact ih
  ·have e':¬q.1=k:=fun z=>e (h1.trans z)
   have a:decide (p.1≠k)=true:=by simp[e]
   have b:decide (q.1≠k)=true:=by simp[e']
   rw[if_pos a,if_pos b];exact .cons ⟨h1,h2⟩ ih
theorem KV.keys{kvs:List (κ×V)}{vs:List (κ×Value)}(r:KV kvs vs):kvs.map (·.1)=vs.map (·.1):=by
 unfold KV at r
 induction r with
 | nil=>rfl
 | cons h t ih=>rw[List.map_cons,List.map_cons,ih,h.1]
theorem KV.length{kvs:List (κ×V)}{vs:List (κ×Value)}(r:KV kvs vs):kvs.length=vs.length:=Paired.length r
end
abbrev KT(H:Hp):List (List u7×V)→List (List u7×Addr×Value)→Prop:=Paired fun p q=>p.1=q.1∧H q.2.1=some (.tup (p.1.map kV))∧RelV p.2 q.2.2
theorem KT.val{H:Hp}{kvs:List (List u7×V)}{xs:List (List u7×Addr×Value)}(r:KT H kvs xs)(k:List u7):RelO (N0 kvs k) ((atKey xs k).map (·.2)):=by
 induction r with
 | nil=>exact True.intro
 | @cons p q ps qs h t ih =>
  obtain⟨h1,_,h2⟩:=h
  by_cases e:p.1=k
  ·have e':q.1=k:=h1.symm.trans e
   have b:atKey (q::qs) k=some q.2:=by simp[atKey,List.find?_cons,e']
   rw[a0q e,b];exact h2
  ·have e':¬q.1=k:=fun z=>e (h1.trans z)
   have b:atKey (q::qs) k=atKey qs k:=by simp[atKey,List.find?_cons,e']
   rw[a0r e,b];exact ih
theorem KT.repl{H:Hp}{kvs:List (List u7×V)}{xs:List (List u7×Addr×Value)}(r:KT H kvs xs)(k:List u7){y:V}{u:Value}(ry:RelV y u) :
  KT H (kvs.map fun kv=>if kv.1=k then(kv.1,y)else kv) (xs.map (putAt k u)):=by
 induction r with
 | nil=>exact .nil
 | @cons p q ps qs h t ih =>
  rw[List.map_cons,List.map_cons]
  refine .cons ?_ ih
  obtain⟨h1,h2,h3⟩:=h
  unfold putAt
  by_cases e:p.1=k
  ·rw[if_pos e,if_pos (h1.symm.trans e)];exact⟨h1,h2,ry⟩
  ·rw[if_neg e,if_neg (fun z=>e (h1.trans z))];exact⟨h1,h2,h3⟩
theorem KT.put{H:Hp}{kvs:List (List u7×V)}{xs:List (List u7×Addr×Value)}(r:KT H kvs xs)(k:List u7){b:Addr}{y:V}{u:Value}(hb:H b=some (.tup (k.map kV)))(ry:RelV y u) :
  KT H (Y4 kvs k y) (storedH xs k b u):=by
 have e:(kvs.any fun kv=>decide (kv.1=k))=(atKey xs k).isSome:=by
  rw[a17,(r.val k).isSome_eq,Option.isSome_map]
 unfold Y4 storedH
 rw[e]
 by_cases q:(atKey xs k).isSome=true
 ·rw[if_pos q,if_pos q];exact r.repl k ry
 ·rw[if_neg q,if_neg q];exact Paired.snoc r ⟨rfl,hb,ry⟩
theorem KT.keeps{H H':Hp}{kvs:List (List u7×V)}{xs:List (List u7×Addr×Value)}(r:KT H kvs xs)(ht:∀b ys,H b=some (.tup ys)→H' b=some (.tup ys)):KT H' kvs xs :=
 Paired.mapP r fun _ _ z=>⟨z.1,ht _ _ z.2.1,z.2.2⟩
def DGet(H:Hp)(a:Addr)(y:V)(r:Option V):Prop :=
 (∃kvs k,Rd H a (.dK kvs)∧y=kV k∧r=N0 kvs k)∨∃kvs k b,Rd H a (.dT kvs)∧y=.ref b∧H b=some (.tup (k.map kV))∧r=N0 kvs k
def DPut(H:Hp)(a:Addr)(y v:V)(H':Hp):Prop :=
 (∃kvs k,H a=some (.dK kvs)∧y=kV k∧kvs.length<sizeLine∧H'=upd H a (.dK (Y4 kvs k v))) ∨
 ∃kvs k b,H a=some (.dT kvs)∧y=.ref b∧H b=some (.tup (k.map kV))∧kvs.length<sizeLine∧H'=upd H a (.dT (Y4 kvs k v))
theorem DGet.k{H:Hp}{a:Addr}{kvs:List (u7×V)}{k:u7}(e:H a=some (.dK kvs)):DGet H a (kV k) (N0 kvs k):=.inl ⟨kvs,k,.inl e,rfl,rfl⟩
theorem DGet.t{H:Hp}{a b:Addr}{kvs:List (List u7×V)}{k:List u7}(e:H a=some (.dT kvs))(eb:H b=some (.tup (k.map kV))):DGet H a (.ref b) (N0 kvs k):=.inr ⟨kvs,k,b,.inl e,rfl,eb,rfl⟩
theorem DPut.k{H:Hp}{a:Addr}{kvs:List (u7×V)}{k:u7}{v:V}(e:H a=some (.dK kvs))(hl:kvs.length<sizeLine):DPut H a (kV k) v (upd H a (.dK (Y4 kvs k v))):=.inl ⟨kvs,k,e,rfl,hl,rfl⟩
theorem DPut.t{H:Hp}{a b:Addr}{kvs:List (List u7×V)}{k:List u7}{v:V}(e:H a=some (.dT kvs))(eb:H b=some (.tup (k.map kV)))(hl:kvs.length<sizeLine) :
  DPut H a (.ref b) v (upd H a (.dT (Y4 kvs k v))):=.inr ⟨kvs,k,b,e,rfl,eb,hl,rfl⟩
end L2
namespace PySem.W
open PySem PySem.Spec PySem.Calls PyProof.Rows
def onlyVE:List Value→Bool
 | .ref _::r=>onlyVE r
 | l=>l == L2.vErr
theorem a1x(self:Value):∀l:List Value,onlyVE l=true→refuseLoop self "__setattr__" l=pure ()
 | [],e=>by cases (show([] == L2.vErr)=true from e)
 | y::r,e=>by
  unfold onlyVE at e
  split at e
  ·rename_i c r' q
   cases q
   rw[refuseLoop_ref]
   exact a1x self _ e
  ·rw[beq_iff_eq.mp e]
   exact PySem.F.store_ValueError.passes self
structure ExcS(K:Frag)(C:Addr)(f:Str):Prop where
 sa:findIn K (.ref C) "__setattr__" = some (some (.builtin "object.__setattr__"))
 mr:((clsIn K C).any fun cd=>onlyVE cd.mro)=true
 mo:mroIn K C (.type "object")=some true
 hd:hasDictIn K C=true
 na:findIn K (.ref C) f=some none
section
variable {prog:Program}{w:World}{A:Around}{E:Value→Shared→Prop}{s:Shared}{K:Frag}{x C:Addr}{o:Obj}{vs:Array Value}{f:Str}{v:Value}
theorem a6M{tk:Tok}{R:Result→Shared→Prop}(X:K.In s.heap)(T:ExcS K C f)(hx:s.heap.get? x=some o)(hc:o.cls=.ref C)(hd:o.dict=none)(hf:o.data=.fields vs)
  (q:∀h' tk',h'.get? x=some { o with dict:=some s.heap.objs.size }→h'.Ns1 s.heap.objs.size (fun y=>if y=f then some v else none)→(∀b ob,b≠x→s.heap.get? b=some ob→h'.get? b=some ob)→R (.ok (.ret .none)) { s with heap:=h',toks:=tk' }) :
  codeAny (model prog w) A (.call (.builtin "object.__setattr__") ⟨[.ref x,.str f tk,v],[]⟩) R s:=by
 obtain⟨cd,hcd,ho⟩:=any_some T.mr
 obtain⟨cd',hcd',hhd⟩:=any_some T.hd
 rw[hcd]at hcd';cases hcd'
 have LT:Looks (model prog w) s.heap (typeOf (.ref x)) (.ref C):=hc▸(Looks.ld hx).andThen .now
 have SF:=PySem.F.store_object
 have sub:Looks (model prog w) s.heap (isInstance (.ref x) (.type "object")) true:=LT.andThen (looks_mroIn X T.mo)
 have hm:Looks (model prog w) s.heap (mroOf (.ref C)) cd.mro:=(looks_clsIn X hcd).andThen .now
 refine codeAny_call_builtin SF.slot.plain SF.entry (@check_slot (model prog w) _ _ s "object.__setattr__" "object" "__setattr__" (.ref x) [.str f tk,v] [] _ SF.kind SF.split sub (SF.args (.ref x) (.str f tk) v) ?_)
 show wpAny _ _ (Builtin.«object.__setattr__» ⟨[.ref x,.str f tk,v],[]⟩) _ _ _
 rw[osa_eq,refuse_eq]
 refine wpAny_bind (wpAny_bind (LT.here (wpAny_bind (hm.here ?_))))
 rw[a1x _ _ ho]
 refine wpAny_pure (wpAny_bind (LT.here (wpAny_bind ((looks_findIn X T.na).here (wpAny_bind (wpAny_pure ?_))))))
 show wpAny _ _ (Builtin.ObjectAttr.storeInOwnDict (.ref x) (.ref C) (.str f tk) f v false) _ _ _
 refine wpAny_bind (wpAny_pure (wpAny_bind ?_))
 unfold Builtin.ObjectAttr.ownDictForStores instanceDict
 refine wpAny_bind (wpAny_loadPart hx ?_)
 rw[hc]
 refine wpAny_bind ((looks_clsIn X hcd).here ?_)
 rw[if_neg (by rw[hhd];decide)]
 dsimp only
 rw[hd]
 dsimp only
 rw[if_neg (by simp[typeHasDict]),hf]
 dsimp only
 have hx₁:(s.heap.push { cls:=.type "dict",data:=.dict #[] }).get? x=some o:=Heap.get?_push_of_some _ hx
 have hxs:x≠s.heap.objs.size:=Nat.ne_of_lt (Heap.lt_size hx)
 refine wpAny_bind (wpAny_alloc' ?_)
 refine wpAny_bind (wpAny_update' hx₁ ?_)
 refine wpAny_pure ?_
 have hgd:((s.heap.push { cls:=.type "dict",data:=.dict #[] }).update x fun o=>{ cls:=o.cls,dict:=some s.heap.objs.size,data:=o.data,slots:=o.slots }).get? s.heap.objs.size
   = some { cls:=.type "dict",data:=.dict #[] } :=
  (Heap.get?_update_ne _ _ _ _ hxs.symm).trans (Heap.get?_push_at rfl rfl)
 have hnd:((s.heap.push { cls:=.type "dict",data:=.dict #[] }).update x fun o=>{ cls:=o.cls,dict:=some s.heap.objs.size,data:=o.data,slots:=o.slots }).Ns s.heap.objs.size (fun _=>none) :=
  ⟨_,#[],_,hgd,rfl,fun e he=>absurd he (by simp),fun _=>rfl⟩
 show wpAny _ _ (Builtin.ObjectAttr.storeInDict s.heap.objs.size (.str f tk) f v) _ _ _
 unfold Builtin.ObjectAttr.storeInDict Builtin.ObjectAttr.newKeyGuard
 refine wpAny_bind (wpAny_pure (wpAny_bind (wpAny_nsSet1 (Heap.Ns1.of_empty hnd) fun h' hn' hs=>?_)))
 obtain⟨oD,esD,epD,hoD,hdD,hcD⟩:=hn'.count (Within.cons f v Within.nil)
 refine wpAny_bind (wpAny_lookBehind hoD (by rw[hdD];exact pastItsLine_dict (Nat.le_trans hcD (by rw[List.length_cons,List.length_nil,sizeLine_eq];omega))) ?_)
 refine wpAny_pure (q h' _ ?_ hn' fun b ob hb e=>?_)
 ·refine(hs.2 x hxs).trans (Heap.get?_update_self _ hx₁ ?_)
  rw[show({ cls:=o.cls,dict:=some s.heap.objs.size,data:=o.data,slots:=o.slots }:Obj).isFreed=false from Obj.isFreed_of_fields hf]
 ·exact(hs.2 b (Nat.ne_of_lt (Heap.lt_size e))).trans ((Heap.get?_update_ne _ _ _ _ hb).trans (Heap.get?_push_of_some _ e))
theorem exc_setattr{Q:Unit→Shared→Prop}(X:K.In s.heap)(T:ExcS K C f)(hx:s.heap.get? x=some o)(hc:o.cls=.ref C)(hd:o.dict=none)(hf:o.data=.fields vs)
  (q:∀h' tk',h'.get? x=some { o with dict:=some s.heap.objs.size }→h'.Ns1 s.heap.objs.size (fun y=>if y=f then some v else none)→(∀b ob,b≠x→s.heap.get? b=some ob→h'.get? b=some ob)→Q () { s with heap:=h',toks:=tk' }) :
  wpAny (model prog w) A (setAttr (.ref x) f v) Q E s:=by
 have I:InstAt s.heap x o C none:=⟨hx,hc,by unfold notCls;rw[hf],by rw[hd];trivial⟩
 exact set_plain X I T.sa (a6M (s:={ s with toks:=s.toks+1 }) X T hx hc hd hf q)
end
end PySem.W
namespace PySem.W
open PySem PySem.Spec PySem.Calls PyProof.Rows
section
variable {prog:Program}{w:World}{A:Around}{E:Value→Shared→Prop}{h:Heap}{g:Array GenState}{d:Drawn}{t:Nat}{os:OsState}{K:Frag}
variable {nm q:Str}{C N:Addr}{bs bm bmB:List Value}{hdct:Bool}{sn:List Str}{sub:List Value}{ab:Bool}{col:Option Bool}{dd:Option Addr}{k0 k1 k2 k3 k5:Option Value}{B newId initId:String}
abbrev a09(C tu:Addr):Obj:={ cls:=.ref C,data:=.fields #[.ref tu,.none,.none,.none,.bool false,.none] }
theorem a0_(X:K.In h)(F:ExcBaseFacts B newId initId bmB)(T:OwnTail h bmB bm){h9:List Value}{fI:Addr}{Q:Fin→Shared→Prop}
  (hC:h.get? C=some (excClassObj nm q C N bs bm hdct sn sub ab col dd k0 k1 k2 k3 k5 newId)) (hi:findIn K (.ref C) "__init__" = some (some (.ref fI))) (hf:typeIn K (.ref fI)=some (.type "function"))
  (hq:∀h' e,Heap.MadeExcOf h h' e (.ref C) h9→h.objs.size≤e→wpAny (model prog w) A (call (.ref fI) (.ref e::h9)) (fun r s'=>r=.none∧Q (.done (.ret (.ref e))) s') E ⟨h',g,d,t,os⟩) (hrest:h9.length≤sizeLine) :
  wpAny (model prog w) A (Builtin.«type.__call__» ⟨.ref C::h9,[]⟩) Q E ⟨h,g,d,t,os⟩:=by
 repeat (first | with_reducible refine wpAny_loadPart_at hC ?_ | with_reducible refine wpAny_madeBy_exc hC ?_ | wp_step)
 refine codeAny_call_builtin_code (Code.quiet_builtin _ F.quiet) (wpAny_check_new_subT F T hC ?_)
 refine codeAny_exc_new_subT F T hC ?_ hrest
 show wpAny _ _ _ _ _ _
 have kp:∀b o,h.get? b=some o→((h.push { cls:=.type "tuple",data:=.seq h9.toArray }).push (a09 C h.objs.size)).get? b=some o:=fun b o e=>Heap.get?_push_of_some _ (Heap.get?_push_of_some _ e)
 have hC₁:=kp _ _ hC
 have X₁:=X.keeps kp
 have hget:((h.push { cls:=.type "tuple",data:=.seq h9.toArray }).push (a09 C h.objs.size)).get? (h.objs.size+1)=some (a09 C h.objs.size):=by heap_get
 have hcC:(Value.ref C::bm).contains (.ref C)=true:=by simp
 unfold isInstance
 repeat (first | with_reducible refine wpAny_loadPart_at hget ?_ | (with_reducible refine wpAny_isSubtype_exc hC₁ ?_;rw[hcC]) | wp_step)
 show wpAny _ _ (typeLookup (.ref C) _) _ _ _
 refine Looks.here (s:=⟨_,g,d,t,os⟩) (looks_findIn X₁ hi) ?_
 refine wpAny_holding (wpAny_bind (Looks.here (s:=⟨_,g,d,t,os⟩) (bind_fn X₁ _ hf) ?_))
 refine wpAny_bind (wpAny_mono (hq _ (h.objs.size+1) ⟨kp,Heap.get?_none_of_le (Nat.le_succ _),h.objs.size,hget,Heap.get?_none_of_le (Nat.le_refl _),?_⟩ (Nat.le_succ _)) (fun r s' hr=>?_) fun _ _ x=>x)
 ·exact Heap.get?_push_of_some _ (Heap.get?_push_at rfl rfl)
 ·obtain⟨rfl,hQ⟩:=hr
  wp_walk
  exact hQ
theorem call_excI(X:K.In h)(F:ExcBaseFacts B newId initId bmB)(T:OwnTail h bmB bm){h9:List Value}{fI:Addr}{Q:Value→Shared→Prop}
  (hC:h.get? C=some (excClassObj nm q C N bs bm hdct sn sub ab col dd k0 k1 k2 k3 k5 newId)) (hi:findIn K (.ref C) "__init__" = some (some (.ref fI))) (hf:typeIn K (.ref fI)=some (.type "function"))
  (hq:∀h' e,Heap.MadeExcOf h h' e (.ref C) h9→h.objs.size≤e→wpAny (model prog w) (A.under (.builtin "type.__call__" ⟨.ref C::h9,[]⟩)) (call (.ref fI) (.ref e::h9)) (fun r s'=>r=.none∧Q (.ref e) s') E ⟨h',g,d,t,os⟩) (hrest:h9.length≤sizeLine) :
  wpAny (model prog w) A (call (.ref C) h9) Q E ⟨h,g,d,t,os⟩:=by
 have f1:=tc_lookup
 have f2:=tc_bind (.ref C)
 have hT:(⟨h,g,d,t,os⟩:Shared).TypeIs (.ref C) "type" := ⟨_,hC,rfl⟩
 refine wpAny_call (codeAny_of_tree ?_)
 show wpAny _ _ (callAny (.ref C) _) _ _ _
 repeat (any_goals (first | assumption | with_reducible refine wpAny_loadPart_at hC ?_ | wp_step))
 refine⟨rfl,?_⟩
 exact codeAny_call_builtin_at (Code.quiet_builtin _ (by decide +kernel)) entry_typeCall (wpAny_check_type_call_sub hC (a0_ X F T hC hi hf (fun h' e hm he=>hq h' e hm he) hrest))
theorem raise_madeI{M:Model}{env:Env}{s:Shared}{x:Sem Value}{Q:Flow→Shared→Prop}(hbase:bm.contains (.type "BaseException")=true)(hh:A.handled=none)
  (hx:wpAny M A x (fun v s₁=>∃e oe,v=.ref e∧s₁.heap.get? C=some (excClassObj nm q C N bs bm hdct sn sub ab col dd k0 k1 k2 k3 k5 newId)∧s₁.heap.get? e=some oe∧oe.cls=.ref C∧(∃tu,oe.data=.fields #[.ref tu,.none,.none,.none,.bool false,.none])∧E (.ref e) s₁) E s) :
  wpAny M A (raiseStmt env (some x) none) Q E s:=by
 have hcB:(Value.ref C::bm).contains (.type "BaseException")=true:=by rw[List.contains_cons,hbase,Bool.or_true]
 unfold raiseStmt
 refine wpAny_bind (wpAny_mono hx (fun v s₁ h₁=>?_) fun _ _ x=>x)
 obtain⟨e,oe,rfl,hC,he,hc,⟨tu,hdt⟩,hE⟩:=h₁
 obtain⟨oc,od,odt,osl⟩:=oe
 dsimp only at hc hdt
 subst hc hdt
 obtain⟨hp,g,d,tk,os⟩:=s₁
 repeat (first | with_reducible refine wpAny_loadPart_at he ?_ | with_reducible refine wpAny_loadPart_at hC ?_ | (with_reducible refine wpAny_isSubtype_exc hC ?_;rw[hcB]) | wp_step)
 exact wpAny_raiseNew_none hh hE
end
end PySem.W
namespace L2
open PySem PySem.Spec PyProof.Rows
def G3(a C:Addr)(od:Option Addr):HO:=.ext fun h=>∃o tu,h.get? a=some o∧o.cls=.ref C∧o.dict=od∧o.data=.fields #[.ref tu,.none,.none,.none,.bool false,.none]
section
variable {X:Cx}{pins:List (Addr×Obj)}{σ:St}{H:Hp}{s:Shared}{a C:Addr}{f:Str}
theorem a2X{P:Program}{w:World}{H:Hp}{h:Heap}{o:Obj}{tu:Addr}{od:Option Addr}(e:h.get? a=some o)(hc:o.cls=.ref C)(hd:o.dict=od)(hf:o.data=.fields #[.ref tu,.none,.none,.none,.bool false,.none]):ObjOk P w H h a (G3 a C od) :=
 ⟨⟨o,tu,e,hc,hd,hf⟩,⟨o,e⟩,fun h1 h2 ⟨o1,t1,z1,z2,z3,z4⟩ k=>⟨o1,t1,k o1 z1,z2,z3,z4⟩⟩
theorem a6N{y:V}{u:Value}{A:Around}{E:Value→Shared→Prop}{Q:Unit→Shared→Prop}(I:Inv X pins σ H s)(e:H a=some (G3 a C none))(T:W.ExcS X.K C f)(ry:RelV y u)
  (h:∀dx s',H dx=none→dx≠a→Inv X pins σ (upd (upd H a (G3 a C (some dx))) dx (.xd [(f,y)])) s'→Q () s'):wpAny (model X.prog X.w) A (setAttr (.ref a) f u) Q E s:=by
 obtain⟨⟨o,tu,hx,hc,hd,hf⟩,_⟩:=(show ObjOk X.prog X.w H s.heap a (G3 a C none)from I.hok a _ e)
 refine W.exc_setattr I.kIn T hx hc hd hf fun h' tk' g1 g2 g3=>?_
 have ns:s.heap.objs.size≠a:=fun z=>absurd (Heap.lt_size hx) (by rw[z];exact Nat.lt_irrefl _)
 refine h s.heap.objs.size _ (I.hok.fresh (Nat.le_refl _)) ns ?_
 have hfr:({ o with dict:=some s.heap.objs.size }:Obj).isFreed=false:=Obj.isFreed_of_fields hf
 have u1:=Heap.get?_update_self (h:=s.heap) (fun o=>{ o with dict:=some s.heap.objs.size }) hx hfr
 have far:∀b,b≠a→(s.heap.update a fun o=>{ o with dict:=some s.heap.objs.size }).get? b=s.heap.get? b:=fun b n=>Heap.get?_update_other _ _ (Ne.symm n)
 have I1:Inv X pins σ (upd H a (G3 a C (some s.heap.objs.size))) { s with heap:=s.heap.update a fun o=>{ o with dict:=some s.heap.objs.size } } :=
  I.write (x:=a) (e:=a) (t':=s.toks) (by rw[e];exact True.intro) (.inl rfl) (fun b q hb z=>(far b hb).trans z) ⟨_,u1⟩ (a2X u1 hc rfl hf)
 refine I1.laid (a:=s.heap.objs.size) (t':=tk') (fun b q z=>?_) ?_ ⟨_,g2,fun g=>?_⟩
 ·by_cases hb:b=a
  ·subst hb;rw[u1]at z;cases z;exact g1
  ·rw[far b hb]at z;exact g3 b q hb z
 ·exact Nat.le_of_eq (by simp[Heap.update])
 ·show RelO ([(f,y)].lookup g) (if g=f then some u else none)
  by_cases z:g=f
  ·subst z
   rw[if_pos rfl,List.lookup_cons,beq_self_eq_true]
   exact ry
  ·rw[if_neg z,List.lookup_cons,beq_false_of_ne z]
   exact True.intro
def sXF(K:W.Frag)(ta tv:TE)(f:Str):TS:=fun D σ H=>tv σ H fun y H1=>ta σ H1 fun x H2=>∃a C,x=.ref a∧H2 a=some (G3 a C none)∧W.ExcS K C f∧∀dx,H2 dx=none→dx≠a→D.nx σ (upd (upd H2 a (G3 a C (some dx))) dx (.xd [(f,y)]))
theorem a9e{o value:Expr}{pos pos':Pos}{ta tv:TE}(ha:PE X o ta)(hv:PE X value tv)(hs:swapsWith value (some (.Attribute o f pos')) pos.line X.env=pure false):PS X (.Assign [.Attribute o f pos'] value pos) (sXF X.K ta tv f):=by
 intro pins s σ H D I h
 refine plainObj_wpAny_Assign_Attribute (i6 (hv pins s σ H _ I h) fun u s1 ⟨y,H1,I1,ry,q⟩=>i6 (ha pins s1 σ H1 _ I1 q) fun ov s2 ⟨x,H2,I2,rx,a,C,ex,ea,T,q2⟩=>?_) hs
 subst ex
 obtain rfl:ov=Value.ref a:=rx
 exact a6N I2 ea T ry fun dx s3 n1 n2 I3=>⟨σ,_,I3,q2 dx n1 n2⟩
def V2(H:Hp)(a:Addr):Hp:=fun b=>if b=a then none else H b
theorem Inv.untrack{φ:Heap→Prop}(I:Inv X pins σ H s)(e:H a=some (.ext φ)):Inv X pins σ (V2 H a) s:=by
 have ne:∀{b:Addr} {o:HO},H b=some o→(∀ψ,o≠.ext ψ)→V2 H a b=some o:=fun{b o} q n=>by
  unfold V2
  rw[if_neg (fun z=>by rw[z,e]at q;cases q;exact n φ rfl)]
  exact q
 have none':∀{b:Addr},H b=none→V2 H a b=none:=fun{b} q=>by unfold V2;split<;>first | rfl | exact q
 refine⟨I.ok,I.os,I.bare,⟨I.base.keep,I.base.slot,fun b o e1 n hx=>none' (I.base.free b o e1 n hx),I.base.there,fun b xs q=>ne (I.base.tups b xs q) (fun _ z=>nomatch z),fun b o u q=>ne (I.base.frzs b o u q) (fun _ z=>nomatch z),fun b ps q=>?_⟩,I.loc,I.cell,none' I.free,fun y c q=>none' (I.freeC y c q),fun p hp=>?_,fun b u q=>?_,I.len⟩
 ·obtain⟨more,q1⟩:=I.base.tbls b ps q
  exact⟨more,ne q1 (fun _ z=>nomatch z)⟩
 ·obtain⟨h1,h2,h3,h4,h5⟩:=I.pin p hp
  exact⟨h1,none' h2,h3,h4,h5⟩
 ·have q1:H b=some u:=by
   unfold V2 at q
   split at q
   ·cases q
   ·exact q
  exact(I.hok b u q1).stay (fun _ _ _ z=>z) (fun c z=>ne z (fun _ z=>nomatch z)) (fun c xs z=>ne z (fun _ z=>nomatch z)) fun c ob u z=>ne z (fun _ z=>nomatch z)
end
def a0I(K:W.Frag)(C:Addr):Bool:=match K.lookup C with
 | some ⟨.type "type",_,.cls cd,sl⟩=>(match cd.mro,sl.toList with
  | .ref C'::bm,[_,_,_,_,some (.builtin n),_]=>C' == C && n == "ValueError.__new__" && !cd.hasDel && W.tailIn K vErr bm
  | _,_=>false)
 | _=>false
theorem a5d{K:W.Frag}{h₀:Heap}{C:Addr}(KX:K.In h₀)(q:a0I K C=true) :
  ∃bm N nm q bs hdct sn sub ab col dd k0 k1 k2 k3 k5,h₀.get? C=some (excClassObj nm q C N bs bm hdct sn sub ab col dd k0 k1 k2 k3 k5 "ValueError.__new__")∧OwnTail h₀ vErr bm:=by
 unfold a0I at q
 split at q
 ·rename_i dd cd sl ho
  split at q
  ·rename_i C' bm k0 k1 k2 k3 n k5 hm hs
   simp only[Bool.and_eq_true,beq_iff_eq,Bool.not_eq_true']at q
   obtain⟨⟨⟨rfl,rfl⟩,hdel⟩,ht⟩:=q
   obtain⟨nm,bs,mro,ns,qn,hd,sn,sub,ab,col,V2⟩:=cd
   dsimp only at hm hdel
   subst hm hdel
   have hsl:sl = #[k0,k1,k2,k3,some (.builtin "ValueError.__new__"),k5]:=by
    obtain⟨l⟩:=sl
    simp only at hs
    rw[hs]
   subst hsl
   exact⟨bm,ns,nm,qn,bs,hd,sn,sub,ab,col,dd,k0,k1,k2,k3,k5,KX _ _ ho,W.tail_of_in KX ht⟩
  ·cases q
 ·cases q
def a1a(C:Addr)(f:Str):Sp:=fun vs H Q _=>∃a v,vs=[.ref a,v]∧H a=some (G3 a C none)∧∀dx,H dx=none→dx≠a→Q .non (upd (upd H a (G3 a C (some dx))) dx (.xd [(f,v)]))
structure MkX(K:W.Frag)(C fI:Addr):Prop where
 obj:a0I K C=true
 init:W.findIn K (.ref C) "__init__" = some (some (.ref fI))
 fn:W.typeIn K (.ref fI)=some (.type "function")
section
variable {X:Cx}{E:XK}{k:Nat}
def a1b(C:Addr)(f:Str)(E:XK)(ta:TA):TS:=fun _ σ H=>ta σ H fun vs H1=>∃v,vs=[v]∧∀dx,H1 dx=none→E (.ref C) (some (2*dx+1)) (upd H1 dx (.xd [(f,v)]))
theorem a4a{x f:Str}{C fI:Addr}{fd:FuncData}{ps:List Str}{e₀:Expr}{h9:List Expr}{np cpos pos:Pos}{ta:TA}(acc:XAcc X E)(M:MkX X.K C fI)(F:FnOk X.prog X.w X.K X.mg X.base (w6 X.prog X.w) k fI fd ps (a1a C f))(hr:Room (k+1) X.A)(hb:Binds X.K fd ps [])
  (hg:Gl X x) (hm:X.mg x=some (.ref C)) (ha:PA X (e₀::h9) ta)
  (hc:X.calm=true:=by rfl) (hex:X.ex=[]:=by rfl)
  (he:starEach (e₀::h9) X.env=(false,eval e₀ X.env)::starEach h9 X.env:=by rfl) (hplain:(backTo cpos (starEach h9 X.env)).any (·.1)=false:=by rfl) (hd:(x == ("__debug__" : Str))=false:=by decide) :
  PS X (.Raise (some (.Call (.Name x np) (e₀::h9) [] cpos)) none pos) (a1b C f E ta):=by
 intro pins s σ H D I h
 obtain⟨tl,N,nm,qn,bs,hdct,sn,sub,ab,col,dd,k0,k1,k2,k3,k5,hC,T⟩:=a5d I.mod.kin M.obj
 have hp:=ha cpos pins s σ H _ I h
 rw[he]at hp
 have pl:(backTo cpos (starEach (e₀::h9) X.env)).any (·.1)=false:=by rw[he];show(false || (backTo cpos (starEach h9 X.env)).any (·.1))=false;rw[hplain];rfl
 rw[arm_exec_Raise]
 simp only[evalOpt,Option.map]
 refine wpAny_bind (wpAny_standAt (W.raise_madeI (C:=C) (nm:=nm) (q:=qn) (N:=N) (bs:=bs) (bm:=tl) (hdct:=hdct) (sn:=sn) (sub:=sub) (ab:=ab) (col:=col) (dd:=dd) (k0:=k0) (k1:=k1) (k2:=k2) (k3:=k3) (k5:=k5) (newId := "ValueError.__new__") (T.hasType PySem.F.excBase_ValueError.hasBase) (I.ok.hd hc) ?_))
 refine wpAny_bind (wpAny_mono (wpAny_Call_ofName (wpAny_mono (O2 I hg hm (Q:=fun f s1=>f=.ref C∧s1=s) ⟨rfl,rfl⟩ hd) (fun f s1 h1=>?_) fun _ _ x=>x)) (fun v s3 h3=>wpAny_bind (wpAny_standAt (wpAny_pure h3))) fun _ _ x=>x)
 obtain⟨rfl,rfl⟩:=h1
 unfold callWith
 refine wpAny_bind (wpAny_holding (wpAny_mono (Q:=fun us s2=>∃v H2,us.kw=[]∧Inv X pins σ H2 s2∧Vals [v] us.pos∧∀dx,H2 dx=none→E (.ref C) (some (2*dx+1)) (upd H2 dx (.xd [(f,v)]))) ?_ (fun us s2 h2=>wpAny_bind (wpAny_standAt ?_)) fun _ _ x=>x))
 ·rw[he]
  exact Calls.evalArgs_plain (i6 hp fun us s2 ⟨vs,H2,I2,rv,v,ev,hE⟩=>⟨v,H2,rfl,I2,by rw[← ev];exact rv,hE⟩)
 obtain⟨upos,ukw⟩:=us
 obtain⟨v,H2,ekw,I2,rv,hE⟩:=h2
 obtain rfl:ukw=[]:=ekw
 have C2:=I2.bk _ _ hC
 have T2:=T.keeps I2.bk
 have hlen:upos.length≤sizeLine:=by rw[← rv.length,sizeLine_eq];show 1≤_;omega
 have K2:=I2.kIn
 obtain⟨hp2,g2,d2,tk2,os2⟩:=s2
 simp only[pl]
 refine wpAny_bind (wpAny_keeperOf_exc C2 ?_)
 refine wpAny_bind (W.call_excI (K:=X.K) K2 PySem.F.excBase_ValueError T2 C2 M.init M.fn (fun h' e m me=>?_) hlen)
 obtain⟨tu,ht,_,_⟩:=m.there
 have fe:H2 e=none:=I2.hok.fresh me
 have I3:Inv X pins σ (upd H2 e (G3 e C none)) ⟨h',g2,d2,tk2,os2⟩:=I2.laid (a:=e) (t':=tk2) m.keeps me (a2X ht rfl rfl rfl)
 have sp3:a1a C f [.ref e,v] (upd H2 e (G3 e C none)) (fun r H'=>r=.non∧∃dx,H2 dx=none∧dx≠e∧H'=upd (upd (upd H2 e (G3 e C none)) e (G3 e C (some dx))) dx (.xd [(f,v)])) E :=
  ⟨e,v,rfl,g9,fun dx n1 n2=>⟨rfl,dx,by rw[b9 n2]at n1;exact n1,n2,rfl⟩⟩
 have r3:Vals [V.ref e,v] (Value.ref e::upos):=.cons rfl rv
 have hl:(Value.ref e::upos++[]).length=ps.length:=by
  have z:=r3.length
  rw[F.len _ _ _ _ sp3]at z
  rw[List.append_nil]
  exact z.symm
 have hb3:=hb ⟨h',g2,d2,tk2,os2⟩ (Value.ref e::upos) I3.kIn hl
 rw[List.append_nil]at hb3
 refine wpAny_call (codeAny_mono (F.run _ X.stack _ _ ⟨Value.ref e::upos,[]⟩ (Value.ref e::upos) _ _ E (hr.make C upos []) (I3.env0.make C upos []) hb3 r3 sp3) fun r s' hq'=>?_)
 cases r with
 | error e'=>exact acc.passes pins σ _ _ e' s' I3 hq'
 | ok fl =>
  cases fl with
  | next=>exact False.elim hq'
  | brk=>exact False.elim hq'
  | cont=>exact False.elim hq'
  | ret u =>
   obtain⟨v0,H',I4,rv0,ev,dx,n1,n2,eH⟩:=I3.after hq'
   subst ev
   refine⟨rv0,wpAny_bind (wpAny_holding (wpAny_point (wpAny_pure ?_)))⟩
   have He:H' e=some (G3 e C (some dx)):=by rw[eH,b9 (Ne.symm n2),g9]
   have I5:=I4.untrack He
   have eD:V2 H' e=upd H2 dx (.xd [(f,v)]):=by
    funext b
    unfold V2
    by_cases z:b=e
    ·rw[if_pos z,z,b9 (Ne.symm n2)];exact fe.symm
    ·rw[if_neg z,eH]
     by_cases z2:b=dx
     ·rw[z2,g9,g9]
     ·rw[b9 z2,b9 z2,b9 z,b9 z]
   rw[eD]at I5
   obtain⟨⟨oe,tu',ge,gc,gd,gf⟩,_⟩:=(show ObjOk X.prog X.w H' s'.heap e (G3 e C (some dx))from I4.hok e _ He)
   refine⟨e,oe,rfl,I4.bk _ _ hC,ge,gc,⟨tu',gf⟩,?_⟩
   have odd:¬(2*dx+1)%2=0:=by
    show ¬(2*dx+1:Nat)%2=0
    rw[Nat.mul_add_mod];decide
   refine acc pins σ _ s' e (.ref C) (some (2*dx+1)) (W.hideAll s'.heap (e::B3 X.stack)) .new I5 ⟨by rw[b9 (Ne.symm n2)];exact fe,fun b o q=>W.of_hideAll _ q,W.hideAll_none _ List.mem_cons_self,W.funFrames_hide I5.stack fun env he b hb=>List.mem_cons_of_mem _ (List.mem_filterMap.mpr ⟨env,he,hb⟩),fun b o q i n=>?_,⟨oe,_,ge,gc,gf,rfl,?_,?_⟩⟩ (hE dx n1)
   ·refine W.hideAll_get _ q fun z=>?_
    rcases List.mem_cons.mp z with z | z
    ·subst z
     have gone:∀o',(⟨hp2,g2,d2,tk2,os2⟩:Shared).heap.get? b=some o'→False:=fun o' w=>absurd (Heap.lt_size w) (Nat.not_lt.mpr me)
     rcases i with i | ⟨hx,o',i⟩ | ⟨p,hp',w⟩
     ·exact i (by rw[b9 (Ne.symm n2)];exact fe)
     ·obtain⟨o2,w⟩:=I2.base.there b o' i hx
      exact gone _ w
     ·exact gone _ (by rw[← w];exact(I2.pin p hp').1)
    ·exact n z
   ·show some Value.none=some (if(2*dx+1)%2=0 then _ else Value.none)
    rw[if_neg odd]
   ·show oe.dict=(if(2*dx+1)%2=0 then none else some ((2*dx+1)/2))
    rw[if_neg odd,gd]
    congr 1
    show dx=(2*dx+1:Nat)/2
    rw[Nat.mul_add_div (by decide)]
    simp
end
end L2
namespace PySem.W
open PySem PySem.Spec PySem.Calls PyProof.Rows
section
variable {prog:Program}{w:World}{A:Around}{E:Value→Shared→Prop}{h:Heap}{g:Array GenState}{d:Drawn}{t:Nat}{os:OsState}{K:Frag}{x C:Addr}{o od:Obj}{f:Str}{v:Value}
theorem a18{tk:Tok}{Q:Fin→Shared→Prop}(X:K.In h)(I:InstAt h x o C (some od))(hf:findObj K C (some od) f=some (.value v))(q:Q (.done (.ret v)) ⟨h,g,d,t,os⟩) :
  wpAny (model prog w) A (Builtin.«object.__getattribute__» ⟨[.ref x,.str f tk],[]⟩) Q E ⟨h,g,d,t,os⟩:=by
 have L0:=I.type (M:=model prog w)
 have L1:=looks_find (M:=model prog w) X I hf
 refine wpAny_bind (wpAny_pure (wpAny_bind (wpAny_pure (wpAny_bind (L0.at (wpAny_bind (L1.at ?_)))))))
 exact wpAny_pure q
theorem exc_at_by{tk:Tok}{b b2:Bool}{Q:Value→Shared→Prop}(X:K.In h)(T:ExcT K C)(I:InstAt h x o C (some od))(hf:findObj K C (some od) f=some (.value v))(hh:handedIn v=true)(hq:Q v ⟨h,g,d,t,os⟩):wpAny (model prog w) A (getAttrBy (.ref x) (.str f tk) b b2) Q E ⟨h,g,d,t,os⟩:=by
 have L0:=I.type (M:=model prog w)
 have L1:=looks_findIn (M:=model prog w) X T.ga
 have L2:=looks_findIn (M:=model prog w) X T.gt
 have f3:=F.attr_ValueError.ga.bind (.ref x)
 have hx2:(Value.builtin "BaseException.__getattribute__" == Value.builtin "object.__getattribute__")=false:=by decide +kernel
 have hx1:(onTheHeap (Value.ref C) && Value.builtin "BaseException.__getattribute__" == Value.builtin "object.__getattribute__")=false:=by rw[hx2];rfl
 have hd:=handedOut_of hh
 have hx3:¬(b2 && onTheHeap (Value.builtin "BaseException.__getattribute__"))=true:=by cases b2<;>exact Bool.false_ne_true
 repeat (any_goals (first | assumption | (with_reducible refine L0.at ?_) | (with_reducible refine wpAny_bind (L0.at ?_)) | (with_reducible refine L1.at ?_) | (with_reducible refine wpAny_bind (L1.at ?_)) | (with_reducible refine L2.at ?_) | (with_reducible refine wpAny_bind (L2.at ?_)) | wp_step))
 refine codeAny_call_builtin F.attr_ValueError.ga.plain F.entry_bexc_ga (Y3 X T I.at_ I.cls (a18 X I hf ?_))
 show wpAny (model prog w) A (handedOut v) Q E _
 rw[hd]
 exact wpAny_pure hq
end
end PySem.W
namespace L2
open PySem PySem.Spec PyProof.Rows
def a8B(K:W.Frag)(ta:TE)(f:Str):TE:=fun σ H Q=>ta σ H fun x H1=>∃a C dx y,x=.ref a∧H1 a=some (D5 a (.ref C) (some (2*dx+1)))∧H1 dx=some (.xd [(f,y)])∧W.ExcT K C∧W.hasDictIn K C=true∧W.findIn K (.ref C) f=some none∧Q y H1
section
variable {X:Cx}{e:Expr}{f:Str}{pos:Pos}{ta:TE}
theorem a5e(dx:Nat):Y2 (some (2*dx+1))=some dx:=by
 show(if(2*dx+1)%2=0 then none else some ((2*dx+1)/2))=some dx
 rw[if_neg (by rw[Nat.mul_add_mod];decide),Nat.mul_add_div (by decide)]
 simp
theorem a8C(he:PE X e ta)(hb:attributeBase e f X.env (eval e X.env)=eval e X.env):PE X (.Attribute e f pos) (a8B X.K ta f):=by
 intro pins s σ H Q I h
 refine a6B hb (i6 (he pins s σ H _ I h) fun u s1 ⟨x,H1,I1,rx,a,C,dx,y,ex,ea,ed,T,hh,hn,q⟩=>?_)
 subst ex
 obtain rfl:u=Value.ref a:=rx
 obtain⟨⟨o,vs,hx,hc,hdt,_,hdi⟩,_⟩:=(show ObjOk X.prog X.w H1 s1.heap a (D5 a (.ref C) (some (2*dx+1)))from I1.hok a _ ea)
 obtain⟨mA,hns,r⟩:=(show ObjOk X.prog X.w H1 s1.heap dx (.xd [(f,y)])from I1.hok dx _ ed)
 rw[a5e]at hdi
 obtain⟨u,hu,ru⟩:=RelO.some_of (v:=y) (o:=mA f) (by have:=r f;rw[List.lookup_cons,beq_self_eq_true]at this;exact this)
 obtain⟨od,god,hl⟩:=a1p hns
 have J:W.InstAt s1.heap a o C (some od):=⟨hx,hc,by unfold W.notCls;rw[hdt],by rw[hdi];exact god⟩
 have K1:=I1.kIn
 obtain⟨hp,g,d,t,os⟩:=s1
 unfold getAttr
 refine wpAny_bind (wpAny_mkText ?_)
 refine W.exc_at_by K1 T J (W.findObj_own hh hn rfl (by rw[hl,hu])) (a34 ru) ?_
 exact⟨y,H1,I1.tok _,ru,q⟩
end
open PySem.W
abbrev DK:=Sum (List u7) (List (List u7))
def dkO(ks:DK)(xs:List V):HO:=match ks with
 | .inl ks=>.dK (ks.zip xs)
 | .inr ks=>.dT (ks.zip xs)
def dkN:DK→Nat
 | .inl ks=>ks.length
 | .inr ks=>ks.length
theorem a6O{ks:DK}{xs ys:List V}:dkO ks xs≠.lst ys:=by cases ks<;>exact fun z=>nomatch z
inductive D where
 | non | bl (b:Bool) | int (i:Int) | str (x:Str) | ty (n:String) | cls (n:Str) | tup (ds:List D) | lst (ds:List D) | scr (ns:List Int) | exc (c:Str) | obj (c:Str) (ns:List Str) (ds:List D) | dic (ks:DK) (ds:List D) | exv (c f:Str) (d:D)
mutual
def Rp(K:W.Frag)(cl:Str→Addr)(F:Hp):D→V→Prop
 | .non,v=>v=.non
 | .bl b,v=>v=.bl b
 | .int i,v=>v=.int i
 | .str x,v=>v=.str x
 | .ty n,v=>v=.ty n
 | .cls n,v=>v=.ref (cl n)
 | .tup ds,v=>∃a xs,v=.ref a∧F a=some (.tup xs)∧Rps K cl F ds xs
 | .lst ds,v=>∃a xs,v=.ref a∧F a=some (.lst xs)∧Rps K cl F ds xs
 | .scr ns,v=>∃a,v=.ref a∧Scr K F a (ns.map V.int)
 | .exc c,v=>∃a cx,v=.ref a∧F a=some (D5 a (.ref (cl c)) cx)
 | .obj c ns ds,v=>∃a dx xs,v=.ref a∧F a=some (.ins (cl c) dx (ns.zip xs))∧ns.length=xs.length∧Rps K cl F ds xs
 | .dic ks ds,v=>∃a xs,v=.ref a∧F a=some (dkO ks xs)∧dkN ks=xs.length∧Rps K cl F ds xs
 | .exv c f d,v=>∃a dx y,v=.ref a∧F a=some (D5 a (.ref (cl c)) (some (2*dx+1)))∧F dx=some (.xd [(f,y)])∧Rp K cl F d y
def Rps(K:W.Frag)(cl:Str→Addr)(F:Hp):List D→List V→Prop
 | [],vs=>vs=[]
 | d::ds,vs=>∃v r,vs=v::r∧Rp K cl F d v∧Rps K cl F ds r
end
section
variable {K:W.Frag}{cl:Str→Addr}{F F' H H':Hp}
mutual
theorem Rp.mono(g:Same F F'):∀(d:D) (v:V),Rp K cl F d v→Rp K cl F' d v
 | .non,_,h=>by simpa only[Rp]using h
 | .bl _,_,h=>by simpa only[Rp]using h
 | .int _,_,h=>by simpa only[Rp]using h
 | .str _,_,h=>by simpa only[Rp]using h
 | .ty _,_,h=>by simpa only[Rp]using h
 | .cls _,_,h=>by simpa only[Rp]using h
 | .tup ds,v,h=>by
  simp only[Rp]at h ⊢
  obtain⟨a,xs,e,h1,h2⟩:=h
  exact⟨a,xs,e,g _ _ h1,Rps.mono g ds xs h2⟩
 | .lst ds,v,h=>by
  simp only[Rp]at h ⊢
  obtain⟨a,xs,e,h1,h2⟩:=h
  exact⟨a,xs,e,g _ _ h1,Rps.mono g ds xs h2⟩
 | .scr ns,v,h=>by
  simp only[Rp]at h ⊢
  obtain⟨a,e,h1⟩:=h
  exact⟨a,e,h1.same g⟩
 | .exc c,v,h=>by
  simp only[Rp]at h ⊢
  obtain⟨a,cx,e,h1⟩:=h
  exact⟨a,cx,e,g _ _ h1⟩
 | .obj c ns ds,v,h=>by
  simp only[Rp]at h ⊢
  obtain⟨a,dx,xs,e,h1,hl,h2⟩:=h
  exact⟨a,dx,xs,e,g _ _ h1,hl,Rps.mono g ds xs h2⟩
 | .dic ks ds,v,h=>by
  simp only[Rp]at h ⊢
  obtain⟨a,xs,e,h1,hl,h2⟩:=h
  exact⟨a,xs,e,g _ _ h1,hl,Rps.mono g ds xs h2⟩
 | .exv c f d,v,h=>by
  simp only[Rp]at h ⊢
  obtain⟨a,dx,y,e,h1,h2,h3⟩:=h
  exact⟨a,dx,y,e,g _ _ h1,g _ _ h2,Rp.mono g d y h3⟩
theorem Rps.mono(g:Same F F'):∀(ds:List D) (vs:List V),Rps K cl F ds vs→Rps K cl F' ds vs
 | [],_,h=>by simpa only[Rps]using h
 | d::ds,vs,h=>by
  simp only[Rps]at h ⊢
  obtain⟨v,r,e,h1,h2⟩:=h
  exact⟨v,r,e,Rp.mono g d v h1,Rps.mono g ds r h2⟩
end
theorem Rps.nil:Rps K cl F [] []:=by simp only[Rps]
theorem Rps.cons{d:D}{v:V}{ds:List D}{vs:List V}(h:Rp K cl F d v)(t:Rps K cl F ds vs):Rps K cl F (d::ds) (v::vs):=by simp only[Rps];exact⟨v,vs,rfl,h,t⟩
theorem Rps.inv{d:D}{ds:List D}{vs:List V}(h:Rps K cl F (d::ds) vs):∃v r,vs=v::r∧Rp K cl F d v∧Rps K cl F ds r:=by simpa only[Rps]using h
theorem Rps.inv0{vs:List V}(h:Rps K cl F [] vs):vs=[]:=by simpa only[Rps]using h
theorem Rps.length:∀{ds:List D} {vs:List V},Rps K cl F ds vs→ds.length=vs.length
 | [],vs,h=>by rw[h.inv0];rfl
 | d::ds,vs,h=>by obtain⟨v,r,rfl,_,t⟩:=h.inv;simp[t.length]
theorem Rps.get:∀{ds:List D} {vs:List V} {i:Nat} {d:D},Rps K cl F ds vs→ds[i]? = some d→∃v,vs[i]? = some v∧Rp K cl F d v
 | [],_,_,_,_,e=>by simp at e
 | d::ds,vs,0,x,h,e=>by
  obtain⟨v,r,rfl,h1,_⟩:=h.inv
  simp at e;subst e
  exact⟨v,rfl,h1⟩
 | d::ds,vs,i+1,x,h,e=>by
  obtain⟨v,r,rfl,_,t⟩:=h.inv
  obtain⟨u,h1,h2⟩:=t.get (i:=i) (d:=x) (by simpa using e)
  exact⟨u,by simpa using h1,h2⟩
theorem Rps.get'{ds:List D}{vs:List V}{i:Nat}{v:V}(h:Rps K cl F ds vs)(e:vs[i]? = some v):∃d,ds[i]? = some d∧Rp K cl F d v:=by
 have hi:i<ds.length:=by
  have:=(List.getElem?_eq_some_iff.mp e).1
  rw[h.length];exact this
 obtain⟨u,h1,h2⟩:=h.get (List.getElem?_eq_getElem hi)
 rw[e]at h1;cases h1
 exact⟨_,List.getElem?_eq_getElem hi,h2⟩
theorem Rps.append:∀{ds es:List D} {vs us:List V},Rps K cl F ds vs→Rps K cl F es us→Rps K cl F (ds++es) (vs++us)
 | [],_,_,_,h,t=>by rw[h.inv0];exact t
 | d::ds,_,_,_,h,t=>by obtain⟨v,r,rfl,h1,h2⟩:=h.inv;exact .cons h1 (h2.append t)
theorem Rps.one{d:D}{v:V}(h:Rp K cl F d v):Rps K cl F [d] [v]:=.cons h .nil
theorem Rps.set{d:D}{v:V}(r:Rp K cl F d v):∀{ds:List D} {vs:List V} (i:Nat),Rps K cl F ds vs→Rps K cl F (ds.set i d) (vs.set i v)
 | [],_,_,h=>by rw[h.inv0];exact .nil
 | _::_,_,0,h=>by obtain⟨_,_,rfl,_,h2⟩:=h.inv;exact .cons r h2
 | _::_,_,i+1,h=>by obtain⟨_,_,rfl,h1,h2⟩:=h.inv;exact .cons h1 (h2.set r i)
theorem Rps.drop:∀{ds:List D} {vs:List V} (n:Nat),Rps K cl F ds vs→Rps K cl F (ds.drop n) (vs.drop n)
 | _,_,0,h=>h
 | [],_,_+1,h=>by rw[h.inv0];exact .nil
 | _::_,_,n+1,h=>by obtain⟨_,_,rfl,_,h2⟩:=h.inv;exact h2.drop n
theorem Rps.take:∀{ds:List D} {vs:List V} (n:Nat),Rps K cl F ds vs→Rps K cl F (ds.take n) (vs.take n)
 | _,_,0,h=>.nil
 | [],_,_+1,h=>by rw[h.inv0];exact .nil
 | _::_,_,n+1,h=>by obtain⟨_,_,rfl,h1,h2⟩:=h.inv;exact .cons h1 (h2.take n)
theorem Rps.ints:∀{ns:List Int} {vs:List V},Rps K cl F (ns.map D.int) vs→vs=ns.map V.int
 | [],_,h=>h.inv0
 | n::ns,_,h=>by
  obtain⟨v,r,rfl,h1,h2⟩:=h.inv
  rw[h2.ints]
  simp only[Rp]at h1
  rw[h1];rfl
theorem Rps.ofInts:∀{ns:List Int},Rps K cl F (ns.map D.int) (ns.map V.int)
 | []=>.nil
 | _::_=>.cons (by simp only[Rp]) Rps.ofInts
theorem Rps.bls:∀{bs:List Bool} {vs:List V},Rps K cl F (bs.map D.bl) vs→vs=bs.map V.bl
 | [],_,h=>h.inv0
 | n::ns,_,h=>by
  obtain⟨v,r,rfl,h1,h2⟩:=h.inv
  rw[h2.bls]
  simp only[Rp]at h1
  rw[h1];rfl
theorem Rps.strs:∀{bs:List Str} {vs:List V},Rps K cl F (bs.map D.str) vs→vs=bs.map V.str
 | [],_,h=>h.inv0
 | n::ns,_,h=>by
  obtain⟨v,r,rfl,h1,h2⟩:=h.inv
  rw[h2.strs]
  simp only[Rp]at h1
  rw[h1];rfl
end
inductive Sl where | no | fz (d:D) | ow (ds:List D) | hd (ds:List D) | od (ks:DK) (ds:List D) | hk (ks:DK) (ds:List D)
abbrev DE:=List Sl
def Mu(env:DE)(i:Nat):Prop:=∃ds:List D,env[i]? = some (.ow ds)∨env[i]? = some (.hd ds)
def isO:Sl→Prop
 | .ow _=>True
 | .od _ _=>True
 | _=>False
def M5:Sl→DK→List D→Prop
 | .od ks ds,ks',ds'=>ks=ks'∧ds=ds'
 | .hk ks ds,ks',ds'=>ks=ks'∧ds=ds'
 | _,_,_=>False
def Ow(σ:St)(env:DE)(a:Addr):Prop:=∃(i:Nat) (s:Sl),isO s∧env[i]? = some s∧σ[i]? = some (some (V.ref a))
structure RelOd(K:W.Frag)(cl:Str→Addr)(σ:St)(H F:Hp)(env:DE):Prop where
 at_:∀(i:Nat) (s:Sl) (ks:DK) (ds:List D),env[i]? = some s→M5 s ks ds→∃a xs,σ[i]? = some (some (.ref a))∧H a=some (dkO ks xs)∧F a=none∧dkN ks=xs.length∧Rps K cl F ds xs
 inj:∀(i j:Nat) (s t:Sl) (ks ls:DK) (ds es:List D) (a:Addr),env[i]? = some s→M5 s ks ds→env[j]? = some t→M5 t ls es→σ[i]? = some (some (.ref a))→σ[j]? = some (some (.ref a))→i=j
structure Rel(K:W.Frag)(cl:Str→Addr)(σ:St)(H F:Hp)(env:DE):Prop where
 sub:Same F H
 len:σ.length=env.length
 fz:∀(i:Nat) (d:D),env[i]? = some (.fz d)→∃v,σ[i]? = some (some v)∧Rp K cl F d v
 mu:∀(i:Nat) (ds:List D),(env[i]? = some (.ow ds)∨env[i]? = some (.hd ds))→∃a xs,σ[i]? = some (some (.ref a))∧H a=some (.lst xs)∧F a=none∧Rps K cl F ds xs
 inj:∀(i j:Nat) (a:Addr),Mu env i→Mu env j→σ[i]? = some (some (.ref a))→σ[j]? = some (some (.ref a))→i=j
 od:RelOd K cl σ H F env
structure Frm(σ:St)(H F:Hp)(env:DE)(σ':St)(H' F':Hp)(env':DE):Prop where
 fz:Same F F'
 hid:∀a o,H a=some o→F a=none→¬Ow σ env a→H' a=some o∧F' a=none∧¬Ow σ' env' a
 keep:∀(i:Nat) (ds:List D),env[i]? = some (.hd ds)→env'[i]? = some (.hd ds)∧σ'[i]? = σ[i]?
 dom:∀a,H' a=none→H a=none
structure Gr(H F H' F':Hp):Prop where
 fz:Same F F'
 sub:Same F' H'
 hid:∀a o,H a=some o→F a=none→H' a=some o∧F' a=none
section
variable {K:W.Frag}{cl:Str→Addr}{σ σ' σ'':St}{H H' H'' F F' F'':Hp}{env env' env'':DE}
theorem RelOd.to(R:RelOd K cl σ H F env)(he:∀(i:Nat) (s:Sl) (ks:DK) (ds:List D),env'[i]? = some s→M5 s ks ds→∃t,env[i]? = some t∧M5 t ks ds∧σ'[i]? = σ[i]?)
  (hh:∀(i:Nat) (a:Addr) (ks:DK) (xs:List V),σ[i]? = some (some (.ref a))→H a=some (dkO ks xs)→F a=none→H' a=some (dkO ks xs)∧F' a=none) (sF:Same F F'):RelOd K cl σ' H' F' env' :=
 ⟨fun i s ks ds h d=>by
  obtain⟨t,h1,d1,e1⟩:=he i s ks ds h d
  obtain⟨a,xs,e,hH,hF,hn,r⟩:=R.at_ i t ks ds h1 d1
  obtain⟨h2,f2⟩:=hh i a ks xs e hH hF
  exact⟨a,xs,by rw[e1];exact e,h2,f2,hn,r.mono sF⟩,
  fun i j s t ks ls ds es a hi di hj dj ei ej=>by
  obtain⟨s1,h1,d1,e1⟩:=he i s ks ds hi di
  obtain⟨t1,h2,d2,e2⟩:=he j t ls es hj dj
  exact R.inj i j s1 t1 ks ls ds es a h1 d1 h2 d2 (by rw[← e1];exact ei) (by rw[← e2];exact ej)⟩
theorem RelOd.gr(R:RelOd K cl σ H F env)(g:Gr H F H' F'):RelOd K cl σ H' F' env:=R.to (fun i s ks ds h d=>⟨s,h,d,rfl⟩) (fun _ a ks xs _ h f=>g.hid a _ h f) g.fz
theorem RelOd.set{i:Nat}{s:Sl}{v:Option V}(R:RelOd K cl σ H F env)(n:∀ks ds,¬M5 s ks ds):RelOd K cl (σ.set i v) H F (env.set i s) :=
 R.to (fun j t ks ds h d=>by
  by_cases z:j=i
  ·subst z
   have hj:j<env.length:=by have:=(List.getElem?_eq_some_iff.mp h).1;rwa [List.length_set]at this
   rw[List.getElem?_set_self hj]at h;cases h;exact absurd d (n ks ds)
  ·rw[List.getElem?_set_ne (Ne.symm z)]at h
   exact⟨t,h,d,List.getElem?_set_ne (Ne.symm z)⟩) (fun _ a ks xs _ h f=>⟨h,f⟩) (Same.refl _)
theorem RelOd.setE{i:Nat}{s:Sl}(R:RelOd K cl σ H F env)(n:∀ks ds,¬M5 s ks ds):RelOd K cl σ H F (env.set i s) :=
 R.to (fun j t ks ds h d=>by
  by_cases z:j=i
  ·subst z
   have hj:j<env.length:=by have:=(List.getElem?_eq_some_iff.mp h).1;rwa [List.length_set]at this
   rw[List.getElem?_set_self hj]at h;cases h;exact absurd d (n ks ds)
  ·rw[List.getElem?_set_ne (Ne.symm z)]at h
   exact⟨t,h,d,rfl⟩) (fun _ a ks xs _ h f=>⟨h,f⟩) (Same.refl _)
theorem RelOd.lst(R:RelOd K cl σ H F env)(hh:∀(a:Addr) (o:HO),(∀xs,o≠.lst xs)→H a=some o→F a=none→H' a=some o∧F' a=none)(sF:Same F F'):RelOd K cl σ H' F' env :=
 R.to (fun i s ks ds h d=>⟨s,h,d,rfl⟩) (fun _ a ks xs _ h f=>hh a _ (fun _=>a6O) h f) sF
theorem RelOd.own(R:RelOd K cl σ H F env)(hh:∀(i:Nat) (s:Sl) (ks:DK) (ds:List D) (a:Addr) (xs:List V),env[i]? = some s→M5 s ks ds→σ[i]? = some (some (.ref a))→H a=some (dkO ks xs)→F a=none→H' a=some (dkO ks xs)∧F' a=none)(sF:Same F F'):RelOd K cl σ H' F' env :=
 ⟨fun i s ks ds h d=>by
  obtain⟨a,xs,e,hH,hF,hn,r⟩:=R.at_ i s ks ds h d
  obtain⟨h2,f2⟩:=hh i s ks ds a xs h d e hH hF
  exact⟨a,xs,e,h2,f2,hn,r.mono sF⟩,R.inj⟩
theorem RelOd.frzL{a:Addr}{xs:List V}{o:HO}(R:RelOd K cl σ H F env)(hH:H a=some (.lst xs))(hF:F a=none):RelOd K cl σ H (upd F a o) env :=
 R.lst (fun c u n h f=>⟨h,by rw[b9 (fun z=>by rw[z,hH]at h;exact n xs (Option.some.inj h).symm)];exact f⟩) (K6 hF _)
theorem RelOd.updL{a:Addr}{xs:List V}{o:HO}(R:RelOd K cl σ H F env)(hH:H a=some (.lst xs)):RelOd K cl σ (upd H a o) F env :=
 R.lst (fun c u n h f=>⟨by rw[b9 (fun z=>by rw[z,hH]at h;exact n xs (Option.some.inj h).symm)];exact h,f⟩) (Same.refl _)
theorem RelOd.newO{a:Addr}{o:HO}(R:RelOd K cl σ H F env)(hH:H a=none):RelOd K cl σ (upd H a o) F env :=
 R.lst (fun c u n h f=>⟨by rw[b9 (fun z=>by rw[z,hH]at h;cases h)];exact h,f⟩) (Same.refl _)
theorem RelOd.none(n:∀(i:Nat) (s:Sl) ks ds,env[i]? = some s→¬M5 s ks ds):RelOd K cl σ H F env:=⟨fun i s ks ds h d=>absurd d (n i s ks ds h),fun i j s t ks ls ds es a h d=>absurd d (n i s ks ds h)⟩
theorem a0J{d:D}:∀ks ds,¬M5 (.fz d) ks ds:=fun _ _ h=>h
theorem a0K{d:List D}:∀ks ds,¬M5 (.ow d) ks ds:=fun _ _ h=>h
theorem a3u{d:List D}:∀ks ds,¬M5 (.hd d) ks ds:=fun _ _ h=>h
theorem a3v:∀ks ds,¬M5 .no ks ds:=fun _ _ h=>h
theorem Frm.refl:Frm σ H F env σ H F env:=⟨Same.refl _,fun _ _ h f o=>⟨h,f,o⟩,fun _ _ h=>⟨h,rfl⟩,fun _ h=>h⟩
theorem Frm.trans(a:Frm σ H F env σ' H' F' env')(b:Frm σ' H' F' env' σ'' H'' F'' env''):Frm σ H F env σ'' H'' F'' env'' :=
 ⟨a.fz.trans b.fz,fun x o h f w=>by obtain⟨h1,f1,w1⟩:=a.hid x o h f w;exact b.hid x o h1 f1 w1,
  fun i ds h=>by obtain⟨h1,e1⟩:=a.keep i ds h;obtain⟨h2,e2⟩:=b.keep i ds h1;exact⟨h2,e2.trans e1⟩,fun x h=>a.dom x (b.dom x h)⟩
theorem Gr.dom(g:Gr H F H' F')(a:Addr)(h:H' a=none):H a=none:=by
 cases e:H a with
 | none=>rfl
 | some o =>
  cases f:F a with
  | none=>rw[(g.hid a o e f).1]at h;cases h
  | some u=>rw[g.sub _ _ (g.fz _ _ f)]at h;cases h
theorem Rel.gr(R:Rel K cl σ H F env)(g:Gr H F H' F'):Rel K cl σ H' F' env :=
 ⟨g.sub,R.len,fun i d h=>by obtain⟨v,e,r⟩:=R.fz i d h;exact⟨v,e,r.mono g.fz⟩,
  fun i ds h=>by obtain⟨a,xs,e,hH,hF,r⟩:=R.mu i ds h;obtain⟨h1,f1⟩:=g.hid a _ hH hF;exact⟨a,xs,e,h1,f1,r.mono g.fz⟩,R.inj,R.od.gr g⟩
theorem Rel.frm(R:Rel K cl σ H F env)(g:Gr H F H' F'):Frm σ H F env σ H' F' env :=
 ⟨g.fz,fun a o h f w=>by obtain⟨h1,f1⟩:=g.hid a o h f;exact⟨h1,f1,w⟩,fun _ _ h=>⟨h,rfl⟩,g.dom⟩
theorem Gr.refl(s:Same F H):Gr H F H F:=⟨Same.refl _,s,fun _ _ h f=>⟨h,f⟩⟩
theorem Gr.trans(a:Gr H F H' F')(b:Gr H' F' H'' F''):Gr H F H'' F'':=⟨a.fz.trans b.fz,b.sub,fun x o h f=>by obtain⟨h1,f1⟩:=a.hid x o h f;exact b.hid x o h1 f1⟩
theorem Gr.new{p:Addr}{o:HO}(s:Same F H)(hp:H p=none):Gr H F (upd H p o) (upd F p o):=by
 have fp:F p=none:=s.free hp
 refine⟨K6 fp o,fun b u e=>?_,fun a u e f=>?_⟩
 ·by_cases z:b=p
  ·subst z;rw[g9]at e ⊢;exact e
  ·rw[b9 z]at e ⊢;exact s _ _ e
 ·have z:a≠p:=fun z=>by rw[z,hp]at e;cases e
  rw[b9 z,b9 z];exact⟨e,f⟩
theorem Rel.freeze{i:Nat}{ds:List D}(R:Rel K cl σ H F env)(h:env[i]? = some (.ow ds)):∃a F',σ[i]? = some (some (.ref a))∧Frm σ H F env σ H F' (env.set i (.fz (.lst ds)))∧Rel K cl σ H F' (env.set i (.fz (.lst ds)))∧Rp K cl F' (.lst ds) (.ref a):=by
 obtain⟨a,xs,e,hH,hF,r⟩:=R.mu i ds (.inl h)
 have hi:i<env.length:=(List.getElem?_eq_some_iff.mp h).1
 have sF:Same F (upd F a (.lst xs)):=K6 hF _
 have oth:∀j,j≠i→(env.set i (.fz (.lst ds)))[j]? = env[j]?:=fun j hj=>List.getElem?_set_ne (Ne.symm hj)
 have self:(env.set i (.fz (.lst ds)))[i]? = some (.fz (.lst ds)):=List.getElem?_set_self hi
 have mui:∀j,Mu (env.set i (.fz (.lst ds))) j→j≠i∧Mu env j:=fun j ⟨es,q⟩=>by
  by_cases z:j=i
  ·subst z;rw[self]at q;rcases q with q | q<;>cases q
  ·rw[oth j z]at q;exact⟨z,es,q⟩
 have rl:Rp K cl (upd F a (.lst xs)) (.lst ds) (.ref a):=by simp only[Rp];exact⟨a,xs,rfl,g9,r.mono sF⟩
 refine⟨a,upd F a (.lst xs),e,⟨sF,fun b o hb fb w=>?_,fun j es q=>?_,fun _ h=>h⟩,⟨fun b o q=>?_,by rw[List.length_set];exact R.len,fun j d q=>?_,fun j es q=>?_,fun j k b hj hk e1 e2=>R.inj j k b (mui j hj).2 (mui k hk).2 e1 e2,(R.od.lst (fun c u n h f=>⟨h,by rw[b9 (fun z=>by rw[z,hH]at h;exact n xs (Option.some.inj h).symm)];exact f⟩) sF).setE a0J⟩,rl⟩
 ·have z:b≠a:=fun z=>w ⟨i,.ow ds,True.intro,h,by rw[z];exact e⟩
  refine⟨hb,by rw[b9 z];exact fb,fun⟨j,es,oo,q,e1⟩=>?_⟩
  by_cases y:j=i
  ·subst y;rw[self]at q;cases q;exact oo
  ·rw[oth j y]at q;exact w ⟨j,es,oo,q,e1⟩
 ·have z:j≠i:=fun z=>by subst z;rw[h]at q;cases q
  exact⟨by rw[oth j z];exact q,rfl⟩
 ·by_cases z:b=a
  ·subst z;rw[g9]at q;cases q;exact hH
  ·rw[b9 z]at q;exact R.sub _ _ q
 ·by_cases z:j=i
  ·subst z;rw[self]at q;cases q;exact⟨_,e,rl⟩
  ·rw[oth j z]at q;obtain⟨v,e1,r1⟩:=R.fz j d q;exact⟨v,e1,r1.mono sF⟩
 ·have z:j≠i:=(mui j ⟨es,q⟩).1
  rw[oth j z]at q
  obtain⟨b,ys,e1,h1,f1,r1⟩:=R.mu j es q
  have nb:b≠a:=fun y=>z (R.inj j i b ⟨es,q⟩ ⟨ds,.inl h⟩ e1 (by rw[y];exact e))
  exact⟨b,ys,e1,h1,by rw[b9 nb];exact f1,r1.mono sF⟩
theorem Rel.put{i:Nat}{d:D}{v:V}(R:Rel K cl σ H F env)(hi:i<env.length)(nh:∀ds,env[i]?≠some (.hd ds))(r:Rp K cl F d v):Rel K cl (σ.set i (some v)) H F (env.set i (.fz d)):=by
 refine⟨R.sub,by rw[List.length_set,List.length_set];exact R.len,fun j e q=>?_,fun j es q=>?_,fun j k b hj hk e1 e2=>?_,R.od.set a0J⟩
 ·by_cases z:j=i
  ·subst z
   rw[List.getElem?_set_self hi]at q;cases q
   exact⟨v,List.getElem?_set_self (by rw[R.len];exact hi),r⟩
  ·rw[List.getElem?_set_ne (Ne.symm z)]at q
   obtain⟨u,e1,r1⟩:=R.fz j e q
   exact⟨u,by rw[List.getElem?_set_ne (Ne.symm z)];exact e1,r1⟩
 ·have z:j≠i:=fun z=>by
   subst z
   rw[List.getElem?_set_self hi]at q
   rcases q with q | q<;>cases q
  rw[List.getElem?_set_ne (Ne.symm z)]at q
  obtain⟨a,xs,e1,h1,f1,r1⟩:=R.mu j es q
  exact⟨a,xs,by rw[List.getElem?_set_ne (Ne.symm z)];exact e1,h1,f1,r1⟩
 ·have nz:∀j,Mu (env.set i (.fz d)) j→j≠i∧Mu env j:=fun j ⟨es,q⟩=>by
   by_cases z:j=i
   ·subst z
    rw[List.getElem?_set_self hi]at q
    rcases q with q | q<;>cases q
   ·rw[List.getElem?_set_ne (Ne.symm z)]at q;exact⟨z,es,q⟩
  obtain⟨zj,mj⟩:=nz j hj
  obtain⟨zk,mk⟩:=nz k hk
  rw[List.getElem?_set_ne (Ne.symm zj)]at e1
  rw[List.getElem?_set_ne (Ne.symm zk)]at e2
  exact R.inj j k b mj mk e1 e2
theorem Rel.putO{i:Nat}{ds:List D}{a:Addr}{xs:List V}(R:Rel K cl σ H F env)(hi:i<env.length)(hH:H a=some (.lst xs))(hF:F a=none)(na:∀j,Mu env j→σ[j]?≠some (some (.ref a)))(r:Rps K cl F ds xs):Rel K cl (σ.set i (some (.ref a))) H F (env.set i (.ow ds)):=by
 have his:i<σ.length:=by rw[R.len];exact hi
 have nz:∀j,j≠i→Mu (env.set i (.ow ds)) j→Mu env j:=fun j z ⟨es,q⟩=>by
  rw[List.getElem?_set_ne (Ne.symm z)]at q;exact⟨es,q⟩
 refine⟨R.sub,by rw[List.length_set,List.length_set];exact R.len,fun j e q=>?_,fun j es q=>?_,fun j k b hj hk e1 e2=>?_,R.od.set a0K⟩
 ·have z:j≠i:=fun z=>by subst z;rw[List.getElem?_set_self hi]at q;cases q
  rw[List.getElem?_set_ne (Ne.symm z)]at q
  obtain⟨u,e1,r1⟩:=R.fz j e q
  exact⟨u,by rw[List.getElem?_set_ne (Ne.symm z)];exact e1,r1⟩
 ·by_cases z:j=i
  ·subst z
   rw[List.getElem?_set_self hi]at q
   rcases q with q | q
   ·cases q;exact⟨a,xs,List.getElem?_set_self his,hH,hF,r⟩
   ·cases q
  ·rw[List.getElem?_set_ne (Ne.symm z)]at q
   obtain⟨b,ys,e1,h1,f1,r1⟩:=R.mu j es q
   exact⟨b,ys,by rw[List.getElem?_set_ne (Ne.symm z)];exact e1,h1,f1,r1⟩
 ·by_cases zj:j=i
  ·by_cases zk:k=i
   ·rw[zj,zk]
   ·subst zj
    rw[List.getElem?_set_self his]at e1
    rw[List.getElem?_set_ne (Ne.symm zk)]at e2
    cases e1
    exact absurd e2 (na k (nz k zk hk))
  ·rw[List.getElem?_set_ne (Ne.symm zj)]at e1
   by_cases zk:k=i
   ·subst zk
    rw[List.getElem?_set_self his]at e2
    cases e2
    exact absurd e1 (na j (nz j zj hj))
   ·rw[List.getElem?_set_ne (Ne.symm zk)]at e2
    exact R.inj j k b (nz j zj hj) (nz k zk hk) e1 e2
theorem Frm.put{i:Nat}{d:D}{x:Option V}(nh:∀ds,env[i]?≠some (.hd ds)):Frm σ H F env (σ.set i x) H F (env.set i (.fz d)):=by
 refine⟨Same.refl _,fun a o h f w=>⟨h,f,fun⟨j,ds,oo,q,e⟩=>?_⟩,fun j ds q=>?_,fun _ h=>h⟩
 ·by_cases z:j=i
  ·subst z
   have hj:j<env.length:=by have:=(List.getElem?_eq_some_iff.mp q).1;rwa [List.length_set]at this
   rw[List.getElem?_set_self hj]at q
   cases q;exact oo
  ·rw[List.getElem?_set_ne (Ne.symm z)]at q e
   exact w ⟨j,ds,oo,q,e⟩
 ·have z:j≠i:=fun z=>by subst z;exact nh ds q
  rw[List.getElem?_set_ne (Ne.symm z),List.getElem?_set_ne (Ne.symm z)]
  exact⟨q,rfl⟩
theorem Frm.putO{i:Nat}{s0:Sl}{a:Addr}(f:Frm σ H F env σ' H' F' env')(ha:H a=none)(nh:∀ds,env'[i]?≠some (.hd ds)):Frm σ H F env (σ'.set i (some (.ref a))) H' F' (env'.set i s0):=by
 refine⟨f.fz,fun b o h g w=>?_,fun j ds q=>?_,f.dom⟩
 ·obtain⟨h1,f1,w1⟩:=f.hid b o h g w
  refine⟨h1,f1,fun⟨j,ds,oo,q,e⟩=>?_⟩
  by_cases z:j=i
  ·subst z
   have hj:j<σ'.length:=by have:=(List.getElem?_eq_some_iff.mp e).1;rwa [List.length_set]at this
   rw[List.getElem?_set_self hj]at e
   cases e
   rw[ha]at h;cases h
  ·rw[List.getElem?_set_ne (Ne.symm z)]at q e
   exact w1 ⟨j,ds,oo,q,e⟩
 ·obtain⟨q1,e1⟩:=f.keep j ds q
  have z:j≠i:=fun z=>by subst z;exact nh ds q1
  rw[List.getElem?_set_ne (Ne.symm z),List.getElem?_set_ne (Ne.symm z)]
  exact⟨q1,e1⟩
end
inductive XN where | p (c:Str) | v (c f:Str) (d:D)
instance:Coe Str XN:=⟨.p⟩
def XN.nm:XN→Str
 | .p c=>c
 | .v c _ _=>c
def XN.d:XN→D
 | .p c=>.exc c
 | .v c f d=>.exv c f d
def Xf(K:W.Frag)(cl:Str→Addr)(F:Hp):XN→Option Addr→Prop
 | .p _,cx=>cx=none
 | .v _ f d,cx=>∃dx y,cx=some (2*dx+1)∧F dx=some (.xd [(f,y)])∧Rp K cl F d y
inductive R(α:Type) where | ok (a:α) (e:DE) | ex (c:XN)
inductive RS where | nx (e:DE) | rt (d:D) | ro (ds:List D) | rz (dss:List (List D)) | rp (n:Int) (ds:List D) | bk (e:DE) | ct (e:DE) | ex (c:XN)
def bnd{α β:Type}(x:Option (R α))(k:α→DE→Option (R β)):Option (R β):=match x with
 | none=>none
 | some (.ok a e)=>k a e
 | some (.ex c)=>some (.ex c)
def J0{α:Type}(x:Option (R α))(k:α→DE→Option RS):Option RS:=match x with
 | none=>none
 | some (.ok a e)=>k a e
 | some (.ex c)=>some (.ex c)
def W7{α:Type}(x:Option α)(e:DE):Option (R α):=match x with
 | none=>none
 | some a=>some (.ok a e)
@[simp] theorem P5{α β:Type}(a:α)(e:DE)(k:α→DE→Option (R β)):bnd (some (.ok a e)) k=k a e:=rfl
@[simp] theorem a8D{α β:Type}(c:XN)(k:α→DE→Option (R β)):bnd (some (.ex c)) k=some (.ex c):=rfl
@[simp] theorem a8E{α β:Type}(k:α→DE→Option (R β)):bnd (none:Option (R α)) k=none:=rfl
@[simp] theorem T9{α:Type}(a:α)(e:DE)(k:α→DE→Option RS):J0 (some (.ok a e)) k=k a e:=rfl
@[simp] theorem a8F{α:Type}(c:XN)(k:α→DE→Option RS):J0 (some (.ex c)) k=some (.ex c):=rfl
@[simp] theorem a8G{α:Type}(k:α→DE→Option RS):J0 (none:Option (R α)) k=none:=rfl
@[simp] theorem V3{α:Type}(a:α)(e:DE):W7 (some a) e=some (.ok a e):=rfl
@[simp] theorem V4{α:Type}(e:DE):W7 (none:Option α) e=none:=rfl
structure FX(σ:St)(H F:Hp)(env:DE)(H' F':Hp):Prop where
 fz:Same F F'
 sub:Same F' H'
 hid:∀a o,H a=some o→F a=none→¬Ow σ env a→H' a=some o∧F' a=none
 dom:∀a,H' a=none→H a=none
section
variable {K:W.Frag}{cl:Str→Addr}{E:XK}{σ σ':St}{H H' H1 F F' F1:Hp}{env env' env1:DE}{α β γ δ:Type}
theorem Frm.fx{H2 F2:Hp}(a:Frm σ H F env σ' H1 F1 env1)(b:FX σ' H1 F1 env1 H2 F2):FX σ H F env H2 F2 :=
 ⟨a.fz.trans b.fz,b.sub,fun x o h f w=>by obtain⟨h1,f1,w1⟩:=a.hid x o h f w;exact b.hid x o h1 f1 w1,fun x h=>a.dom x (b.dom x h)⟩
theorem Frm.toFX(a:Frm σ H F env σ' H1 F1 env1)(s:Same F1 H1):FX σ H F env H1 F1:=⟨a.fz,s,fun x o h f w=>by obtain⟨h1,f1,_⟩:=a.hid x o h f w;exact⟨h1,f1⟩,a.dom⟩
abbrev Py(α β:Type):=α→St→Hp→Hp→Hp→DE→β→Prop
def PM(P:Py α β):Prop:=∀a σ H0 H1 H' F' e b,(∀x:Addr,H1 x=none→H0 x=none)→P a σ H1 H' F' e b→P a σ H0 H' F' e b
def Ct(K:W.Frag)(cl:Str→Addr)(E:XK)(P:Py α β)(r:Option (R α))(σ:St)(H F:Hp)(env:DE)(Q:β→Hp→Prop):Prop:=match r with
 | none=>False
 | some (.ok a e)=>∀b H' F',Frm σ H F env σ H' F' e→Rel K cl σ H' F' e→P a σ H H' F' e b→Q b H'
 | some (.ex c)=>∀H' F',FX σ H F env H' F'→∀cx,Xf K cl F' c cx→E (.ref (cl c.nm)) cx H'
def Rz(K:W.Frag)(cl:Str→Addr)(F' H':Hp)(nw:Addr→Prop)(dss:List (List D))(as:List Addr):Prop:=as.Nodup∧as.length=dss.length∧∀(k:Nat) (a:Addr) (ds:List D),as[k]? = some a→dss[k]? = some ds→∃xs,H' a=some (.lst xs)∧F' a=none∧nw a∧Rps K cl F' ds xs
theorem Rz.imp{nw nw':Addr→Prop}{dss:List (List D)}{as:List Addr}(h:Rz K cl F' H' nw dss as)(i:∀a xs,H' a=some (.lst xs)→F' a=none→nw a→nw' a):Rz K cl F' H' nw' dss as :=
 ⟨h.1,h.2.1,fun k a ds e1 e2=>by obtain⟨xs,h1,h2,h3,h4⟩:=h.2.2 k a ds e1 e2;exact⟨xs,h1,h2,i a xs h1 h2 h3,h4⟩⟩
def Cs(K:W.Frag)(cl:Str→Addr)(E:XK)(r:Option RS)(σ:St)(H F:Hp)(env:DE)(N:Ends):Prop:=match r with
 | none=>False
 | some (.nx e)=>∀σ' H' F',Frm σ H F env σ' H' F' e→Rel K cl σ' H' F' e→N.nx σ' H'
 | some (.bk e)=>∀σ' H' F',Frm σ H F env σ' H' F' e→Rel K cl σ' H' F' e→N.bk σ' H'
 | some (.ct e)=>∀σ' H' F',Frm σ H F env σ' H' F' e→Rel K cl σ' H' F' e→N.ct σ' H'
 | some (.rt d)=>∀v H' F',FX σ H F env H' F'→Rp K cl F' d v→N.rt v H'
 | some (.ro ds)=>∀a xs H' F',FX σ H F env H' F'→H' a=some (.lst xs)→F' a=none→(∀o,H a=some o→Ow σ env a)→Rps K cl F' ds xs→N.rt (.ref a) H'
 | some (.rz dss)=>∀p as H' F',FX σ H F env H' F'→H p=none→H' p=some (.tup (as.map V.ref))→F' p=none→Rz K cl F' H' (fun a=>∀o,H a=some o→Ow σ env a) dss as→N.rt (.ref p) H'
 | some (.rp n ds)=>∀p a xs H' F',FX σ H F env H' F'→H p=none→H' p=some (.tup [.int n,.ref a])→F' p=none→H' a=some (.lst xs)→F' a=none→(∀o,H a=some o→Ow σ env a)→Rps K cl F' ds xs→N.rt (.ref p) H'
 | some (.ex c)=>∀H' F',FX σ H F env H' F'→∀cx,Xf K cl F' c cx→E (.ref (cl c.nm)) cx H'
theorem Ct.mono{P:Py α β}{r:Option (R α)}{Q Q':β→Hp→Prop}(h:Ct K cl E P r σ H F env Q)(q:∀b H',Q b H'→Q' b H'):Ct K cl E P r σ H F env Q':=by
 unfold Ct at h ⊢
 split at h
 ·exact h
 ·exact fun b H' F' f R p=>q _ _ (h b H' F' f R p)
 ·exact h
theorem Ct.from{P2:Py γ δ}{r:Option (R γ)}{Q:δ→Hp→Prop}(f:Frm σ H F env σ H1 F1 env1)(pm:PM P2)(h:Ct K cl E P2 r σ H F env Q):Ct K cl E P2 r σ H1 F1 env1 Q:=by
 unfold Ct at h ⊢
 split at h
 ·exact h
 ·exact fun b H' F' f2 R2 p2=>h b H' F' (f.trans f2) R2 (pm _ _ _ _ _ _ _ _ f.dom p2)
 ·exact fun H' F' x=>h H' F' (f.fx x)
theorem Ct.bnd{P1:Py α β}{P2:Py γ δ}{r:Option (R α)}{k:α→DE→Option (R γ)}{Q:δ→Hp→Prop}(h:Ct K cl E P2 (bnd r k) σ H F env Q)(pm:PM P2) :
  Ct K cl E P1 r σ H F env fun b H1=>∃F1 env1 a,Same F F1∧Rel K cl σ H1 F1 env1∧P1 a σ H H1 F1 env1 b∧Ct K cl E P2 (k a env1) σ H1 F1 env1 Q:=by
 unfold Ct
 rcases r with _ | ⟨a,e⟩ | c
 ·exact h
 ·intro b H1 F1 f R p
  refine⟨F1,e,a,f.fz,R,p,?_⟩
  have h:Ct K cl E P2 (k a e) σ H F env Q:=h
  exact Ct.from f pm h
 ·exact h
theorem Cs.from{r:Option RS}{N:Ends}(f:Frm σ H F env σ' H1 F1 env1)(h:Cs K cl E r σ H F env N):Cs K cl E r σ' H1 F1 env1 N:=by
 unfold Cs at h ⊢
 split at h
 ·exact h
 ·exact fun σ' H' F' f2 R2=>h σ' H' F' (f.trans f2) R2
 ·exact fun σ' H' F' f2 R2=>h σ' H' F' (f.trans f2) R2
 ·exact fun σ' H' F' f2 R2=>h σ' H' F' (f.trans f2) R2
 ·exact fun v H' F' x p=>h v H' F' (f.fx x) p
 ·refine fun a xs H' F' x ha fa nw p=>h a xs H' F' (f.fx x) ha fa (fun o e=>?_) p
  refine Classical.byContradiction fun w=>?_
  cases q:F a with
  | none =>
   obtain⟨h1,f1,w1⟩:=f.hid a o e q w
   exact w1 (nw o h1)
  | some u=>rw[x.fz _ _ (f.fz _ _ q)]at fa;cases fa
 ·refine fun p as H' F' x hp ht fp rz=>h p as H' F' (f.fx x) (f.dom p hp) ht fp (rz.imp fun a xs ha fa nw o e=>?_)
  refine Classical.byContradiction fun w=>?_
  cases q:F a with
  | none =>
   obtain⟨h1,f1,w1⟩:=f.hid a o e q w
   exact w1 (nw o h1)
  | some u=>rw[x.fz _ _ (f.fz _ _ q)]at fa;cases fa
 ·refine fun p a xs H' F' x hp ht fp ha fa nw r=>h p a xs H' F' (f.fx x) (f.dom p hp) ht fp ha fa (fun o e=>?_) r
  refine Classical.byContradiction fun w=>?_
  cases q:F a with
  | none =>
   obtain⟨h1,f1,w1⟩:=f.hid a o e q w
   exact w1 (nw o h1)
  | some u=>rw[x.fz _ _ (f.fz _ _ q)]at fa;cases fa
 ·exact fun H' F' x=>h H' F' (f.fx x)
theorem Cs.bnd{P1:Py α β}{r:Option (R α)}{k:α→DE→Option RS}{N:Ends}(h:Cs K cl E (J0 r k) σ H F env N) :
  Ct K cl E P1 r σ H F env fun b H1=>∃F1 env1 a,Frm σ H F env σ H1 F1 env1∧Rel K cl σ H1 F1 env1∧P1 a σ H H1 F1 env1 b∧Cs K cl E (k a env1) σ H F env N:=by
 unfold Ct
 rcases r with _ | ⟨a,e⟩ | c
 ·exact h
 ·intro b H1 F1 f R p
  exact⟨F1,e,a,f,R,p,h⟩
 ·exact h
end
def PZ(K:W.Frag)(cl:Str→Addr):Py D V:=fun d _ _ _ F' _ v=>Rp K cl F' d v
def PAs(K:W.Frag)(cl:Str→Addr):Py (List D) (List V):=fun ds _ _ _ F' _ vs=>Rps K cl F' ds vs
def PB:Py Bool Bool:=fun b _ _ _ _ _ c=>c=b
def PN(K:W.Frag)(cl:Str→Addr):Py (List D) V:=fun ds σ H H' F' e v=>∃a xs,v=.ref a∧H a=none∧H' a=some (.lst xs)∧F' a=none∧(∀j,Mu e j→σ[j]?≠some (some (.ref a)))∧Rps K cl F' ds xs
theorem J7{K cl}:PM (PZ K cl):=fun _ _ _ _ _ _ _ _ _ h=>h
theorem a8H{K cl}:PM (PAs K cl):=fun _ _ _ _ _ _ _ _ _ h=>h
theorem a3w:PM PB:=fun _ _ _ _ _ _ _ _ _ h=>h
theorem a19{K cl}:PM (PN K cl):=fun _ _ _ _ _ _ _ _ g ⟨a,xs,e,h,r⟩=>⟨a,xs,e,g a h,r⟩
abbrev ZF:=DE→Option (R D)
abbrev NF:=DE→Option (R (List D))
abbrev AF:=DE→Option (R (List D))
abbrev BF:=DE→Option (R Bool)
abbrev SF:=DE→Option RS
section
variable (K:W.Frag)(cl:Str→Addr)(E:XK)
def m5(t:TE)(f:ZF):Prop:=∀σ H Q env F,Rel K cl σ H F env→Ct K cl E (PZ K cl) (f env) σ H F env Q→t σ H Q
def RfN(t:TE)(f:NF):Prop:=∀σ H Q env F,Rel K cl σ H F env→Ct K cl E (PN K cl) (f env) σ H F env Q→t σ H Q
def N6(t:TA)(f:AF):Prop:=∀σ H Q env F,Rel K cl σ H F env→Ct K cl E (PAs K cl) (f env) σ H F env Q→t σ H Q
def D7(t:TT)(f:BF):Prop:=∀σ H Q env F,Rel K cl σ H F env→Ct K cl E PB (f env) σ H F env Q→t σ H Q
def RfS(t:TS)(f:SF):Prop:=∀(N:Ends) σ H env F,Rel K cl σ H F env→Cs K cl E (f env) σ H F env N→t N σ H
end
def eC(d:D):ZF:=fun e=>some (.ok d e)
def eV(i:Nat):ZF:=fun e=>match e[i]? with
 | some (.fz d)=>some (.ok d e)
 | some (.ow ds)=>some (.ok (.lst ds) (e.set i (.fz (.lst ds))))
 | _=>none
def look(e:DE)(i:Nat):Option D:=match e[i]? with
 | some (.fz d)=>some d
 | some (.ow ds)=>some (.lst ds)
 | some (.hd ds)=>some (.lst ds)
 | _=>none
def Rb(K:W.Frag)(cl:Str→Addr)(F H:Hp)(d:D)(v:V):Prop:=Rp K cl F d v∨∃a xs ds,v=.ref a∧d=.lst ds∧H a=some (.lst xs)∧Rps K cl F ds xs
section
variable {K:W.Frag}{cl:Str→Addr}{E:XK}{σ:St}{H F:Hp}{env:DE}
theorem Rel.look{i:Nat}{d:D}(R:Rel K cl σ H F env)(h:look env i=some d):∃v,σ[i]? = some (some v)∧Rb K cl F H d v:=by
 unfold L2.look at h
 split at h
 ·rename_i q;cases h;obtain⟨v,e,r⟩:=R.fz i d q;exact⟨v,e,.inl r⟩
 ·rename_i ds q;cases h;obtain⟨a,xs,e,hH,_,r⟩:=R.mu i ds (.inl q);exact⟨_,e,.inr ⟨a,xs,ds,rfl,rfl,hH,r⟩⟩
 ·rename_i ds q;cases h;obtain⟨a,xs,e,hH,_,r⟩:=R.mu i ds (.inr q);exact⟨_,e,.inr ⟨a,xs,ds,rfl,rfl,hH,r⟩⟩
 ·cases h
theorem b6{v:V}{d:D}(h:∀F,Rp K cl F d v:=by intro F;simp only[Rp]):m5 K cl E (tC v) (eC d):=fun σ H Q env F R h'=>h' v H F Frm.refl R (h F)
theorem b7{i:Nat}:m5 K cl E (J5 i) (eV i):=by
 intro σ H Q env F R h
 unfold eV at h
 split at h
 ·rename_i d q
  obtain⟨v,e,r⟩:=R.fz i d q
  exact⟨v,e,h v H F Frm.refl R r⟩
 ·rename_i ds q
  obtain⟨a,F',e,fr,R',r⟩:=R.freeze q
  exact⟨_,e,h _ H F' fr R' r⟩
 ·exact h.elim
end
def OpOk(K:W.Frag)(cl:Str→Addr)(r:R2)(g:D→D→Option D):Prop:=∀x y d e z H F Q,Same F H→Rb K cl F H d x→Rb K cl F H e y→g d e=some z→(∀v H' F',Gr H F H' F'→Rp K cl F' z v→Q v H')→r x y H Q
def eB(g:D→D→Option D)(f k:ZF):ZF:=fun e=>bnd (f e) fun d e1=>bnd (k e1) fun d' e2=>W7 (g d d') e2
def i8(g:D→D→Option D)(i:Nat)(k:ZF):ZF:=fun e=>match look e i with
 | none=>none
 | some _=>bnd (k e) fun d' e2=>match look e2 i with
  | some d=>W7 (g d d') e2
  | none=>none
def eBW(g:D→D→Option D)(f:ZF)(j:Nat):ZF:=fun e=>bnd (f e) fun d e2=>match look e2 j with
 | some d'=>W7 (g d d') e2
 | none=>none
section
variable {K:W.Frag}{cl:Str→Addr}{E:XK}{r:R2}{g:D→D→Option D}{ta tb:TE}{f k:ZF}{i j:Nat}
theorem OpOk.fin{σ:St}{H F:Hp}{env:DE}{x y:V}{d e:D}{Q:VK}(ok:OpOk K cl r g)(R:Rel K cl σ H F env)(hx:Rb K cl F H d x)(hy:Rb K cl F H e y)(h:Ct K cl E (PZ K cl) (W7 (g d e) env) σ H F env Q):r x y H Q:=by
 cases hz:g d e with
 | none=>rw[hz]at h;exact h.elim
 | some z =>
  rw[hz]at h
  exact ok x y d e z H F Q R.sub hx hy hz fun v H' F' gr p=>h v H' F' (R.frm gr) (R.gr gr) p
theorem a8(ok:OpOk K cl r g)(ha:m5 K cl E ta f)(hb:m5 K cl E tb k):m5 K cl E (tOp r ta tb) (eB g f k):=by
 intro σ H Q env F R h
 refine ha σ H _ env F R ((Ct.bnd h J7).mono fun x H1 ⟨F1,e1,d,s1,R1,p1,h1⟩=>?_)
 refine hb σ H1 _ e1 F1 R1 ((Ct.bnd h1 J7).mono fun y H2 ⟨F2,e2,e,s2,R2,p2,h2⟩=>?_)
 exact ok.fin R2 (.inl (Rp.mono s2 _ _ p1)) (.inl p2) h2
theorem j4(ok:OpOk K cl r g)(hb:m5 K cl E tb k):m5 K cl E (tOp r (J5 i) tb) (i8 g i k):=by
 intro σ H Q env F R h
 unfold i8 at h
 cases q:look env i with
 | none=>rw[q]at h;exact h.elim
 | some d0 =>
  rw[q]at h
  obtain⟨x,e0,_⟩:=R.look q
  refine⟨x,e0,hb σ H _ env F R ((Ct.bnd h J7).mono fun y H2 ⟨F2,e2,e,s2,R2,p2,h2⟩=>?_)⟩
  cases q2:look e2 i with
  | none=>rw[q2]at h2;exact h2.elim
  | some d =>
   rw[q2]at h2
   obtain⟨x',e',rb⟩:=R2.look q2
   rw[e0]at e';cases e'
   exact ok.fin R2 rb (.inl p2) h2
theorem a4b(ok:OpOk K cl r g)(ha:m5 K cl E ta f):m5 K cl E (tOp r ta (J5 j)) (eBW g f j):=by
 intro σ H Q env F R h
 refine ha σ H _ env F R ((Ct.bnd h J7).mono fun x H1 ⟨F1,e1,d,s1,R1,p1,h1⟩=>?_)
 cases q:look e1 j with
 | none=>rw[q]at h1;exact h1.elim
 | some d' =>
  rw[q]at h1
  obtain⟨y,e,rb⟩:=R1.look q
  exact⟨y,e,ok.fin R1 (.inl p1) rb h1⟩
end
section
variable {K:W.Frag}{cl:Str→Addr}{E:XK}
theorem Rb.int{F H:Hp}{i:Int}{v:V}(h:Rb K cl F H (.int i) v):v=.int i:=by
 rcases h with h | ⟨_,_,_,_,z,_⟩
 ·simpa only[Rp]using h
 ·cases z
theorem Rb.bl{F H:Hp}{i:Bool}{v:V}(h:Rb K cl F H (.bl i) v):v=.bl i:=by
 rcases h with h | ⟨_,_,_,_,z,_⟩
 ·simpa only[Rp]using h
 ·cases z
theorem Rb.str{F H:Hp}{i:Str}{v:V}(h:Rb K cl F H (.str i) v):v=.str i:=by
 rcases h with h | ⟨_,_,_,_,z,_⟩
 ·simpa only[Rp]using h
 ·cases z
theorem Rb.non{F H:Hp}{v:V}(h:Rb K cl F H .non v):v=.non:=by
 rcases h with h | ⟨_,_,_,_,z,_⟩
 ·simpa only[Rp]using h
 ·cases z
theorem Rb.lst{F H:Hp}{ds:List D}{v:V}(s:Same F H)(h:Rb K cl F H (.lst ds) v):∃a xs,v=.ref a∧H a=some (.lst xs)∧Rps K cl F ds xs:=by
 rcases h with h | ⟨a,xs,ds',e,z,h,r⟩
 ·simp only[Rp]at h
  obtain⟨a,xs,e,h,r⟩:=h
  exact⟨a,xs,e,s _ _ h,r⟩
 ·cases z;exact⟨a,xs,e,h,r⟩
theorem Rb.tup{F H:Hp}{ds:List D}{v:V}(s:Same F H)(h:Rb K cl F H (.tup ds) v):∃a xs,v=.ref a∧H a=some (.tup xs)∧Rps K cl F ds xs:=by
 rcases h with h | ⟨_,_,_,_,z,_⟩
 ·simp only[Rp]at h
  obtain⟨a,xs,e,h,r⟩:=h
  exact⟨a,xs,e,s _ _ h,r⟩
 ·cases z
theorem Rb.scr{F H:Hp}{ns:List Int}{v:V}(s:Same F H)(h:Rb K cl F H (.scr ns) v):∃a,v=.ref a∧Scr K H a (ns.map V.int):=by
 rcases h with h | ⟨_,_,_,_,z,_⟩
 ·simp only[Rp]at h
  obtain⟨a,e,h⟩:=h
  exact⟨a,e,h.same s⟩
 ·cases z
def gI(C:Int→Int→Prop) [∀i j,Decidable (C i j)] (g:Int→Int→D):D→D→Option D
 | .int i,.int j=>if C i j then some (g i j)else none
 | _,_=>none
def gI0(g:Int→Int→D):D→D→Option D
 | .int i,.int j=>some (g i j)
 | _,_=>none
theorem a3x{C:Int→Int→Prop} [∀i j,Decidable (C i j)] {g:Int→Int→V} {g':Int→Int→D} (hg:∀F i j,Rp K cl F (g' i j) (g i j)):OpOk K cl (rI C g) (gI C g'):=by
 intro x y d e z H F Q s hx hy h q
 unfold gI at h
 split at h
 ·rename_i i j
  split at h
  ·rename_i c;cases h
   exact⟨i,j,hx.int,hy.int,c,q _ H F (.refl s) (hg F i j)⟩
  ·cases h
 ·cases h
theorem a0L{g:Int→Int→V}{g':Int→Int→D}(hg:∀F i j,Rp K cl F (g' i j) (g i j)):OpOk K cl (T5 g) (gI0 g'):=by
 intro x y d e z H F Q s hx hy h q
 unfold gI0 at h
 split at h
 ·rename_i i j
  cases h
  exact⟨i,j,hx.int,hy.int,q _ H F (.refl s) (hg F i j)⟩
 ·cases h
end
section
variable {K:W.Frag}{cl:Str→Addr}{E:XK}{σ:St}{H F:Hp}{env:DE}
theorem Rel.newN{p:Addr}{o:HO}(R:Rel K cl σ H F env)(hp:H p=none):Rel K cl σ (upd H p o) F env∧Frm σ H F env σ (upd H p o) F env:=by
 have fp:F p=none:=R.sub.free hp
 have ne:∀a u,H a=some u→a≠p:=fun a u h z=>by rw[z,hp]at h;cases h
 refine⟨⟨R.sub.trans (K6 hp _),R.len,R.fz,fun i ds h=>?_,R.inj,R.od.newO hp⟩,⟨Same.refl _,fun a u h f w=>?_,fun _ _ h=>⟨h,rfl⟩,fun a h=>?_⟩⟩
 ·obtain⟨a,xs,e,hH,hF,r⟩:=R.mu i ds h
  exact⟨a,xs,e,by rw[b9 (ne _ _ hH)];exact hH,hF,r⟩
 ·exact⟨by rw[b9 (ne _ _ h)];exact h,f,w⟩
 ·by_cases z:a=p
  ·rw[z];exact hp
  ·rw[b9 z]at h;exact h
theorem Ct.newN{p:Addr}{xs:List V}{ds:List D}{Q:VK}(R:Rel K cl σ H F env)(hp:H p=none)(r:Rps K cl F ds xs)(h:Ct K cl E (PN K cl) (some (.ok ds env)) σ H F env Q):Q (.ref p) (upd H p (.lst xs)):=by
 obtain⟨R',f⟩:=R.newN (o:=.lst xs) hp
 refine h _ _ F f R' ⟨p,xs,rfl,hp,g9,R.sub.free hp,fun j mj e=>?_,r⟩
 obtain⟨ds',q⟩:=mj
 obtain⟨a,ys,e1,hH,_⟩:=R.mu j ds' q
 rw[e]at e1;cases e1
 rw[hp]at hH;cases hH
def zN(f:NF):ZF:=fun e=>bnd (f e) fun ds e1=>some (.ok (.lst ds) e1)
theorem Z6{t:TE}{f:NF}(h:RfN K cl E t f):m5 K cl E t (zN f):=by
 intro σ H Q env F R q
 refine h σ H Q env F R ?_
 unfold zN at q
 rcases hf:f env with _ | ⟨ds,e1⟩ | c
 ·rw[hf]at q;exact q
 ·rw[hf]at q
  rintro b H' F' fr R' ⟨a,xs,rfl,hn,hH,hF,nm,r⟩
  have sF:Same F' (upd F' a (.lst xs)):=K6 hF _
  refine q _ H' (upd F' a (.lst xs)) ⟨fr.fz.trans sF,fun b o hb fb w=>?_,fr.keep,fr.dom⟩ ⟨fun b o z=>?_,R'.len,fun i d z=>?_,fun i es z=>?_,R'.inj,R'.od.frzL hH hF⟩ (by show Rp K cl _ (.lst ds) _;simp only[Rp];exact⟨a,xs,rfl,g9,r.mono sF⟩)
  ·obtain⟨h1,f1,w1⟩:=fr.hid b o hb fb w
   have nb:b≠a:=fun z=>by rw[z,hn]at hb;cases hb
   exact⟨h1,by rw[b9 nb];exact f1,w1⟩
  ·by_cases y:b=a
   ·subst y;rw[g9]at z;cases z;exact hH
   ·rw[b9 y]at z;exact R'.sub _ _ z
  ·obtain⟨v,e,r1⟩:=R'.fz i d z
   exact⟨v,e,r1.mono sF⟩
  ·obtain⟨b,ys,e,h1,f1,r1⟩:=R'.mu i es z
   have nb:b≠a:=fun y=>nm i ⟨es,z⟩ (by rw[e,y])
   exact⟨b,ys,e,h1,by rw[b9 nb];exact f1,r1.mono sF⟩
 ·rw[hf]at q;exact q
def aN:AF:=fun e=>some (.ok [] e)
def aC(f:ZF)(k:AF):AF:=fun e=>bnd (f e) fun d e1=>bnd (k e1) fun ds e2=>some (.ok (d::ds) e2)
theorem d9:N6 K cl E a0n aN:=fun σ H Q env F R h=>h [] H F Frm.refl R .nil
theorem a9{te:TE}{ta:TA}{f:ZF}{k:AF}(hf:m5 K cl E te f)(hk:N6 K cl E ta k):N6 K cl E (N9 te ta) (aC f k):=by
 intro σ H Q env F R h
 refine hf σ H _ env F R ((Ct.bnd h a8H).mono fun x H1 ⟨F1,e1,d,s1,R1,p1,h1⟩=>?_)
 refine hk σ H1 _ e1 F1 R1 ((Ct.bnd h1 a8H).mono fun xs H2 ⟨F2,e2,ds,s2,R2,p2,h2⟩=>?_)
 exact h2 (x::xs) H2 F2 Frm.refl R2 (.cons (Rp.mono s2 _ _ p1) p2)
def eT(f:AF):ZF:=fun e=>bnd (f e) fun ds e1=>if ds.length≤sizeLine then some (.ok (.tup ds) e1)else none
def eL(f:AF):NF:=fun e=>bnd (f e) fun ds e1=>if ds.length≤sizeLine then some (.ok ds e1)else none
theorem A9{ta:TA}{f:AF}(hf:N6 K cl E ta f):m5 K cl E (a8i ta) (eT f):=by
 intro σ H Q env F R h
 refine hf σ H _ env F R ((Ct.bnd h J7).mono fun xs H1 ⟨F1,e1,ds,s1,R1,p1,h1⟩=>?_)
 have hl:ds.length=xs.length:=Rps.length p1
 split at h1
 ·rename_i z
  refine⟨by rw[← hl];exact z,fun p hp=>?_⟩
  have g:Gr H1 F1 (upd H1 p (.tup xs)) (upd F1 p (.tup xs)):=.new R1.sub hp
  exact h1 _ _ _ (R1.frm g) (R1.gr g) (by show Rp K cl _ (.tup ds) _;simp only[Rp];exact⟨p,xs,rfl,g9,Rps.mono g.fz _ _ p1⟩)
 ·exact h1.elim
theorem a0s{ta:TA}{f:AF}(hf:N6 K cl E ta f):RfN K cl E (a8j ta) (eL f):=by
 intro σ H Q env F R h
 refine hf σ H _ env F R ((Ct.bnd h a19).mono fun xs H1 ⟨F1,e1,ds,s1,R1,p1,h1⟩=>?_)
 have hl:ds.length=xs.length:=Rps.length p1
 split at h1
 ·rename_i z
  exact⟨by rw[← hl];exact z,fun p hp=>Ct.newN R1 hp p1 h1⟩
 ·exact h1.elim
def bZ(f:ZF):BF:=fun e=>bnd (f e) fun d e1=>match d with
 | .bl b=>some (.ok b e1)
 | _=>none
theorem F9{t:TE}{f:ZF}(hf:m5 K cl E t f):D7 K cl E (tB t) (bZ f):=by
 intro σ H Q env F R h
 refine hf σ H _ env F R ((Ct.bnd h a3w).mono fun x H1 ⟨F1,e1,d,s1,R1,p1,h1⟩=>?_)
 split at h1
 ·rename_i b
  have:x=.bl b:=by have:=(show Rp K cl F1 (.bl b) x from p1);simpa only[Rp]using this
  exact⟨b,this,h1 b H1 F1 Frm.refl R1 rfl⟩
 ·exact h1.elim
theorem y6{t:TE}{f:ZF}(hf:m5 K cl E t f):D7 K cl E (a56 t) (bZ f):=F9 hf
def P6(f:BF):BF:=fun e=>bnd (f e) fun b e1=>some (.ok (!b) e1)
def a2a(f k:BF):BF:=fun e=>bnd (f e) fun b e1=>if b=true then k e1 else some (.ok false e1)
def W8(f k:BF):BF:=fun e=>bnd (f e) fun b e1=>if b=true then some (.ok true e1)else k e1
theorem O4{t:TT}{f:BF}(hf:D7 K cl E t f):D7 K cl E (a74 t) (P6 f):=by
 intro σ H Q env F R h
 refine hf σ H _ env F R ((Ct.bnd h a3w).mono fun x H1 ⟨F1,e1,d,s1,R1,p1,h1⟩=>?_)
 cases (show x=d from p1)
 exact h1 _ H1 F1 Frm.refl R1 rfl
theorem a6P{t u:TT}{f k:BF}(hf:D7 K cl E t f)(hk:D7 K cl E u k):D7 K cl E (a73 t u) (a2a f k):=by
 intro σ H Q env F R h
 refine hf σ H _ env F R ((Ct.bnd h a3w).mono fun x H1 ⟨F1,e1,d,s1,R1,p1,h1⟩=>?_)
 cases (show x=d from p1)
 by_cases z:x=true
 ·rw[if_pos z]at h1 ⊢;exact hk σ H1 Q e1 F1 R1 h1
 ·rw[if_neg z]at h1 ⊢;exact h1 _ H1 F1 Frm.refl R1 rfl
theorem U0{t u:TT}{f k:BF}(hf:D7 K cl E t f)(hk:D7 K cl E u k):D7 K cl E (tOr t u) (W8 f k):=by
 intro σ H Q env F R h
 refine hf σ H _ env F R ((Ct.bnd h a3w).mono fun x H1 ⟨F1,e1,d,s1,R1,p1,h1⟩=>?_)
 cases (show x=d from p1)
 by_cases z:x=true
 ·rw[if_pos z]at h1 ⊢;exact h1 _ H1 F1 Frm.refl R1 rfl
 ·rw[if_neg z]at h1 ⊢;exact hk σ H1 Q e1 F1 R1 h1
def a2b(f:ZF):ZF:=fun e=>bnd (f e) fun d e1=>match d with
 | .bl b=>some (.ok (.bl (!b)) e1)
 | _=>none
def V5(f k:ZF):ZF:=fun e=>bnd (f e) fun d e1=>match d with
 | .bl b=>if b=true then k e1 else some (.ok (.bl false) e1)
 | _=>none
def eOr(f k:ZF):ZF:=fun e=>bnd (f e) fun d e1=>match d with
 | .bl b=>if b=true then some (.ok (.bl true) e1)else k e1
 | _=>none
def eIf(c:BF)(f k:ZF):ZF:=fun e=>bnd (c e) fun b e1=>if b=true then f e1 else k e1
theorem a4c{t:TE}{f:ZF}(hf:m5 K cl E t f):m5 K cl E (a5X t) (a2b f):=by
 intro σ H Q env F R h
 refine hf σ H _ env F R ((Ct.bnd h J7).mono fun x H1 ⟨F1,e1,d,s1,R1,p1,h1⟩=>?_)
 split at h1
 ·rename_i b
  have:x=.bl b:=by have:=(show Rp K cl F1 (.bl b) x from p1);simpa only[Rp]using this
  exact⟨b,this,h1 _ H1 F1 Frm.refl R1 (by show Rp K cl F1 (.bl _) _;simp only[Rp])⟩
 ·exact h1.elim
theorem a0M{t u:TE}{f k:ZF}(hf:m5 K cl E t f)(hk:m5 K cl E u k):m5 K cl E (a5W t u) (V5 f k):=by
 intro σ H Q env F R h
 refine hf σ H _ env F R ((Ct.bnd h J7).mono fun x H1 ⟨F1,e1,d,s1,R1,p1,h1⟩=>?_)
 split at h1
 ·rename_i b
  have:x=.bl b:=by have:=(show Rp K cl F1 (.bl b) x from p1);simpa only[Rp]using this
  refine⟨b,this,?_⟩
  by_cases z:b=true
  ·rw[if_pos z]at h1 ⊢;exact hk σ H1 Q e1 F1 R1 h1
  ·rw[if_neg z]at h1 ⊢;exact h1 _ H1 F1 Frm.refl R1 (by show Rp K cl F1 (.bl _) _;simp only[Rp])
 ·exact h1.elim
theorem a9f{t u:TE}{f k:ZF}(hf:m5 K cl E t f)(hk:m5 K cl E u k):m5 K cl E (a76 t u) (eOr f k):=by
 intro σ H Q env F R h
 refine hf σ H _ env F R ((Ct.bnd h J7).mono fun x H1 ⟨F1,e1,d,s1,R1,p1,h1⟩=>?_)
 split at h1
 ·rename_i b
  have:x=.bl b:=by have:=(show Rp K cl F1 (.bl b) x from p1);simpa only[Rp]using this
  refine⟨b,this,?_⟩
  by_cases z:b=true
  ·rw[if_pos z]at h1 ⊢;exact h1 _ H1 F1 Frm.refl R1 (by show Rp K cl F1 (.bl _) _;simp only[Rp])
  ·rw[if_neg z]at h1 ⊢;exact hk σ H1 Q e1 F1 R1 h1
 ·exact h1.elim
theorem a9g{c:TT}{t u:TE}{b:BF}{f k:ZF}(hc:D7 K cl E c b)(hf:m5 K cl E t f)(hk:m5 K cl E u k):m5 K cl E (tIf c t u) (eIf b f k):=by
 intro σ H Q env F R h
 refine hc σ H _ env F R ((Ct.bnd h J7).mono fun x H1 ⟨F1,e1,d,s1,R1,p1,h1⟩=>?_)
 cases (show x=d from p1)
 by_cases z:x=true
 ·rw[if_pos z]at h1 ⊢;exact hf σ H1 Q e1 F1 R1 h1
 ·rw[if_neg z]at h1 ⊢;exact hk σ H1 Q e1 F1 R1 h1
def a8I(K:W.Frag)(cl:Str→Addr)(r:V→Hp→VK→Prop)(g:D→Option D):Prop:=∀x d z H F Q,Same F H→Rb K cl F H d x→g d=some z→(∀v H' F',Gr H F H' F'→Rp K cl F' z v→Q v H')→r x H Q
def eU(g:D→Option D)(f:ZF):ZF:=fun e=>bnd (f e) fun d e1=>W7 (g d) e1
theorem a9W{r:V→Hp→VK→Prop}{g:D→Option D}{t:TE}{f:ZF}(ok:a8I K cl r g)(hf:m5 K cl E t f):m5 K cl E (tUn r t) (eU g f):=by
 intro σ H Q env F R h
 refine hf σ H _ env F R ((Ct.bnd h J7).mono fun x H1 ⟨F1,e1,d,s1,R1,p1,h1⟩=>?_)
 cases hz:g d with
 | none=>rw[hz]at h1;exact h1.elim
 | some z =>
  rw[hz]at h1
  exact ok x d z H1 F1 Q R1.sub (.inl p1) hz fun v H' F' gr p=>h1 v H' F' (R1.frm gr) (R1.gr gr) p
def a2c(K:W.Frag)(cl:Str→Addr)(r:List V→Hp→VK→Prop)(g:List D→Option D):Prop:=∀xs ds z H F Q,Same F H→Rps K cl F ds xs→g ds=some z→(∀v H' F',Gr H F H' F'→Rp K cl F' z v→Q v H')→r xs H Q
def CbOk1(K:W.Frag)(cl:Str→Addr)(r:List V→Hp→VK→Prop)(g:D→Option D):Prop:=∀x d z H F Q,Same F H→Rb K cl F H d x→g d=some z→(∀v H' F',Gr H F H' F'→Rp K cl F' z v→Q v H')→r [x] H Q
def C5(g:List D→Option D)(f:AF):ZF:=fun e=>bnd (f e) fun ds e1=>W7 (g ds) e1
def P7(g:D→Option D)(i:Nat):ZF:=fun e=>match look e i with
 | some d=>W7 (g d) e
 | none=>none
theorem G0{r:List V→Hp→VK→Prop}{g:List D→Option D}{t:TA}{f:AF}(ok:a2c K cl r g)(hf:N6 K cl E t f):m5 K cl E (tCB r t) (C5 g f):=by
 intro σ H Q env F R h
 refine hf σ H _ env F R ((Ct.bnd h J7).mono fun x H1 ⟨F1,e1,d,s1,R1,p1,h1⟩=>?_)
 cases hz:g d with
 | none=>rw[hz]at h1;exact h1.elim
 | some z =>
  rw[hz]at h1
  exact ok x d z H1 F1 Q R1.sub p1 hz fun v H' F' gr p=>h1 v H' F' (R1.frm gr) (R1.gr gr) p
theorem a0N{r:List V→Hp→VK→Prop}{g:D→Option D}{i:Nat}(ok:CbOk1 K cl r g):m5 K cl E (tCB r (N9 (J5 i) a0n)) (P7 g i):=by
 intro σ H Q env F R h
 unfold P7 at h
 cases q:look env i with
 | none=>rw[q]at h;exact h.elim
 | some d =>
  rw[q]at h
  obtain⟨x,e,rb⟩:=R.look q
  refine⟨x,e,?_⟩
  cases hz:g d with
  | none=>simp only[hz,V4]at h;exact h.elim
  | some z =>
   simp only[hz,V3]at h
   exact ok x d z H F Q R.sub rb hz fun v H' F' gr p=>h v H' F' (R.frm gr) (R.gr gr) p
def g1(g:D→Option D):List D→Option D
 | [d]=>g d
 | _=>none
theorem CbOk1.cb{r:List V→Hp→VK→Prop}{g:D→Option D}(ok:CbOk1 K cl r g):a2c K cl r (g1 g):=by
 intro xs ds z H F Q s hx h q
 unfold g1 at h
 split at h
 ·obtain⟨v,r,rfl,h1,h2⟩:=hx.inv
  rw[h2.inv0]
  exact ok v _ z H F Q s (.inl h1) h q
 ·cases h
def a8J(K:W.Frag)(cl:Str→Addr)(r:List V→Hp→VK→Prop)(g:D→Option (List D)):Prop:=∀x d zs H F Q,Same F H→Rb K cl F H d x→g d=some zs→(∀p xs,H p=none→Rps K cl F zs xs→Q (.ref p) (upd H p (.lst xs)))→r [x] H Q
def nCV(g:D→Option (List D))(i:Nat):NF:=fun e=>match look e i with
 | some d=>W7 (g d) e
 | none=>none
theorem a2d{r:List V→Hp→VK→Prop}{g:D→Option (List D)}{i:Nat}(ok:a8J K cl r g):RfN K cl E (tCB r (N9 (J5 i) a0n)) (nCV g i):=by
 intro σ H Q env F R h
 unfold nCV at h
 cases q:look env i with
 | none=>rw[q]at h;exact h.elim
 | some d =>
  rw[q]at h
  obtain⟨x,e,rb⟩:=R.look q
  refine⟨x,e,?_⟩
  cases hz:g d with
  | none=>simp only[hz,V4]at h;exact h.elim
  | some z =>
   simp only[hz,V3]at h
   exact ok x d z H F Q R.sub rb hz fun p xs hp r=>Ct.newN R hp r h
end
section
variable {K:W.Frag}{cl:Str→Addr}{E:XK}{σ:St}{H F:Hp}{env:DE}
instance decMul(i j:Int):Decidable (IntMulOk i j):=by unfold IntMulOk;infer_instance
instance decPow(i j:Int):Decidable (a04 i j):=by unfold a04;infer_instance
abbrev i5:=gI0 fun i j=>.int (i+j)
abbrev B8:=gI0 fun i j=>.int (i-j)
abbrev l7:=gI IntMulOk fun i j=>.int (i*j)
abbrev p7:=gI (fun _ j=>0<j∧j.natAbs.log2<9000) fun i j=>.int (i/j)
abbrev i3:=gI (fun _ j=>0<j) fun i j=>.int (i%j)
abbrev a2e:=gI a04 fun i j=>.int (i ^ j.toNat)
abbrev gLt:=gI0 fun i j=>.bl (decide (i<j))
abbrev J1:=gI0 fun i j=>.bl (decide (i≤j))
abbrev gGt:=gI0 fun i j=>.bl (decide (j<i))
theorem r0:OpOk K cl (T5 fun i j=>.int (i+j)) i5:=a0L fun F i j=>by simp only[Rp]
theorem a0P:OpOk K cl (T5 fun i j=>.int (i-j)) B8:=a0L fun F i j=>by simp only[Rp]
theorem F8:OpOk K cl (rI IntMulOk fun i j=>.int (i*j)) l7:=a3x fun F i j=>by simp only[Rp]
theorem A2:OpOk K cl (rI (fun _ j=>0<j∧j.natAbs.log2<9000) fun i j=>.int (i/j)) p7:=a3x fun F i j=>by simp only[Rp]
theorem m8:OpOk K cl (rI (fun _ j=>0<j) fun i j=>.int (i%j)) i3:=a3x fun F i j=>by simp only[Rp]
theorem a8L:OpOk K cl (rI a04 fun i j=>.int (i ^ j.toNat)) a2e:=a3x fun F i j=>by simp only[Rp]
theorem a9h:OpOk K cl (T5 fun i j=>.bl (decide (i<j))) gLt:=a0L fun F i j=>by simp only[Rp]
theorem Q9:OpOk K cl (T5 fun i j=>.bl (decide (i≤j))) J1:=a0L fun F i j=>by simp only[Rp]
theorem a6g:OpOk K cl (T5 fun i j=>.bl (decide (j<i))) gGt:=a0L fun F i j=>by simp only[Rp]
def toV:D→Option V
 | .non=>some .non
 | .bl b=>some (.bl b)
 | .int i=>some (.int i)
 | .str x=>some (.str x)
 | _=>none
theorem Rb.toV{d:D}{v u:V}(h:Rb K cl F H d v)(e:toV d=some u):v=u:=by
 cases d with
 | non=>cases e;exact h.non
 | bl b=>cases e;exact h.bl
 | int i=>cases e;exact h.int
 | str x=>cases e;exact h.str
 | _=>cases e
def v9(neg:Bool)(d e:D):Option D:=match toV d,toV e with
 | some x,some y=>if a1W x y=true then some (.bl (if neg then !decide (x=y)else decide (x=y)))else none
 | _,_=>none
theorem J8:OpOk K cl rEq (v9 false):=by
 intro x y d e z H F Q s hx hy h q
 unfold v9 at h
 split at h
 ·rename_i u w hu hw
  split at h
  ·rename_i c;cases h
   rw[hx.toV hu,hy.toV hw]
   exact⟨c,q _ H F (.refl s) (by simp only[Rp];rfl)⟩
  ·cases h
 ·cases h
theorem a3y:OpOk K cl rNe (v9 true):=by
 intro x y d e z H F Q s hx hy h q
 unfold v9 at h
 split at h
 ·rename_i u w hu hw
  split at h
  ·rename_i c;cases h
   rw[hx.toV hu,hy.toV hw]
   exact⟨c,q _ H F (.refl s) (by simp only[Rp];rfl)⟩
  ·cases h
 ·cases h
@[simp] theorem a6Q(neg:Bool)(a b:Int):v9 neg (.int a) (.int b)=some (.bl (if neg then !decide (a=b)else decide (a=b))):=by
 unfold v9 toV
 simp only[a1W,if_true,V.int.injEq]
@[simp] theorem a6R(neg:Bool)(a b:Str):v9 neg (.str a) (.str b)=some (.bl (if neg then !decide (a=b)else decide (a=b))):=by
 unfold v9 toV
 simp only[a1W,if_true,V.str.injEq]
def a2g(neg:Bool)(d e:D):Option D:=match d,e with
 | .non,.non=>some (.bl (!neg))
 | _,.non=>some (.bl neg)
 | _,_=>none
theorem Rb.notNon{d:D}{v:V}(h:Rb K cl F H d v)(n:d≠.non):v≠.non:=by
 rcases h with h | ⟨_,_,_,rfl,_⟩
 ·cases d<;>simp only[Rp]at h
  ·exact absurd rfl n
  all_goals first | (rw[h];intro z;cases z) | (obtain⟨_,_,rfl,_⟩:=h;intro z;cases z) | (obtain⟨_,rfl,_⟩:=h;intro z;cases z) | (obtain⟨_,_,_,rfl,_⟩:=h;intro z;cases z)
 ·intro z;cases z
theorem a8M:OpOk K cl (fun x y H Q=>y=.non∧Q (.bl (decide (x=.non))) H) (a2g false):=by
 intro x y d e z H F Q s hx hy h q
 unfold a2g at h
 split at h
 ·cases h;rw[hx.non];exact⟨hy.non,q _ H F (.refl s) (by simp[Rp])⟩
 ·rename_i n;cases h
  exact⟨hy.non,q _ H F (.refl s) (by simp only[Rp];rw[decide_eq_false (hx.notNon n)])⟩
 ·cases h
theorem Rps.atI{ds:List D}{xs:List V}{i:Int}{d:D}(h:Rps K cl F ds xs)(e:atI ds i=some d):∃v,L2.atI xs i=some v∧Rp K cl F d v:=by
 unfold L2.atI at e ⊢
 rw[← h.length]
 cases q:O7 ds.length i with
 | none=>rw[q]at e;cases e
 | some j=>rw[q]at e;exact h.get e
def g8(d e:D):Option D:=match d,e with
 | .lst ds,.int i=>atI ds i
 | .scr ns,.int i=>(atI ns i).map .int
 | _,_=>none
def d6(d e:D):Option D:=match d,e with
 | .tup ds,.int i=>atI ds i
 | _,_=>none
theorem a6S{α β:Type}(f:α→β)(xs:List α)(i:Int):atI (xs.map f) i=(atI xs i).map f:=by
 unfold L2.atI
 rw[List.length_map]
 cases O7 xs.length i with
 | none=>rfl
 | some j=>simp
theorem j5:OpOk K cl (a4Z K) g8:=by
 intro x y d e z H F Q s hx hy h q
 unfold g8 at h
 split at h
 ·obtain⟨a,xs,rfl,hH,r⟩:=hx.lst s
  obtain⟨v,e,p⟩:=r.atI h
  exact⟨a,xs,_,v,rfl,hy.int,.of hH,e,q v H F (.refl s) p⟩
 ·rename_i ns i
  obtain⟨a,rfl,hS⟩:=hx.scr s
  cases hz:atI ns i with
  | none=>rw[hz]at h;cases h
  | some n =>
   rw[hz]at h;cases h
   exact⟨a,_,_,.int n,rfl,hy.int,hS.seq,by rw[a6S,hz];rfl,q _ H F (.refl s) (by simp only[Rp])⟩
 ·cases h
theorem f9:OpOk K cl (a40 K) d6:=by
 intro x y d e z H F Q s hx hy h q
 unfold d6 at h
 split at h
 ·obtain⟨a,xs,rfl,hH,r⟩:=hx.tup s
  obtain⟨v,e,p⟩:=r.atI h
  exact⟨a,xs,_,v,rfl,hy.int,.of hH,e,q v H F (.refl s) p⟩
 ·cases h
def P8:D→D→Bool
 | .non,.non=>true
 | .bl a,.bl b=>a == b
 | .bl a,.int b=>(if a then 1 else 0) == b
 | .int a,.bl b=>a == (if b then 1 else 0)
 | .int a,.int b=>a == b
 | .str a,.str b=>a == b
 | _,_=>false
def a3z:List D→List D→Bool
 | [],[]=>true
 | x::xs,y::ys=>P8 x y && a3z xs ys
 | _,_=>false
def j1:D→Bool
 | .non=>true
 | .bl _=>true
 | .int _=>true
 | .str _=>true
 | _=>false
theorem Rp.flat{d:D}{v:V}(h:Rp K cl F d v)(f:j1 d=true):toV d=some v∧a1R v=true:=by
 cases d<;>simp only[Rp]at h<;>first | (subst h;exact⟨rfl,rfl⟩) | cases f
theorem Rps.flat:∀{ds:List D} {vs:List V},Rps K cl F ds vs→ds.all j1=true→vs.all a1R=true
 | [],_,h,_=>by rw[h.inv0];rfl
 | d::ds,_,h,f=>by
  obtain⟨v,r,rfl,h1,h2⟩:=h.inv
  rw[List.all_cons,Bool.and_eq_true]at f
  rw[List.all_cons,(h1.flat f.1).2,h2.flat f.2];rfl
theorem Rp.eq{d e:D}{v u:V}(h:Rp K cl F d v)(g:Rp K cl F e u)(fd:j1 d=true)(fe:j1 e=true):eqV v u=P8 d e:=by
 have h1:=(h.flat fd).1
 have h2:=(g.flat fe).1
 cases d<;>cases e<;>first | (cases h1;cases h2;rfl) | (cases fd;done) | (cases fe;done)
theorem Rps.eq:∀{ds es:List D} {vs us:List V},Rps K cl F ds vs→Rps K cl F es us→ds.all j1=true→es.all j1=true→a46 vs us=a3z ds es
 | [],[],_,_,h,g,_,_=>by rw[h.inv0,g.inv0];rfl
 | [],_::_,_,_,h,g,_,_=>by rw[h.inv0];obtain⟨_,_,rfl,_,_⟩:=g.inv;rfl
 | _::_,[],_,_,h,g,_,_=>by rw[g.inv0];obtain⟨_,_,rfl,_,_⟩:=h.inv;rfl
 | d::ds,e::es,_,_,h,g,fd,fe=>by
  obtain⟨v,r,rfl,h1,h2⟩:=h.inv
  obtain⟨u,r',rfl,g1,g2⟩:=g.inv
  rw[List.all_cons,Bool.and_eq_true]at fd fe
  unfold a46 a3z
  rw[h1.eq g1 fd.1 fe.1,h2.eq g2 fd.2 fe.2]
def D0:D→Option D
 | .lst ds=>some (.int ds.length)
 | .tup ds=>some (.int ds.length)
 | .scr ns=>some (.int ns.length)
 | _=>none
theorem U1:CbOk1 K cl (a2V K) D0:=by
 intro x d z H F Q s hx h q
 unfold D0 at h
 split at h
 ·cases h
  obtain⟨a,xs,rfl,hH,r⟩:=hx.lst s
  exact⟨a,xs,rfl,.inl (.of hH),q _ H F (.refl s) (by simp only[Rp];rw[r.length])⟩
 ·cases h
  obtain⟨a,xs,rfl,hH,r⟩:=hx.tup s
  exact⟨a,xs,rfl,.inr (.of hH),q _ H F (.refl s) (by simp only[Rp];rw[r.length])⟩
 ·cases h
  obtain⟨a,rfl,hS⟩:=hx.scr s
  exact⟨a,_,rfl,.inl hS.seq,q _ H F (.refl s) (by simp only[Rp];rw[List.length_map])⟩
 ·cases h
def O0:D→Option (List D)
 | .lst ds=>some ds
 | .tup ds=>some ds
 | .scr ns=>some (ns.map .int)
 | _=>none
theorem a1c:a8J K cl (a2W K) O0:=by
 intro x d zs H F Q s hx h q
 unfold O0 at h
 split at h
 ·cases h
  obtain⟨a,xs,rfl,hH,r⟩:=hx.lst s
  exact⟨a,xs,rfl,.inl (.of hH),fun p hp=>q p _ hp r⟩
 ·cases h
  obtain⟨a,xs,rfl,hH,r⟩:=hx.tup s
  exact⟨a,xs,rfl,.inr (.of hH),fun p hp=>q p _ hp r⟩
 ·cases h
  obtain⟨a,rfl,hS⟩:=hx.scr s
  exact⟨a,_,rfl,.inl hS.seq,fun p hp=>q p _ hp Rps.ofInts⟩
 ·cases h
def E5:List D→Option (List Bool)
 | []=>some []
 | .bl b::ds=>(E5 ds).map (b :: ·)
 | _=>none
theorem a2h:∀{ds:List D} {bs:List Bool},E5 ds=some bs→ds=bs.map .bl
 | [],_,h=>by cases h;rfl
 | .bl b::ds,_,h=>by
  unfold E5 at h
  cases q:E5 ds with
  | none=>rw[q]at h;cases h
  | some bs=>rw[q]at h;cases h;rw[a2h q];rfl
 | .non::_,_,h=>by cases h
 | .int _::_,_,h=>by cases h
 | .str _::_,_,h=>by cases h
 | .ty _::_,_,h=>by cases h
 | .cls _::_,_,h=>by cases h
 | .tup _::_,_,h=>by cases h
 | .lst _::_,_,h=>by cases h
 | .scr _::_,_,h=>by cases h
 | .exc _::_,_,h=>by cases h
 | .obj _ _ _::_,_,h=>by cases h
 | .dic _ _::_,_,h=>by cases h
 | .exv _ _ _::_,_,h=>by cases h
def V6:D→Option D
 | .lst ds=>(E5 ds).map fun bs=>.bl (bs.any id)
 | _=>none
theorem a4d:CbOk1 K cl (a8u K) V6:=by
 intro x d z H F Q s hx h q
 unfold V6 at h
 split at h
 ·rename_i ds
  cases hb:E5 ds with
  | none=>rw[hb]at h;cases h
  | some bs =>
   rw[hb]at h;cases h
   obtain⟨a,xs,rfl,hH,r⟩:=hx.lst s
   rw[a2h hb]at r
   rw[r.bls]at hH
   exact⟨a,bs,rfl,.of hH,q _ H F (.refl s) (by simp only[Rp])⟩
 ·cases h
end
inductive R1 where | ret (d:D) | own (ds:List D) | owz (dss:List (List D)) | owp (n:Int) (ds:List D) | ex (c:XN)
def j2(K:W.Frag)(cl:Str→Addr)(g:List D→Option R1):Sp:=fun vs H Q E=>∃ds F,Same F H∧Rps K cl F ds vs∧match g ds with
 | none=>False
 | some (.ret d)=>∀v H' F',Gr H F H' F'→Rp K cl F' d v→Q v H'
 | some (.own es)=>∀a xs H' F',Gr H F H' F'→H a=none→H' a=some (.lst xs)→F' a=none→Rps K cl F' es xs→Q (.ref a) H'
 | some (.owz dss)=>∀p as H' F',Gr H F H' F'→H p=none→H' p=some (.tup (as.map V.ref))→F' p=none→Rz K cl F' H' (fun a=>H a=none) dss as→Q (.ref p) H'
 | some (.owp n es)=>∀p a xs H' F',Gr H F H' F'→H p=none→H' p=some (.tup [.int n,.ref a])→F' p=none→H a=none→H' a=some (.lst xs)→F' a=none→Rps K cl F' es xs→Q (.ref p) H'
 | some (.ex c)=>∀H' F',Gr H F H' F'→∀cx,Xf K cl F' c cx→E (.ref (cl c.nm)) cx H'
def toZ(r:Option R1)(e:DE):Option (R D):=match r with
 | none=>none
 | some (.ret d)=>some (.ok d e)
 | some (.own ds)=>some (.ok (.lst ds) e)
 | some (.owz _)=>none
 | some (.owp _ _)=>none
 | some (.ex c)=>some (.ex c)
def D8(r:Option R1)(e:DE):Option (R D):=match r with
 | some (.ret d)=>some (.ok d e)
 | some (.own ds)=>some (.ok (.lst ds) e)
 | _=>none
def R5(g:List D→Option R1)(f:AF):ZF:=fun e=>bnd (f e) fun ds e1=>toZ (g ds) e1
def j0(g:List D→Option R1)(f:AF):ZF:=fun e=>bnd (f e) fun ds e1=>D8 (g ds) e1
def put(i:Nat)(s:Sl)(e:DE):Option RS:=match e[i]? with
 | none=>none
 | some (.hd _)=>none
 | some _=>some (.nx (e.set i s))
def O1(i:Nat)(r:Option R1)(e:DE):Option RS:=match r with
 | none=>none
 | some (.ret d)=>put i (.fz d) e
 | some (.own ds)=>put i (.ow ds) e
 | some (.owz _)=>none
 | some (.owp _ _)=>none
 | some (.ex c)=>some (.ex c)
def a0Q(i:Nat)(r:Option R1)(e:DE):Option RS:=match r with
 | some (.ret d)=>put i (.fz d) e
 | some (.own ds)=>put i (.ow ds) e
 | _=>none
def a1S(r:Option R1):Option RS:=match r with
 | none=>none
 | some (.ret d)=>some (.rt d)
 | some (.own ds)=>some (.ro ds)
 | some (.owz dss)=>some (.rz dss)
 | some (.owp n ds)=>some (.rp n ds)
 | some (.ex c)=>some (.ex c)
def a4e(r:Option R1):Option RS:=match r with
 | some (.ret d)=>some (.rt d)
 | some (.own ds)=>some (.ro ds)
 | _=>none
def A0:SF:=fun e=>some (.nx e)
def c7(f k:SF):SF:=fun e=>match f e with
 | some (.nx e1)=>k e1
 | r=>r
def k8(i:Nat)(f:ZF):SF:=fun e=>J0 (f e) fun d e1=>put i (.fz d) e1
def v8(i:Nat)(f:NF):SF:=fun e=>J0 (f e) fun ds e1=>put i (.ow ds) e1
def V7(i:Nat)(g:List D→Option R1)(f:AF):SF:=fun e=>J0 (f e) fun ds e1=>O1 i (g ds) e1
def A3(i:Nat)(g:List D→Option R1)(f:AF):SF:=fun e=>J0 (f e) fun ds e1=>a0Q i (g ds) e1
def p8(f:ZF):SF:=fun e=>J0 (f e) fun d _=>some (.rt d)
def a0R(f:NF):SF:=fun e=>J0 (f e) fun ds _=>some (.ro ds)
def E6(i:Nat):SF:=fun e=>match e[i]? with
 | some (.fz d)=>some (.rt d)
 | some (.ow ds)=>some (.ro ds)
 | _=>none
def y0(c:BF)(f k:SF):SF:=fun e=>J0 (c e) fun b e1=>if b=true then f e1 else k e1
def a2i(c:Str)(f:AF):SF:=fun e=>J0 (f e) fun ds _=>if ds.length≤sizeLine then some (.ex (.p c))else none
def a0t(i:Nat)(f:ZF):SF:=fun e=>match look e i with
 | some (.lst _)=>J0 (f e) fun d e1=>match e1[i]? with
  | some (.ow ds)=>if ds.length<sizeLine then some (.nx (e1.set i (.ow (ds++[d]))))else none
  | _=>none
 | _=>none
def a3A(i:Nat)(k:ZF)(f:ZF):SF:=fun e=>J0 (f e) fun d e1=>match look e1 i with
 | none=>none
 | some _=>J0 (k e1) fun j e2=>match e2[i]?,j with
  | some (.ow ds),.int j=>match O7 ds.length j with
   | some n=>some (.nx (e2.set i (.ow (ds.set n d))))
   | none=>none
  | _,_=>none
section
variable {K:W.Frag}{cl:Str→Addr}{E:XK}{σ:St}{H F:Hp}{env:DE}
theorem Gr.fx{H' F':Hp}(g:Gr H F H' F'):FX σ H F env H' F':=⟨g.fz,g.sub,fun a o h f _=>g.hid a o h f,g.dom⟩
theorem a4f{g:List D→Option R1}{ds:List D}{vs:List V}{Q:VK}(R:Rel K cl σ H F env)(p:Rps K cl F ds vs)(h:Ct K cl E (PZ K cl) (toZ (g ds) env) σ H F env Q):j2 K cl g (vs++[]) H Q E:=by
 rw[List.append_nil]
 refine⟨ds,F,R.sub,p,?_⟩
 unfold toZ at h
 split at h
 ·exact h.elim
 ·exact fun v H' F' gr r=>h v H' F' (R.frm gr) (R.gr gr) r
 ·rename_i es _
  intro a xs H' F' gr ha hH hF r
  have sF:Same F' (upd F' a (.lst xs)):=K6 hF _
  have gr':Gr H F H' (upd F' a (.lst xs)):=by
   refine⟨gr.fz.trans sF,fun b o z=>?_,fun b o hb fb=>?_⟩
   ·by_cases y:b=a
    ·subst y;rw[g9]at z;cases z;exact hH
    ·rw[b9 y]at z;exact gr.sub _ _ z
   ·obtain⟨h1,f1⟩:=gr.hid b o hb fb
    have nb:b≠a:=fun z=>by rw[z,ha]at hb;cases hb
    exact⟨h1,by rw[b9 nb];exact f1⟩
  exact h _ H' _ (R.frm gr') (R.gr gr') (by show Rp K cl _ (.lst es) _;simp only[Rp];exact⟨a,xs,rfl,g9,r.mono sF⟩)
 ·exact h.elim
 ·exact h.elim
 ·exact fun H' F' gr=>h H' F' gr.fx
theorem a6T{r:Option R1}{e:DE}{P:Py D V}{Q:VK}(h:Ct K cl E P (D8 r e) σ H F env Q):toZ r e=D8 r e∧∀c,r≠some (.ex c):=by
 unfold D8 at h
 split at h
 ·exact⟨rfl,fun c z=>by cases z⟩
 ·exact⟨rfl,fun c z=>by cases z⟩
 ·exact h.elim
theorem a2Z{g:List D→Option R1}{t:TA}{f:AF}(hf:N6 K cl E t f):m5 K cl E (Q7 (j2 K cl g) [] E t) (R5 g f):=by
 intro σ H Q env F R h
 refine hf σ H _ env F R ((Ct.bnd h J7).mono fun vs H1 ⟨F1,e1,ds,s1,R1,p1,h1⟩=>a4f R1 p1 h1)
theorem A4{g:List D→Option R1}{t:TA}{f:AF}(hf:N6 K cl E t f):m5 K cl E (Q7 (j2 K cl g) [] E0 t) (j0 g f):=by
 intro σ H Q env F R h
 refine hf σ H _ env F R ((Ct.bnd h J7).mono fun vs H1 ⟨F1,e1,ds,s1,R1,p1,h1⟩=>?_)
 refine a4f R1 p1 ?_
 obtain⟨z,n⟩:=a6T h1
 rw[z]
 unfold Ct at h1 ⊢
 split at h1
 ·exact h1
 ·exact h1
 ·rename_i c q
  exact absurd q (by unfold D8;split<;>intro y<;>cases y)
theorem z8:RfS K cl E a5Y A0:=fun N σ H env F R h=>h σ H F Frm.refl R
theorem d7{t u:TS}{f k:SF}(hf:RfS K cl E t f)(hk:RfS K cl E u k):RfS K cl E (a77 t u) (c7 f k):=by
 intro N σ H env F R h
 refine hf _ σ H env F R ?_
 unfold c7 at h
 split at h
 ·rename_i e1 q
  rw[q]
  intro σ' H' F' fr R'
  exact hk N σ' H' e1 F' R' (h.from fr)
 ·rename_i n
  unfold Cs at h ⊢
  split at h
  ·exact h
  ·rename_i e q;exact absurd q (n e)
  all_goals exact h
theorem S4{i:Nat}{s:Sl}{e:DE}{N:Ends}{σ0:St}{H0 F0:Hp}{env0:DE}(h:Cs K cl E (put i s e) σ0 H0 F0 env0 N):i<e.length∧(∀ds,e[i]?≠some (.hd ds))∧Cs K cl E (some (.nx (e.set i s))) σ0 H0 F0 env0 N:=by
 unfold put at h
 split at h
 ·exact h.elim
 ·exact h.elim
 ·rename_i z n q
  exact⟨(List.getElem?_eq_some_iff.mp q).1,fun ds y=>by rw[q]at y;cases y;exact n ds rfl,h⟩
theorem t6{i:Nat}{t:TE}{f:ZF}(hf:m5 K cl E t f):RfS K cl E (X5 t (U6 i)) (k8 i f):=by
 intro N σ H env F R h
 refine hf σ H _ env F R ((Cs.bnd h).mono fun x H1 ⟨F1,e1,d,fr,R1,p1,h1⟩=>?_)
 obtain⟨hi,nh,h2⟩:=S4 h1
 exact h2 _ H1 F1 (fr.trans (Frm.put nh)) (R1.put hi nh p1)
theorem J2{i:Nat}{t:TE}{f:NF}(hf:RfN K cl E t f):RfS K cl E (X5 t (U6 i)) (v8 i f):=by
 intro N σ H env F R h
 refine hf σ H _ env F R ((Cs.bnd h).mono fun x H1 ⟨F1,e1,ds,fr,R1,p1,h1⟩=>?_)
 obtain⟨a,xs,rfl,hn,hH,hF,nm,r⟩:=p1
 obtain⟨hi,nh,h2⟩:=S4 h1
 exact h2 _ H1 F1 (fr.putO hn nh) (R1.putO hi hH hF nm r)
theorem r6{t:TE}{f:ZF}(hf:m5 K cl E t f):RfS K cl E (a3e t) (p8 f):=by
 intro N σ H env F R h
 exact hf σ H _ env F R ((Cs.bnd h).mono fun x H1 ⟨F1,e1,d,fr,R1,p1,h1⟩=>h1 x H1 F1 (fr.toFX R1.sub) p1)
theorem a20{t:TE}{f:NF}(hf:RfN K cl E t f):RfS K cl E (a3e t) (a0R f):=by
 intro N σ H env F R h
 refine hf σ H _ env F R ((Cs.bnd h).mono fun x H1 ⟨F1,e1,ds,fr,R1,p1,h1⟩=>?_)
 obtain⟨a,xs,rfl,hn,hH,hF,nm,r⟩:=p1
 exact h1 a xs H1 F1 (fr.toFX R1.sub) hH hF (fun o e=>by rw[hn]at e;cases e) r
theorem Z7{i:Nat}:RfS K cl E (a3e (J5 i)) (E6 i):=by
 intro N σ H env F R h
 unfold E6 at h
 split at h
 ·rename_i d q
  obtain⟨v,e,r⟩:=R.fz i d q
  exact⟨v,e,h v H F (Frm.refl.toFX R.sub) r⟩
 ·rename_i ds q
  obtain⟨a,xs,e,hH,hF,r⟩:=R.mu i ds (.inl q)
  exact⟨_,e,h a xs H F (Frm.refl.toFX R.sub) hH hF (fun o _=>⟨i,.ow ds,True.intro,q,e⟩) r⟩
 ·exact h.elim
theorem u4{c:TT}{t u:TS}{b:BF}{f k:SF}(hc:D7 K cl E c b)(hf:RfS K cl E t f)(hk:RfS K cl E u k):RfS K cl E (a78 c t u) (y0 b f k):=by
 intro N σ H env F R h
 refine hc σ H _ env F R ((Cs.bnd h).mono fun x H1 ⟨F1,e1,d,fr,R1,p1,h1⟩=>?_)
 cases (show x=d from p1)
 by_cases z:x=true
 ·rw[if_pos z]at h1 ⊢;exact hf N σ H1 e1 F1 R1 (h1.from fr)
 ·rw[if_neg z]at h1 ⊢;exact hk N σ H1 e1 F1 R1 (h1.from fr)
theorem a5f{c:Str}{t:TA}{f:AF}(hf:N6 K cl E t f):RfS K cl E (a37 (cl c) E t) (a2i c f):=by
 intro N σ H env F R h
 refine hf σ H _ env F R ((Cs.bnd h).mono fun xs H1 ⟨F1,e1,ds,fr,R1,p1,h1⟩=>?_)
 have hl:ds.length=xs.length:=Rps.length p1
 split at h1
 ·rename_i z
  exact⟨by rw[← hl];exact z,h1 H1 F1 (fr.toFX R1.sub) none rfl⟩
 ·exact h1.elim
theorem a21{i:Nat}{g:List D→Option R1}{t:TA}{f:AF}(hf:N6 K cl E t f):RfS K cl E (X5 (Q7 (j2 K cl g) [] E t) (U6 i)) (V7 i g f):=by
 intro N σ H env F R h
 refine hf σ H _ env F R ((Cs.bnd h).mono fun vs H1 ⟨F1,e1,ds,fr,R1,p1,h1⟩=>?_)
 show j2 K cl g (vs++[]) H1 _ E
 rw[List.append_nil]
 refine⟨ds,F1,R1.sub,p1,?_⟩
 unfold O1 at h1
 split at h1
 ·exact h1.elim
 ·obtain⟨hi,nh,h2⟩:=S4 h1
  exact fun v H' F' gr r=>h2 _ H' F' ((fr.trans (R1.frm gr)).trans (Frm.put nh)) ((R1.gr gr).put hi nh r)
 ·obtain⟨hi,nh,h2⟩:=S4 h1
  intro a xs H' F' gr ha hH hF r
  refine h2 _ H' F' ((fr.trans (R1.frm gr)).putO (fr.dom a ha) nh) ((R1.gr gr).putO hi hH hF (fun j mj e=>?_) r)
  obtain⟨es,q⟩:=mj
  obtain⟨b,ys,e',hb,_⟩:=R1.mu j es q
  rw[e]at e';cases e'
  rw[ha]at hb;cases hb
 ·exact h1.elim
 ·exact h1.elim
 ·exact fun H' F' gr=>h1 H' F' (fr.fx gr.fx)
theorem G4{i:Nat}{g:List D→Option R1}{t:TA}{f:AF}(hf:N6 K cl E t f):RfS K cl E (X5 (Q7 (j2 K cl g) [] E0 t) (U6 i)) (A3 i g f):=by
 intro N σ H env F R h
 refine hf σ H _ env F R ((Cs.bnd h).mono fun vs H1 ⟨F1,e1,ds,fr,R1,p1,h1⟩=>?_)
 show j2 K cl g (vs++[]) H1 _ E0
 rw[List.append_nil]
 refine⟨ds,F1,R1.sub,p1,?_⟩
 unfold a0Q at h1
 split at h1
 ·rename_i q;rw[q]
  obtain⟨hi,nh,h2⟩:=S4 h1
  exact fun v H' F' gr r=>h2 _ H' F' ((fr.trans (R1.frm gr)).trans (Frm.put nh)) ((R1.gr gr).put hi nh r)
 ·rename_i q;rw[q]
  obtain⟨hi,nh,h2⟩:=S4 h1
  intro a xs H' F' gr ha hH hF r
  refine h2 _ H' F' ((fr.trans (R1.frm gr)).putO (fr.dom a ha) nh) ((R1.gr gr).putO hi hH hF (fun j mj e=>?_) r)
  obtain⟨es,q⟩:=mj
  obtain⟨b,ys,e',hb,_⟩:=R1.mu j es q
  rw[e]at e';cases e'
  rw[ha]at hb;cases hb
 ·exact h1.elim
theorem Rel.change{i:Nat}{ds es:List D}{a:Addr}{ys:List V}(R:Rel K cl σ H F env)(h:env[i]? = some (.ow ds))(e:σ[i]? = some (some (.ref a)))(r:Rps K cl F es ys) :
  Rel K cl σ (upd H a (.lst ys)) F (env.set i (.ow es))∧Frm σ H F env σ (upd H a (.lst ys)) F (env.set i (.ow es)):=by
 obtain⟨a',xs,e',hH,hF,_⟩:=R.mu i ds (.inl h)
 rw[e]at e';cases e'
 have hi:i<env.length:=(List.getElem?_eq_some_iff.mp h).1
 have self:(env.set i (.ow es))[i]? = some (.ow es):=List.getElem?_set_self hi
 have oth:∀j,j≠i→(env.set i (.ow es))[j]? = env[j]?:=fun j hj=>List.getElem?_set_ne (Ne.symm hj)
 have mui:∀j,Mu (env.set i (.ow es)) j→Mu env j:=fun j ⟨fs,q⟩=>by
  by_cases z:j=i
  ·subst z;exact⟨ds,.inl h⟩
  ·rw[oth j z]at q;exact⟨fs,q⟩
 refine⟨⟨fun b o q=>?_,by rw[List.length_set];exact R.len,fun j d q=>?_,fun j fs q=>?_,fun j k b hj hk=>R.inj j k b (mui j hj) (mui k hk),(R.od.updL hH).setE a0K⟩,⟨Same.refl _,fun b o hb fb w=>?_,fun j fs q=>?_,fun b q=>?_⟩⟩
 ·have z:b≠a:=fun z=>by rw[z,hF]at q;cases q
  rw[b9 z];exact R.sub _ _ q
 ·have z:j≠i:=fun z=>by subst z;rw[self]at q;cases q
  rw[oth j z]at q;exact R.fz j d q
 ·by_cases z:j=i
  ·subst z
   rw[self]at q
   rcases q with q | q
   ·cases q;exact⟨a,ys,e,g9,hF,r⟩
   ·cases q
  ·rw[oth j z]at q
   obtain⟨b,zs,e1,h1,f1,r1⟩:=R.mu j fs q
   have nb:b≠a:=fun y=>z (R.inj j i b ⟨fs,q⟩ ⟨ds,.inl h⟩ e1 (by rw[y];exact e))
   exact⟨b,zs,e1,by rw[b9 nb];exact h1,f1,r1⟩
 ·have z:b≠a:=fun z=>w ⟨i,.ow ds,True.intro,h,by rw[z];exact e⟩
  refine⟨by rw[b9 z];exact hb,fb,fun⟨j,fs,oo,q,e1⟩=>?_⟩
  by_cases y:j=i
  ·subst y;rw[e]at e1;cases e1;exact z rfl
  ·rw[oth j y]at q;exact w ⟨j,fs,oo,q,e1⟩
 ·have z:j≠i:=fun z=>by subst z;rw[h]at q;cases q
  exact⟨by rw[oth j z];exact q,rfl⟩
 ·by_cases z:b=a
  ·rw[z,g9]at q;cases q
  ·rw[b9 z]at q;exact q
theorem a4g{i:Nat}{t:TE}{f:ZF}(hf:m5 K cl E t f):RfS K cl E (a5Z (tBM K "list" a2T (J5 i) (N9 t a0n))) (a0t i f):=by
 intro N σ H env F R h
 unfold a0t at h
 split at h
 ·rename_i ds0 q
  obtain⟨x,e0,rb⟩:=R.look q
  obtain⟨a0,xs0,rfl,hH0,_⟩:=rb.lst R.sub
  refine⟨_,e0,.inl ⟨rfl,xs0,.of hH0⟩,?_⟩
  ·refine hf σ H _ env F R ((Cs.bnd h).mono fun y H1 ⟨F1,e1,d,fr,R1,p1,h1⟩=>?_)
   split at h1
   ·rename_i ds q1
    split at h1
    ·rename_i c
     obtain⟨a,xs,e,hH,hF,r⟩:=R1.mu i ds (.inl q1)
     rw[e0]at e;cases e
     obtain⟨R2,f2⟩:=R1.change q1 e0 (r.append (.one p1))
     exact⟨_,xs,y,rfl,rfl,hH,by rw[← r.length];exact c,h1 σ _ F1 (fr.trans f2) R2⟩
    ·exact h1.elim
   ·exact h1.elim
 ·exact h.elim
theorem a8N{i:Nat}{t u:TE}{f k:ZF}(hf:m5 K cl E t f)(hk:m5 K cl E u k):RfS K cl E (X5 t (a8b (J5 i) u a58)) (a3A i k f):=by
 intro N σ H env F R h
 refine hf σ H _ env F R ((Cs.bnd h).mono fun x H1 ⟨F1,e1,d,fr,R1,p1,h1⟩=>?_)
 cases q:look e1 i with
 | none=>simp only[q]at h1;exact h1.elim
 | some d0 =>
  simp only[q]at h1
  obtain⟨o,e0,_⟩:=R1.look q
  refine⟨o,e0,hk σ H1 _ e1 F1 R1 ((Cs.bnd (h1.from fr)).mono fun y H2 ⟨F2,e2,j,fr2,R2,p2,h2⟩=>?_)⟩
  split at h2
  ·rename_i _ _ ds j q2
   split at h2
   ·rename_i n hn
    obtain⟨a,xs,e,hH,hF,r⟩:=R2.mu i ds (.inl q2)
    rw[e0]at e;cases e
    obtain⟨R3,f3⟩:=R2.change q2 e0 (r.set (Rp.mono fr2.fz _ _ p1) n)
    have hy:y=.int j:=by have:=(show Rp K cl F2 (.int j) y from p2);simpa only[Rp]using this
    exact⟨a,xs,j,n,rfl,hy,hH,by rw[← r.length];exact hn,h2 σ _ F2 (fr2.trans f3) R3⟩
   ·exact h2.elim
  ·exact h2.elim
end
abbrev GF:=D→DE→Option DE
def g7(i:Nat):GF:=fun d e=>match e[i]? with
 | none=>none
 | some (.hd _)=>none
 | some _=>some (e.set i (.fz d))
def V8:List GF→List D→DE→Option DE
 | [],[],e=>some e
 | b::bs,d::ds,e=>match b d e with
  | none=>none
  | some e1=>V8 bs ds e1
 | _,_,_=>none
def P9(bs:List GF):GF:=fun d e=>match d with
 | .tup ds=>V8 bs ds e
 | _=>none
section
variable (K:W.Frag)(cl:Str→Addr)
def N7(k:Nat)(g:TG)(b:GF):Prop:=∀v σ H Q d env env' F,Rel K cl σ H F env→Rp K cl F d v→b d env=some env'→(∀σ',σ'.drop k=σ.drop k→σ'.length=σ.length→Frm σ H F env σ' H F env'→Rel K cl σ' H F env'→Q σ' H)→g v σ H Q
def a3B(k:Nat)(t:X4)(bs:List GF):Prop:=∀vs σ H Q ds env env' F,Rel K cl σ H F env→Rps K cl F ds vs→V8 bs ds env=some env'→(∀σ',σ'.drop k=σ.drop k→σ'.length=σ.length→Frm σ H F env σ' H F env'→Rel K cl σ' H F env'→Q σ' H)→t vs σ H Q
end
section
variable {K:W.Frag}{cl:Str→Addr}{E:XK}{σ:St}{H F:Hp}{env:DE}{k:Nat}
theorem a5g{α:Type}{l:List α}{i k:Nat}{x:α}(h:i<k):(l.set i x).drop k=l.drop k:=by
 apply List.ext_getElem?
 intro j
 rw[List.getElem?_drop,List.getElem?_drop,List.getElem?_set_ne (by omega)]
theorem n6{i:Nat}(hi:i<k):N7 K cl k (U6 i) (g7 i):=by
 intro v σ H Q d env env' F R p h q
 unfold g7 at h
 split at h
 ·cases h
 ·cases h
 ·rename_i z n e
  cases h
  have nh:∀ds,env[i]?≠some (.hd ds):=fun ds y=>by rw[e]at y;cases y;exact n ds rfl
  exact q _ (a5g hi) List.length_set (Frm.put nh) (R.put (List.getElem?_eq_some_iff.mp e).1 nh p)
theorem Z8:a3B K cl k a7_ []:=by
 intro vs σ H Q ds env env' F R p h q
 cases ds with
 | nil=>cases h;exact⟨p.inv0,q σ rfl rfl Frm.refl R⟩
 | cons _ _=>cases h
theorem B0{t:TG}{u:X4}{b:GF}{bs:List GF}(h1:N7 K cl k t b)(h2:a3B K cl k u bs):a3B K cl k (a50 t u) (b::bs):=by
 intro vs σ H Q ds env env' F R p h q
 cases ds with
 | nil=>cases h
 | cons d ds =>
  obtain⟨v,r,rfl,p1,p2⟩:=p.inv
  unfold V8 at h
  split at h
  ·cases h
  ·rename_i e1 hb
   refine⟨v,r,rfl,h1 v σ H _ d env e1 F R p1 hb fun σ1 d1 l1 f1 R1=>?_⟩
   exact h2 r σ1 H _ ds e1 env' F R1 p2 h fun σ2 d2 l2 f2 R2=>q σ2 (d2.trans d1) (l2.trans l1) (f1.trans f2) R2
theorem a1A:∀{bs:List GF} {ds:List D} {e e':DE},V8 bs ds e=some e'→ds.length=bs.length
 | [],[],_,_,_=>rfl
 | [],_::_,_,_,h=>by cases h
 | _::_,[],_,_,h=>by cases h
 | b::bs,d::ds,e,e',h=>by
  unfold V8 at h
  split at h
  ·cases h
  ·simp[a1A h]
theorem Z9{t:X4}{bs:List GF}{n:Nat}(h:a3B K cl k t bs)(hn:bs.length=n):N7 K cl k (a4V K n t) (P9 bs):=by
 intro v σ H Q d env env' F R p e q
 unfold P9 at e
 split at e
 ·rename_i ds
  simp only[Rp]at p
  obtain⟨a,xs,rfl,hF,r⟩:=p
  exact⟨a,xs,rfl,.of (R.sub _ _ hF),by rw[← r.length,a1A e,hn],h xs σ H Q ds env env' F R r e q⟩
 ·cases e
def a2j(f:ZF)(b:GF):SF:=fun e=>J0 (f e) fun d e1=>match b d e1 with
 | none=>none
 | some e2=>some (.nx e2)
theorem a2k{t:TE}{g:TG}{f:ZF}{b:GF}(hf:m5 K cl E t f)(hg:N7 K cl k g b):RfS K cl E (X5 t g) (a2j f b):=by
 intro N σ H env F R h
 refine hf σ H _ env F R ((Cs.bnd h).mono fun x H1 ⟨F1,e1,d,fr,R1,p1,h1⟩=>?_)
 split at h1
 ·exact h1.elim
 ·rename_i e2 hb
  exact hg x σ H1 _ d e1 e2 F1 R1 p1 hb fun σ' _ _ f2 R2=>h1 σ' H1 F1 (fr.trans f2) R2
def G5(b:GF)(body:SF):List D→DE→Option RS
 | [],e=>some (.nx e)
 | d::ds,e=>match b d e with
  | none=>none
  | some e1=>match body e1 with
   | some (.nx e2)=>G5 b body ds e2
   | some (.ct e2)=>G5 b body ds e2
   | some (.bk e2)=>some (.nx e2)
   | r=>r
theorem a5h{b:GF}{body:SF}{g:TG}{tb:TS}{d:D}{x:V}{ds:List D}{e1:DE}{N:Ends}{σ1:St}{H1 F1:Hp}{Pv:St→Hp→Prop}(hb:RfS K cl E tb body)(hg:N7 K cl k g b)
  (f1:Frm σ H F env σ1 H1 F1 e1) (R1:Rel K cl σ1 H1 F1 e1) (p:Rp K cl F1 d x) (h:Cs K cl E (G5 b body (d::ds) e1) σ H F env N)
  (hP:∀σ' H' F' e',Frm σ H F env σ' H' F' e'→Rel K cl σ' H' F' e'→Cs K cl E (G5 b body ds e') σ H F env N→Pv σ' H') :
  g x σ1 H1 fun σ2 H2=>tb { N with nx:=Pv,ct:=Pv,bk:=N.nx } σ2 H2:=by
 unfold G5 at h
 split at h
 ·exact h.elim
 ·rename_i e2 hbd
  refine hg x σ1 H1 _ d e1 e2 F1 R1 p hbd fun σ2 _ _ f2 R2=>?_
  refine hb _ σ2 H1 e2 F1 R2 ?_
  split at h
  ·rename_i e3 q;rw[q]
   exact fun σ' H' F' f3 R3=>hP σ' H' F' e3 ((f1.trans f2).trans f3) R3 h
  ·rename_i e3 q;rw[q]
   exact fun σ' H' F' f3 R3=>hP σ' H' F' e3 ((f1.trans f2).trans f3) R3 h
  ·rename_i e3 q;rw[q]
   exact fun σ' H' F' f3 R3=>h σ' H' F' ((f1.trans f2).trans f3) R3
  ·rename_i n1 n2 n3
   have h2:=h.from (f1.trans f2)
   unfold Cs at h2 ⊢
   split at h2
   ·exact h2
   ·rename_i e q;exact absurd q (n1 e)
   ·rename_i e q;exact absurd q (n3 e)
   ·rename_i e q;exact absurd q (n2 e)
   ·exact h2
   ·exact h2
   ·exact h2
   ·exact h2
   ·exact h2
theorem R6{α:Type}{l:List α}{i:Nat}{x:α}(h:l[i]? = some x):l.drop i=x::l.drop (i+1):=by
 obtain⟨hi,e⟩:=List.getElem?_eq_some_iff.mp h
 rw[← e];exact List.drop_eq_getElem_cons hi
def seqL:D→Option (List D)
 | .lst ds=>some ds
 | .scr ns=>some (ns.map .int)
 | _=>none
theorem Rp.seqL{d:D}{ds:List D}{v:V}(p:Rp K cl F d v)(s:L2.seqL d=some ds):∃a xs,v=.ref a∧Rps K cl F ds xs∧∀H',Same F H'→SqL K H' a xs:=by
 unfold L2.seqL at s
 split at s
 ·cases s;simp only[Rp]at p
  obtain⟨a,xs,e,h,r⟩:=p
  exact⟨a,xs,e,r,fun H' g=>.of (g _ _ h)⟩
 ·cases s;simp only[Rp]at p
  obtain⟨a,e,h⟩:=p
  exact⟨a,_,e,Rps.ofInts,fun H' g=>(h.same g).seq⟩
 ·cases s
def B5(lo:Int)(n:Nat):List D:=(List.range n).map fun(i:Nat)=>.int (lo+(i:Int))
theorem a1B{lo:Int}{n i:Nat}(h:i<n):(B5 lo n).drop i=.int (lo+i)::(B5 lo n).drop (i+1):=R6 (by unfold B5;rw[List.getElem?_map,List.getElem?_range h];rfl)
theorem a2l{lo:Int}{n:Nat}:(B5 lo n).length=n:=by unfold B5;rw[List.length_map,List.length_range]
theorem a9X{b:GF}{body:SF}{g:TG}{tb:TS}{lo:Int}{n:Nat}{N:Ends}(hb:RfS K cl E tb body)(hg:N7 K cl k g b)(R:Rel K cl σ H F env)(h:Cs K cl E (G5 b body (B5 lo n) env) σ H F env N) :
  ∃W:Nat→Nat→St→Hp→Prop,(∃m,W 0 m σ H)∧∀i m σ H,W i m σ H →
   ((X6 lo n).stop i H∧N.nx σ H)∨((X6 lo n).go i H∧∃M:St→Hp→Prop,(∀σ' H',M σ' H'→∃m',m'<m∧W (i+1) m' σ' H')∧∀x H',(X6 lo n).yld i H x H'→g x σ H' fun σ2 H2=>tb { N with nx:=M,ct:=M,bk:=N.nx } σ2 H2):=by
 refine a31 (fun i σ' H'=>∃F' e',Frm σ H F env σ' H' F' e'∧Rel K cl σ' H' F' e'∧Cs K cl E (G5 b body ((B5 lo n).drop i) e') σ H F env N) ⟨F,env,Frm.refl,R,h⟩ (fun i σ' H' hx ⟨F',e',f,R',h'⟩=>?_) (fun σ' H' ⟨F',e',f,R',h'⟩=>?_)
 ·rw[a1B hx]at h'
  exact a5h hb hg f R' (by simp only[Rp]) h' fun σ2 H2 F2 e2 f2 R2 h2=>⟨F2,e2,f2,R2,h2⟩
 ·rw[show(B5 lo n).drop n=[]from List.drop_eq_nil_of_le (by rw[a2l];exact Nat.le_refl _)]at h'
  exact h' σ' H' F' f R'
def D1(ds:List D):Option (Int×Nat):=match ds with
 | [.int j]=>if -(2 ^ 62)≤j∧j<2 ^ 62 then some (0,j.toNat)else none
 | _=>none
theorem a22{ds:List D}{vs:List V}{lo:Int}{n:Nat}(h:D1 ds=some (lo,n))(p:Rps K cl F ds vs):∃j:Int,vs=[.int j]∧-(2 ^ 62)≤j∧j<2 ^ 62∧lo=0∧n=j.toNat:=by
 unfold D1 at h
 split at h
 ·rename_i j
  split at h
  ·rename_i c;cases h
   exact⟨j,(Rps.ints (ns:=[j]) p),c.1,c.2,rfl,rfl⟩
  ·cases h
 ·cases h
def R7(rg:List D→Option (Int×Nat))(f:AF)(b:GF)(body:SF):SF:=fun e=>J0 (f e) fun ds e1=>match rg ds with
 | none=>none
 | some (lo,n)=>G5 b body (B5 lo n) e1
theorem a2m{t:TA}{g:TG}{tb:TS}{f:AF}{b:GF}{body:SF}(hf:N6 K cl E t f)(hg:N7 K cl k g b)(hb:RfS K cl E tb body):RfS K cl E (a8e (a3i t) g tb) (R7 D1 f b body):=by
 intro N σ H env F R h
 refine hf σ H _ env F R ((Cs.bnd h).mono fun x H1 ⟨F1,e1,ds,fr,R1,p1,h1⟩=>?_)
 split at h1
 ·exact h1.elim
 ·rename_i lo n hs
  obtain⟨j,e,c1,c2,rfl,rfl⟩:=a22 hs p1
  exact⟨j,e,c1,c2,a9X hb hg R1 (h1.from fr)⟩
def r8(c:BF)(body:SF):Nat→SF
 | 0,_=>none
 | n+1,e=>J0 (c e) fun b e1=>if b=true then(match body e1 with
   | some (.nx e2)=>r8 c body n e2
   | some (.ct e2)=>r8 c body n e2
   | some (.bk e2)=>some (.nx e2)
   | r=>r)else some (.nx e1)
theorem a2n{tc:TT}{tb:TS}{c:BF}{body:SF}{n:Nat}(hc:D7 K cl E tc c)(hb:RfS K cl E tb body):RfS K cl E (a3X tc tb) (r8 c body n):=by
 intro N σ H env F R h
 refine⟨fun m σ' H'=>∃F' e',Rel K cl σ' H' F' e'∧Cs K cl E (r8 c body m e') σ' H' F' e' N,⟨n,F,env,R,h⟩,?_⟩
 rintro m σ1 H1 ⟨F1,e1,R1,h1⟩
 cases m with
 | zero=>exact h1.elim
 | succ m =>
  refine hc σ1 H1 _ e1 F1 R1 ((Cs.bnd h1).mono fun x H2 ⟨F2,e2,d,f2,R2,p2,h2⟩=>?_)
  cases (show x=d from p2)
  by_cases z:x=true
  ·rw[if_pos z]at h2 ⊢
   refine⟨fun σ' H'=>∃F' e',Rel K cl σ' H' F' e'∧Cs K cl E (r8 c body m e') σ' H' F' e' N,fun σ' H' q=>⟨m,Nat.lt_succ_self m,q⟩,?_⟩
   refine hb _ σ1 H2 e2 F2 R2 ?_
   split at h2
   ·rename_i e3 q;rw[q]
    exact fun σ' H' F' f3 R3=>⟨F',e3,R3,h2.from (f2.trans f3)⟩
   ·rename_i e3 q;rw[q]
    exact fun σ' H' F' f3 R3=>⟨F',e3,R3,h2.from (f2.trans f3)⟩
   ·rename_i e3 q;rw[q]
    exact fun σ' H' F' f3 R3=>h2 σ' H' F' (f2.trans f3) R3
   ·rename_i n1 n2 n3
    have h3:=h2.from f2
    unfold Cs at h3 ⊢
    split at h3
    ·exact h3
    ·rename_i e q;exact absurd q (n1 e)
    ·rename_i e q;exact absurd q (n3 e)
    ·rename_i e q;exact absurd q (n2 e)
    ·exact h3
    ·exact h3
    ·exact h3
    ·exact h3
    ·exact h3
  ·rw[if_neg z]at h2 ⊢;exact h2 σ1 H2 F2 f2 R2
end
section
variable {K:W.Frag}{cl:Str→Addr}{E:XK}{σ:St}{H F:Hp}{env:DE}{k:Nat}
def a1d(e:DE):Bool:=e.all fun s=>match s with
 | .hd _=>false
 | _=>true
def a8O(n i:Nat)(exm:Str→Bool)(body suite:SF):SF:=fun e=>match body e with
 | some (.ex (.v _ _ _))=>none
 | some (.ex (.p c))=>if(exm c && a1d e)=true then(match suite ((List.replicate n Sl.no).set i (.fz (.exc c)))with
   | some (.nx e2)=>put i .no e2
   | some (.rt d)=>some (.rt d)
   | some (.ro ds)=>some (.ro ds)
   | _=>none)else none
 | r=>r
theorem Rel.drop{i:Nat}(R:Rel K cl σ H F env)(nh:∀ds,env[i]?≠some (.hd ds)):Rel K cl (σ.set i none) H F (env.set i .no)∧Frm σ H F env (σ.set i none) H F (env.set i .no):=by
 have key:∀(j:Nat) (s:Sl),(env.set i .no)[j]? = some s→s≠.no→j≠i∧env[j]? = some s:=fun j s q ns=>by
  by_cases z:j=i
  ·subst z
   have hj:j<env.length:=by have:=(List.getElem?_eq_some_iff.mp q).1;rwa [List.length_set]at this
   rw[List.getElem?_set_self hj]at q;cases q;exact absurd rfl ns
  ·rw[List.getElem?_set_ne (Ne.symm z)]at q;exact⟨z,q⟩
 have muk:∀j,Mu (env.set i .no) j→j≠i∧Mu env j:=fun j ⟨ds,q⟩=>by
  rcases q with q | q
  ·obtain⟨z,q⟩:=key j _ q (fun z=>by cases z);exact⟨z,ds,.inl q⟩
  ·obtain⟨z,q⟩:=key j _ q (fun z=>by cases z);exact⟨z,ds,.inr q⟩
 refine⟨⟨R.sub,by rw[List.length_set,List.length_set];exact R.len,fun j d q=>?_,fun j ds q=>?_,fun j l b hj hl e1 e2=>?_,R.od.set a3v⟩,⟨Same.refl _,fun a o h f w=>⟨h,f,fun⟨j,ds,oo,q,e⟩=>?_⟩,fun j ds q=>?_,fun _ h=>h⟩⟩
 ·obtain⟨z,q⟩:=key j _ q (fun z=>by cases z)
  obtain⟨v,e,p⟩:=R.fz j d q
  exact⟨v,by rw[List.getElem?_set_ne (Ne.symm z)];exact e,p⟩
 ·have:j≠i∧(env[j]? = some (.ow ds)∨env[j]? = some (.hd ds)):=by
   rcases q with q | q
   ·obtain⟨z,q⟩:=key j _ q (fun z=>by cases z);exact⟨z,.inl q⟩
   ·obtain⟨z,q⟩:=key j _ q (fun z=>by cases z);exact⟨z,.inr q⟩
  obtain⟨z,q⟩:=this
  obtain⟨a,xs,e,r⟩:=R.mu j ds q
  exact⟨a,xs,by rw[List.getElem?_set_ne (Ne.symm z)];exact e,r⟩
 ·obtain⟨zj,mj⟩:=muk j hj
  obtain⟨zl,ml⟩:=muk l hl
  rw[List.getElem?_set_ne (Ne.symm zj)]at e1
  rw[List.getElem?_set_ne (Ne.symm zl)]at e2
  exact R.inj j l b mj ml e1 e2
 ·obtain⟨z,q⟩:=key j _ q (fun z=>by subst z;exact oo)
  rw[List.getElem?_set_ne (Ne.symm z)]at e
  exact w ⟨j,ds,oo,q,e⟩
 ·have z:j≠i:=fun z=>by subst z;exact nh ds q
  rw[List.getElem?_set_ne (Ne.symm z),List.getElem?_set_ne (Ne.symm z)]
  exact⟨q,rfl⟩
end
section
variable {K:W.Frag}{cl:Str→Addr}{E:XK}{σ:St}{H F:Hp}{env:DE}{k:Nat}
def Q0:Option Sl→Sl
 | some (.fz d)=>.fz d
 | some (.ow ds)=>.hd ds
 | some (.hd ds)=>.hd ds
 | some (.od ks ds)=>.hk ks ds
 | some (.hk ks ds)=>.hk ks ds
 | _=>.no
def k9(k:Nat)(js:List Nat)(e:DE):DE:=List.replicate k .no++js.map fun j=>Q0 e[j]?
def j8(b:GF)(c:BF)(el:ZF)(ec:DE)(eo:DE):List D→List D→Option (R (List D))
 | [],acc=>some (.ok acc eo)
 | d::ds,acc=>match b d ec with
  | none=>none
  | some e1=>bnd (c e1) fun t e2=>if t=true then bnd (el e2) fun y _=>if acc.length<sizeLine then j8 b c el ec eo ds (acc++[y])else none
   else j8 b c el ec eo ds acc
theorem M6{js:List Nat}{e:DE}{i:Nat}{s:Sl}(h:(k9 k js e)[i]? = some s)(n:s≠.no):k≤i∧∃j,js[i-k]? = some j∧Q0 e[j]? = s:=by
 unfold k9 at h
 by_cases z:i<k
 ·rw[List.getElem?_append_left (by rw[List.length_replicate];exact z),List.getElem?_replicate,if_pos z]at h
  cases h;exact absurd rfl n
 ·rw[List.getElem?_append_right (by rw[List.length_replicate];omega),List.length_replicate,List.getElem?_map]at h
  cases q:js[i-k]? with
  | none=>rw[q]at h;cases h
  | some j=>rw[q]at h;cases h;exact⟨by omega,j,rfl,rfl⟩
theorem B9{js:List Nat}{i j:Nat}{v:V}(hk:k≤i)(hj:js[i-k]? = some j)(h:σ[j]? = some (some v)):(l4 k js σ)[i]? = some (some v):=by
 unfold l4
 rw[List.getElem?_append_right (by rw[List.length_replicate];exact hk),List.length_replicate,List.getElem?_map,hj]
 simp[h]
theorem RelOd.comp{js:List Nat}(R:RelOd K cl σ H F env)(nd:js.Nodup):RelOd K cl (l4 k js σ) H F (k9 k js env):=by
 have cap:∀{j:Nat} {s:Sl} {ks:DK} {ds:List D},Q0 env[j]? = s→M5 s ks ds→∃t,env[j]? = some t∧M5 t ks ds:=fun{j s ks ds} h d=>by
  unfold Q0 at h
  split at h<;>subst h
  ·exact d.elim
  ·exact d.elim
  ·exact d.elim
  ·rename_i q;exact⟨_,q,d⟩
  ·rename_i q;exact⟨_,q,d⟩
  ·exact d.elim
 have get:∀(i:Nat) (s:Sl) (ks:DK) (ds:List D),(k9 k js env)[i]? = some s→M5 s ks ds→k≤i∧∃j t,js[i-k]? = some j∧env[j]? = some t∧M5 t ks ds:=fun i s ks ds h d=>by
  obtain⟨hk,j,hj,c⟩:=M6 h (fun z=>by subst z;exact d)
  obtain⟨t,q,dt⟩:=cap c d
  exact⟨hk,j,t,hj,q,dt⟩
 refine⟨fun i s ks ds h d=>?_,fun i l s t ks ls ds es b hi di hl dl ei el=>?_⟩
 ·obtain⟨hk,j,t,hj,q,dt⟩:=get i s ks ds h d
  obtain⟨a,xs,e,r⟩:=R.at_ j t ks ds q dt
  exact⟨a,xs,B9 hk hj e,r⟩
 ·obtain⟨hk,j,s',hj,q,dt⟩:=get i s ks ds hi di
  obtain⟨hk',m,t',hm,q',dt'⟩:=get l t ls es hl dl
  obtain⟨a,xs,e,_⟩:=R.at_ j s' ks ds q dt
  obtain⟨a',xs',e',_⟩:=R.at_ m t' ls es q' dt'
  have h1:=B9 (k:=k) hk hj e
  have h2:=B9 (k:=k) hk' hm e'
  rw[ei]at h1;cases h1
  rw[el]at h2;cases h2
  have jm:j=m:=R.inj j m s' t' ks ls ds es b q dt q' dt' e e'
  subst jm
  obtain⟨hi',ej⟩:=List.getElem?_eq_some_iff.mp hj
  obtain⟨hl',em⟩:=List.getElem?_eq_some_iff.mp hm
  have:i-k=l-k:=(List.getElem_inj nd).mp (ej.trans em.symm)
  omega
theorem Rel.comp{js:List Nat}(R:Rel K cl σ H F env)(nd:js.Nodup):Rel K cl (l4 k js σ) H F (k9 k js env):=by
 have cap:∀{j:Nat} {ds:List D},Q0 env[j]? = .hd ds→env[j]? = some (.ow ds)∨env[j]? = some (.hd ds):=fun{j ds} h=>by
  unfold Q0 at h
  split at h
  ·cases h
  ·rename_i q;cases h;exact .inl q
  ·rename_i q;cases h;exact .inr q
  ·cases h
  ·cases h
  ·cases h
 have noow:∀{j:Nat} {ds:List D},Q0 env[j]?≠.ow ds:=fun{j ds} h=>by
  unfold Q0 at h
  split at h<;>cases h
 have mu':∀(i:Nat) (ds:List D),((k9 k js env)[i]? = some (.ow ds)∨(k9 k js env)[i]? = some (.hd ds))→k≤i∧∃j,js[i-k]? = some j∧(env[j]? = some (.ow ds)∨env[j]? = some (.hd ds)):=fun i ds q=>by
  rcases q with q | q
  ·obtain⟨hk,j,hj,c⟩:=M6 q (fun z=>by cases z);exact absurd c noow
  ·obtain⟨hk,j,hj,c⟩:=M6 q (fun z=>by cases z);exact⟨hk,j,hj,cap c⟩
 refine⟨R.sub,?_,fun i d q=>?_,fun i ds q=>?_,fun i l b ⟨ds,q⟩ ⟨es,q'⟩ e1 e2=>?_,R.od.comp nd⟩
 ·unfold l4 k9
  rw[List.length_append,List.length_append,List.length_replicate,List.length_replicate,List.length_map,List.length_map]
 ·obtain⟨hk,j,hj,c⟩:=M6 q (fun z=>by cases z)
  have:env[j]? = some (.fz d):=by
   unfold Q0 at c
   split at c
   ·rename_i q;cases c;exact q
   all_goals cases c
  obtain⟨v,e,p⟩:=R.fz j d this
  exact⟨v,B9 hk hj e,p⟩
 ·obtain⟨hk,j,hj,c⟩:=mu' i ds q
  obtain⟨a,xs,e,r⟩:=R.mu j ds c
  exact⟨a,xs,B9 hk hj e,r⟩
 ·obtain⟨hk,j,hj,c⟩:=mu' i ds q
  obtain⟨hl,m,hm,c'⟩:=mu' l es q'
  obtain⟨a,xs,e,_⟩:=R.mu j ds c
  obtain⟨a',xs',e',_⟩:=R.mu m es c'
  have h1:=B9 (k:=k) hk hj e
  have h2:=B9 (k:=k) hl hm e'
  rw[e1]at h1;cases h1
  rw[e2]at h2;cases h2
  have jm:j=m:=R.inj j m b ⟨ds,c⟩ ⟨es,c'⟩ e e'
  subst jm
  obtain⟨hi',ei⟩:=List.getElem?_eq_some_iff.mp hj
  obtain⟨hl',el⟩:=List.getElem?_eq_some_iff.mp hm
  have:i-k=l-k:=(List.getElem_inj nd).mp (ei.trans el.symm)
  omega
def NoOw(e:DE):Prop:=∀(i:Nat) (s:Sl),isO s→e[i]?≠some s
theorem a4h{js:List Nat}{e:DE}:NoOw (k9 k js e):=fun i s oo q=>by
 obtain⟨hk,j,hj,c⟩:=M6 q (fun z=>by subst z;exact oo)
 unfold Q0 at c
 split at c<;>subst c<;>exact oo
theorem NoOw.not{e:DE}(n:NoOw e){σ:St}{a:Addr}:¬Ow σ e a:=fun⟨i,ds,oo,q,_⟩=>n i ds oo q
theorem Frm.gr{σ':St}{H' F':Hp}{env':DE}(f:Frm σ H F env σ' H' F' env')(n:NoOw env)(s:Same F' H'):Gr H F H' F':=⟨f.fz,s,fun a o h g=>by obtain⟨h1,f1,_⟩:=f.hid a o h g n.not;exact⟨h1,f1⟩⟩
theorem FX.gr{H' F':Hp}(f:FX σ H F env H' F')(n:NoOw env):Gr H F H' F':=⟨f.fz,f.sub,fun a o h g=>f.hid a o h g n.not⟩
structure Grow(K:W.Frag)(cl:Str→Addr)(σ:St)(H0 F0:Hp)(env:DE)(B:Addr)(acc:List D)(ys:List V)(H F:Hp):Prop where
 rel:Rel K cl σ H F env
 frm:Frm σ H0 F0 env σ H F env
 new:H0 B=none
 at_:H B=some (.lst ys)
 un:F B=none
 far:∀j,Mu env j→σ[j]?≠some (some (.ref B))
 rps:Rps K cl F acc ys
 stay:∀a o,H0 a=some o→F0 a=none→H a=some o∧F a=none
theorem Grow.start{B:Addr}(R:Rel K cl σ H F env)(hB:H B=none):Grow K cl σ H F env B [] [] (upd H B (.lst [])) F:=by
 obtain⟨R',f⟩:=R.newN (o:=.lst []) hB
 refine⟨R',f,hB,g9,R.sub.free hB,fun j ⟨ds,q⟩ e=>?_,.nil,fun a o h f=>⟨by rw[b9 (fun z=>by rw[z,hB]at h;cases h)];exact h,f⟩⟩
 obtain⟨a,ys,e1,hH,_⟩:=R.mu j ds q
 rw[e]at e1;cases e1
 rw[hB]at hH;cases hH
theorem Grow.gr{B:Addr}{acc:List D}{ys:List V}{H0 F0 H' F':Hp}(g:Grow K cl σ H0 F0 env B acc ys H F)(r:Gr H F H' F'):Grow K cl σ H0 F0 env B acc ys H' F' :=
 ⟨g.rel.gr r,g.frm.trans (g.rel.frm r),g.new,(r.hid B _ g.at_ g.un).1,(r.hid B _ g.at_ g.un).2,g.far,g.rps.mono r.fz,fun a o h f=>by obtain⟨h1,f1⟩:=g.stay a o h f;exact r.hid a o h1 f1⟩
theorem Grow.push{B:Addr}{acc:List D}{ys:List V}{H0 F0:Hp}{d:D}{y:V}(g:Grow K cl σ H0 F0 env B acc ys H F)(p:Rp K cl F d y):Grow K cl σ H0 F0 env B (acc++[d]) (ys++[y]) (upd H B (.lst (ys++[y]))) F:=by
 have ne:∀a o,F a=some o→a≠B:=fun a o h z=>by rw[z,g.un]at h;cases h
 refine⟨⟨fun a o h=>by rw[b9 (ne a o h)];exact g.rel.sub _ _ h,g.rel.len,g.rel.fz,fun j ds q=>?_,g.rel.inj,g.rel.od.updL g.at_⟩,⟨g.frm.fz,fun a o h f w=>?_,g.frm.keep,fun a h=>?_⟩,g.new,g9,g.un,g.far,g.rps.append (.one p),fun a o h f=>by rw[b9 (fun z=>by rw[z,g.new]at h;cases h)];exact g.stay a o h f⟩
 ·obtain⟨a,xs,e,hH,r⟩:=g.rel.mu j ds q
  have z:a≠B:=fun z=>g.far j ⟨ds,q⟩ (by rw[e,z])
  exact⟨a,xs,e,by rw[b9 z];exact hH,r⟩
 ·have z:a≠B:=fun z=>by rw[z,g.new]at h;cases h
  rw[b9 z];exact g.frm.hid a o h f w
 ·by_cases z:a=B
  ·rw[z,g9]at h;cases h
  ·rw[b9 z]at h;exact g.frm.dom a h
theorem R8{b:GF}{c:BF}{el:ZF}{g:TG}{tf:TT}{te:TE}{js:List Nat}{B:Addr}{d:D}{x:V}{ds acc:List D}{ys:List V}{H0 F0:Hp}{Q:VK}{Pv:List V→Hp→Prop}(nd:js.Nodup)
  (hg:N7 K cl k g b) (hc:D7 K cl E tf c) (he:m5 K cl E te el) (gw:Grow K cl σ H0 F0 env B acc ys H F) (p:Rp K cl F d x)
  (h:Ct K cl E (PN K cl) (j8 b c el (k9 k js env) env (d::ds) acc) σ H0 F0 env Q)
  (hP:∀acc' ys' H' F',Grow K cl σ H0 F0 env B acc' ys' H' F'→Ct K cl E (PN K cl) (j8 b c el (k9 k js env) env ds acc') σ H0 F0 env Q→Pv ys' H') :
  g x (l4 k js σ) H fun σ2 H2=>(σ2.drop k=(l4 k js σ).drop k∧σ2.length=(l4 k js σ).length)∧tf σ2 H2 fun t H3 =>
   if t=true then te σ2 H3 fun y H4=>H4 B=some (.lst ys)∧ys.length<sizeLine∧Pv (ys++[y]) (upd H4 B (.lst (ys++[y])))else Pv ys H3:=by
 unfold j8 at h
 have Rc:Rel K cl (l4 k js σ) H F (k9 k js env):=gw.rel.comp nd
 split at h
 ·exact h.elim
 ·rename_i e1 hb
  refine hg x _ H _ d _ e1 F Rc p hb fun σ2 d2 l2 f2 R2=>⟨⟨d2,l2⟩,?_⟩
  have n1:NoOw (k9 k js env):=a4h
  -- ways out by an exception
  have exc:∀{H' F':Hp} {σ':St} {e':DE} {H'' F'':Hp} {n:XN},Frm (l4 k js σ) H F (k9 k js env) σ' H' F' e'→FX σ' H' F' e' H'' F''→(∀H' F',FX σ H0 F0 env H' F'→∀cx,Xf K cl F' n cx→E (.ref (cl n.nm)) cx H')→∀cx,Xf K cl F'' n cx→E (.ref (cl n.nm)) cx H'':=fun{H' F' σ' e' H'' F'' n} f fx q=>by
   have gr:Gr H F H'' F'':=(f.fx fx).gr n1
   exact q _ _ (gw.frm.fx gr.fx)
  refine hc σ2 H _ e1 F R2 ?_
  cases hce:c e1 with
  | none=>rw[hce]at h;exact h.elim
  | some rc =>
   rw[hce]at h
   cases rc with
   | ex n=>exact fun H' F' fx=>exc f2 fx h
   | ok t e2 =>
    intro t' H3 F3 f3 R3 ht
    have ht:t'=t:=ht
    subst ht
    have h:Ct K cl E (PN K cl) (if t'=true then bnd (el e2) fun y _=>if acc.length<sizeLine then j8 b c el (k9 k js env) env ds (acc++[y])else none else j8 b c el (k9 k js env) env ds acc) σ H0 F0 env Q:=h
    have gr3:Gr H F H3 F3:=(f2.trans f3).gr n1 R3.sub
    by_cases z:t'=true
    ·rw[if_pos z]at h ⊢
     refine he σ2 H3 _ e2 F3 R3 ?_
     cases hel:el e2 with
     | none=>rw[hel]at h;exact h.elim
     | some re =>
      rw[hel]at h
      cases re with
      | ex n=>exact fun H' F' fx=>exc (f2.trans f3) fx h
      | ok y e3 =>
       intro v H4 F4 f4 R4 hv
       have h:Ct K cl E (PN K cl) (if acc.length<sizeLine then j8 b c el (k9 k js env) env ds (acc++[y])else none) σ H0 F0 env Q:=h
       split at h
       ·rename_i hlen
        have gr4:Gr H F H4 F4:=((f2.trans f3).trans f4).gr n1 R4.sub
        have gw4:=gw.gr gr4
        exact⟨gw4.at_,by rw[← gw4.rps.length];exact hlen,hP _ _ _ _ (gw4.push hv) h⟩
       ·exact h.elim
    ·rw[if_neg z]at h ⊢
     exact hP _ _ _ _ (gw.gr gr3) h
theorem V9{b:GF}{c:BF}{el:ZF}{js:List Nat}{B:Addr}{acc:List D}{ys:List V}{H0 F0:Hp}{Q:VK}(gw:Grow K cl σ H0 F0 env B acc ys H F)(h:Ct K cl E (PN K cl) (j8 b c el (k9 k js env) env [] acc) σ H0 F0 env Q):Q (.ref B) H :=
 h _ H F gw.frm gw.rel ⟨B,ys,rfl,gw.new,gw.at_,gw.un,gw.far,gw.rps⟩
theorem a9i{b:GF}{c:BF}{el:ZF}{g:TG}{tf:TT}{te:TE}{js:List Nat}{ds:List D}{xs:List V}{a B:Addr}{Q:VK}(nd:js.Nodup)(hg:N7 K cl k g b)(hc:D7 K cl E tf c)(he:m5 K cl E te el)(R:Rel K cl σ H F env)(hB:H B=none)
  (hl:∀H' F',Same F F'→Same F' H'→(∀a o,H a=some o→F a=none→H' a=some o∧F' a=none)→SqL K H' a xs) (r:Rps K cl F ds xs) (h:Ct K cl E (PN K cl) (j8 b c el (k9 k js env) env ds []) σ H F env Q) :
  D6 (Itl K a) g tf te k (l4 k js σ) B (fun H'=>Q (.ref B) H') H:=by
 refine a38 (xs:=xs) (fun i ys H'=>∃F' acc,Grow K cl σ H F env B acc ys H' F'∧Ct K cl E (PN K cl) (j8 b c el (k9 k js env) env (ds.drop i) acc) σ H F env Q) ⟨F,[],.start R hB,h⟩ (fun i ys H' _ ⟨F',acc,gw,_⟩=>hl H' F' gw.frm.fz gw.rel.sub gw.stay) (fun i x ys H' hx ⟨F',acc,gw,h'⟩=>?_) (fun ys H' ⟨F',acc,gw,h'⟩=>?_)
 ·obtain⟨d,hd,p⟩:=r.get' hx
  rw[R6 hd]at h'
  exact R8 (Pv:=fun ys' H2=>∃F' acc,Grow K cl σ H F env B acc ys' H2 F'∧Ct K cl E (PN K cl) (j8 b c el (k9 k js env) env (ds.drop (i+1)) acc) σ H F env Q) nd hg hc he gw (Rp.mono gw.frm.fz _ _ p) h' fun acc' ys' H2 F2 gw2 h2=>⟨F2,acc',gw2,h2⟩
 ·rw[← r.length,List.drop_length]at h'
  exact V9 gw h'
theorem a8P{b:GF}{c:BF}{el:ZF}{g:TG}{tf:TT}{te:TE}{js:List Nat}{lo:Int}{n:Nat}{B:Addr}{Q:VK}(nd:js.Nodup)(hg:N7 K cl k g b)(hc:D7 K cl E tf c)(he:m5 K cl E te el)(R:Rel K cl σ H F env)(hB:H B=none)
  (h:Ct K cl E (PN K cl) (j8 b c el (k9 k js env) env (B5 lo n) []) σ H F env Q) :
  D6 (X6 lo n) g tf te k (l4 k js σ) B (fun H'=>Q (.ref B) H') H:=by
 refine a3r (fun i ys H'=>∃F' acc,Grow K cl σ H F env B acc ys H' F'∧Ct K cl E (PN K cl) (j8 b c el (k9 k js env) env ((B5 lo n).drop i) acc) σ H F env Q) ⟨F,[],.start R hB,h⟩ (fun i ys H' hx ⟨F',acc,gw,h'⟩=>?_) (fun ys H' ⟨F',acc,gw,h'⟩=>?_)
 ·rw[a1B hx]at h'
  exact R8 (Pv:=fun ys' H2=>∃F' acc,Grow K cl σ H F env B acc ys' H2 F'∧Ct K cl E (PN K cl) (j8 b c el (k9 k js env) env ((B5 lo n).drop (i+1)) acc) σ H F env Q) nd hg hc he gw (by simp only[Rp]) h' fun acc' ys' H2 F2 gw2 h2=>⟨F2,acc',gw2,h2⟩
 ·rw[show(B5 lo n).drop n=[]from List.drop_eq_nil_of_le (by rw[a2l];exact Nat.le_refl _)]at h'
  exact V9 gw h'
def l6:BF:=fun e=>some (.ok true e)
theorem G6:D7 K cl E a5_ l6:=fun σ H Q env F R h=>h true H F Frm.refl R rfl
def a0S(k:Nat)(js:List Nat)(f:ZF)(b:GF)(c:BF)(el:ZF):NF:=fun e=>bnd (f e) fun d e1=>match seqL d with
 | none=>none
 | some ds=>j8 b c el (k9 k js e1) e1 ds []
def B6(rg:List D→Option (Int×Nat))(k:Nat)(js:List Nat)(f:AF)(b:GF)(c:BF)(el:ZF):NF:=fun e=>bnd (f e) fun ds e1=>match rg ds with
 | none=>none
 | some (lo,n)=>j8 b c el (k9 k js e1) e1 (B5 lo n) []
theorem a6U{t:TE}{g:TG}{tf:TT}{te:TE}{js:List Nat}{f:ZF}{b:GF}{c:BF}{el:ZF}(nd:js.Nodup)(hf:m5 K cl E t f)(hg:N7 K cl k g b)(hc:D7 K cl E tf c)(he:m5 K cl E te el):RfN K cl E (V0 (a53 K t) g tf te k js) (a0S k js f b c el):=by
 intro σ H Q env F R h
 refine hf σ H _ env F R ((Ct.bnd h a19).mono fun x H1 ⟨F1,e1,d,s1,R1,p1,h1⟩=>?_)
 split at h1
 ·exact h1.elim
 ·rename_i ds hs
  obtain⟨a,xs,rfl,r,hl⟩:=Rp.seqL p1 hs
  exact⟨a,rfl,⟨xs,hl H1 R1.sub⟩,fun B hB=>a9i nd hg hc he R1 hB (fun H' F' f2 s2 _=>hl H' (f2.trans s2)) r h1⟩
theorem Y5{t:TA}{g:TG}{tf:TT}{te:TE}{js:List Nat}{f:AF}{b:GF}{c:BF}{el:ZF}(nd:js.Nodup)(hf:N6 K cl E t f)(hg:N7 K cl k g b)(hc:D7 K cl E tf c)(he:m5 K cl E te el):RfN K cl E (V0 (a3i t) g tf te k js) (B6 D1 k js f b c el):=by
 intro σ H Q env F R h
 refine hf σ H _ env F R ((Ct.bnd h a19).mono fun x H1 ⟨F1,e1,ds,s1,R1,p1,h1⟩=>?_)
 split at h1
 ·exact h1.elim
 ·rename_i lo n hs
  obtain⟨j,e,c1,c2,rfl,rfl⟩:=a22 hs p1
  exact⟨j,e,c1,c2,fun B hB=>a8P nd hg hc he R1 hB h1⟩
theorem W0{i:Nat}{wi:TI}{g:TG}{tf:TT}{te:TE}{js:List Nat}{f:NF}(h:RfN K cl E (V0 wi g tf te k js) f):RfS K cl E (a13 i wi g tf te k js) (v8 i f):=fun N σ H env F R q=>J2 h N σ H env F R q
end
def fD(n m:Nat)(body:SF)(ds:List D):Option R1:=if ds.length=m then(match body (ds.map .fz++List.replicate (n-ds.length) .no)with
 | some (.nx _)=>some (.ret .non)
 | some (.rt d)=>some (.ret d)
 | some (.ro es)=>some (.own es)
 | some (.rz dss)=>some (.owz dss)
 | some (.rp n es)=>some (.owp n es)
 | some (.ex c)=>some (.ex c)
 | _=>none)else none
section
variable {P:Program}{w:World}{K:W.Frag}{mg:Str→Option Value}{base:Heap}{cl:Str→Addr}
theorem a4i{N:List Str}{vs:List V}{ds:List D}{H F:Hp}(s:Same F H)(p:Rps K cl F ds vs):Rel K cl (start N vs) H F (ds.map .fz++List.replicate (N.length-ds.length) .no)∧NoOw (ds.map .fz++List.replicate (N.length-ds.length) .no):=by
 have key:∀(i:Nat) (t:Sl),(ds.map Sl.fz++List.replicate (N.length-ds.length) .no)[i]? = some t→t≠.no→∃d,ds[i]? = some d∧t=.fz d:=fun i t q n=>by
  by_cases z:i<ds.length
  ·rw[List.getElem?_append_left (by rw[List.length_map];exact z),List.getElem?_map]at q
   cases hd:ds[i]? with
   | none=>rw[hd]at q;cases q
   | some d=>rw[hd]at q;cases q;exact⟨d,rfl,rfl⟩
  ·rw[List.getElem?_append_right (by rw[List.length_map];omega),List.getElem?_replicate]at q
   split at q
   ·cases q;exact absurd rfl n
   ·cases q
 have no:NoOw (ds.map .fz++List.replicate (N.length-ds.length) .no):=fun i es oo q=>by
  obtain⟨d,_,z⟩:=key i _ q (fun z=>by subst z;exact oo)
  subst z;exact oo
 refine⟨⟨s,?_,fun i d q=>?_,fun i es q=>?_,fun i j b ⟨es,q⟩ _ _ _=>?_,.none fun j s ks ds q d=>by obtain⟨_,_,rfl⟩:=key j s q (fun z=>by subst z;exact d);exact d⟩,no⟩
 ·unfold start
  rw[List.length_append,List.length_append,List.length_map,List.length_map,List.length_replicate,List.length_replicate,p.length]
 ·obtain⟨d',hd,z⟩:=key i _ q (fun z=>by cases z)
  cases z
  obtain⟨v,hv,r⟩:=p.get hd
  refine⟨v,?_,r⟩
  unfold start
  rw[List.getElem?_append_left (by rw[List.length_map];exact(List.getElem?_eq_some_iff.mp hv).1),List.getElem?_map,hv];rfl
 ·rcases q with q | q
  ·obtain⟨d,_,z⟩:=key i _ q (fun z=>by cases z);cases z
  ·obtain⟨d,_,z⟩:=key i _ q (fun z=>by cases z);cases z
 ·rcases q with q | q
  ·obtain⟨d,_,z⟩:=key i _ q (fun z=>by cases z);cases z
  ·obtain⟨d,_,z⟩:=key i _ q (fun z=>by cases z);cases z
theorem a23{n m:Nat}{body:SF}{vs:List V}{H:Hp}{Q:VK}{E:XK}(h:j2 K cl (fD n m body) vs H Q E):vs.length=m:=by
 obtain⟨ds,F,s,p,h⟩:=h
 unfold fD at h
 by_cases z:ds.length=m
 ·rw[← p.length];exact z
 ·rw[if_neg z]at h;exact h.elim
theorem a0T{N:List Str}{m:Nat}{body:SF}{t:TS}{vs:List V}{H:Hp}{Q:VK}{E:XK}(hb:RfS K cl E t body)(h:j2 K cl (fD N.length m body) vs H Q E):t { nx:=fun _ H'=>Q .non H',rt:=Q } (start N vs) H:=by
 obtain⟨ds,F,s,p,h⟩:=h
 obtain⟨R,no⟩:=a4i (N:=N) s p
 refine hb _ _ H _ F R ?_
 unfold fD at h
 by_cases z:ds.length=m
 ·rw[if_pos z]at h
  cases r:body (ds.map .fz++List.replicate (N.length-ds.length) .no)with
  | none=>rw[r]at h;exact h.elim
  | some rs =>
   rw[r]at h
   cases rs with
   | nx e=>exact fun σ' H' F' f R'=>h .non H' F' (f.gr no R'.sub) (by simp only[Rp])
   | rt d=>exact fun v H' F' x q=>h v H' F' (x.gr no) q
   | ro es =>
    refine fun a xs H' F' x ha fa nw q=>h a xs H' F' (x.gr no) ?_ ha fa q
    cases e:H a with
    | none=>rfl
    | some o=>exact absurd (nw o e) no.not
   | rz dss =>
    refine fun p as H' F' x hp ht fp rz=>h p as H' F' (x.gr no) hp ht fp (rz.imp fun a xs ha fa nw=>?_)
    cases e:H a with
    | none=>rfl
    | some o=>exact absurd (nw o e) no.not
   | rp n es =>
    refine fun p a xs H' F' x hp ht fp ha fa nw q=>h p a xs H' F' (x.gr no) hp ht fp ?_ ha fa q
    cases e:H a with
    | none=>rfl
    | some o=>exact absurd (nw o e) no.not
   | bk e=>exact h.elim
   | ct e=>exact h.elim
   | ex c=>exact fun H' F' x=>h H' F' (x.gr no)
 ·rw[if_neg z]at h;exact h.elim
theorem Fun.okD{x qual:Str}{st:Stmt}{f:Addr}{fd:FuncData}{N ps:List Str}{k:Nat}{body:SF}(F:Fun K x qual st f fd)(S:FnScope N ps (b8 st))
  (hbody:∀(cdv:Value) (A:Around) (outer:List Env) (s:Shared) (H:Hp) (E:XK),Room k (A.deeper (envOfC qual (b8 st) s.heap.objs.size f cdv)) →
   ∃t,PSs (M8 (w6 P w) P w K mg base N qual (b8 st) f cdv A outer s H E) (j7 st) t∧RfS K cl E t body):FnOk P w K mg base (w6 P w) (k+1) f fd ps (j2 K cl (fD N.length ps.length body)) :=
 F.okE S (fun vs H Q E h=>a23 h) fun cdv A outer s H vs Q E hr h=>by
  obtain⟨t,h1,h2⟩:=hbody cdv A outer s H E hr
  exact⟨t,h1,a0T h2 h⟩
theorem FunD.okD{x qual:Str}{st:Stmt}{dT f:Addr}{fd:FuncData}{N ps:List Str}{k:Nat}{body:SF}(F:FunD K x qual st dT f fd)(S:FnScope N ps (b8 st))
  (hbody:∀(cdv:Value) (A:Around) (outer:List Env) (s:Shared) (H:Hp) (E:XK),Room k (A.deeper (envOfC qual (b8 st) s.heap.objs.size f cdv)) →
   ∃t,PSs (M8 (w6 P w) P w K mg base N qual (b8 st) f cdv A outer s H E) (j7 st) t∧RfS K cl E t body):FnOk P w K mg base (w6 P w) (k+1) f fd ps (j2 K cl (fD N.length ps.length body)) :=
 F.okE S (fun vs H Q E h=>a23 h) fun cdv A outer s H vs Q E hr h=>by
  obtain⟨t,h1,h2⟩:=hbody cdv A outer s H E hr
  exact⟨t,h1,a0T h2 h⟩
theorem a6V{g:List D→Option R1}{vs:List V}{H:Hp}{Q:VK}{E:XK}{a:Addr}{ns:List Int}(e:vs=[.ref a])(h:Scr K H a (ns.map V.int))(q:∀H',Q (.bl true) H')(m:g [.scr ns]=some (.ret (.bl true))):j2 K cl g vs H Q E:=by
 refine⟨[.scr ns],H,Same.refl _,?_,?_⟩
 ·rw[e];exact .one (by simp only[Rp];exact⟨a,rfl,h⟩)
 ·rw[m]
  intro v H' F' _ p
  have p:Rp K cl F' (.bl true) v:=p
  simp only[Rp]at p
  rw[p];exact q H'
def tyN:D→Option String
 | .non=>some "NoneType"
 | .bl _=>some "bool"
 | .int _=>some "int"
 | .str _=>some "str"
 | .lst _=>some "list"
 | .tup _=>some "tuple"
 | _=>none
theorem a24{K:W.Frag}(t n:String)(ht:t∈["NoneType","bool","int","str","list","tuple"])(hn:n∈["bool","int","str","list","tuple"]):W.kitOne K (.type t) (.type n)=some (t == n || (t == "bool" && n == "int")):=by
 simp only[List.mem_cons,List.not_mem_nil,or_false]at ht hn
 rcases ht with rfl | rfl | rfl | rfl | rfl | rfl<;>rcases hn with rfl | rfl | rfl | rfl | rfl<;>first | rfl | with_unfolding_all rfl
def a2o:List D→Option D
 | [d,.ty n]=>match tyN d with
  | some t=>if n∈["bool","int","str","list","tuple"]then some (.bl (t == n || (t == "bool" && n == "int")))else none
  | none=>none
 | _=>none
theorem a25{d:D}{t:String}(h:tyN d=some t):t∈["NoneType","bool","int","str","list","tuple"]:=by
 cases d<;>cases h<;>decide
theorem a4k{F H:Hp}{d:D}{t:String}{v:V}(s:Same F H)(p:Rp K cl F d v)(h:tyN d=some t):TyX K H v (.type t):=by
 cases d<;>cases h<;>simp only[Rp]at p
 ·subst p;exact .of .non
 ·subst p;exact .of (.bl _)
 ·subst p;exact .of (.int _)
 ·subst p;exact .of (.str _)
 ·obtain⟨a,xs,rfl,h,_⟩:=p;exact .of (.tup (s _ _ h))
 ·obtain⟨a,xs,rfl,h,_⟩:=p;exact .of (.lst (s _ _ h))
theorem a8Q:a2c K cl (a12 K) a2o:=by
 intro xs ds z H F Q s hx h q
 unfold a2o at h
 split at h
 ·rename_i d n
  split at h
  ·rename_i t ht
   split at h
   ·rename_i hn;cases h
    obtain⟨v,r,rfl,p1,p2⟩:=hx.inv
    obtain⟨u,r',rfl,p3,p4⟩:=p2.inv
    rw[p4.inv0]
    simp only[Rp]at p3
    subst p3
    exact⟨v,_,_,_,_,rfl,rfl,a4k s p1 ht,a24 t n (a25 ht) hn,q _ H F (.refl s) (by simp only[Rp])⟩
   ·cases h
  ·cases h
 ·cases h
def a0a(n:String)(d:D):Option D:=match tyN d with
 | some t=>if n∈["bool","int","str","list","tuple"]then some (.bl (t == n || (t == "bool" && n == "int")))else none
 | none=>none
def G1(i:Nat)(n:String):ZF:=fun e=>match look e i with
 | some d=>W7 (a0a n d) e
 | none=>none
theorem a0b{E:XK}{i:Nat}{n:String}{t:TE}(ht:t=tC (.ty n):=by rfl):m5 K cl E (tCB (a12 K) (N9 (J5 i) (N9 t a0n))) (G1 i n):=by
 subst ht
 intro σ H Q env F R h
 unfold G1 at h
 cases q:look env i with
 | none=>rw[q]at h;exact h.elim
 | some d =>
  rw[q]at h
  obtain⟨x,e,rb⟩:=R.look q
  refine⟨x,e,?_⟩
  cases hz:a0a n d with
  | none=>simp only[hz,V4]at h;exact h.elim
  | some z =>
   simp only[hz,V3]at h
   unfold a0a at hz
   split at hz
   ·rename_i t ht
    split at hz
    ·rename_i hn;cases hz
     refine⟨x,_,_,_,_,rfl,rfl,?_,a24 t n (a25 ht) hn,h _ H F Frm.refl R (by show Rp K cl F (.bl _) _;simp only[Rp])⟩
     rcases rb with p | ⟨a,xs,ds,rfl,rfl,hH,_⟩
     ·exact a4k R.sub p ht
     ·cases ht;exact .of (.lst hH)
    ·cases hz
   ·cases hz
end
section
variable {P:Program}{w:World}{mg:Str→Option Value}{base:Heap}{K:W.Frag}{cl:Str→Addr}{E:XK}
def R9(x1:Str→Str→Option Bool)(x2:Str→String→Option Bool):List D→Option D
 | [.exc c,.cls n]=>(x1 c n).map .bl
 | [.exc c,.ty n]=>(x2 c n).map .bl
 | [.exv c _ _,.cls n]=>(x1 c n).map .bl
 | [.exv c _ _,.ty n]=>(x2 c n).map .bl
 | _=>none
theorem a1e{x1:Str→Str→Option Bool}{x2:Str→String→Option Bool}(h1:∀c n b,x1 c n=some b→W.ExcT K (cl c)∧W.kitOne K (.ref (cl c)) (.ref (cl n))=some b)
  (h2:∀c n b,x2 c n=some b→W.ExcT K (cl c)∧W.kitOne K (.ref (cl c)) (.type n)=some b):a2c K cl (a12 K) (R9 x1 x2):=by
 intro xs ds z H F Q s p h q
 unfold R9 at h
 split at h
 ·rename_i c n
  cases hb:x1 c n with
  | none=>rw[hb]at h;cases h
  | some b =>
   rw[hb]at h;cases h
   obtain⟨v,r,rfl,p1,p2⟩:=p.inv
   obtain⟨u,r',rfl,p3,p4⟩:=p2.inv
   rw[p4.inv0]
   simp only[Rp]at p1 p3
   obtain⟨a,cx,rfl,ha⟩:=p1
   subst p3
   obtain⟨hT,hk⟩:=h1 c n b hb
   exact⟨_,_,_,_,b,rfl,rfl,.exc (s _ _ ha) hT,hk,q _ H F (.refl s) (by simp only[Rp])⟩
 ·rename_i c n
  cases hb:x2 c n with
  | none=>rw[hb]at h;cases h
  | some b =>
   rw[hb]at h;cases h
   obtain⟨v,r,rfl,p1,p2⟩:=p.inv
   obtain⟨u,r',rfl,p3,p4⟩:=p2.inv
   rw[p4.inv0]
   simp only[Rp]at p1 p3
   obtain⟨a,cx,rfl,ha⟩:=p1
   subst p3
   obtain⟨hT,hk⟩:=h2 c n b hb
   exact⟨_,_,_,_,b,rfl,rfl,.exc (s _ _ ha) hT,hk,q _ H F (.refl s) (by simp only[Rp])⟩
 ·rename_i c f' d' n
  cases hb:x1 c n with
  | none=>rw[hb]at h;cases h
  | some b =>
   rw[hb]at h;cases h
   obtain⟨v,r,rfl,p1,p2⟩:=p.inv
   obtain⟨u,r',rfl,p3,p4⟩:=p2.inv
   rw[p4.inv0]
   simp only[Rp]at p1 p3
   obtain⟨a,dx,y,rfl,ha,_⟩:=p1
   subst p3
   obtain⟨hT,hk⟩:=h1 c n b hb
   exact⟨_,_,_,_,b,rfl,rfl,.exc (s _ _ ha) hT,hk,q _ H F (.refl s) (by simp only[Rp])⟩
 ·rename_i c f' d' n
  cases hb:x2 c n with
  | none=>rw[hb]at h;cases h
  | some b =>
   rw[hb]at h;cases h
   obtain⟨v,r,rfl,p1,p2⟩:=p.inv
   obtain⟨u,r',rfl,p3,p4⟩:=p2.inv
   rw[p4.inv0]
   simp only[Rp]at p1 p3
   obtain⟨a,dx,y,rfl,ha,_⟩:=p1
   subst p3
   obtain⟨hT,hk⟩:=h2 c n b hb
   exact⟨_,_,_,_,b,rfl,rfl,.exc (s _ _ ha) hT,hk,q _ H F (.refl s) (by simp only[Rp])⟩
 ·cases h
end
section
variable {α β:Type}
def N3(r:Option RS)(k:SF):Option RS:=match r with
 | some (.nx e)=>k e
 | r=>r
theorem a6W{f k:SF}{e:DE}:c7 f k e=N3 (f e) k:=rfl
theorem a6X{e:DE}{k:SF}:N3 (some (.nx e)) k=k e:=rfl
theorem a6Y{d:D}{k:SF}:N3 (some (.rt d)) k=some (.rt d):=rfl
theorem a6Z{d:List D}{k:SF}:N3 (some (.ro d)) k=some (.ro d):=rfl
theorem a60{d:XN}{k:SF}:N3 (some (.ex d)) k=some (.ex d):=rfl
theorem a61{e:DE}{k:SF}:N3 (some (.bk e)) k=some (.bk e):=rfl
theorem a62{e:DE}{k:SF}:N3 (some (.ct e)) k=some (.ct e):=rfl
theorem a63{k:SF}:N3 none k=none:=rfl
theorem a5i{c:Prop} [Decidable c] {a b:Option RS} {k:SF}:N3 (if c then a else b) k=if c then N3 a k else N3 b k:=by split<;>rfl
theorem a64{d:D}{e:DE}:toZ (some (.ret d)) e=some (.ok d e):=rfl
theorem a65{d:List D}{e:DE}:toZ (some (.own d)) e=some (.ok (.lst d) e):=rfl
theorem a8R{d:XN}{e:DE}:toZ (some (.ex d)) e=some (.ex d):=rfl
theorem a5j{d:D}{e:DE}:D8 (some (.ret d)) e=some (.ok d e):=rfl
theorem a5k{d:List D}{e:DE}:D8 (some (.own d)) e=some (.ok (.lst d) e):=rfl
theorem a4l{i:Nat}{d:D}{e:DE}:O1 i (some (.ret d)) e=put i (.fz d) e:=rfl
theorem a4m{i:Nat}{d:List D}{e:DE}:O1 i (some (.own d)) e=put i (.ow d) e:=rfl
theorem a5l{i:Nat}{d:XN}{e:DE}:O1 i (some (.ex d)) e=some (.ex d):=rfl
theorem a3C{i:Nat}{d:D}{e:DE}:a0Q i (some (.ret d)) e=put i (.fz d) e:=rfl
theorem a3D{i:Nat}{d:List D}{e:DE}:a0Q i (some (.own d)) e=put i (.ow d) e:=rfl
theorem a4n{d:D}:a1S (some (.ret d))=some (.rt d):=rfl
theorem a4o{d:List D}:a1S (some (.own d))=some (.ro d):=rfl
theorem a5m{d:XN}:a1S (some (.ex d))=some (.ex d):=rfl
theorem a3E{d:D}:a4e (some (.ret d))=some (.rt d):=rfl
theorem a3F{d:List D}:a4e (some (.own d))=some (.ro d):=rfl
def S5(r:Option RS):Option R1:=match r with
 | some (.nx _)=>some (.ret .non)
 | some (.rt d)=>some (.ret d)
 | some (.ro es)=>some (.own es)
 | some (.rz dss)=>some (.owz dss)
 | some (.rp n es)=>some (.owp n es)
 | some (.ex c)=>some (.ex c)
 | _=>none
theorem a9j{n m:Nat}{body:SF}{ds:List D}(h:ds.length=m):fD n m body ds=S5 (body (ds.map .fz++List.replicate (n-m) .no)):=by
 unfold fD;rw[if_pos h,h];rfl
theorem a66{e:DE}:S5 (some (.nx e))=some (.ret .non):=rfl
theorem a67{d:D}:S5 (some (.rt d))=some (.ret d):=rfl
theorem a68{d:List (List D)}:S5 (some (.rz d))=some (.owz d):=rfl
theorem a69{d:List (List D)}{k:SF}:N3 (some (.rz d)) k=some (.rz d):=rfl
theorem a4p{d:List (List D)}:a1S (some (.owz d))=some (.rz d):=rfl
theorem a6_{d:List D}:S5 (some (.ro d))=some (.own d):=rfl
theorem a7a{d:XN}:S5 (some (.ex d))=some (.ex d):=rfl
theorem a5n{c:Prop} [Decidable c] {a b:Option RS}:S5 (if c then a else b)=if c then S5 a else S5 b:=by split<;>rfl
def S6(r:Option RS)(k:SF):Option RS:=match r with
 | some (.nx e)=>k e
 | some (.ct e)=>k e
 | some (.bk e)=>some (.nx e)
 | r=>r
theorem a7b{e:DE}{k:SF}:S6 (some (.nx e)) k=k e:=rfl
theorem a7c{e:DE}{k:SF}:S6 (some (.ct e)) k=k e:=rfl
theorem a7d{e:DE}{k:SF}:S6 (some (.bk e)) k=some (.nx e):=rfl
theorem a7e{d:D}{k:SF}:S6 (some (.rt d)) k=some (.rt d):=rfl
theorem a7f{d:List (List D)}{k:SF}:S6 (some (.rz d)) k=some (.rz d):=rfl
theorem a7g{d:List D}{k:SF}:S6 (some (.ro d)) k=some (.ro d):=rfl
theorem a7h{d:XN}{k:SF}:S6 (some (.ex d)) k=some (.ex d):=rfl
theorem a5o{b:GF}{body:SF}{e:DE}:G5 b body [] e=some (.nx e):=rfl
def a3G(x:Option DE)(k:SF):Option RS:=match x with
 | none=>none
 | some e=>k e
theorem a1C{b:GF}{body:SF}{d:D}{ds:List D}{e:DE}:G5 b body (d::ds) e=a3G (b d e) fun e1=>S6 (body e1) (G5 b body ds):=by
 rw[G5];cases b d e<;>rfl
theorem S0{e:DE}{k:SF}:a3G (some e) k=k e:=rfl
def a2p(n i:Nat)(exm:Str→Bool)(suite:SF)(e:DE)(r:Option RS):Option RS:=match r with
 | some (.ex (.v _ _ _))=>none
 | some (.ex (.p c))=>if(exm c && a1d e)=true then(match suite ((List.replicate n Sl.no).set i (.fz (.exc c)))with
   | some (.nx e2)=>put i .no e2
   | some (.rt d)=>some (.rt d)
   | some (.ro ds)=>some (.ro ds)
   | _=>none)else none
 | r=>r
theorem a4q{n i:Nat}{exm:Str→Bool}{body suite:SF}{e:DE}:a8O n i exm body suite e=a2p n i exm suite e (body e):=rfl
def a3H(i:Nat)(r:Option RS):Option RS:=match r with
 | some (.nx e2)=>put i .no e2
 | some (.rt d)=>some (.rt d)
 | some (.ro ds)=>some (.ro ds)
 | _=>none
theorem a7i{i:Nat}{e:DE}:a3H i (some (.nx e))=put i .no e:=rfl
theorem a7j{i:Nat}{d:D}:a3H i (some (.rt d))=some (.rt d):=rfl
theorem a7k{i:Nat}{d:List D}:a3H i (some (.ro d))=some (.ro d):=rfl
theorem a7l{n i:Nat}{exm:Str→Bool}{suite:SF}{e:DE}{c:Str}:a2p n i exm suite e (some (.ex (.p c)))=if(exm c && a1d e)=true then a3H i (suite ((List.replicate n Sl.no).set i (.fz (.exc c))))else none:=rfl
theorem a7m{n i:Nat}{exm:Str→Bool}{suite:SF}{e:DE}{d:D}:a2p n i exm suite e (some (.rt d))=some (.rt d):=rfl
theorem a7n{n i:Nat}{exm:Str→Bool}{suite:SF}{e:DE}{d:List D}:a2p n i exm suite e (some (.ro d))=some (.ro d):=rfl
theorem a7o{n i:Nat}{exm:Str→Bool}{suite:SF}{e e1:DE}:a2p n i exm suite e (some (.nx e1))=some (.nx e1):=rfl
theorem a7p(a b:Int):i5 (.int a) (.int b)=some (.int (a+b)):=rfl
theorem a7q(a b:Int):B8 (.int a) (.int b)=some (.int (a-b)):=rfl
theorem a8S(a b:Int):gLt (.int a) (.int b)=some (.bl (decide (a<b))):=rfl
theorem a8T(a b:Int):J1 (.int a) (.int b)=some (.bl (decide (a≤b))):=rfl
theorem a8U(a b:Int):gGt (.int a) (.int b)=some (.bl (decide (b<a))):=rfl
theorem a26{a b:Int}(h:IntMulOk a b):l7 (.int a) (.int b)=some (.int (a*b)):=by show(if _ then _ else _)=_;rw[if_pos h]
theorem a1f{a b:Int}(h:0<b∧b.natAbs.log2<9000):p7 (.int a) (.int b)=some (.int (a/b)):=by show(if _ then _ else _)=_;rw[if_pos h]
theorem a27{a b:Int}(h:0<b):i3 (.int a) (.int b)=some (.int (a%b)):=by show(if _ then _ else _)=_;rw[if_pos h]
theorem a28{a b:Int}(h:a04 a b):a2e (.int a) (.int b)=some (.int (a ^ b.toNat)):=by show(if _ then _ else _)=_;rw[if_pos h]
end
def Fits(i:Int):Prop:=Builtin.Int.intBits i≤2 ^ 20
theorem a7r{a b:Int}(h:a.natAbs≤b.natAbs):Builtin.Int.intBits a≤Builtin.Int.intBits b:=by
 unfold Builtin.Int.intBits
 split
 ·exact Nat.zero_le _
 ·rename_i ha
  have ha':a.natAbs≠0:=by
   intro z;apply ha;first | exact Int.natAbs_eq_zero.mp z | (simpa using z)
  have hb':b.natAbs≠0:=by omega
  split
  ·rename_i hb
   exact absurd (by first | exact Int.natAbs_eq_zero.mpr hb | (simpa using hb)) hb'
  ·have h1:b.natAbs<2 ^ (b.natAbs.log2+1):=Nat.lt_log2_self
   have h2:a.natAbs.log2<b.natAbs.log2+1:=(Nat.log2_lt ha').mpr (by omega)
   omega
theorem Fits.le{a b:Int}(h:Fits b)(l:a.natAbs≤b.natAbs):Fits a:=Nat.le_trans (a7r l) h
theorem Fits.mod{i n:Int}(hn:0<n)(h:Fits n):Fits (i%n):=by
 refine h.le ?_
 have h1:=Int.emod_nonneg i (show n≠0 by omega)
 have h2:=Int.emod_lt_of_pos i hn
 omega
theorem a4r{a b:Int}(h:a.natAbs<2 ^ 64):IntMulOk a b:=IntMulOk.of_left (intBits_le_64 (by omega) (by omega))
theorem a3I{a b:Int}(h:b.natAbs<2 ^ 64):IntMulOk a b:=IntMulOk.of_right (intBits_le_64 (by omega) (by omega))
theorem a2q{a b:Int}(h:a.natAbs<2 ^ 64):l7 (.int a) (.int b)=some (.int (a*b)):=a26 (a4r h)
theorem J9{a b:Int}(h:b.natAbs<2 ^ 64):l7 (.int a) (.int b)=some (.int (a*b)):=a26 (a3I h)
section
variable {α:Type}
theorem a6h{a:α}{l:List α}:atI (a::l) 0=some a:=by unfold atI O7;simp
theorem a0c{a:α}{l:List α}{n:Nat}:atI (a::l) ((n:Int)+1)=atI l n:=by
 unfold atI O7
 have h1:(0:Int)≤(n:Int)+1:=by omega
 have h2:(0:Int)≤(n:Int):=by omega
 rw[if_pos h1,if_pos h2]
 by_cases z:(n:Int)<(l.length:Int)
 ·rw[if_pos z,if_pos (by rw[List.length_cons];push_cast;omega)]
  show(a::l)[((n:Int)+1).toNat]? = l[((n:Int)).toNat]?
  rw[show((n:Int)+1).toNat=n+1 by omega,show((n:Int)).toNat=n by omega]
  rfl
 ·rw[if_neg z,if_neg (by rw[List.length_cons];push_cast;omega)]
  rfl
theorem a6i{a b:α}{l:List α}:atI (a::b::l) 1=some b:=(a0c (n:=0)).trans a6h
theorem a6j{a b c:α}{l:List α}:atI (a::b::c::l) 2=some c:=(a0c (n:=1)).trans a6i
theorem a6k{a b c d:α}{l:List α}:atI (a::b::c::d::l) 3=some d:=(a0c (n:=2)).trans a6j
theorem a6l{a b c d e:α}{l:List α}:atI (a::b::c::d::e::l) 4=some e:=(a0c (n:=3)).trans a6k
theorem a6m{a b c d e f:α}{l:List α}:atI (a::b::c::d::e::f::l) 5=some f:=(a0c (n:=4)).trans a6l
theorem a9k{a b c d e f g:α}{l:List α}:atI (a::b::c::d::e::f::g::l) 6=some g:=(a0c (n:=5)).trans a6m
end
def j6(ns:List Int)(k:Int):Int:=ns.getD k.toNat 0
theorem a7s{ns:List Int}{k:Int}(hk:0≤k):(if k<(ns.length:Int)then(match atI ns k with
  | none=>none
  | some n=>some (R1.ret (D.int n)))else some (R1.ret (D.int 0)))=some (R1.ret (D.int (j6 ns k))):=by
 unfold j6
 by_cases z:k<(ns.length:Int)
 ·rw[if_pos z]
  have h:k.toNat<ns.length:=by omega
  have e:atI ns k=some ns[k.toNat]:=by
   unfold atI O7
   rw[if_pos hk,if_pos z]
   exact List.getElem?_eq_getElem h
  rw[e,List.getD_eq_getElem?_getD,List.getElem?_eq_getElem h];rfl
 ·rw[if_neg z,List.getD_eq_getElem?_getD,List.getElem?_eq_none (by omega)];rfl
section
variable {K:W.Frag}{cl:Str→Addr}{E:XK}{σ:St}{H F:Hp}{env:DE}{k:Nat}
def N4(ds es:List D):List D:=List.zipWith (fun a b=>.tup [a,b]) ds es
theorem a5p{ds es:List D}{i:Nat}{d e:D}(h:ds[i]? = some d)(h':es[i]? = some e):(N4 ds es)[i]? = some (.tup [d,e]):=by
 unfold N4;rw[List.getElem?_zipWith,h,h']
theorem a5q{ds es:List D}:(N4 ds es).length=min ds.length es.length:=by unfold N4;rw[List.length_zipWith]
def a3J(ds:List D):Option (List D):=match ds with
 | [d,e]=>match seqL d,seqL e with
  | some xs,some ys=>some (N4 xs ys)
  | _,_=>none
 | _=>none
theorem a7t{ds zs:List D}{vs:List V}(h:a3J ds=some zs)(p:Rps K cl F ds vs):∃a a' xs ys ds' es',vs=[.ref a,.ref a']∧zs=N4 ds' es'∧Rps K cl F ds' xs∧Rps K cl F es' ys∧∀H',Same F H'→SqL K H' a xs∧SqL K H' a' ys:=by
 unfold a3J at h
 split at h
 ·rename_i d e
  split at h
  ·rename_i xs ys h1 h2
   cases h
   obtain⟨v,r,rfl,p1,p2⟩:=p.inv
   obtain⟨u,r',rfl,p3,p4⟩:=p2.inv
   rw[p4.inv0]
   obtain⟨a,us,rfl,q1,l1⟩:=Rp.seqL p1 h1
   obtain⟨a',us',rfl,q2,l2⟩:=Rp.seqL p3 h2
   exact⟨a,a',us,us',xs,ys,rfl,rfl,q1,q2,fun H' g=>⟨l1 H' g,l2 H' g⟩⟩
  ·cases h
 ·cases h
theorem a9l{b:GF}{c:BF}{el:ZF}{g:TG}{tf:TT}{te:TE}{js:List Nat}{ds es:List D}{xs ys:List V}{a a' B:Addr}{Q:VK}(nd:js.Nodup)(hg:N7 K cl k g b)(hc:D7 K cl E tf c)(he:m5 K cl E te el)(R:Rel K cl σ H F env)(hB:H B=none)
  (hl:∀H' F',Same F F'→Same F' H'→SqL K H' a xs∧SqL K H' a' ys) (r:Rps K cl F ds xs) (r':Rps K cl F es ys) (h:Ct K cl E (PN K cl) (j8 b c el (k9 k js env) env (N4 ds es) []) σ H F env Q) :
  D6 (Itz K a a') g tf te k (l4 k js σ) B (fun H'=>Q (.ref B) H') H:=by
 refine a5b (xs:=xs) (ys:=ys) (fun i zs H'=>∃F' acc,Grow K cl σ H F env B acc zs H' F'∧Ct K cl E (PN K cl) (j8 b c el (k9 k js env) env ((N4 ds es).drop i) acc) σ H F env Q) ⟨F,[],.start R hB,h⟩ (fun i zs H' ⟨F',acc,gw,_⟩=>hl H' F' gw.frm.fz gw.rel.sub) (fun i x y zs H' p hx hy ⟨F',acc,gw,h'⟩ hp=>?_) (fun zs H' ⟨F',acc,gw,h'⟩=>?_)
 ·obtain⟨d,hd,pd⟩:=r.get' hx
  obtain⟨d',hd',pd'⟩:=r'.get' hy
  rw[R6 (a5p hd hd')]at h'
  have gr:Gr H' F' (upd H' p (.tup [x,y])) (upd F' p (.tup [x,y])):=.new gw.rel.sub hp
  refine R8 (Pv:=fun zs' H2=>∃F' acc,Grow K cl σ H F env B acc zs' H2 F'∧Ct K cl E (PN K cl) (j8 b c el (k9 k js env) env ((N4 ds es).drop (i+1)) acc) σ H F env Q) nd hg hc he (gw.gr gr) ?_ h' fun acc' ys' H2 F2 gw2 h2=>⟨F2,acc',gw2,h2⟩
  simp only[Rp]
  exact⟨p,_,rfl,g9,.cons (Rp.mono (gw.frm.fz.trans gr.fz) _ _ pd) (.one (Rp.mono (gw.frm.fz.trans gr.fz) _ _ pd'))⟩
 ·rw[← r.length,← r'.length,List.drop_eq_nil_of_le (by rw[a5q];exact Nat.le_refl _)]at h'
  exact V9 gw h'
def a2r(k:Nat)(js:List Nat)(f:AF)(b:GF)(c:BF)(el:ZF):NF:=fun e=>bnd (f e) fun ds e1=>match a3J ds with
 | none=>none
 | some zs=>j8 b c el (k9 k js e1) e1 zs []
theorem a5r{t:TA}{g:TG}{tf:TT}{te:TE}{js:List Nat}{f:AF}{b:GF}{c:BF}{el:ZF}(nd:js.Nodup)(hf:N6 K cl E t f)(hg:N7 K cl k g b)(hc:D7 K cl E tf c)(he:m5 K cl E te el):RfN K cl E (V0 (a8w K t) g tf te k js) (a2r k js f b c el):=by
 intro σ H Q env F R h
 refine hf σ H _ env F R ((Ct.bnd h a19).mono fun x H1 ⟨F1,e1,ds,s1,R1,p1,h1⟩=>?_)
 split at h1
 ·exact h1.elim
 ·rename_i zs hs
  obtain⟨a,a',xs,ys,ds',es',rfl,rfl,q1,q2,hl⟩:=a7t hs p1
  exact⟨a,a',rfl,⟨xs,(hl H1 R1.sub).1⟩,⟨ys,(hl H1 R1.sub).2⟩,fun B hB=>a9l nd hg hc he R1 hB (fun H' F' f2 s2=>hl H' (f2.trans s2)) q1 q2 h1⟩
theorem Rb.seqL{d:D}{ds:List D}{v:V}(s:Same F H)(p:Rb K cl F H d v)(q:L2.seqL d=some ds):∃a xs,v=.ref a∧Rps K cl F ds xs∧SqL K H a xs:=by
 rcases p with p | ⟨a,xs,es,e,rfl,h,r⟩
 ·obtain⟨a,xs,e,r,l⟩:=Rp.seqL p q;exact⟨a,xs,e,r,l H s⟩
 ·cases q;exact⟨a,xs,e,r,.of h⟩
end
section
variable {P:Program}{w:World}{mg:Str→Option Value}{base:Heap}{K:W.Frag}{cl:Str→Addr}{E:XK}{σ:St}{H F:Hp}{env:DE}{k:Nat}
theorem a9m{b:GF}{c:BF}{el:ZF}{g:TG}{tf:TT}{te:TE}{js:List Nat}{ds:List D}{xs:List V}{a B:Addr}{Q:VK}(nd:js.Nodup)(hg:N7 K cl k g b)(hc:D7 K cl E tf c)(he:m5 K cl E te el)(R:Rel K cl σ H F env)(hB:H B=none)
  (hF:F a=some (.tup xs)) (r:Rps K cl F ds xs) (h:Ct K cl E (PN K cl) (j8 b c el (k9 k js env) env ds []) σ H F env Q) :
  D6 (Itt K a) g tf te k (l4 k js σ) B (fun H'=>Q (.ref B) H') H:=by
 refine a5c (xs:=xs) (fun i ys H'=>∃F' acc,Grow K cl σ H F env B acc ys H' F'∧Ct K cl E (PN K cl) (j8 b c el (k9 k js env) env (ds.drop i) acc) σ H F env Q) ⟨F,[],.start R hB,h⟩ (fun i ys H' _ ⟨F',acc,gw,_⟩=>.of (gw.rel.sub _ _ (gw.frm.fz _ _ hF))) (fun i x ys H' hx ⟨F',acc,gw,h'⟩=>?_) (fun ys H' ⟨F',acc,gw,h'⟩=>?_)
 ·obtain⟨d,hd,p⟩:=r.get' hx
  rw[R6 hd]at h'
  exact R8 (Pv:=fun ys' H2=>∃F' acc,Grow K cl σ H F env B acc ys' H2 F'∧Ct K cl E (PN K cl) (j8 b c el (k9 k js env) env (ds.drop (i+1)) acc) σ H F env Q) nd hg hc he gw (Rp.mono gw.frm.fz _ _ p) h' fun acc' ys' H2 F2 gw2 h2=>⟨F2,acc',gw2,h2⟩
 ·rw[← r.length,List.drop_length]at h'
  exact V9 gw h'
def C6(k:Nat)(js:List Nat)(f:ZF)(b:GF)(c:BF)(el:ZF):NF:=fun e=>bnd (f e) fun d e1=>match d with
 | .tup ds=>j8 b c el (k9 k js e1) e1 ds []
 | _=>none
theorem a0u{t:TE}{g:TG}{tf:TT}{te:TE}{js:List Nat}{f:ZF}{b:GF}{c:BF}{el:ZF}(nd:js.Nodup)(hf:m5 K cl E t f)(hg:N7 K cl k g b)(hc:D7 K cl E tf c)(he:m5 K cl E te el):RfN K cl E (V0 (a8d K t) g tf te k js) (C6 k js f b c el):=by
 intro σ H Q env F R h
 refine hf σ H _ env F R ((Ct.bnd h a19).mono fun x H1 ⟨F1,e1,d,s1,R1,p1,h1⟩=>?_)
 split at h1
 ·have p1:=(show Rp K cl F1 (.tup _) x from p1)
  simp only[Rp]at p1
  obtain⟨a,xs,rfl,hF,r⟩:=p1
  exact⟨a,rfl,⟨xs,.of (R1.sub _ _ hF)⟩,fun B hB=>a9m nd hg hc he R1 hB hF r h1⟩
 ·exact h1.elim
theorem a1D{f:Addr}{fd:FuncData}{ps:List Str}{n:Nat}:FnOk P w K mg base (w6 P w) n f fd ps (j2 K cl fun _=>none) :=
 ⟨fun vs H Q E ⟨_,_,_,_,h⟩=>h.elim,fun A outer s H args us vs Q E _ _ _ _ ⟨_,_,_,_,h⟩=>h.elim⟩
end
def a8V(x:Option DE)(k:DE→Option (R (List D))):Option (R (List D)):=match x with
 | none=>none
 | some e=>k e
theorem a1E{e:DE}{k:DE→Option (R (List D))}:a8V (some e) k=k e:=rfl
theorem a4s{b:GF}{c:BF}{el:ZF}{ec eo:DE}{acc:List D}:j8 b c el ec eo [] acc=some (.ok acc eo):=rfl
theorem a0U{b:GF}{c:BF}{el:ZF}{ec eo:DE}{d:D}{ds acc:List D}:j8 b c el ec eo (d::ds) acc=a8V (b d ec) fun e1=>bnd (c e1) fun t e2=>if t=true then bnd (el e2) fun y _=>if acc.length<sizeLine then j8 b c el ec eo ds (acc++[y])else none else j8 b c el ec eo ds acc:=by
 rw[j8];cases b d ec<;>rfl
section
variable {K:W.Frag}{cl:Str→Addr}{E:XK}{σ:St}{H F:Hp}{env:DE}{k:Nat}
def E7:List D→Option D
 | [.int i,.int j]=>some (.int (if j > i then j else i))
 | _=>none
theorem a1g:a2c K cl (fun xs H Q=>∃i j,xs=[.int i,.int j]∧Q (.int (if j > i then j else i)) H) E7:=by
 intro xs ds z H F Q s p h q
 unfold E7 at h
 split at h
 ·rename_i i j;cases h
  exact⟨i,j,Rps.ints (ns:=[i,j]) p,q _ H F (.refl s) (by simp only[Rp])⟩
 ·cases h
def W1:D→Option D
 | .int i=>some (.int i)
 | .bl b=>some (.int (if b then 1 else 0))
 | _=>none
theorem a7u:CbOk1 K cl (fun xs H Q=>(∃i,xs=[.int i]∧Q (.int i) H)∨∃k,xs=[.bl k]∧Q (.int (if k then 1 else 0)) H) W1:=by
 intro x d z H F Q s hx h q
 unfold W1 at h
 split at h
 ·rename_i i;cases h;rw[hx.int];exact .inl ⟨i,rfl,q _ H F (.refl s) (by simp only[Rp])⟩
 ·rename_i i;cases h;rw[hx.bl];exact .inr ⟨i,rfl,q _ H F (.refl s) (by simp only[Rp])⟩
 ·cases h
theorem Rb.flat{d:D}{v:V}(h:Rb K cl F H d v)(f:j1 d=true):Rp K cl F d v:=by
 rcases h with h | ⟨_,_,_,_,rfl,_⟩
 ·exact h
 ·cases f
theorem tyL{i:Nat}{ds:List D}(R:Rel K cl σ H F env)(q:look env i=some (.lst ds)):∃a,σ[i]? = some (some (.ref a))∧tyV K "list" (.ref a) H:=by
 obtain⟨x,e0,rb⟩:=R.look q
 obtain⟨a,xs,rfl,hH,_⟩:=rb.lst R.sub
 exact⟨a,e0,.inl ⟨rfl,xs,.of hH⟩⟩
end
mutual
def r9:D→D→Bool
 | .tup ds,e=>(match e with
  | .tup es=>D2 ds es
  | _=>false)
 | .lst ds,e=>(match e with
  | .lst es=>D2 ds es
  | _=>false)
 | d,e=>P8 d e
def D2:List D→List D→Bool
 | [],es=>es.isEmpty
 | d::ds,es=>(match es with
  | []=>false
  | e::es=>r9 d e && D2 ds es)
end
mutual
def g4:D→Bool
 | .tup ds=>u0 ds
 | .lst ds=>u0 ds
 | d=>j1 d
def u0:List D→Bool
 | []=>true
 | d::ds=>g4 d && u0 ds
end
mutual
def B1:D→Nat
 | .tup ds=>y8 ds+1
 | .lst ds=>y8 ds+1
 | _=>0
def y8:List D→Nat
 | []=>0
 | d::ds=>max (B1 d) (y8 ds)
end
def a2s(ds es:List D)(j:Nat):Bool:=match ds[j]?,es[j]? with
 | some d,some e=>r9 d e
 | _,_=>true
theorem K0:∀{ds es:List D},ds.length=es.length→(List.range ds.length).all (a2s ds es)=D2 ds es
 | [],[],_=>by simp[D2]
 | d::ds,e::es,h=>by
  have h':ds.length=es.length:=by simpa using h
  simp only[D2]
  show(List.range (ds.length+1)).all _=(r9 d e && D2 ds es)
  rw[List.range_succ_eq_map,List.all_cons,List.all_map,← K0 h']
  rfl
theorem Q1:∀{ds es:List D},ds.length≠es.length→D2 ds es=false
 | [],[],h=>absurd rfl h
 | _::_,[],_=>by simp[D2]
 | [],_::_,_=>by simp[D2]
 | d::ds,e::es,h=>by
  simp only[D2]
  rw[Q1 (fun q=>h (by simp[q])),Bool.and_false]
section
variable {K:W.Frag}{cl:Str→Addr}{F:Hp}
theorem W2{d e:D}{v:V}(fd:j1 d=true)(p:Rp K cl F d v)(q:Rp K cl F e v)(pe:g4 e=true):P8 d e=true:=by
 cases d<;>first | (cases fd;done) | skip
 all_goals simp only[Rp]at p;subst p
 all_goals cases e<;>simp only[Rp]at q<;>first | (cases q;done) | (cases q;simp[P8];done) | (obtain⟨_,_,z,_⟩:=q;cases z;done) | (obtain⟨_,z,_⟩:=q;cases z;done) | (simp[g4,j1]at pe;done)
mutual
theorem a1h:∀(d e:D) (v:V),Rp K cl F d v→Rp K cl F e v→g4 d=true→g4 e=true→r9 d e=true
 | .tup ds,e,v,p,q,pd,pe=>by
  simp only[Rp]at p
  obtain⟨a,xs,rfl,ha,r⟩:=p
  cases e<;>simp only[Rp]at q
  case tup es =>
   obtain⟨a',ys,z,ha',r'⟩:=q
   cases z;rw[ha]at ha';cases ha'
   simp only[g4]at pd pe
   simp only[r9]
   exact a0v ds es xs r r' pd pe
  case lst es =>
   obtain⟨a',ys,z,ha',r'⟩:=q
   cases z;rw[ha]at ha';cases ha'
  all_goals first | (cases q;done) | (simp[g4,j1]at pe;done)
 | .lst ds,e,v,p,q,pd,pe=>by
  simp only[Rp]at p
  obtain⟨a,xs,rfl,ha,r⟩:=p
  cases e<;>simp only[Rp]at q
  case lst es =>
   obtain⟨a',ys,z,ha',r'⟩:=q
   cases z;rw[ha]at ha';cases ha'
   simp only[g4]at pd pe
   simp only[r9]
   exact a0v ds es xs r r' pd pe
  case tup es =>
   obtain⟨a',ys,z,ha',r'⟩:=q
   cases z;rw[ha]at ha';cases ha'
  all_goals first | (cases q;done) | (simp[g4,j1]at pe;done)
 | .non,e,v,p,q,pd,pe=>by simp only[r9];exact W2 rfl p q pe
 | .bl _,e,v,p,q,pd,pe=>by simp only[r9];exact W2 rfl p q pe
 | .int _,e,v,p,q,pd,pe=>by simp only[r9];exact W2 rfl p q pe
 | .str _,e,v,p,q,pd,pe=>by simp only[r9];exact W2 rfl p q pe
 | .ty _,e,v,p,q,pd,pe=>by simp[g4,j1]at pd
 | .cls _,e,v,p,q,pd,pe=>by simp[g4,j1]at pd
 | .scr _,e,v,p,q,pd,pe=>by simp[g4,j1]at pd
 | .exc _,e,v,p,q,pd,pe=>by simp[g4,j1]at pd
 | .obj _ _ _,e,v,p,q,pd,pe=>by simp[g4,j1]at pd
 | .dic _ _,e,v,p,q,pd,pe=>by simp[g4,j1]at pd
 | .exv _ _ _,e,v,p,q,pd,pe=>by simp[g4,j1]at pd
theorem a0v:∀(ds es:List D) (vs:List V),Rps K cl F ds vs→Rps K cl F es vs→u0 ds=true→u0 es=true→D2 ds es=true
 | [],es,vs,p,q,_,_=>by
  rw[p.inv0]at q
  cases es with
  | nil=>simp[D2]
  | cons e es=>obtain⟨_,_,z,_⟩:=q.inv;cases z
 | d::ds,es,vs,p,q,pd,pe=>by
  obtain⟨v,r,rfl,p1,p2⟩:=p.inv
  cases es with
  | nil=>have:=q.inv0;cases this
  | cons e es =>
   obtain⟨v',r',z,q1,q2⟩:=q.inv
   cases z
   simp only[u0,Bool.and_eq_true]at pd pe
   simp only[D2]
   rw[a1h d e v p1 q1 pd.1 pe.1,a0v ds es r p2 q2 pd.2 pe.2];rfl
end
end
section
variable {X:Cx}{cl:Str→Addr}{F:Hp}{pins:List (Addr×Obj)}{σ:St}{H:Hp}{s:Shared}
theorem W3{a:Addr}{d:D}{v:V}{u:Value}{A:Around}(hu:A.units<cLine)(hl:(∃xs,SqL X.K H a xs)∨∃xs,SqT X.K H a xs)(I:Inv X pins σ H s)(f:j1 d=true)(p:Rp X.K cl F d v)(r:RelV v u):SeqAt.EqAt A s (.ref a) u false∧SeqAt.EqAt A s u (.ref a) false:=by
 rcases hl with⟨xs,h⟩ | ⟨xs,h⟩
 ·obtain⟨us,r1,p1,z1⟩:=I.list h
  have q:=p1.isList
  cases d<;>first | (cases f;done) | skip
  all_goals simp only[Rp]at p;subst p
  ·cases r;exact⟨.list_none q hu,.none_list q hu⟩
  ·cases r;exact⟨.list_bool _ q hu,.bool_list _ q hu⟩
  ·obtain⟨t,rfl⟩:=r;exact⟨.list_int _ _ q hu,.int_list _ _ q hu⟩
  ·obtain⟨t,rfl⟩:=r;exact⟨.list_str _ _ q hu,.str_list _ _ q hu⟩
 ·obtain⟨us,r1,q,z1⟩:=I.tuple h
  cases d<;>first | (cases f;done) | skip
  all_goals simp only[Rp]at p;subst p
  ·cases r;exact⟨.tuple_none q hu,.none_tuple q hu⟩
  ·cases r;exact⟨.tuple_bool _ q hu,.bool_tuple _ q hu⟩
  ·obtain⟨t,rfl⟩:=r;exact⟨.tuple_int _ _ q hu,.int_tuple _ _ q hu⟩
  ·obtain⟨t,rfl⟩:=r;exact⟨.tuple_str _ _ q hu,.str_tuple _ _ q hu⟩
theorem C1{d:D}(p:g4 d=true):j1 d=true∨(∃ds,d=.tup ds)∨∃ds,d=.lst ds:=by
 cases d<;>first | exact .inl rfl | exact .inr (.inl ⟨_,rfl⟩) | exact .inr (.inr ⟨_,rfl⟩) | (simp[g4,j1]at p;done)
theorem a5s{d e:D}(f:j1 d=true):r9 d e=P8 d e:=by cases d<;>first | (cases f;done) | simp only[r9]
theorem S1{d e:D}{v u:V}{a b:Value}{A:Around}(I:Inv X pins σ H s)(sF:Same F H)(hu:A.units<cLine)(f:j1 d=true)(p:Rp X.K cl F d v)(q:Rp X.K cl F e u)(rv:RelV v a)(ru:RelV u b)(pe:g4 e=true):SeqAt.EqAt A s a b (r9 d e):=by
 rw[a5s f]
 rcases C1 pe with fe | ⟨es,rfl⟩ | ⟨es,rfl⟩
 ·rw[← p.eq q f fe]
  exact a8n rv ru (p.flat f).2 (q.flat fe).2
 ·simp only[Rp]at q
  obtain⟨c,ys,rfl,hb,r'⟩:=q
  cases ru
  have:=(W3 (A:=A) hu (.inr ⟨ys,.of (sF _ _ hb)⟩) I f p rv).2
  have z:P8 d (.tup es)=false:=by cases d<;>first | (cases f;done) | rfl
  rw[z];exact this
 ·simp only[Rp]at q
  obtain⟨c,ys,rfl,hb,r'⟩:=q
  cases ru
  have:=(W3 (A:=A) hu (.inl ⟨ys,.of (sF _ _ hb)⟩) I f p rv).2
  have z:P8 d (.lst es)=false:=by cases d<;>first | (cases f;done) | rfl
  rw[z];exact this
mutual
theorem a7v(I:Inv X pins σ H s)(sF:Same F H):∀(d e:D) (v u:V) (a b:Value) (A:Around),A.units+B1 d<cLine→Rp X.K cl F d v→Rp X.K cl F e u→RelV v a→RelV u b→g4 d=true→g4 e=true→SeqAt.EqAt A s a b (r9 d e)
 | .tup ds,e,v,u,va,ua,A,hu,p,q,rv,ru,pd,pe=>by
  have p0:=p
  have hu':A.units<cLine:=by omega
  simp only[B1]at hu
  simp only[Rp]at p
  obtain⟨a,xs,rfl,ha,r⟩:=p
  cases rv
  have ha':=sF _ _ ha
  rcases C1 pe with f | ⟨es,rfl⟩ | ⟨es,rfl⟩
  ·have:=(W3 (A:=A) hu' (.inr ⟨xs,.of ha'⟩) I f q ru).1
   have z:r9 (.tup ds) e=false:=by cases e<;>first | (cases f;done) | simp only[r9]
   rw[z];exact this
  ·have q0:=q
   simp only[Rp]at q
   obtain⟨b,ys,rfl,hb,r'⟩:=q
   cases ru
   have hb':=sF _ _ hb
   by_cases z:a=b
   ·subst z
    rw[a1h _ _ _ p0 q0 pd pe]
    exact .same _
   ·obtain⟨us,r1,p1,_⟩:=I.tuple (.of ha')
    obtain⟨ws,r2,p2,_⟩:=I.tuple (.of hb')
    simp only[g4]at pd pe
    have he:∀j (h1:j<us.toArray.size) (h2:j<ws.toArray.size),SeqAt.EqAt A.in1 s us.toArray[j] ws.toArray[j] (a2s ds es j):=Q2 I sF ds es xs ys us ws A.in1 (by show A.units+1+y8 ds<cLine;omega) r r' r1 r2 pd pe
    have:=SeqAt.EqAt.of_refs z (SeqAt.RcAt.tuples p1 p2 hu' he)
    have e1:us.toArray.size=ds.length:=by simp[← r1.length,r.length]
    have e2:ws.toArray.size=es.length:=by simp[← r2.length,r'.length]
    rw[e1,e2]at this
    simp only[r9]
    by_cases hl:ds.length=es.length
    ·rw[← hl,Nat.min_self,K0 hl,beq_self_eq_true,Bool.and_true]at this
     exact this
    ·rw[Q1 hl]
     rw[beq_eq_false_iff_ne.mpr hl,Bool.and_false]at this
     exact this
  ·simp only[Rp]at q
   obtain⟨b,ys,rfl,hb,r'⟩:=q
   cases ru
   obtain⟨us,r1,p1,_⟩:=I.tuple (.of ha')
   obtain⟨ws,r2,p2,_⟩:=I.list (.of (sF _ _ hb))
   simp only[r9]
   exact .tuple_list p1 p2.isList hu'
 | .lst ds,e,v,u,va,ua,A,hu,p,q,rv,ru,pd,pe=>by
  have p0:=p
  have hu':A.units<cLine:=by omega
  simp only[B1]at hu
  simp only[Rp]at p
  obtain⟨a,xs,rfl,ha,r⟩:=p
  cases rv
  have ha':=sF _ _ ha
  rcases C1 pe with f | ⟨es,rfl⟩ | ⟨es,rfl⟩
  ·have:=(W3 (A:=A) hu' (.inl ⟨xs,.of ha'⟩) I f q ru).1
   have z:r9 (.lst ds) e=false:=by cases e<;>first | (cases f;done) | simp only[r9]
   rw[z];exact this
  ·simp only[Rp]at q
   obtain⟨b,ys,rfl,hb,r'⟩:=q
   cases ru
   obtain⟨us,r1,p1,_⟩:=I.list (.of ha')
   obtain⟨ws,r2,p2,_⟩:=I.tuple (.of (sF _ _ hb))
   simp only[r9]
   exact .list_tuple p1.isList p2 hu'
  ·have q0:=q
   simp only[Rp]at q
   obtain⟨b,ys,rfl,hb,r'⟩:=q
   cases ru
   have hb':=sF _ _ hb
   by_cases z:a=b
   ·subst z
    rw[a1h _ _ _ p0 q0 pd pe]
    exact .same _
   ·obtain⟨us,r1,p1,_⟩:=I.list (.of ha')
    obtain⟨ws,r2,p2,_⟩:=I.list (.of hb')
    simp only[g4]at pd pe
    have he:∀j (h1:j<us.toArray.size) (h2:j<ws.toArray.size),SeqAt.EqAt A.in1 s us.toArray[j] ws.toArray[j] (a2s ds es j):=Q2 I sF ds es xs ys us ws A.in1 (by show A.units+1+y8 ds<cLine;omega) r r' r1 r2 pd pe
    have e1:us.toArray.size=ds.length:=by simp[← r1.length,r.length]
    have e2:ws.toArray.size=es.length:=by simp[← r2.length,r'.length]
    simp only[r9]
    by_cases hl:ds.length=es.length
    ·have:=SeqAt.EqAt.of_refs z (SeqAt.RcAt.lists p1.isList p2.isList (by rw[e1,e2,hl]) hu' he)
     rw[e1,K0 hl]at this
     exact this
    ·rw[Q1 hl]
     exact SeqAt.EqAt.of_refs z (SeqAt.RcAt.lists_lengths p1.isList p2.isList (by rw[e1,e2];simp[hl]) hu')
 | .non,e,v,u,va,ua,A,hu,p,q,rv,ru,pd,pe=>S1 I sF (by omega) rfl p q rv ru pe
 | .bl _,e,v,u,va,ua,A,hu,p,q,rv,ru,pd,pe=>S1 I sF (by omega) rfl p q rv ru pe
 | .int _,e,v,u,va,ua,A,hu,p,q,rv,ru,pd,pe=>S1 I sF (by omega) rfl p q rv ru pe
 | .str _,e,v,u,va,ua,A,hu,p,q,rv,ru,pd,pe=>S1 I sF (by omega) rfl p q rv ru pe
 | .ty _,e,v,u,va,ua,A,hu,p,q,rv,ru,pd,pe=>by simp[g4,j1]at pd
 | .cls _,e,v,u,va,ua,A,hu,p,q,rv,ru,pd,pe=>by simp[g4,j1]at pd
 | .scr _,e,v,u,va,ua,A,hu,p,q,rv,ru,pd,pe=>by simp[g4,j1]at pd
 | .exc _,e,v,u,va,ua,A,hu,p,q,rv,ru,pd,pe=>by simp[g4,j1]at pd
 | .obj _ _ _,e,v,u,va,ua,A,hu,p,q,rv,ru,pd,pe=>by simp[g4,j1]at pd
 | .dic _ _,e,v,u,va,ua,A,hu,p,q,rv,ru,pd,pe=>by simp[g4,j1]at pd
 | .exv _ _ _,e,v,u,va,ua,A,hu,p,q,rv,ru,pd,pe=>by simp[g4,j1]at pd
theorem Q2(I:Inv X pins σ H s)(sF:Same F H):∀(ds es:List D) (xs ys:List V) (us ws:List Value) (A:Around),A.units+y8 ds<cLine→Rps X.K cl F ds xs→Rps X.K cl F es ys→Vals xs us→Vals ys ws→u0 ds=true→u0 es=true→∀j (h1:j<us.toArray.size) (h2:j<ws.toArray.size),SeqAt.EqAt A s us.toArray[j] ws.toArray[j] (a2s ds es j)
 | [],es,xs,ys,us,ws,A,hu,p,q,rv,rw',pd,pe=>fun j h1 h2=>by
  rw[p.inv0]at rv;cases rv;simp at h1
 | d::ds,es,xs,ys,us,ws,A,hu,p,q,rv,rw',pd,pe=>fun j h1 h2=>by
  obtain⟨x,xs',rfl,p1,p2⟩:=p.inv
  cases rv with
  | cons r1 t1 =>
   cases es with
   | nil=>rw[q.inv0]at rw';cases rw';simp at h2
   | cons e es =>
    obtain⟨y,ys',rfl,q1,q2⟩:=q.inv
    cases rw' with
    | cons r2 t2 =>
     simp only[u0,Bool.and_eq_true]at pd pe
     simp only[y8]at hu
     cases j with
     | zero=>exact a7v I sF d e x y _ _ A (by omega) p1 q1 r1 r2 pd.1 pe.1
     | succ j =>
      have:=Q2 I sF ds es xs' ys' _ _ A (by omega) p2 q2 t1 t2 pd.2 pe.2 j (by simpa using h1) (by simpa using h2)
      simpa [a2s]using this
end
end
theorem a1i{A:Around}{k:Nat}(hr:Room k A):A.units+41<cLine:=Nat.lt_of_le_of_lt (Nat.add_le_add_left (by decide:41≤64) _) hr.units
def L7 : D→Bool
 | .tup _=>true
 | .lst _=>true
 | _=>false
theorem Rb.toRp{K:W.Frag}{cl:Str→Addr}{F H:Hp}{d:D}{v:V}(s:Same F H)(h:Rb K cl F H d v):∃F',Same F F'∧Same F' H∧Rp K cl F' d v:=by
 rcases h with h | ⟨a,xs,ds,rfl,rfl,ha,r⟩
 ·exact⟨F,Same.refl _,s,h⟩
 ·have g:Same F (upd F a (.lst xs)):=fun b o q=>by
   by_cases z:b=a
   ·subst z;have:=s _ _ q;rw[ha]at this;cases this;exact g9
   ·rw[b9 z];exact q
  refine⟨upd F a (.lst xs),g,fun b o q=>?_,?_⟩
  ·by_cases z:b=a
   ·subst z;rw[g9]at q;cases q;exact ha
   ·rw[b9 z]at q;exact s _ _ q
  ·simp only[Rp];exact⟨a,xs,rfl,g9,r.mono g⟩
section
variable {X:Cx}{cl:Str→Addr}{F:Hp}{pins:List (Addr×Obj)}{σ:St}{H:Hp}{s:Shared}
theorem a0d{a:Addr}{d:D}{v:V}{u:Value}{A:Around}(hu:A.units<cLine)(hl:(∃xs,SqL X.K H a xs)∨∃xs,SqT X.K H a xs)(I:Inv X pins σ H s)(f:j1 d=true)(p:Rp X.K cl F d v)(r:RelV v u) :
  (SeqAt.RcAt A s (.ref a) u false∧SeqAt.RcAt A s u (.ref a) false)∧SeqAt.RcNeAt A s (.ref a) u true∧SeqAt.RcNeAt A s u (.ref a) true:=by
 rcases hl with⟨xs,h⟩ | ⟨xs,h⟩
 ·obtain⟨us,r1,p1,z1⟩:=I.list h
  have q:=p1.isList
  cases d<;>first | (cases f;done) | skip
  all_goals simp only[Rp]at p;subst p
  ·cases r;exact⟨⟨.list_none q hu,.none_list q hu⟩,.list_none q hu,.none_list q hu⟩
  ·cases r;exact⟨⟨.list_bool _ q hu,.bool_list _ q hu⟩,.list_bool _ q hu,.bool_list _ q hu⟩
  ·obtain⟨t,rfl⟩:=r;exact⟨⟨.list_int _ _ q hu,.int_list _ _ q hu⟩,.list_int _ _ q hu,.int_list _ _ q hu⟩
  ·obtain⟨t,rfl⟩:=r;exact⟨⟨.list_str _ _ q hu,.str_list _ _ q hu⟩,.list_str _ _ q hu,.str_list _ _ q hu⟩
 ·obtain⟨us,r1,q,z1⟩:=I.tuple h
  cases d<;>first | (cases f;done) | skip
  all_goals simp only[Rp]at p;subst p
  ·cases r;exact⟨⟨.tuple_none q hu,.none_tuple q hu⟩,.tuple_none q hu,.none_tuple q hu⟩
  ·cases r;exact⟨⟨.tuple_bool _ q hu,.bool_tuple _ q hu⟩,.tuple_bool _ q hu,.bool_tuple _ q hu⟩
  ·obtain⟨t,rfl⟩:=r;exact⟨⟨.tuple_int _ _ q hu,.int_tuple _ _ q hu⟩,.tuple_int _ _ q hu,.int_tuple _ _ q hu⟩
  ·obtain⟨t,rfl⟩:=r;exact⟨⟨.tuple_str _ _ q hu,.str_tuple _ _ q hu⟩,.tuple_str _ _ q hu,.str_tuple _ _ q hu⟩
theorem a29{d e:D}{v u:V}{a b:Value}{A:Around}(I:Inv X pins σ H s)(sF:Same F H)(hu:A.units+B1 d<cLine)(p:Rp X.K cl F d v)(q:Rp X.K cl F e u)(rv:RelV v a)(ru:RelV u b)(pd:g4 d=true)(pe:g4 e=true)(hs:L7 d=true∨L7 e=true) :
  SeqAt.RcAt A s a b (r9 d e)∧SeqAt.RcNeAt A s a b (!r9 d e):=by
 have hu':A.units<cLine:=by omega
 rcases C1 pd with fd | ⟨ds,rfl⟩ | ⟨ds,rfl⟩
 ·have se:L7 e=true:=hs.resolve_left (by cases d<;>first | (cases fd;done) | simp[L7])
  rcases C1 pe with fe | ⟨es,rfl⟩ | ⟨es,rfl⟩
  ·cases e<;>first | (cases fe;done) | (cases se;done)
  ·simp only[Rp]at q
   obtain⟨c,ys,rfl,hb,r'⟩:=q
   cases ru
   have:=a0d (A:=A) hu' (.inr ⟨ys,.of (sF _ _ hb)⟩) I fd p rv
   have z:r9 d (.tup es)=false:=by cases d<;>first | (cases fd;done) | simp[r9,P8]
   rw[z];exact⟨this.1.2,this.2.2⟩
  ·simp only[Rp]at q
   obtain⟨c,ys,rfl,hb,r'⟩:=q
   cases ru
   have:=a0d (A:=A) hu' (.inl ⟨ys,.of (sF _ _ hb)⟩) I fd p rv
   have z:r9 d (.lst es)=false:=by cases d<;>first | (cases fd;done) | simp[r9,P8]
   rw[z];exact⟨this.1.2,this.2.2⟩
 ·simp only[B1]at hu
  simp only[Rp]at p
  obtain⟨l,xs,rfl,ha,r⟩:=p
  cases rv
  have ha':=sF _ _ ha
  obtain⟨us,r1,p1,_⟩:=I.tuple (.of ha')
  rcases C1 pe with fe | ⟨es,rfl⟩ | ⟨es,rfl⟩
  ·have:=a0d (A:=A) hu' (.inr ⟨xs,.of ha'⟩) I fe q ru
   have z:r9 (.tup ds) e=false:=by cases e<;>first | (cases fe;done) | simp only[r9]
   rw[z];exact⟨this.1.1,this.2.1⟩
  ·simp only[Rp]at q
   obtain⟨c,ys,rfl,hb,r'⟩:=q
   cases ru
   obtain⟨ws,r2,p2,_⟩:=I.tuple (.of (sF _ _ hb))
   simp only[g4]at pd pe
   have he:=Q2 I sF ds es xs ys us ws A.in1 (by show A.units+1+y8 ds<cLine;omega) r r' r1 r2 pd pe
   have h1:=SeqAt.RcAt.tuples p1 p2 hu' he
   have h2:=SeqAt.RcNeAt.tuples p1 p2 hu' he
   have e1:us.toArray.size=ds.length:=by simp[← r1.length,r.length]
   have e2:ws.toArray.size=es.length:=by simp[← r2.length,r'.length]
   rw[e1,e2]at h1 h2
   simp only[r9]
   by_cases hl:ds.length=es.length
   ·rw[← hl,Nat.min_self,K0 hl,beq_self_eq_true,Bool.and_true]at h1 h2
    exact⟨h1,h2⟩
   ·rw[Q1 hl]
    rw[beq_eq_false_iff_ne.mpr hl,Bool.and_false]at h1 h2
    exact⟨h1,h2⟩
  ·simp only[Rp]at q
   obtain⟨c,ys,rfl,hb,r'⟩:=q
   cases ru
   obtain⟨ws,r2,p2,_⟩:=I.list (.of (sF _ _ hb))
   simp only[r9]
   exact⟨.tuple_list p1 p2.isList hu',.tuple_list p1 p2.isList hu'⟩
 ·simp only[B1]at hu
  simp only[Rp]at p
  obtain⟨l,xs,rfl,ha,r⟩:=p
  cases rv
  have ha':=sF _ _ ha
  obtain⟨us,r1,p1,_⟩:=I.list (.of ha')
  rcases C1 pe with fe | ⟨es,rfl⟩ | ⟨es,rfl⟩
  ·have:=a0d (A:=A) hu' (.inl ⟨xs,.of ha'⟩) I fe q ru
   have z:r9 (.lst ds) e=false:=by cases e<;>first | (cases fe;done) | simp only[r9]
   rw[z];exact⟨this.1.1,this.2.1⟩
  ·simp only[Rp]at q
   obtain⟨c,ys,rfl,hb,r'⟩:=q
   cases ru
   obtain⟨ws,r2,p2,_⟩:=I.tuple (.of (sF _ _ hb))
   simp only[r9]
   exact⟨.list_tuple p1.isList p2 hu',.list_tuple p1.isList p2 hu'⟩
  ·simp only[Rp]at q
   obtain⟨c,ys,rfl,hb,r'⟩:=q
   cases ru
   obtain⟨ws,r2,p2,_⟩:=I.list (.of (sF _ _ hb))
   simp only[g4]at pd pe
   have he:=Q2 I sF ds es xs ys us ws A.in1 (by show A.units+1+y8 ds<cLine;omega) r r' r1 r2 pd pe
   have e1:us.toArray.size=ds.length:=by simp[← r1.length,r.length]
   have e2:ws.toArray.size=es.length:=by simp[← r2.length,r'.length]
   simp only[r9]
   by_cases hl:ds.length=es.length
   ·have h1:=SeqAt.RcAt.lists p1.isList p2.isList (by rw[e1,e2,hl]) hu' he
    have h2:=SeqAt.RcNeAt.lists p1.isList p2.isList (by rw[e1,e2,hl]) hu' he
    rw[e1,K0 hl]at h1 h2
    exact⟨h1,h2⟩
   ·rw[Q1 hl]
    exact⟨SeqAt.RcAt.lists_lengths p1.isList p2.isList (by rw[e1,e2];simp[hl]) hu',SeqAt.RcNeAt.lists_lengths p1.isList p2.isList (by rw[e1,e2];simp[hl]) hu'⟩
end
def a5t(K:W.Frag)(cl:Str→Addr)(neg:Bool):R2:=fun x y H Q=>∃F d e,Same F H∧Rp K cl F d x∧Rp K cl F e y∧g4 d=true∧g4 e=true∧B1 d≤40∧(L7 d=true∨L7 e=true)∧Q (.bl (if neg then !r9 d e else r9 d e)) H
theorem a1j{X:Cx}{K:W.Frag}{cl:Str→Addr}(hu:X.A.units+41<cLine)(hK:X.K=K:=by rfl):I0 X (compareOp .Eq) (a5t K cl false):=by
 subst hK
 intro pins s σ H x y v u Q I rx ry h
 obtain⟨F,d,e,sF,p,q,pd,pe,hd,hs,hQ⟩:=h
 exact(a29 I sF (by omega) p q rx ry pd pe hs).1 X.prog X.w _ _ ⟨.bl _,H,I,rfl,hQ⟩
theorem a1k{X:Cx}{K:W.Frag}{cl:Str→Addr}(hu:X.A.units+41<cLine)(hK:X.K=K:=by rfl):I0 X (compareOp .NotEq) (a5t K cl true):=by
 subst hK
 intro pins s σ H x y v u Q I rx ry h
 obtain⟨F,d,e,sF,p,q,pd,pe,hd,hs,hQ⟩:=h
 exact(a29 I sF (by omega) p q rx ry pd pe hs).2 X.prog X.w _ _ ⟨.bl _,H,I,rfl,hQ⟩
def D3(neg:Bool)(d e:D):Option D:=if(g4 d && g4 e && decide (B1 d≤40) && (L7 d || L7 e))=true then some (.bl (if neg then !r9 d e else r9 d e))else none
theorem U2{K:W.Frag}{cl:Str→Addr}{neg:Bool}:OpOk K cl (a5t K cl neg) (D3 neg):=by
 intro x y d e z H F Q s hx hy h q
 unfold D3 at h
 split at h
 ·rename_i c;cases h
  simp only[Bool.and_eq_true,Bool.or_eq_true,decide_eq_true_eq]at c
  obtain⟨F1,g1,s1,p1⟩:=hx.toRp s
  have hy1:Rb K cl F1 H e y:=by
   rcases hy with hy | ⟨a,xs,ds,e1,e2,ha,r⟩
   ·exact .inl (hy.mono g1)
   ·exact .inr ⟨a,xs,ds,e1,e2,ha,r.mono g1⟩
  obtain⟨F2,g2,s2,p2⟩:=hy1.toRp s1
  exact⟨F2,d,e,s2,p1.mono g2,p2,c.1.1.1,c.1.1.2,c.1.2,c.2,q _ H F (.refl s) (by simp only[Rp])⟩
 ·cases h
mutual
theorem a2t:∀(d:D),g4 d=true→r9 d d=true
 | .tup ds,h=>by simp only[g4]at h;simp only[r9];exact Y6 ds h
 | .lst ds,h=>by simp only[g4]at h;simp only[r9];exact Y6 ds h
 | .non,_=>by simp[r9,P8]
 | .bl _,_=>by simp[r9,P8]
 | .int _,_=>by simp[r9,P8]
 | .str _,_=>by simp[r9,P8]
 | .ty _,h=>by simp[g4,j1]at h
 | .cls _,h=>by simp[g4,j1]at h
 | .scr _,h=>by simp[g4,j1]at h
 | .exc _,h=>by simp[g4,j1]at h
 | .obj _ _ _,h=>by simp[g4,j1]at h
 | .dic _ _,h=>by simp[g4,j1]at h
 | .exv _ _ _,h=>by simp[g4,j1]at h
theorem Y6:∀(ds:List D),u0 ds=true→D2 ds ds=true
 | [],_=>by simp[D2]
 | d::ds,h=>by
  simp only[u0,Bool.and_eq_true]at h
  simp only[D2]
  rw[a2t d h.1,Y6 ds h.2];rfl
end
theorem S2{d:D}(neg:Bool)(h1:g4 d=true)(h2:B1 d≤40)(h3:L7 d=true):D3 neg d d=some (.bl (!neg)):=by
 unfold D3
 rw[if_pos (by simp[h1,h2,h3]),a2t d h1]
 cases neg<;>rfl
theorem a0l{α:Type}{f:α→D}{l:List α}(h:∀a∈l,g4 (f a)=true):u0 (l.map f)=true:=by
 induction l with
 | nil=>rfl
 | cons a l ih =>
  simp only[List.map_cons,u0,Bool.and_eq_true]
  exact⟨h a List.mem_cons_self,ih fun b hb=>h b (List.mem_cons_of_mem _ hb)⟩
theorem a1F{α:Type}{f:α→D}{l:List α}{n:Nat}(h:∀a∈l,B1 (f a)≤n):y8 (l.map f)≤n:=by
 induction l with
 | nil=>simp[y8]
 | cons a l ih =>
  simp only[List.map_cons,y8]
  have:=h a List.mem_cons_self
  have:=ih fun b hb=>h b (List.mem_cons_of_mem _ hb)
  omega
section
variable {K:W.Frag}{cl:Str→Addr}{E:XK}{σ:St}{H F:Hp}{env:DE}{k:Nat}
def a9Y(K:W.Frag)(cl:Str→Addr)(E:XK)(a:Addr)(t:TS)(f:SF):Prop:=∀(N:Ends) σ H env F,Rel K cl σ H F env→(∃cls,F a=some (D5 a cls none))→Cs K cl E (f env) σ H F env N→t N σ H
theorem RfS.x{a:Addr}{t:TS}{f:SF}(h:RfS K cl E t f):a9Y K cl E a t f:=fun N σ H env F R _ c=>h N σ H env F R c
end
def Y7:Sl→Sl
 | .ow ds=>.fz (.lst ds)
 | .hd ds=>.fz (.lst ds)
 | .od ks ds=>.fz (.dic ks ds)
 | .hk ks ds=>.fz (.dic ks ds)
 | s=>s
def a1l:DE→DE
 | []=>[]
 | s::e=>Y7 s::a1l e
mutual
def noL:D→Bool
 | .lst _=>false
 | .scr _=>false
 | .exc _=>false
 | .obj _ _ _=>false
 | .dic _ _=>false
 | .exv _ _ _=>false
 | .tup ds=>noLs ds
 | _=>true
def noLs:List D→Bool
 | []=>true
 | d::ds=>noL d && noLs ds
end
def a5u(o:HO):Prop:=(∃xs,o=.lst xs)∨∃ks xs,o=dkO ks xs
section
variable {K:W.Frag}{cl:Str→Addr}{E:XK}{σ:St}{H F F1 H' F' F2:Hp}{env:DE}
mutual
theorem Rp.noL(g:∀b o,F' b=some o→¬a5u o→F2 b=some o):∀(d:D) (v:V),L2.noL d=true→Rp K cl F' d v→Rp K cl F2 d v
 | .non,_,_,h=>by simpa only[Rp]using h
 | .bl _,_,_,h=>by simpa only[Rp]using h
 | .int _,_,_,h=>by simpa only[Rp]using h
 | .str _,_,_,h=>by simpa only[Rp]using h
 | .ty _,_,_,h=>by simpa only[Rp]using h
 | .cls _,_,_,h=>by simpa only[Rp]using h
 | .tup ds,v,n,h=>by
  simp only[Rp]at h ⊢
  obtain⟨a,xs,e,h1,h2⟩:=h
  exact⟨a,xs,e,g _ _ h1 (fun z=>by rcases z with⟨_,z⟩ | ⟨ks,_,z⟩;exact nomatch z;cases ks<;>exact nomatch z),Rps.noL g ds xs (by simpa only[L2.noL]using n) h2⟩
 | .lst ds,v,n,h=>by simp[L2.noL]at n
 | .scr ns,v,n,h=>by simp[L2.noL]at n
 | .exc c,v,n,h=>by simp[L2.noL]at n
 | .obj _ _ _,v,n,h=>by simp[L2.noL]at n
 | .dic _ _,v,n,h=>by simp[L2.noL]at n
 | .exv _ _ _,v,n,h=>by simp[L2.noL]at n
theorem Rps.noL(g:∀b o,F' b=some o→¬a5u o→F2 b=some o):∀(ds:List D) (vs:List V),L2.noLs ds=true→Rps K cl F' ds vs→Rps K cl F2 ds vs
 | [],_,_,h=>by simpa only[Rps]using h
 | d::ds,vs,n,h=>by
  simp only[Rps]at h ⊢
  simp only[L2.noLs,Bool.and_eq_true]at n
  obtain⟨v,r,e,h1,h2⟩:=h
  exact⟨v,r,e,Rp.noL g d v n.1 h1,Rps.noL g ds r n.2 h2⟩
end
def noX:XN→Bool
 | .p _=>true
 | .v _ _ d=>noL d
theorem Xf.noL{c:XN}{cx:Option Addr}(g:∀b o,F' b=some o→¬a5u o→F2 b=some o)(n:noX c=true)(h:Xf K cl F' c cx):Xf K cl F2 c cx:=by
 cases c with
 | p c=>exact h
 | v c f d =>
  obtain⟨dx,y,e,h1,h2⟩:=h
  exact⟨dx,y,e,g _ _ h1 (fun z=>by rcases z with⟨_,z⟩ | ⟨ks,_,z⟩;exact nomatch z;cases ks<;>exact nomatch z),Rp.noL g d y n h2⟩
def a9n(f:ZF):ZF:=fun e=>match f (a1l e)with
 | some (.ok d _)=>if noL d=true then some (.ok d e)else none
 | some (.ex c)=>if noX c=true then some (.ex c)else none
 | none=>none
def a9o(f:BF):BF:=fun e=>match f (a1l e)with
 | some (.ok d _)=>some (.ok d e)
 | some (.ex c)=>if noX c=true then some (.ex c)else none
 | none=>none
def bLd(r:Option (R Bool))(e:DE):Option (R Bool):=match r with
 | some (.ok d _)=>some (.ok d e)
 | some (.ex c)=>if noX c=true then some (.ex c)else none
 | none=>none
def zLd(r:Option (R D))(e:DE):Option (R D):=match r with
 | some (.ok d _)=>if noL d=true then some (.ok d e)else none
 | some (.ex c)=>if noX c=true then some (.ex c)else none
 | none=>none
theorem a5v(f:BF)(e:DE):a9o f e=bLd (f (a1l e)) e:=rfl
theorem a5w(f:ZF)(e:DE):a9n f e=zLd (f (a1l e)) e:=rfl
theorem a8W(d:Bool)(e e2:DE):bLd (some (.ok d e2)) e=some (.ok d e):=rfl
theorem a8X(c:Str)(e:DE):bLd (some (.ex (.p c))) e=some (.ex (.p c)):=rfl
theorem a7w(c f:Str)(d:D)(e:DE):bLd (some (.ex (.v c f d))) e=if noL d=true then some (.ex (.v c f d))else none:=rfl
theorem a8Y(d:D)(e e2:DE):zLd (some (.ok d e2)) e=if noL d=true then some (.ok d e)else none:=rfl
theorem a8Z(c:Str)(e:DE):zLd (some (.ex (.p c))) e=some (.ex (.p c)):=rfl
theorem a7x(c f:Str)(d:D)(e:DE):zLd (some (.ex (.v c f d))) e=if noL d=true then some (.ex (.v c f d))else none:=rfl
variable {k:Nat}
end
def un:Option D→Sl
 | none=>.no
 | some d=>.fz d
def L8:Sl→Bool
 | .hd _=>false
 | _=>true
def okS:Option Sl→Bool
 | none=>false
 | some s=>L8 s
theorem a5x(o:Option D):L8 (un o)=true:=by cases o<;>rfl
theorem a5y:L8 .no=true:=rfl
theorem a5z(d:D):L8 (.fz d)=true:=rfl
theorem a5A(d:List D):L8 (.ow d)=true:=rfl
theorem a5B(d:List D):L8 (.hd d)=false:=rfl
theorem a5C(s:Sl):okS (some s)=L8 s:=rfl
theorem a5D:okS none=false:=rfl
theorem a7y:Y7 .no=.no:=rfl
theorem a7z(d:D):Y7 (.fz d)=.fz d:=rfl
theorem a7A(d:List D):Y7 (.ow d)=.fz (.lst d):=rfl
theorem a7B(d:List D):Y7 (.hd d)=.fz (.lst d):=rfl
theorem a4u(i:Nat)(s:Sl)(e:DE):put i s e=if okS e[i]? = true then some (.nx (e.set i s))else none:=by
 unfold put okS
 cases e[i]? with
 | none=>rfl
 | some t=>cases t<;>rfl
theorem a5E(i:Nat)(d:D)(e:DE):g7 i d e=if okS e[i]? = true then some (e.set i (.fz d))else none:=by
 unfold g7 okS
 cases e[i]? with
 | none=>rfl
 | some t=>cases t<;>rfl
theorem a7C(o:Option D):Y7 (un o)=un o:=by cases o<;>rfl
theorem a5F:a1d []=true:=rfl
theorem a4v(s:Sl)(e:DE):a1d (s::e)=(L8 s && a1d e):=by cases s<;>rfl
def N5(r:Option RS):Option RS:=match r with
 | some (.ct e)=>some (.nx e)
 | r=>r
theorem a7D(e:DE):N5 (some (.nx e))=some (.nx e):=rfl
theorem a7E(e:DE):N5 (some (.ct e))=some (.nx e):=rfl
theorem a7F(d:D):N5 (some (.rt d))=some (.rt d):=rfl
theorem a7G(c:XN):N5 (some (.ex c))=some (.ex c):=rfl
theorem a7H(d:List (List D)):N5 (some (.rz d))=some (.rz d):=rfl
theorem a7I(d:List D):N5 (some (.ro d))=some (.ro d):=rfl
theorem a4w{r:Option RS}{k:SF}:S6 r k=S6 (N5 r) k:=by
 cases r with
 | none=>rfl
 | some r=>cases r<;>rfl
theorem a2u{α:Type}{b:GF}{body:SF}(f:α→D)(I:List α→DE→Prop)(l0:List α):∀(l pre:List α) (e:DE),l0=pre++l→I pre e→(∀pre x post e,l0=pre++x::post→I pre e→∃e2,N5 (a3G (b (f x) e) body)=some (.nx e2)∧I (pre++[x]) e2)→∃e',G5 b body (l.map f) e=some (.nx e')∧I l0 e'
 | [],pre,e,hl,h,_=>⟨e,rfl,by rw[hl,List.append_nil];exact h⟩
 | x::l,pre,e,hl,h,hs=>by
  obtain⟨e2,h2,h3⟩:=hs pre x l e hl h
  obtain⟨e',h4,h5⟩:=a2u f I l0 l (pre++[x]) e2 (by rw[hl,List.append_assoc];rfl) h3 hs
  refine⟨e',?_,h5⟩
  rw[List.map_cons,a1C]
  cases q:b (f x) e with
  | none=>rw[q]at h2;cases h2
  | some e1 =>
   rw[q]at h2
   have h2:N5 (body e1)=some (.nx e2):=h2
   rw[S0,a4w,h2];exact h4
theorem a2_{α:Type}{b:GF}{body:SF}(f:α→D)(I:List α→DE→Prop)(l:List α)(e:DE)(h:I [] e)(hs:∀pre x post e,l=pre++x::post→I pre e→∃e2,N5 (a3G (b (f x) e) body)=some (.nx e2)∧I (pre++[x]) e2):∃e',G5 b body (l.map f) e=some (.nx e')∧I l e' :=
 a2u f I l l [] e rfl h hs
theorem B2{α:Type}{b:GF}{c:BF}{el:ZF}{ec eo:DE}(f:α→D)(g:α→D)(q:α→Bool):∀(l:List α) (acc:List D),acc.length+l.length≤sizeLine→(∀x∈l,∃e1 e2,b (f x) ec=some e1∧c e1=some (.ok (q x) e2)∧(q x=true→∃e3,el e2=some (.ok (g x) e3)))→j8 b c el ec eo (l.map f) acc=some (.ok (acc++(l.filter q).map g) eo)
 | [],acc,_,_=>by simp only[List.filter_nil,List.map_nil,List.append_nil];rfl
 | x::l,acc,hl,h=>by
  obtain⟨e1,e2,h1,h2,h3⟩:=h x List.mem_cons_self
  have hl':acc.length<sizeLine:=by rw[List.length_cons]at hl;omega
  rw[List.map_cons,a0U,h1,a1E,h2,P5]
  by_cases z:q x=true
  ·obtain⟨e3,h4⟩:=h3 z
   rw[if_pos z,h4,P5,if_pos hl',B2 f g q l (acc++[g x]) (by rw[List.length_append,List.length_cons,List.length_nil];rw[List.length_cons]at hl;omega) (fun y m=>h y (List.mem_cons_of_mem _ m)),List.filter_cons_of_pos z,List.map_cons,List.append_assoc];rfl
  ·rw[if_neg z,B2 f g q l acc (by rw[List.length_cons]at hl;omega) (fun y m=>h y (List.mem_cons_of_mem _ m)),List.filter_cons_of_neg z]
theorem a7J(d:D)(n:String):a2o [d,.ty n]=a0a n d:=by unfold a2o a0a;rfl
theorem a7K{n k:Nat}(h:k<n):O7 n (k:Int)=some k:=by
 unfold O7;rw[if_pos (by omega),if_pos (by omega),Int.toNat_natCast]
theorem Y8{α:Type}(f g:α→D):∀(l:List α),N4 (l.map f) (l.map g)=l.map fun q=>.tup [f q,g q]
 | []=>rfl
 | x::l=>by
  have:=Y8 f g l
  unfold N4 at this ⊢
  rw[List.map_cons,List.map_cons,List.zipWith_cons_cons,this,List.map_cons]
theorem G7{α:Type}{l:List α}{k:Nat}{a:α}(h:l[k]? = some a):atI l (k:Int)=some a:=by
 have hk:=(List.getElem?_eq_some_iff.mp h).1
 unfold atI
 rw[a7K hk];exact h
open Classical in
section
variable {K:W.Frag}{cl:Str→Addr}{E:XK}{σ:St}{H F:Hp}{env:DE}
abbrev HF:=XN→SF
theorem Xf.rp{c:XN}{cx:Option Addr}{a:Addr}(h:Xf K cl F c cx)(na:F a=none):Rp K cl (upd F a (D5 a (.ref (cl c.nm)) cx)) c.d (.ref a):=by
 have g:Same F (upd F a (D5 a (.ref (cl c.nm)) cx)):=fun b o e=>by rw[b9 (i9 e na)];exact e
 cases c with
 | p c=>show Rp K cl _ (.exc c) _;simp only[Rp];exact⟨a,cx,rfl,g9⟩
 | v c f d =>
  obtain⟨dx,y,rfl,h1,h2⟩:=h
  show Rp K cl _ (.exv c f d) _
  simp only[Rp]
  exact⟨a,dx,y,rfl,g9,g _ _ h1,h2.mono g⟩
def RfH(K:W.Frag)(cl:Str→Addr)(E:XK)(th:TH)(f:HF):Prop:=∀(N:Ends) σ H env F a c cx,Rel K cl σ H F env→H a=none→Xf K cl F c cx→Cs K cl E (f c env) σ H F env N→th (.ref (cl c.nm)) cx a N σ H
def hN:HF:=fun _ _=>none
def a3K(i:Nat)(r:Option RS):Option RS:=match r with
 | some (.nx e2)=>put i .no e2
 | some (.rt d)=>some (.rt d)
 | some (.ro ds)=>some (.ro ds)
 | _=>none
def hAs(i:Nat)(exm:Str→Option Bool)(suite:SF)(h9:HF):HF:=fun c e=>match exm c.nm with
 | some true=>(match put i (.fz c.d) e with
  | some (.nx e1)=>a3K i (suite e1)
  | _=>none)
 | some false=>h9 c e
 | none=>none
theorem a9p:RfH K cl E a6b hN:=fun _ _ _ _ _ _ _ _ _ _ _ h=>h
theorem a4x{C:Addr}{i:Nat}{exm:Str→Option Bool}{ts:Addr→TS}{suite:SF}{rt:TH}{h9:HF}(hx:∀c b,exm c=some b→W.exmOne K (.ref (cl c)) (.ref C)=some b)(hs:∀a,RfS K cl E (ts a) suite)(hr:RfH K cl E rt h9):RfH K cl E (a8y K C i ts rt) (hAs i exm suite h9):=by
 intro N σ H env F a c cx R ha xf h
 unfold hAs at h
 split at h
 ·rename_i q
  have gr:Gr H F (upd H a (D5 a (.ref (cl c.nm)) cx)) (upd F a (D5 a (.ref (cl c.nm)) cx)):=.new R.sub ha
  refine .inl ⟨hx c.nm true q,?_⟩
  have p:Rp K cl (upd F a (D5 a (.ref (cl c.nm)) cx)) c.d (.ref a):=xf.rp (by cases e:F a with | none=>rfl | some o=>have:=R.sub _ _ e;rw[ha]at this;cases this)
  have h:=h.from (R.frm gr)
  have R0:=R.gr gr
  generalize upd H a (D5 a (.ref (cl c.nm)) cx)=H1 at h R0 ⊢
  generalize upd F a (D5 a (.ref (cl c.nm)) cx)=F1 at h R0 p
  cases hp:put i (.fz c.d) env with
  | none=>rw[hp]at h;exact h.elim
  | some r =>
   rw[hp]at h
   cases r with
   | nx e1 =>
    obtain⟨hi,nh,ee⟩:i<env.length∧(∀ds,env[i]?≠some (.hd ds))∧e1=env.set i (.fz c.d):=by
     have h0:Cs K cl (fun _ _ _=>False) (put i (.fz c.d) env) σ H1 F1 env ⟨fun _ _=>True,fun _ _=>True,fun _ _=>True,fun _ _=>True⟩:=by rw[hp];exact fun _ _ _ _ _=>trivial
     obtain⟨a1,a2,a3⟩:=S4 h0
     refine⟨a1,a2,?_⟩
     rw[a4u]at hp
     revert hp
     cases env[i]? with
     | none=>simp[okS]
     | some sl=>cases sl<;>simp[okS,L8]<;>intro z<;>exact z.symm
    subst ee
    have R1:=R0.put (d:=c.d) hi nh p
    have f1:Frm σ H1 F1 env (σ.set i (some (.ref a))) H1 F1 (env.set i (.fz c.d)):=Frm.put nh
    refine hs a _ _ _ _ _ R1 ?_
    have h2:=Cs.from f1 h
    cases r:suite (env.set i (.fz c.d))with
    | none=>simp only[r,a3K]at h2;exact h2.elim
    | some rs =>
     simp only[r,a3K]at h2
     cases rs with
     | nx e2 =>
      obtain⟨hi,nh,h3⟩:=S4 h2
      intro σ2 H2 F2 f2 R2
      obtain⟨R3,f3⟩:=R2.drop nh
      exact h3 _ H2 F2 (f2.trans f3) R3
     | bk e2=>exact h2.elim
     | ct e2=>exact h2.elim
     | rt d=>exact h2
     | ro ds=>exact h2
     | rz dss=>exact h2.elim
     | rp _ _=>exact h2.elim
     | ex c2=>exact h2.elim
   | _=>exact h.elim
 ·rename_i q
  exact .inr ⟨hx c.nm false q,hr N σ H env F a c cx R ha xf h⟩
 ·exact h.elim
end
section
variable {K:W.Frag}{cl:Str→Addr}{E:XK}{σ:St}{H F:Hp}{env:DE}
theorem Rps.lookup{f:Str}:∀{ns:List Str} {ds:List D} {xs:List V} {z:D},Rps K cl F ds xs→(ns.zip ds).lookup f=some z→∃v,(ns.zip xs).lookup f=some v∧Rp K cl F z v
 | [],ds,xs,z,_,h=>by simp at h
 | n::ns,[],xs,z,r,h=>by simp at h
 | n::ns,d::ds,xs,z,r,h=>by
  obtain⟨v,ys,rfl,p,r'⟩:=r.inv
  rw[List.zip_cons_cons,List.lookup_cons]at h ⊢
  by_cases q:(f == n)=true
  ·rw[q]at h ⊢;cases h;exact⟨v,rfl,p⟩
  ·rw[Bool.not_eq_true _ |>.mp q]at h ⊢;exact r'.lookup h
end
structure GrM(a:Addr)(H F H' F':Hp):Prop where
 fz:Same F F'
 sub:Same F' H'
 hid:∀b o,b≠a→H b=some o→F b=none→H' b=some o∧F' b=none
 dom:∀b,H' b=none→H b=none
structure Bs(a:Addr)(σ:St)(env:DE)(H0 F0 H F:Hp):Prop where
 fz:Same F0 F
 hid:∀b o,b≠a→H0 b=some o→F0 b=none→H b=some o∧F b=none∧¬Ow σ env b
 dom:∀b,H b=none→H0 b=none
section
variable {K:W.Frag}{cl:Str→Addr}{E:XK}{σ:St}{H F:Hp}{env:DE}
theorem Bs.frm{a:Addr}{ds:List D}{σ':St}{env':DE}{H0 F0 H' F':Hp}(B:Bs a σ env H0 F0 H F)(f:Frm σ H F env σ' H' F' env'):Bs a σ' env' H0 F0 H' F' :=
 ⟨B.fz.trans f.fz,fun b o n h g=>by obtain⟨h1,f1,w1⟩:=B.hid b o n h g;exact f.hid b o h1 f1 w1,fun b h=>B.dom b (f.dom b h)⟩
theorem Bs.gr{a:Addr}{H0 F0:Hp}(B:Bs a σ env H0 F0 H F)(s:Same F H):GrM a H0 F0 H F :=
 ⟨B.fz,s,fun b o n h g=>by obtain⟨h1,f1,_⟩:=B.hid b o n h g;exact⟨h1,f1⟩,B.dom⟩
end
section
variable {P:Program}{w:World}{K:W.Frag}{mg:Str→Option Value}{base:Heap}{cl:Str→Addr}{TB:List (Addr×Str)}
variable {X:Cx}{k k':Nat}{x:Str}{ps:List Str}{sp:Sp}{E:XK}{e:Expr}{es:List Expr}{t:TA}{p pos:Pos}{d:V}
theorem OwnD.own(G:OwnD P w K mg base k x ps sp d):Own P w K mg base k x ps sp:=by
 obtain⟨f,fd,du,F,b,bd,rd,kp,m⟩:=G.ex
 exact⟨f,fd,F,b,kp,m⟩
end
section
variable {K:W.Frag}{cl:Str→Addr}{E:XK}
def W4:D→Option D
 | .lst ds=>some (.tup ds)
 | _=>none
theorem a7L:CbOk1 K cl (a3_ K) W4:=by
 intro x d z H F Q s hx h q
 unfold W4 at h
 split at h
 ·cases h
  obtain⟨a,xs,rfl,hH,r⟩:=hx.lst s
  refine⟨a,xs,rfl,.inl ⟨.of hH,fun p hp=>?_⟩⟩
  have g:Gr H F (upd H p (.tup xs)) (upd F p (.tup xs)):=.new s hp
  exact q _ _ _ g (by simp only[Rp];exact⟨p,xs,rfl,g9,Rps.mono g.fz _ _ r⟩)
 ·cases h
end
@[simp] theorem a5G(ks:DK)(ds:List D):L8 (.od ks ds)=true:=rfl
@[simp] theorem a7M(ks:DK)(ds:List D):Y7 (.od ks ds)=.fz (.dic ks ds):=rfl
@[simp] theorem a7N(ks:DK)(ds:List D):Y7 (.hk ks ds)=.fz (.dic ks ds):=rfl
structure SU(K:W.Frag)(cl:Str→Addr)(ps:List Nat)(A:Nat→Addr)(H0 F0 F1:Hp)(σ:St)(H F:Hp)(env:DE):Prop where
 rel:Rel K cl σ H F env
 pn:∀i∈ps,σ[i]? = some (some (.ref (A i)))∧∃ds,env[i]? = some (.hd ds)
 fz:Same F0 F
 gz:Same F1 F
 hid:∀b o,(∀i∈ps,b≠A i)→H0 b=some o→F0 b=none→H b=some o∧F b=none∧¬Ow σ env b
 dom:∀b,H b=none→H0 b=none
section
variable {K:W.Frag}{cl:Str→Addr}{E:XK}{ps:List Nat}{A:Nat→Addr}{H0 F0 F1:Hp}{σ:St}{H F:Hp}{env:DE}{k:Nat}
theorem SU.frm{σ':St}{H' F':Hp}{env':DE}(S:SU K cl ps A H0 F0 F1 σ H F env)(f:Frm σ H F env σ' H' F' env')(R:Rel K cl σ' H' F' env'):SU K cl ps A H0 F0 F1 σ' H' F' env' :=
 ⟨R,fun i m=>by obtain⟨e,ds,h⟩:=S.pn i m;obtain⟨h1,e1⟩:=f.keep i ds h;exact⟨e1.trans e,ds,h1⟩,S.fz.trans f.fz,S.gz.trans f.fz,
  fun b o n h g=>by obtain⟨h1,f1,w1⟩:=S.hid b o n h g;exact f.hid b o h1 f1 w1,fun b h=>S.dom b (f.dom b h)⟩
theorem SU.change{i:Nat}{ds es:List D}{ys:List V}(S:SU K cl ps A H0 F0 F1 σ H F env)(m:i∈ps)(h:env[i]? = some (.hd ds))(r:Rps K cl F es ys):SU K cl ps A H0 F0 F1 σ (upd H (A i) (.lst ys)) F (env.set i (.hd es)):=by
 obtain⟨e,_,_⟩:=S.pn i m
 obtain⟨a',xs,e',hH,hF,_⟩:=S.rel.mu i ds (.inr h)
 rw[e]at e';cases e'
 have hi:i<env.length:=(List.getElem?_eq_some_iff.mp h).1
 have self:(env.set i (.hd es))[i]? = some (.hd es):=List.getElem?_set_self hi
 have oth:∀j,j≠i→(env.set i (.hd es))[j]? = env[j]?:=fun j hj=>List.getElem?_set_ne (Ne.symm hj)
 have mui:∀j,Mu (env.set i (.hd es)) j→Mu env j:=fun j ⟨fs,q⟩=>by
  by_cases z:j=i
  ·subst z;exact⟨ds,.inr h⟩
  ·rw[oth j z]at q;exact⟨fs,q⟩
 have R:=S.rel
 refine⟨⟨fun b o q=>?_,by rw[List.length_set];exact R.len,fun j d q=>?_,fun j fs q=>?_,fun j k b hj hk=>R.inj j k b (mui j hj) (mui k hk),(R.od.updL hH).setE a3u⟩,fun j mj=>?_,S.fz,S.gz,fun b o n h0 f0=>?_,fun b q=>?_⟩
 ·have z:b≠A i:=fun z=>by rw[z,hF]at q;cases q
  rw[b9 z];exact R.sub _ _ q
 ·have z:j≠i:=fun z=>by subst z;rw[self]at q;cases q
  rw[oth j z]at q;exact R.fz j d q
 ·by_cases z:j=i
  ·subst z
   rw[self]at q
   rcases q with q | q
   ·cases q
   ·cases q;exact⟨_,ys,e,g9,hF,r⟩
  ·rw[oth j z]at q
   obtain⟨b,zs,e1,h1,f1,r1⟩:=R.mu j fs q
   have nb:b≠A i:=fun y=>z (R.inj j i b ⟨fs,q⟩ ⟨ds,.inr h⟩ e1 (by rw[y];exact e))
   exact⟨b,zs,e1,by rw[b9 nb];exact h1,f1,r1⟩
 ·obtain⟨e1,fs,q⟩:=S.pn j mj
  refine⟨e1,?_⟩
  by_cases z:j=i
  ·subst z;exact⟨es,self⟩
  ·exact⟨fs,by rw[oth j z];exact q⟩
 ·obtain⟨h1,f1,w1⟩:=S.hid b o n h0 f0
  refine⟨by rw[b9 (n i m)];exact h1,f1,fun⟨j,fs,oo,q,e1⟩=>?_⟩
  have y:j≠i:=fun y=>by subst y;rw[self]at q;cases q;exact oo
  rw[oth j y]at q;exact w1 ⟨j,fs,oo,q,e1⟩
 ·by_cases z:b=A i
  ·rw[z,g9]at q;cases q
  ·rw[b9 z]at q;exact S.dom b q
theorem SU.at(S:SU K cl ps A H0 F0 F1 σ H F env):SU K cl ps A H0 F0 F σ H F env:=⟨S.rel,S.pn,S.fz,Same.refl _,S.hid,S.dom⟩
end
def RpU(K:W.Frag)(cl:Str→Addr)(σ:St)(F:Hp):List (Sum Nat D)→List V→Prop
 | [],vs=>vs=[]
 | .inl i::xs,vs=>∃v r,vs=v::r∧σ[i]? = some (some v)∧RpU K cl σ F xs r
 | .inr d::xs,vs=>∃v r,vs=v::r∧Rp K cl F d v∧RpU K cl σ F xs r
section
variable {K:W.Frag}{cl:Str→Addr}{E:XK}{ps:List Nat}{σ:St}{H F:Hp}{env:DE}
theorem RpU.mono{F':Hp}(s:Same F F'):∀{xs:List (Sum Nat D)} {vs:List V},RpU K cl σ F xs vs→RpU K cl σ F' xs vs
 | [],_,h=>h
 | .inl _::_,_,⟨v,r,e,h1,h2⟩=>⟨v,r,e,h1,h2.mono s⟩
 | .inr _::_,_,⟨v,r,e,h1,h2⟩=>⟨v,r,e,Rp.mono s _ _ h1,h2.mono s⟩
theorem RpU.length:∀{xs:List (Sum Nat D)} {vs:List V},RpU K cl σ F xs vs→vs.length=xs.length
 | [],_,h=>by rw[show _=_ from h];rfl
 | .inl _::_,_,⟨v,r,e,_,h2⟩=>by rw[e,List.length_cons,List.length_cons,h2.length]
 | .inr _::_,_,⟨v,r,e,_,h2⟩=>by rw[e,List.length_cons,List.length_cons,h2.length]
end
def a5H(P:Program)(w:World)(K:W.Frag)(mg:Str→Option Value)(base:Heap)(k:Nat)(x:Str)(C:Addr)(ps:List Str)(f:Str):Prop :=
 ∃fI fd,MkX K C fI∧FnOk P w K mg base (w6 P w) k fI fd ps (a1a C f)∧Binds K fd ps []∧mg x=some (.ref C)
section
variable {X:Cx}{E:XK}{j k:Nat}
theorem a4y{x f:Str}{C:Addr}{ps:List Str}{e₀:Expr}{h9:List Expr}{np cpos pos:Pos}{ta:TA}(acc:XAcc X E)(G:a5H X.prog X.w X.K X.mg X.base j x C ps f)(hr:Room k X.A)(hk:j+1≤k)(hg:Gl X x)(ha:PA X (e₀::h9) ta)
  (hc:X.calm=true:=by rfl) (hex:X.ex=[]:=by rfl)
  (he:starEach (e₀::h9) X.env=(false,eval e₀ X.env)::starEach h9 X.env:=by rfl) (hplain:(backTo cpos (starEach h9 X.env)).any (·.1)=false:=by rfl) (hd:(x == ("__debug__" : Str))=false:=by decide) :
  PS X (.Raise (some (.Call (.Name x np) (e₀::h9) [] cpos)) none pos) (a1b C f E ta):=by
 obtain⟨fI,fd,M,F,B,m⟩:=G
 exact a4a acc M F (hr.mono hk) B hg m ha hc hex he hplain hd
end
section
variable {K:W.Frag}{cl:Str→Addr}{E:XK}
def a1m(c f:Str)(g:AF):SF:=fun e=>J0 (g e) fun ds _=>match ds with
 | [d]=>some (.ex (.v c f d))
 | _=>none
theorem a4z{c f:Str}{t:TA}{g:AF}(hf:N6 K cl E t g):RfS K cl E (a1b (cl c) f E t) (a1m c f g):=by
 intro N σ H env F R h
 refine hf σ H _ env F R ((Cs.bnd h).mono fun xs H1 ⟨F1,e1,ds,fr,R1,p1,h1⟩=>?_)
 split at h1
 ·rename_i d
  have p1:Rps K cl F1 [d] xs:=p1
  obtain⟨v,r,rfl,p,p2⟩:=p1.inv
  rw[p2.inv0]
  refine⟨v,rfl,fun dx nd=>?_⟩
  have gr:Gr H1 F1 (upd H1 dx (.xd [(f,v)])) (upd F1 dx (.xd [(f,v)])):=.new R1.sub nd
  exact h1 _ _ (fr.fx gr.fx) _ ⟨dx,v,rfl,g9,p.mono gr.fz⟩
 ·exact h1.elim
def a1n(xt:Str→Bool)(f:Str):D→Option D
 | .exv c g d=>if xt c=true∧g=f then some d else none
 | _=>none
def a9Z(K:W.Frag)(f:Str):V→Hp→VK→Prop:=fun x H1 Q=>∃a C dx y,x=.ref a∧H1 a=some (D5 a (.ref C) (some (2*dx+1)))∧H1 dx=some (.xd [(f,y)])∧W.ExcT K C∧W.hasDictIn K C=true∧W.findIn K (.ref C) f=some none∧Q y H1
theorem a80{xt:Str→Bool}{f:Str}(hf:∀c,xt c=true→W.ExcT K (cl c)∧W.hasDictIn K (cl c)=true∧W.findIn K (.ref (cl c)) f=some none):a8I K cl (a9Z K f) (a1n xt f):=by
 intro x d z H F Q s hx h q
 unfold a1n at h
 split at h
 ·rename_i c g d
  split at h
  ·rename_i hc
   obtain⟨hc,rfl⟩:=hc
   cases h
   obtain⟨h1,h2,h3⟩:=hf c hc
   rcases hx with hx | ⟨_,_,_,_,e,_⟩
   ·simp only[Rp]at hx
    obtain⟨a,dx,y,rfl,ha,hd,r⟩:=hx
    exact⟨a,_,dx,y,rfl,s _ _ ha,s _ _ hd,h1,h2,h3,q y H F (.refl s) r⟩
   ·cases e
  ·cases h
 ·cases h
theorem a81{xt:Str→Bool}{f:Str}{t:TE}{o:ZF}(hf:∀c,xt c=true→W.ExcT K (cl c)∧W.hasDictIn K (cl c)=true∧W.findIn K (.ref (cl c)) f=some none)(ho:m5 K cl E t o):m5 K cl E (a8B K t f) (eU (a1n xt f) o):=a9W (a80 hf) ho
theorem a5I{C:Addr}{f:Str}{vs:List V}{H:Hp}{Q:VK}{E:XK}(h:a1a C f vs H Q E):vs.length=2:=by
 obtain⟨a,v,rfl,_⟩:=h
 rfl
theorem a2G{N:List Str}{C:Addr}{f:Str}{vs:List V}{H:Hp}{Q:VK}(S:W.ExcS K C f)(h:a1a C f vs H Q E):(sXF K (J5 0) (J5 1) f) { nx:=fun _ H'=>Q .non H',rt:=Q } (start N vs) H:=by
 obtain⟨a,v,rfl,hp,q⟩:=h
 exact⟨v,rfl,.ref a,rfl,a,C,rfl,hp,S,q⟩
end
section
variable {X:Cx}
def a6q(sp:Sp)(t:TA)(i:Nat)(th:TH):TS:=fun D σ H=>∃Eh:XK,Q7 sp [] Eh t σ H (fun v H2=>D.nx (σ.set i (some v)) H2)∧∀cls cx H',Eh cls cx H'→∀a,H' a=none→th cls cx a D σ H'
theorem a7O{k k' i:Nat}{ps:List Str}{sp:Sp}{x y:Str}{p cpos epos py:Pos}{e:Expr}{es:List Expr}{t:TA}{h₀:ExceptHandler}{hs:List ExceptHandler}{pos:Pos}{th:TH}
  (G:Own X.prog X.w X.K X.mg X.base k x ps sp) (hr:Room k' X.A) (hk:k≤k') (hN:X.N.Nodup) (hi:X.N[i]? = some y) (hy:Loc X.env.scope y) (ha:∀(E2:Value→Shared→Prop) (pins:List (Addr×Obj)),PA (X.tryCx E2 pins) (e::es) t) (hh:PH X (h₀::hs) th) (hg:Gl X x:=by rfl)
  (hdb:(x == ("__debug__" : Str))=false:=by decide) (he:starEach (e::es) X.env=(false,eval e X.env)::starEach es X.env:=by rfl) (hpl:(backTo cpos (starEach es X.env)).any (·.1)=false:=by rfl)
  (hsw:swapsWith (.Call (.Name x p) (e::es) [] cpos) (some (.Name y py)) epos.line X.env=pure false:=by rfl) (hfn:X.fn y=true∨X.env.scope.names.lookup y=some .local:=by first | exact .inl rfl | exact .inr rfl | assumption)
  (hst:X.stack=X.env::X.outer:=by rfl) (hf:X.env.frame=some X.env.locals:=by rfl) (hex:X.ex=[]:=by rfl) :
  PS X (.Try [.Assign [.Name y py] (.Call (.Name x p) (e::es) [] cpos) epos] (h₀::hs) [] [] pos) (a6q sp t i th):=by
 intro pins s σ H D I h
 obtain⟨Eh,h1,h2⟩:=h
 refine wpAny_Try_except ?_
 have ok:=I.ok
 have acc:XAccAt (X.tryCx (fun e s₁=>wpAny (model X.prog X.w) X.A (noteFrame e X.env) (fun _ s₂=>wpAny (model X.prog X.w) X.A (setFlight e none) (fun _ s₃ =>
   wpAny (model X.prog X.w) X.A (handleBy e X.env (h₀::hs)) (SP X pins D) X.xe s₃) X.xe s₂) X.xe s₁) pins) σ Eh:=by
  intro pins' H' s1 a cls cx B ph I1 x1 hE
  have I2:Inv X pins σ H' s1:=I1.ofTry ok
  have x2:XAt X pins H' s1 a cls cx B ph:=⟨x1.free,x1.stays,x1.fresh,x1.frames,fun b o e i n=>x1.cov b o e (i.elim .inl fun z=>.inr (z.elim .inl fun⟨p,hp,q⟩=>.inr ⟨p,List.mem_append_left _ hp,q⟩)) n,x1.tr⟩
  refine a05 ok.frames hst rfl hf I2 x2 fun h3 I3 x3=>?_
  refine a06 I3 x3 (fun z=>nomatch z) fun h4 I4 x4=>?_
  exact hh pins _ _ _ a cls cx B D I4 x4 (h2 cls cx H' hE a x4.free)
 have It:=I.toTry (pins:=pins) (E2:=fun e s₁=>wpAny (model X.prog X.w) X.A (noteFrame e X.env) (fun _ s₂=>wpAny (model X.prog X.w) X.A (setFlight e none) (fun _ s₃ =>
   wpAny (model X.prog X.w) X.A (handleBy e X.env (h₀::hs)) (SP X pins D) X.xe s₃) X.xe s₂) X.xe s₁)
 refine wpAny_mono (wpAny_execs_cons (Q:=fun f s1=>f=.next∧∃σ' H',Inv X pins σ' H' s1∧D.nx σ' H') (wpAny_Assign_Name (i6 (a6K (X:=X.tryCx _ pins) G hr hk acc (ha _ pins) hg hdb he hpl It h1) fun v s1 ⟨x,H1,I1,r1,q1⟩=>?_) hsw)) (fun f s1 q=>?_) fun e s1 q=>q
 ·exact U5 (X:=X.tryCx _ pins) I1 hN hi hy r1 (fun s2 I2=>wpAny_execs_nil ⟨rfl,_,H1,I2.ofTry ok,q1⟩) hfn
 ·obtain⟨rfl,σ',H',I',q⟩:=q
  exact wpAny_execs_nil ⟨σ',H',I',q⟩
end
section
variable {K:W.Frag}{cl:Str→Addr}{E:XK}
def a0V(i:Nat)(g:List D→Option R1)(f:AF)(fh:HF):SF:=fun e=>match f e with
 | some (.ok ds e1)=>(match g ds with
  | some (.ret d)=>O1 i (some (.ret d)) e1
  | some (.own d)=>O1 i (some (.own d)) e1
  | some (.ex c)=>fh c e1
  | _=>none)
 | _=>none
theorem a7P{i:Nat}{g:List D→Option R1}{t:TA}{f:AF}{th:TH}{fh:HF}(hf:N6 K cl E t f)(hh:RfH K cl E th fh):RfS K cl E (a6q (j2 K cl g) t i th) (a0V i g f fh):=by
 intro N σ H env F R h
 unfold a0V at h
 split at h
 ·rename_i ds e1 q
  refine⟨fun cls cx H'=>∃c H1 F1 F',cls=.ref (cl c.nm)∧Xf K cl F' c cx∧g ds=some (.ex c)∧Frm σ H F env σ H1 F1 e1∧Rel K cl σ H1 F1 e1∧Gr H1 F1 H' F',?_,?_⟩
  ·refine hf σ H _ env F R ?_
   rw[q]
   intro vs H1 F1 fr R1 p1
   show j2 K cl g (vs++[]) H1 _ _
   rw[List.append_nil]
   refine⟨ds,F1,R1.sub,p1,?_⟩
   split at h
   ·rename_i d q1;rw[q1]
    unfold O1 at h
    obtain⟨hi,nh,h2⟩:=S4 h
    exact fun v H' F' gr r=>h2 _ H' F' ((fr.trans (R1.frm gr)).trans (Frm.put nh)) ((R1.gr gr).put hi nh r)
   ·rename_i d q1;rw[q1]
    unfold O1 at h
    obtain⟨hi,nh,h2⟩:=S4 h
    intro a xs H' F' gr ha hH hF r
    refine h2 _ H' F' ((fr.trans (R1.frm gr)).putO (fr.dom a ha) nh) ((R1.gr gr).putO hi hH hF (fun j mj e=>?_) r)
    obtain⟨es,q⟩:=mj
    obtain⟨b,ys,e',hb,_⟩:=R1.mu j es q
    rw[e]at e';cases e'
    rw[ha]at hb;cases hb
   ·rename_i c q1;rw[q1]
    exact fun H' F' gr cx e=>⟨c,H1,F1,F',rfl,e,rfl,fr,R1,gr⟩
   ·exact h.elim
  ·rintro cls cx H' ⟨c,H1,F1,F',rfl,xf,q1,fr,R1,gr⟩ a ha
   rw[q1]at h
   exact hh N σ H' e1 F' a c cx (R1.gr gr) ha xf (Cs.from (fr.trans (R1.frm gr)) h)
 ·exact h.elim
end
structure DSt(K:W.Frag)(cl:Str→Addr)(H F:Hp)(B:Addr)(as:List Addr)(dss:List (List D))(H' F':Hp):Prop where
 gr:Gr H F H' F'
 atB:H' B=some (.lst (as.map V.ref))
 unB:F' B=none
 len:dss.length=as.length
 ins:∀(k:Nat) (a:Addr),as[k]? = some a→∃ds zs,dss[k]? = some ds∧H' a=some (.lst zs)∧F' a=none∧Rps K cl F' ds zs
structure Fx(H:Hp)(B:Addr)(as:List Addr):Prop where
 hB:H B=none
 nd:as.Nodup
 nw:∀a∈as,H a=none∧a≠B
section
variable {K:W.Frag}{cl:Str→Addr}{E:XK}{σ:St}{H F H0 F0 H' F' H2 F2:Hp}{env:DE}{B:Addr}{as:List Addr}{dss:List (List D)}{r k:Nat}
theorem DSt.to(s:DSt K cl H0 F0 B as dss H F)(g:Gr H F H2 F2):DSt K cl H0 F0 B as dss H2 F2 :=
 ⟨s.gr.trans g,(g.hid B _ s.atB s.unB).1,(g.hid B _ s.atB s.unB).2,s.len,fun k a h=>by
  obtain⟨ds,zs,h1,h2,h3,h4⟩:=s.ins k a h
  exact⟨ds,zs,h1,(g.hid a _ h2 h3).1,(g.hid a _ h2 h3).2,h4.mono g.fz⟩⟩
theorem DSt.put{j n:Nat}{a:Addr}{ds:List D}{d:D}{v:V}(s:DSt K cl H0 F0 B as dss H F)(fx:Fx H0 B as)(hj:as[j]? = some a)(hd:dss[j]? = some ds)(p:Rp K cl F d v) :
  ∃zs,H a=some (.lst zs)∧F a=none∧ds.length=zs.length∧DSt K cl H0 F0 B as (dss.set j (ds.set n d)) (upd H a (.lst (zs.set n v))) F:=by
 obtain⟨ds',zs,h1,h2,h3,h4⟩:=s.ins j a hj
 rw[hd]at h1;cases h1
 obtain⟨aH,aB⟩:=fx.nw a (List.mem_of_getElem? hj)
 refine⟨zs,h2,h3,h4.length,⟨⟨s.gr.fz,fun b o hb=>?_,fun b o hb fb=>?_⟩,by rw[b9 (Ne.symm aB)];exact s.atB,s.unB,by rw[List.length_set];exact s.len,fun m b hb=>?_⟩⟩
 ·rw[b9 (fun z=>by rw[z,h3]at hb;cases hb)];exact s.gr.sub _ _ hb
 ·rw[b9 (fun z=>by rw[z,aH]at hb;cases hb)];exact s.gr.hid b o hb fb
 ·by_cases z:m=j
  ·subst z
   rw[hj]at hb;cases hb
   exact⟨_,_,List.getElem?_set_self (List.getElem?_eq_some_iff.mp hd).1,g9,h3,h4.set p n⟩
  ·obtain⟨d2,z2,k1,k2,k3,k4⟩:=s.ins m b hb
   have ne:b≠a:=fun e=>z (by
    obtain⟨hm,em⟩:=List.getElem?_eq_some_iff.mp hb
    obtain⟨hj',ej⟩:=List.getElem?_eq_some_iff.mp hj
    exact(List.getElem_inj fx.nd).mp (em.trans (e.trans ej.symm)))
   exact⟨d2,z2,by rw[List.getElem?_set_ne (Ne.symm z)];exact k1,by rw[b9 ne];exact k2,k3,k4⟩
end
theorem a5J(a b:Bool):MeetsSeq.EqGives (.bool a) (.bool b) (a == b):=by
 intro prog w A E s Q h
 by_cases z:a=b
 ·subst z
  refine a6L (by cases a<;>rfl) ?_
  have:(a == a)=true:=by cases a<;>rfl
  rw[this]at h
  exact h
 ·unfold eqBool
  refine wpAny_holding ?_
  rw[if_neg (by cases a<;>cases b<;>first | exact absurd rfl z | (intro q;cases q))]
  dsimp only
  have hb:wpAny (model prog w) A (richCompare CmpOp.Eq (.bool a) (.bool b)) (fun v s1=>v=.bool (a == b)∧s1=s) E s:=by
   first
    | exact eq_bool ⟨rfl,rfl⟩
    | skip
  refine wpAny_bind (wpAny_mono hb (fun v s1 ⟨e1,e2⟩=>?_) fun _ _ z=>z)
  subst e1 e2
  exact wpAny_truthy_bool h
theorem a1H:∀{bs:List Bool} {us:List Value},Vals (bs.map V.bl) us→us=bs.map Value.bool
 | [],us,h=>by cases h;rfl
 | b::bs,us,h=>by
  cases h with
  | cons r t =>
   rw[a1H t,show _=Value.bool b from r]
   rfl
section
variable {X:Cx}
def a3b:V→List V→Hp→VK→Prop:=fun x vs H Q=>∃(l:Addr) (bs:List Bool) (b:Bool) (k:Nat),x=.ref l∧vs=[.bl b]∧H l=some (.lst (bs.map V.bl))∧bs[k]? = some b∧(∀j,j<k→bs[j]?≠some b)∧Q (.int (k:Int)) H
def isB(b:Bool):Value→Bool
 | .bool a=>a == b
 | _=>false
theorem a4A:MtM X "list.index" a3b:=by
 intro pins s σ H x vs v us Q I rx rv h
 obtain⟨l,bs,b,k,rfl,rfl,hH,hk,hno,q⟩:=h
 cases rx
 obtain⟨u,rfl,ru⟩:=rv.one
 cases (show u=Value.bool b from ru)
 obtain⟨z,its,n,r,hl,e⟩:=I.lstM hH
 have ei:=a1H r
 subst ei
 have hkn:k<bs.length:=(List.getElem?_eq_some_iff.mp hk).1
 have hsz:(bs.map Value.bool).toArray.size=bs.length:=by simp
 have hget:∀j (hj:j<(bs.map Value.bool).toArray.size),∃a,(bs.map Value.bool).toArray[j]=.bool a∧bs[j]? = some a:=fun j hj=>by
  have hj':j<bs.length:=by rw[hsz]at hj;omega
  exact⟨bs[j],by simp,List.getElem?_eq_getElem hj'⟩
 refine call_meets F.slot_list_index ⟨_,e,rfl⟩ F.entry_list_index (F.args_list_index_2 _ _) (MeetsSeq.list_index l _ n (.bool b) (isB b) (fun y my=>?_) k (by rw[hsz];exact hkn) ?_ ?_ fun m hm hmk=>?_) ⟨e,?_⟩
 ·have my:y∈bs.map Value.bool:=by simpa using my
  obtain⟨p,_,rfl⟩:=List.mem_map.mp my
  exact a5J p b
 ·have:=X8
  rw[List.length_map]at z
  omega
 ·obtain⟨a,e1,e2⟩:=hget k (by rw[hsz];exact hkn)
  rw[e1]
  rw[hk]at e2
  cases e2
  simp[isB]
 ·obtain⟨a,e1,e2⟩:=hget m hm
  rw[e1]
  have:a≠b:=fun z=>hno m hmk (by rw[e2,z])
  simp[isB,this]
 ·exact⟨.int (k:Int),H,I.tok _,⟨_,rfl⟩,q⟩
end
section
variable {K:W.Frag}{cl:Str→Addr}{E:XK}
theorem a0W:∀(l:List Bool) (x:Bool) (j:Nat),j<l.idxOf x→l[j]?≠some x
 | [],_,j,h=>by simp at h
 | a::l,x,j,h=>by
  rw[List.idxOf_cons]at h
  by_cases z:a=x
  ·subst z;simp at h
  ·have hz:(a == x)=false:=by simpa using z
   rw[hz]at h
   cases j with
   | zero=>simpa using z
   | succ j =>
    rw[List.getElem?_cons_succ]
    exact a0W l x j (by simpa using h)
def a3L(d e:D):Option D:=match d,e with
 | .lst ds,.bl i=>match E5 ds with
  | some ns=>if ns.contains i=true then some (.int (ns.idxOf i:Nat))else none
  | none=>none
 | _,_=>none
def a0e(i:Nat)(f:ZF):ZF:=fun e=>match look e i with
 | some (.lst _)=>bnd (f e) fun d e1=>match look e1 i with
  | some l=>W7 (a3L l d) e1
  | none=>none
 | _=>none
theorem a1I:∀{ds:List D} {bs:List Bool},E5 ds=some bs→ds=bs.map D.bl
 | [],bs,h=>by cases h;rfl
 | d::ds,bs,h=>by
  cases d with
  | bl b =>
   have h:(E5 ds).map (b :: ·)=some bs:=h
   cases q:E5 ds with
   | none=>rw[q]at h;cases h
   | some l =>
    rw[q]at h
    cases h
    rw[a1I q]
    rfl
  | _=>exact absurd h (by intro z;cases z)
theorem a7Q{i:Nat}{t:TE}{f:ZF}(hf:m5 K cl E t f):m5 K cl E (tBM K "list" a3b (J5 i) (N9 t a0n)) (a0e i f):=by
 intro σ H Q env F R h
 unfold a0e at h
 split at h
 ·rename_i ds0 q
  obtain⟨a0,e0,ty⟩:=tyL R q
  refine⟨_,e0,ty,?_⟩
  refine hf σ H _ env F R ((Ct.bnd h J7).mono fun y H1 ⟨F1,e1,d,s1,R1,p1,h1⟩=>?_)
  split at h1
  ·rename_i l q1
   cases hg:a3L l d with
   | none=>rw[hg]at h1;exact h1.elim
   | some z =>
    rw[hg]at h1
    unfold a3L at hg
    split at hg
    ·rename_i ds i'
     split at hg
     ·rename_i ns hn
      split at hg
      ·rename_i hc
       cases hg
       obtain⟨x,e',rb⟩:=R1.look q1
       rw[e0]at e';cases e'
       obtain⟨a,xs,ea,hH,r⟩:=rb.lst R1.sub
       cases ea
       rw[a1I hn]at r
       rw[r.bls]at hH
       have hy:y=.bl i':=by have:=(show Rp K cl F1 (.bl i') y from p1);simpa only[Rp]using this
       subst hy
       have hm:i'∈ns:=by simpa using hc
       refine⟨_,ns,i',ns.idxOf i',rfl,rfl,hH,?_,fun j hj hx=>?_,h1 _ H1 F1 Frm.refl R1 (by show Rp K cl F1 (.int _) _;simp only[Rp])⟩
       ·rw[List.getElem?_eq_getElem (List.idxOf_lt_length_of_mem hm),List.getElem_idxOf]
       ·exact a0W ns i' j hj hx
      ·cases hg
     ·cases hg
    ·cases hg
  ·exact h1.elim
 ·exact h.elim
end
end L2
namespace Law
open PySem L2 PyProof.Rows
def Q3(i:Nat):Stmt:=PySem.Challenge.pw_cratefit_k36_led_by_a_paper.main.body.getD i (.Pass ⟨0,0,0,0⟩)
abbrev E8:Stmt:=Q3 5
abbrev J3:Stmt:=Q3 7
abbrev A7:Stmt:=Q3 8
abbrev u9:Stmt:=Q3 10
abbrev a0f:Stmt:=Q3 11
abbrev K7:Stmt:=Q3 13
abbrev J4:Stmt:=Q3 14
abbrev K8:Stmt:=Q3 15
abbrev D9:Stmt:=Q3 16
abbrev w9:Stmt:=Q3 17
abbrev E9:Stmt:=Q3 18
abbrev C8:Stmt:=Q3 19
abbrev v3:Stmt:=Q3 20
abbrev L9:Stmt:=Q3 21
abbrev t5:Stmt:=a6F (Q3 3) 0
variable {P:Program}{w:World}{K:PySem.W.Frag}{mg:Str→Option Value}{base:Heap}{c:Str→Addr}
structure Txt(K:PySem.W.Frag)(mg:Str→Option Value)(c:Str→Addr):Prop where
 z_any:mg "any" = none
 z_bool:mg "bool" = none
 z_int:mg "int" = none
 z_isinstance:mg "isinstance" = none
 z_len:mg "len" = none
 z_list:mg "list" = none
 z_max:mg "max" = none
 z_range:mg "range" = none
 z_tuple:mg "tuple" = none
 z_zip:mg "zip" = none
 m_BadPacking:mg "BadPacking" = some (.ref (c "BadPacking"))
 m_BadTurn:mg "BadTurn" = some (.ref (c "BadTurn"))
 m_CrateError:mg "CrateError" = some (.ref (c "CrateError"))
 x_BadTurn:PySem.W.excIn K (c "BadTurn") vErr "ValueError.__new__" = true
 t_exc_BadPacking:PySem.W.ExcT K (c "BadPacking")
 t_exc_BadTurn:PySem.W.ExcT K (c "BadTurn")
 hd_BadPacking:PySem.W.hasDictIn K (c "BadPacking")=true
 xn_BadPacking:PySem.W.findIn K (.ref (c "BadPacking")) "why" = some none
 t_one_BadPacking_BadTurn:PySem.W.kitOne K (.ref (c "BadPacking")) (.ref (c "BadTurn"))=some false
 t_one_BadPacking_CrateError:PySem.W.kitOne K (.ref (c "BadPacking")) (.ref (c "CrateError"))=some true
 t_exo_BadPacking_BadPacking:PySem.W.exmOne K (.ref (c "BadPacking")) (.ref (c "BadPacking"))=some true
 t_exo_BadPacking_BadTurn:PySem.W.exmOne K (.ref (c "BadPacking")) (.ref (c "BadTurn"))=some false
 t_one_BadTurn_BadTurn:PySem.W.kitOne K (.ref (c "BadTurn")) (.ref (c "BadTurn"))=some true
 t_one_BadTurn_CrateError:PySem.W.kitOne K (.ref (c "BadTurn")) (.ref (c "CrateError"))=some true
 t_exo_BadTurn_BadPacking:PySem.W.exmOne K (.ref (c "BadTurn")) (.ref (c "BadPacking"))=some false
 t_exo_BadTurn_BadTurn:PySem.W.exmOne K (.ref (c "BadTurn")) (.ref (c "BadTurn"))=some true
def x1(n m:Str):Option Bool:=if n = "BadPacking"∧m = "BadTurn" then some false else if n = "BadPacking"∧m = "CrateError" then some true else if n = "BadTurn"∧m = "BadTurn" then some true else if n = "BadTurn"∧m = "CrateError" then some true else none
def x2(n:Str)(m:String):Option Bool:=none
theorem a3M(T:Txt K mg c):∀(n:Str) (m:Str) (b:Bool),x1 n m=some b→PySem.W.ExcT K (c n)∧PySem.W.kitOne K (.ref (c n)) (.ref (c m))=some b:=by
 intro n m b h
 unfold x1 at h
 split at h
 ·rename_i z;obtain⟨rfl,rfl⟩:=z;cases h;exact⟨T.t_exc_BadPacking,T.t_one_BadPacking_BadTurn⟩
 split at h
 ·rename_i z;obtain⟨rfl,rfl⟩:=z;cases h;exact⟨T.t_exc_BadPacking,T.t_one_BadPacking_CrateError⟩
 split at h
 ·rename_i z;obtain⟨rfl,rfl⟩:=z;cases h;exact⟨T.t_exc_BadTurn,T.t_one_BadTurn_BadTurn⟩
 split at h
 ·rename_i z;obtain⟨rfl,rfl⟩:=z;cases h;exact⟨T.t_exc_BadTurn,T.t_one_BadTurn_CrateError⟩
 cases h
theorem a3N(T:Txt K mg c):∀(n:Str) (m:String) (b:Bool),x2 n m=some b→PySem.W.ExcT K (c n)∧PySem.W.kitOne K (.ref (c n)) (.type m)=some b:=by
 intro n m b h
 unfold x2 at h
 cases h
def u5(n:Str):Option Bool:=if n = "BadPacking" then some true else if n = "BadTurn" then some false else none
theorem a0w(T:Txt K mg c):∀n b,u5 n=some b→PySem.W.exmOne K (.ref (c n)) (.ref (c "BadPacking"))=some b:=by
 intro n b h
 unfold u5 at h
 split at h
 ·rename_i z;subst z;cases h;exact T.t_exo_BadPacking_BadPacking
 split at h
 ·rename_i z;subst z;cases h;exact T.t_exo_BadTurn_BadPacking
 cases h
def K3(n:Str):Option Bool:=if n = "BadPacking" then some false else if n = "BadTurn" then some true else none
theorem a1Q(T:Txt K mg c):∀n b,K3 n=some b→PySem.W.exmOne K (.ref (c n)) (.ref (c "BadTurn"))=some b:=by
 intro n b h
 unfold K3 at h
 split at h
 ·rename_i z;subst z;cases h;exact T.t_exo_BadPacking_BadTurn
 split at h
 ·rename_i z;subst z;cases h;exact T.t_exo_BadTurn_BadTurn
 cases h
def Y9(n:Str):Bool:=decide (n = "BadPacking")
theorem a4B(T:Txt K mg c):∀n,Y9 n=true→PySem.W.ExcT K (c n)∧PySem.W.hasDictIn K (c n)=true∧PySem.W.findIn K (.ref (c n)) "why" = some none:=by
 intro n h
 unfold Y9 at h
 simp only[Bool.or_eq_true,decide_eq_true_eq]at h
 rcases h with rfl
 ·exact⟨T.t_exc_BadPacking,T.hd_BadPacking,T.xn_BadPacking⟩
theorem S7:FnScope ["self","why"] ["self","why"] (b8 t5):=⟨rfl,rfl,rfl,by decide +kernel,rfl,by decide +kernel,by decide +kernel⟩
seal PSs PS PE PA PT
theorem S8{f:Addr}{fd:FuncData}(F:Fun K "__init__" "BadPacking.__init__" t5 f fd)(S:PySem.W.ExcS K (c "BadPacking") "why"):FnOk P w K mg base (w6 P w) 3 f fd ["self","why"] (a1a (c "BadPacking") "why") :=
 F.okE S7 (fun vs H Q E h=>a5I h) fun cdv A outer s H vs Q E hr h=>⟨_,g6 (a9e (pv 0) (pv 1) rfl),a2G S h⟩
def a0X:SF:=(c7 (a2j (eV 0) (P9 [(g7 2),(g7 3),(g7 4)])) (c7 (y0 (P6 (bZ (eV 1))) (p8 (eT (aC (eV 2) (aC (eV 3) aN)))) A0) (c7 (y0 (P6 (bZ (eV 4))) (a2i "BadTurn" (aC (eC (.str "a ware that may not be turned has no sides turned")) aN)) A0) (p8 (eT (aC (eV 3) (aC (eV 2) aN)))))))
def K4:List D→Option R1:=fD 5 2 a0X
theorem M0:FnScope ["ware","lie","w","h","turns"] ["ware","lie"] (b8 E8):=⟨rfl,rfl,rfl,by decide +kernel,rfl,by decide +kernel,by decide +kernel⟩
theorem a2H{f:Addr}{fd:FuncData}(F:Fun K "sides_of" "sides_of" E8 f fd)(T:Txt K mg c)  : FnOk P w K mg base (w6 P w) 3 f fd ["ware","lie"] (j2 K c K4) :=
 F.okD (k:=2) M0 fun cdv A outer s H E hr=>⟨_,(c6 (a0B (pv 0) (Z5 (K:=K) (n:=3) rfl (A8 (t9 (i:=2) M0.nd rfl (Or.inl rfl)) (A8 (t9 (i:=3) M0.nd rfl (Or.inl rfl)) (A8 (t9 (i:=4) M0.nd rfl (Or.inl rfl)) Z3))))) (c6 (y4 (T1 (D4 (pv 1))) (g6 (k6 (u3 (a6 (pv 2) (a6 (pv 3) c5))))) t8) (c6 (y4 (T1 (D4 (pv 4))) (g6 (a44 O3 T.x_BadTurn rfl T.m_BadTurn (a6 F6 c5))) t8) (g6 (k6 (u3 (a6 (pv 3) (a6 (pv 2) c5)))))))),(d7 (a2k b7 (Z9 (B0 (n6 (k:=5) (by decide)) (B0 (n6 (k:=5) (by decide)) (B0 (n6 (k:=5) (by decide)) Z8))) rfl)) (d7 (u4 (O4 (F9 b7)) (r6 (A9 (a9 b7 (a9 b7 d9)))) z8) (d7 (u4 (O4 (F9 b7)) (a5f (a9 b6 d9)) z8) (r6 (A9 (a9 b7 (a9 b7 d9)))))))⟩
def a1J:SF:=(c7 (a2j (eV 1) (P9 [(g7 2),(g7 3),(g7 4)])) (c7 (a2j (R5 K4 (aC (eV 0) (aC (eV 4) aN))) (P9 [(g7 5),(g7 6)])) (p8 (eT (aC (eV 2) (aC (eV 3) (aC (eB i5 (eV 2) (eV 5)) (aC (eB i5 (eV 3) (eV 6)) aN))))))))
def x6:List D→Option R1:=fD 7 2 a1J
theorem F5:FnScope ["ware","place","x","y","lie","w","h"] ["ware","place"] (b8 J3):=⟨rfl,rfl,rfl,by decide +kernel,rfl,by decide +kernel,by decide +kernel⟩
theorem a3O{f:Addr}{fd:FuncData}(F:Fun K "spot_of" "spot_of" J3 f fd)(T:Txt K mg c)(G_sides_of:Own P w K mg base 3 "sides_of" ["ware","lie"] (j2 K c K4)):FnOk P w K mg base (w6 P w) 5 f fd ["ware","place"] (j2 K c x6) :=
 F.okD (k:=4) F5 fun cdv A outer s H E hr=>⟨_,(c6 (a0B (pv 1) (Z5 (K:=K) (n:=3) rfl (A8 (t9 (i:=2) F5.nd rfl (Or.inl rfl)) (A8 (t9 (i:=3) F5.nd rfl (Or.inl rfl)) (A8 (t9 (i:=4) F5.nd rfl (Or.inl rfl)) Z3))))) (c6 (a0B (u2 G_sides_of hr (by decide) (XAcc.passes O3) (a6 (pv 0) (a6 (pv 4) c5))) (Z5 (K:=K) (n:=2) rfl (A8 (t9 (i:=5) F5.nd rfl (Or.inl rfl)) (A8 (t9 (i:=6) F5.nd rfl (Or.inl rfl)) Z3)))) (g6 (k6 (u3 (a6 (pv 2) (a6 (pv 3) (a6 (d5 p9 (pv 2) (pv 5)) (a6 (d5 p9 (pv 3) (pv 6)) c5))))))))),(d7 (a2k b7 (Z9 (B0 (n6 (k:=7) (by decide)) (B0 (n6 (k:=7) (by decide)) (B0 (n6 (k:=7) (by decide)) Z8))) rfl)) (d7 (a2k (a2Z (a9 b7 (a9 b7 d9))) (Z9 (B0 (n6 (k:=7) (by decide)) (B0 (n6 (k:=7) (by decide)) Z8)) rfl)) (r6 (A9 (a9 b7 (a9 b7 (a9 (a8 r0 b7 b7) (a9 (a8 r0 b7 b7) d9))))))))⟩
def W5:SF:=(a0R (a2r 2 [] (aC (eV 0) (aC (eV 1) aN)) (P9 [(g7 0),(g7 1)]) l6 (R5 x6 (aC (eV 0) (aC (eV 1) aN)))))
def y9:List D→Option R1:=fD 2 2 W5
theorem a2I:FnScope ["wares","places"] ["wares","places"] (b8 A7):=⟨rfl,rfl,rfl,by decide +kernel,rfl,by decide +kernel,by decide +kernel⟩
theorem a2J{f:Addr}{fd:FuncData}(F:Fun K "spots_of" "spots_of" A7 f fd)(T:Txt K mg c)(G_spot_of:Own P w K mg base 5 "spot_of" ["ware","place"] (j2 K c x6)):FnOk P w K mg base (w6 P w) 7 f fd ["wares","places"] (j2 K c y9) :=
 F.okD (k:=6) a2I fun cdv A outer s H E hr=>⟨_,(g6 (k6 (a4_ (Nc:=["ware","place"]) (k:=2) (js:=[]) O3 rfl ⟨by decide +kernel,rfl,by decide +kernel,(by change ∀y∈Scope.names _,y.2=NameKind.free→(b8 A7).names.lookup y.1=some .cell∨(b8 A7).names.lookup y.1=some .free;decide +kernel),by decide +kernel,rfl,rfl,by decide +kernel⟩ (a8x rfl T.z_zip (a6 (pv 0) (a6 (pv 1) c5))) (fun _ _ _ _ _=>(Z5 (K:=K) (n:=2) rfl (A8 (t9 (i:=0) (by show List.Nodup [("ware" : Str),("place" : Str)];decide +kernel) rfl (Or.inl rfl)) (A8 (t9 (i:=1) (by show List.Nodup [("ware" : Str),("place" : Str)];decide +kernel) rfl (Or.inl rfl)) Z3)))) (fun _ _ _ _ _=>P0) (fun _ _ _ _ _ ac=>(u2 G_spot_of hr (by decide) (XAcc.passes ac) (a6 (pv 0) (a6 (pv 1) c5))))))),(a20 (a5r (by decide) (a9 b7 (a9 b7 d9)) (Z9 (B0 (n6 (k:=2) (by decide)) (B0 (n6 (k:=2) (by decide)) Z8)) rfl) G6 (a2Z (a9 b7 (a9 b7 d9)))))⟩
def M7:SF:=(c7 (k8 2 (eB d6 (eV 1) (eC (.int 1)))) (c7 (k8 3 (eB d6 (eV 1) (eC (.int 2)))) (c7 (k8 4 (i8 g8 0 (eV 2))) (c7 (k8 5 (i8 g8 0 (eV 3))) (c7 (y0 (bZ (eB J1 (eB d6 (eV 4) (eC (.int 2))) (eB d6 (eV 5) (eC (.int 0))))) (p8 (eB d6 (eV 1) (eC (.int 3)))) A0) (c7 (y0 (bZ (eB J1 (eB d6 (eV 5) (eC (.int 2))) (eB d6 (eV 4) (eC (.int 0))))) (p8 (eB d6 (eV 1) (eC (.int 4)))) A0) (c7 (y0 (bZ (eB J1 (eB d6 (eV 4) (eC (.int 3))) (eB d6 (eV 5) (eC (.int 1))))) (p8 (eB d6 (eV 1) (eC (.int 5)))) A0) (c7 (y0 (bZ (eB J1 (eB d6 (eV 5) (eC (.int 3))) (eB d6 (eV 4) (eC (.int 1))))) (p8 (eB d6 (eV 1) (eC (.int 6)))) A0) (a1m "BadPacking" "why" (aC (eT (aC (eC (.str "over")) (aC (eV 2) (aC (eV 3) aN)))) aN))))))))))
def i4:List D→Option R1:=fD 6 2 M7
theorem x9:FnScope ["spots","paper","i","j","one","other"] ["spots","paper"] (b8 u9):=⟨rfl,rfl,rfl,by decide +kernel,rfl,by decide +kernel,by decide +kernel⟩
theorem X1{f:Addr}{fd:FuncData}(F:Fun K "part_behind_pair" "part_behind_pair" u9 f fd)(T:Txt K mg c)(XI_BadPacking:a5H P w K mg base 3 "BadPacking" (c "BadPacking") ["self","why"] "why"):FnOk P w K mg base (w6 P w) 5 f fd ["spots","paper"] (j2 K c i4) :=
 F.okD (k:=4) x9 fun cdv A outer s H E hr=>⟨_,(c6 (i0 (i:=2) x9.nd rfl (Or.inl rfl) (c8 (c9 (K:=K)) (pv 1) a7 (fun _ _=>rfl))) (c6 (i0 (i:=3) x9.nd rfl (Or.inl rfl) (c8 (c9 (K:=K)) (pv 1) a7 (fun _ _=>rfl))) (c6 (i0 (i:=4) x9.nd rfl (Or.inl rfl) (c8 (h7 (K:=K)) (pv 0) (pv 2) (fun _ _=>rfl))) (c6 (i0 (i:=5) x9.nd rfl (Or.inl rfl) (c8 (h7 (K:=K)) (pv 0) (pv 3) (fun _ _=>rfl))) (c6 (y4 (n8 Q6 (c8 (c9 (K:=K)) (pv 4) a7 (fun _ _=>rfl)) (c8 (c9 (K:=K)) (pv 5) a7 (fun _ _=>rfl)) (j3 _)) (g6 (k6 (c8 (c9 (K:=K)) (pv 1) a7 (fun _ _=>rfl)))) t8) (c6 (y4 (n8 Q6 (c8 (c9 (K:=K)) (pv 5) a7 (fun _ _=>rfl)) (c8 (c9 (K:=K)) (pv 4) a7 (fun _ _=>rfl)) (j3 _)) (g6 (k6 (c8 (c9 (K:=K)) (pv 1) a7 (fun _ _=>rfl)))) t8) (c6 (y4 (n8 Q6 (c8 (c9 (K:=K)) (pv 4) a7 (fun _ _=>rfl)) (c8 (c9 (K:=K)) (pv 5) a7 (fun _ _=>rfl)) (j3 _)) (g6 (k6 (c8 (c9 (K:=K)) (pv 1) a7 (fun _ _=>rfl)))) t8) (c6 (y4 (n8 Q6 (c8 (c9 (K:=K)) (pv 5) a7 (fun _ _=>rfl)) (c8 (c9 (K:=K)) (pv 4) a7 (fun _ _=>rfl)) (j3 _)) (g6 (k6 (c8 (c9 (K:=K)) (pv 1) a7 (fun _ _=>rfl)))) t8) (g6 (a4y O3 XI_BadPacking hr (by decide) rfl (a6 (u3 (F7 (a6 (pv 2) (a6 (pv 3) c5)))) c5))))))))))),(d7 (t6 (a8 f9 b7 b6)) (d7 (t6 (a8 f9 b7 b6)) (d7 (t6 (j4 j5 b7)) (d7 (t6 (j4 j5 b7)) (d7 (u4 (y6 (a8 Q9 (a8 f9 b7 b6) (a8 f9 b7 b6))) (r6 (a8 f9 b7 b6)) z8) (d7 (u4 (y6 (a8 Q9 (a8 f9 b7 b6) (a8 f9 b7 b6))) (r6 (a8 f9 b7 b6)) z8) (d7 (u4 (y6 (a8 Q9 (a8 f9 b7 b6) (a8 f9 b7 b6))) (r6 (a8 f9 b7 b6)) z8) (d7 (u4 (y6 (a8 Q9 (a8 f9 b7 b6) (a8 f9 b7 b6))) (r6 (a8 f9 b7 b6)) z8) (a4z (a9 (A9 (a9 b6 (a9 b7 (a9 b7 d9)))) d9))))))))))⟩
def a9q:SF:=(c7 (V7 3 y9 (aC (eV 0) (aC (eV 1) aN))) (c7 (k8 4 (eV 2)) (c7 (r8 (bZ (eB (v9 true) (eB d6 (eV 4) (eC (.int 0))) (eC (.str "chain")))) (y0 (bZ (eB (v9 false) (eB d6 (eV 4) (eC (.int 0))) (eC (.str "turn")))) (k8 4 (eIf (bZ (eB d6 (i8 g8 1 (eB d6 (eV 4) (eC (.int 1)))) (eC (.int 2)))) (eB d6 (eV 4) (eC (.int 3))) (eB d6 (eV 4) (eC (.int 2))))) (V7 4 i4 (aC (eV 3) (aC (eV 4) aN)))) 1000000) (E6 4))))
def a0g:List D→Option R1:=fD 5 3 a9q
theorem Z0:FnScope ["wares","places","paper","spots","part"] ["wares","places","paper"] (b8 a0f):=⟨rfl,rfl,rfl,by decide +kernel,rfl,by decide +kernel,by decide +kernel⟩
theorem a83{f:Addr}{fd:FuncData}(F:Fun K "led" "led" a0f f fd)(T:Txt K mg c)(G_spots_of:Own P w K mg base 7 "spots_of" ["wares","places"] (j2 K c y9))(G_part_behind_pair:Own P w K mg base 5 "part_behind_pair" ["spots","paper"] (j2 K c i4)):FnOk P w K mg base (w6 P w) 9 f fd ["wares","places","paper"] (j2 K c a0g) :=
 F.okD (k:=8) Z0 fun cdv A outer s H E hr=>⟨_,(c6 (i0 (i:=3) Z0.nd rfl (Or.inl rfl) (u2 G_spots_of hr (by decide) (XAcc.passes O3) (a6 (pv 0) (a6 (pv 1) c5)))) (c6 (i0 (i:=4) Z0.nd rfl (Or.inl rfl) (pv 2)) (c6 (a1T PassesOwn.leaving (n8 a3j (c8 (c9 (K:=K)) (pv 4) a7 (fun _ _=>rfl)) F6 (j3 _)) (g6 (y4 (n8 J6 (c8 (c9 (K:=K)) (pv 4) a7 (fun _ _=>rfl)) F6 (j3 _)) (g6 (i0 (i:=4) Z0.nd rfl (Or.inl rfl) (a4T (D4 (c8 (c9 (K:=K)) (c8 (h7 (K:=K)) (pv 1) (c8 (c9 (K:=K)) (pv 4) a7 (fun _ _=>rfl)) (fun _ _=>rfl)) a7 (fun _ _=>rfl))) (c8 (c9 (K:=K)) (pv 4) a7 (fun _ _=>rfl)) (c8 (c9 (K:=K)) (pv 4) a7 (fun _ _=>rfl))))) (g6 (i0 (i:=4) Z0.nd rfl (Or.inl rfl) (u2 G_part_behind_pair hr (by decide) (XAcc.passes O3) (a6 (pv 3) (a6 (pv 4) c5)))))))) (g6 (k6 (pv 4)))))),(d7 (a21 (a9 b7 (a9 b7 d9))) (d7 (t6 b7) (d7 (a2n (y6 (a8 a3y (a8 f9 b7 b6) b6)) (u4 (y6 (a8 J8 (a8 f9 b7 b6) b6)) (t6 (a9g (F9 (a8 f9 (j4 j5 (a8 f9 b7 b6)) b6)) (a8 f9 b7 b6) (a8 f9 b7 b6))) (a21 (a9 b7 (a9 b7 d9))))) Z7)))⟩
def a2v:SF:=(c7 (y0 (bZ (eB gLt (eV 1) (P7 D0 0))) (p8 (i8 g8 0 (eV 1))) A0) (p8 (eC (.int 0))))
def i7:List D→Option R1:=fD 2 2 a2v
theorem a4C:FnScope ["_law_script","_law_k"] ["_law_script","_law_k"] (b8 K7):=⟨rfl,rfl,rfl,by decide +kernel,rfl,by decide +kernel,by decide +kernel⟩
theorem a4D{f:Addr}{fd:FuncData}(F:Fun K "_law_cell" "_law_cell" K7 f fd)(T:Txt K mg c)  : FnOk P w K mg base (w6 P w) 3 f fd ["_law_script","_law_k"] (j2 K c i7) :=
 F.okD (k:=2) a4C fun cdv A outer s H E hr=>⟨_,(c6 (y4 (n8 a9b (pv 1) (n5 (A6 (K:=K)) rfl T.z_len T8 (a6 (pv 0) c5)) (j3 _)) (g6 (k6 (c8 (h7 (K:=K)) (pv 0) (pv 1) (fun _ _=>rfl)))) t8) (g6 (k6 a7))),(d7 (u4 (y6 (a8 a9h b7 (a0N U1))) (r6 (j4 j5 b7)) z8) (r6 b6))⟩
def a4E:SF:=(c7 (y0 (bZ (eV 1)) (p8 (eT (aC (eB d6 (eV 0) (eC (.int 1))) (aC (eB d6 (eV 0) (eC (.int 0))) aN)))) A0) (p8 (eT (aC (eB d6 (eV 0) (eC (.int 0))) (aC (eB d6 (eV 0) (eC (.int 1))) aN)))))
def z0:List D→Option R1:=fD 2 2 a4E
theorem a3P:FnScope ["_law_ware","_law_lie"] ["_law_ware","_law_lie"] (b8 J4):=⟨rfl,rfl,rfl,by decide +kernel,rfl,by decide +kernel,by decide +kernel⟩
theorem a3Q{f:Addr}{fd:FuncData}(F:Fun K "_law_sides" "_law_sides" J4 f fd)(T:Txt K mg c)  : FnOk P w K mg base (w6 P w) 3 f fd ["_law_ware","_law_lie"] (j2 K c z0) :=
 F.okD (k:=2) a3P fun cdv A outer s H E hr=>⟨_,(c6 (y4 (D4 (pv 1)) (g6 (k6 (u3 (a6 (c8 (c9 (K:=K)) (pv 0) a7 (fun _ _=>rfl)) (a6 (c8 (c9 (K:=K)) (pv 0) a7 (fun _ _=>rfl)) c5))))) t8) (g6 (k6 (u3 (a6 (c8 (c9 (K:=K)) (pv 0) a7 (fun _ _=>rfl)) (a6 (c8 (c9 (K:=K)) (pv 0) a7 (fun _ _=>rfl)) c5)))))),(d7 (u4 (F9 b7) (r6 (A9 (a9 (a8 f9 b7 b6) (a9 (a8 f9 b7 b6) d9)))) z8) (r6 (A9 (a9 (a8 f9 b7 b6) (a9 (a8 f9 b7 b6) d9)))))⟩
def a5K:SF:=(c7 (A3 2 z0 (aC (eV 0) (aC (eB d6 (eV 1) (eC (.int 2))) aN))) (p8 (eT (aC (eB d6 (eV 1) (eC (.int 0))) (aC (eB d6 (eV 1) (eC (.int 1))) (aC (eB i5 (eB d6 (eV 1) (eC (.int 0))) (eB d6 (eV 2) (eC (.int 0)))) (aC (eB i5 (eB d6 (eV 1) (eC (.int 1))) (eB d6 (eV 2) (eC (.int 1)))) aN)))))))
def E1:List D→Option R1:=fD 3 2 a5K
theorem a1K:FnScope ["_law_ware","_law_place","_law_sides_here"] ["_law_ware","_law_place"] (b8 K8):=⟨rfl,rfl,rfl,by decide +kernel,rfl,by decide +kernel,by decide +kernel⟩
theorem a4F{f:Addr}{fd:FuncData}(F:Fun K "_law_spot" "_law_spot" K8 f fd)(T:Txt K mg c)(G_l_sides:Own P w K mg base 3 "_law_sides" ["_law_ware","_law_lie"] (j2 K c z0)):FnOk P w K mg base (w6 P w) 5 f fd ["_law_ware","_law_place"] (j2 K c E1) :=
 F.okD (k:=4) a1K fun cdv A outer s H E hr=>⟨_,(c6 (i0 (i:=2) a1K.nd rfl (Or.inl rfl) (u2 G_l_sides hr (by decide) x8 (a6 (pv 0) (a6 (c8 (c9 (K:=K)) (pv 1) a7 (fun _ _=>rfl)) c5)))) (g6 (k6 (u3 (a6 (c8 (c9 (K:=K)) (pv 1) a7 (fun _ _=>rfl)) (a6 (c8 (c9 (K:=K)) (pv 1) a7 (fun _ _=>rfl)) (a6 (d5 p9 (c8 (c9 (K:=K)) (pv 1) a7 (fun _ _=>rfl)) (c8 (c9 (K:=K)) (pv 2) a7 (fun _ _=>rfl))) (a6 (d5 p9 (c8 (c9 (K:=K)) (pv 1) a7 (fun _ _=>rfl)) (c8 (c9 (K:=K)) (pv 2) a7 (fun _ _=>rfl))) c5)))))))),(d7 (G4 (a9 b7 (a9 (a8 f9 b7 b6) d9))) (r6 (A9 (a9 (a8 f9 b7 b6) (a9 (a8 f9 b7 b6) (a9 (a8 r0 (a8 f9 b7 b6) (a8 f9 b7 b6)) (a9 (a8 r0 (a8 f9 b7 b6) (a8 f9 b7 b6)) d9)))))))⟩
def a5L(self:List D→Option R1):SF:=(c7 (y0 (bZ (G1 0 "tuple")) (p8 (C5 (g1 W4) (aC (zN (C6 1 [] (eV 0) (g7 0) l6 (j0 self (aC (eV 0) aN)))) aN))) A0) (c7 (y0 (bZ (G1 0 "list")) (a0R (nCV O0 0)) A0) (E6 0)))
def l3:Nat→List D→Option R1
 | 0=>fun _=>none
 | m+1=>fD 1 1 (a5L (l3 m))
theorem a4G:FnScope ["_law_paper"] ["_law_paper"] (b8 D9):=⟨rfl,rfl,rfl,by decide +kernel,rfl,by decide +kernel,by decide +kernel⟩
theorem a1L{f:Addr}{fd:FuncData}(F:Fun K "_law_copy" "_law_copy" D9 f fd)(T:Txt K mg c)(B:Binds K fd ["_law_paper"] [])(kp:PySem.W.keepIn K (.ref f)=true)(hm:mg "_law_copy" = some (.ref f))  : ∀m:Nat,FnOk P w K mg base (w6 P w) (2+2*m+1) f fd ["_law_paper"] (j2 K c (l3 m))
 | 0=>a1D
 | m+1=>by
  have G_l_copy:Own P w K mg base (2+2*m+1) "_law_copy" ["_law_paper"] (j2 K c (l3 m)):=⟨_,_,a1L F T B kp hm  m,B,kp,hm⟩
  exact F.okD (k:=2+2*m+2) a4G fun cdv A outer s H E hr=>⟨_,(c6 (y4 (D4 (n5 (B7 (K:=K)) rfl T.z_isinstance w8 (a6 (pv 0) (a6 (S9 (v:=.ty "tuple") rfl T.z_tuple a0p rfl) c5)))) (g6 (k6 (M3 (a08 (K:=K)) rfl T.z_tuple a0p (a6 (Z4 (Nc:=["_law_part"]) (k:=1) (js:=[]) rfl ⟨by decide +kernel,rfl,by decide +kernel,(by change ∀y∈Scope.names _,y.2=NameKind.free→(b8 D9).names.lookup y.1=some .cell∨(b8 D9).names.lookup y.1=some .free;decide +kernel),by decide +kernel,rfl,rfl,by decide +kernel⟩ (a1U (pv 0)) (fun _ _ _ _ _=>(t9 (i:=0) (by show List.Nodup [("_law_part" : Str)];decide +kernel) rfl (Or.inl rfl))) (fun _ _ _ _ _=>P0) (fun _ _ _ _ _=>(u2 G_l_copy hr (by omega) x8 (a6 (pv 0) c5)))) c5)))) t8) (c6 (y4 (D4 (n5 (B7 (K:=K)) rfl T.z_isinstance w8 (a6 (pv 0) (a6 (S9 (v:=.ty "list") rfl T.z_list T7 rfl) c5)))) (g6 (k6 (M3 (M9 (K:=K)) rfl T.z_list T7 (a6 (pv 0) c5)))) t8) (g6 (k6 (pv 0))))),(d7 (u4 (F9 a0b) (r6 (G0 a7L.cb (a9 (Z6 (a0u (by decide) b7 (n6 (k:=1) (by decide)) G6 (A4 (a9 b7 d9)))) d9))) z8) (d7 (u4 (F9 a0b) (a20 (a2d a1c)) z8) Z7))⟩
def a4H(self:List D→Option R1):SF:=(c7 (k8 4 (eB i5 (eB i3 (eB l7 (j0 i7 (aC (eV 0) (aC (eB i5 (eC (.int 12)) (eB i3 (eV 1) (eC (.int 50)))) aN))) (eC (.int 48271))) (eC (.int 1000003))) (eB i3 (eB l7 (eB l7 (eC (.int 7919)) (eV 1)) (eV 1)) (eC (.int 1009))))) (c7 (k8 5 (eB i3 (eV 4) (eC (.int 6)))) (c7 (k8 4 (eB p7 (eV 4) (eC (.int 6)))) (c7 (y0 (W8 (bZ (eB (v9 false) (eV 2) (eC (.int 0)))) (bZ (eB (v9 false) (eV 5) (eC (.int 0))))) (c7 (k8 6 (eB d6 (eT (aC (eC (.str "across")) (aC (eC (.str "up")) aN))) (eB i3 (eV 4) (eC (.int 2))))) (p8 (eT (aC (eC (.str "chain")) (aC (eV 6) (aC (zN (B6 D1 1 [3,4] (aC (eB i5 (eC (.int 1)) (eB i3 (eB p7 (eV 4) (eC (.int 4))) (eC (.int 3)))) aN) (g7 0) l6 (eB i3 (eB p7 (eV 2) (eB i5 (eC (.int 2)) (eB l7 (eC (.int 7)) (eV 0)))) (eV 1)))) aN)))))) A0) (c7 (y0 (W8 (bZ (eB (v9 false) (eV 5) (eC (.int 1)))) (bZ (eB (v9 false) (eV 3) (eC (.int 1))))) (c7 (v8 7 (C6 1 [0,3,2,1] (eT (aC (eC (.int 1)) (aC (eC (.int 2)) aN))) (g7 0) l6 (j0 self (aC (eV 1) (aC (eB i5 (eB l7 (eV 4) (eC (.int 4))) (eV 0)) (aC (eB B8 (eV 3) (eC (.int 1))) (aC (eV 2) aN))))))) (p8 (eT (aC (eC (.str "turn")) (aC (eB i3 (eV 4) (eV 3)) (aC (i8 g8 7 (eC (.int 0))) (aC (i8 g8 7 (eC (.int 1))) aN))))))) A0) (c7 (k8 8 (eB i3 (eV 4) (eV 3))) (c7 (k8 9 (eB i3 (eB i5 (eB i5 (eV 8) (eC (.int 1))) (eB i3 (eB p7 (eV 4) (eV 3)) (C5 E7 (aC (eC (.int 1)) (aC (eB B8 (eV 3) (eC (.int 1))) aN))))) (eV 3))) (c7 (v8 7 (C6 1 [0,3,2,1] (eT (aC (eC (.int 1)) (aC (eC (.int 2)) (aC (eC (.int 3)) (aC (eC (.int 4)) aN))))) (g7 0) l6 (j0 self (aC (eV 1) (aC (eB i5 (eB l7 (eV 4) (eC (.int 4))) (eV 0)) (aC (eB B8 (eV 3) (eC (.int 1))) (aC (eV 2) aN))))))) (p8 (eT (aC (eC (.str "pair")) (aC (eV 8) (aC (eV 9) (aC (i8 g8 7 (eC (.int 0))) (aC (i8 g8 7 (eC (.int 1))) (aC (i8 g8 7 (eC (.int 2))) (aC (i8 g8 7 (eC (.int 3))) aN)))))))))))))))))
def n9:Nat→List D→Option R1
 | 0=>fun _=>none
 | m+1=>fD 10 4 (a4H (n9 m))
theorem z9:FnScope ["_law_script","_law_at","_law_room","_law_many","_law_cell_here","_law_kind","_law_word","_law_parts","_law_i","_law_j"] ["_law_script","_law_at","_law_room","_law_many"] (b8 w9):=⟨rfl,rfl,rfl,by decide +kernel,rfl,by decide +kernel,by decide +kernel⟩
theorem a0Y{f:Addr}{fd:FuncData}(F:Fun K "_law_drawn" "_law_drawn" w9 f fd)(T:Txt K mg c)(B:Binds K fd ["_law_script","_law_at","_law_room","_law_many"] [])(kp:PySem.W.keepIn K (.ref f)=true)(hm:mg "_law_drawn" = some (.ref f))(G_l_cell:Own P w K mg base 3 "_law_cell" ["_law_script","_law_k"] (j2 K c i7)):∀m:Nat,FnOk P w K mg base (w6 P w) (4+2*m+1) f fd ["_law_script","_law_at","_law_room","_law_many"] (j2 K c (n9 m))
 | 0=>a1D
 | m+1=>by
  have G_l_drawn:Own P w K mg base (4+2*m+1) "_law_drawn" ["_law_script","_law_at","_law_room","_law_many"] (j2 K c (n9 m)):=⟨_,_,a0Y F T B kp hm G_l_cell m,B,kp,hm⟩
  exact F.okD (k:=4+2*m+2) z9 fun cdv A outer s H E hr=>⟨_,(c6 (i0 (i:=4) z9.nd rfl (Or.inr rfl) (d5 p9 (d5 l9 (d5 C7 (u2 G_l_cell hr (by omega) x8 (a6 (pv 0) (a6 (d5 p9 a7 (d5 l9 (pv 1) a7)) c5))) a7) a7) (d5 l9 (d5 C7 (d5 C7 a7 (pv 1)) (pv 1)) a7))) (c6 (i0 (i:=5) z9.nd rfl (Or.inl rfl) (d5 l9 (pv 4) a7)) (c6 (i0 (i:=4) z9.nd rfl (Or.inr rfl) (d5 u6 (pv 4) a7)) (c6 (y4 (PW.pt (Z2 (n8 J6 (pv 2) a7 (j3 _)) (a0z (n8 J6 (pv 5) a7 (j3 _))))) (c6 (i0 (i:=6) z9.nd rfl (Or.inl rfl) (c8 (c9 (K:=K)) (u3 (a6 F6 (a6 F6 c5))) (d5 l9 (pv 4) a7) (fun _ _=>rfl))) (g6 (k6 (u3 (F7 (a6 (pv 6) (a6 (Z4 (Nc:=["_law_k","_law_many","_law_cell_here"]) (k:=1) (js:=[3,4]) rfl ⟨by decide +kernel,rfl,by decide +kernel,(by change ∀y∈Scope.names _,y.2=NameKind.free→(b8 w9).names.lookup y.1=some .cell∨(b8 w9).names.lookup y.1=some .free;decide +kernel),by decide +kernel,rfl,rfl,by decide +kernel⟩ (M1 rfl T.z_range (a6 (d5 p9 a7 (d5 l9 (d5 u6 (pv 4) a7) a7)) c5)) (fun _ _ _ _ _=>(t9 (i:=0) (by show List.Nodup [("_law_k" : Str),("_law_many" : Str),("_law_cell_here" : Str)];decide +kernel) rfl (Or.inl rfl))) (fun _ _ _ _ _=>P0) (fun _ _ _ _ _=>(d5 l9 (d5 u6 (pv 2) (d5 p9 a7 (d5 C7 a7 (pv 0)))) (pv 1)))) c5))))))) t8) (c6 (y4 (PW.pt (Z2 (n8 J6 (pv 5) a7 (j3 _)) (a0z (n8 J6 (pv 3) a7 (j3 _))))) (c6 (V1 (i:=7) (Nc:=["_law_k","_law_script","_law_many","_law_room","_law_at"]) (k:=1) (js:=[0,3,2,1]) rfl ⟨by decide +kernel,rfl,by decide +kernel,(by change ∀y∈Scope.names _,y.2=NameKind.free→(b8 w9).names.lookup y.1=some .cell∨(b8 w9).names.lookup y.1=some .free;decide +kernel),by decide +kernel,rfl,rfl,by decide +kernel⟩ z9.nd rfl (a1U (u3 (a6 a7 (a6 a7 c5)))) (fun _ _ _ _ _=>(t9 (i:=0) (by show List.Nodup [("_law_k" : Str),("_law_script" : Str),("_law_many" : Str),("_law_room" : Str),("_law_at" : Str)];decide +kernel) rfl (Or.inl rfl))) (fun _ _ _ _ _=>P0) (fun _ _ _ _ _=>(u2 G_l_drawn hr (by omega) x8 (a6 (pv 1) (a6 (d5 p9 (d5 C7 (pv 4) a7) (pv 0)) (a6 (d5 a0C (pv 3) a7) (a6 (pv 2) c5))))))) (g6 (k6 (u3 (F7 (a6 (d5 l9 (pv 4) (pv 3)) (a6 (c8 (h7 (K:=K)) (pv 7) a7 (fun _ _=>rfl)) (a6 (c8 (h7 (K:=K)) (pv 7) a7 (fun _ _=>rfl)) c5)))))))) t8) (c6 (i0 (i:=8) z9.nd rfl (Or.inl rfl) (d5 l9 (pv 4) (pv 3))) (c6 (i0 (i:=9) z9.nd rfl (Or.inl rfl) (d5 l9 (d5 p9 (d5 p9 (pv 8) a7) (d5 l9 (d5 u6 (pv 4) (pv 3)) (n5 (X9 rfl) rfl T.z_max a14 (a6 a7 (a6 (d5 a0C (pv 3) a7) c5))))) (pv 3))) (c6 (V1 (i:=7) (Nc:=["_law_k","_law_script","_law_many","_law_room","_law_at"]) (k:=1) (js:=[0,3,2,1]) rfl ⟨by decide +kernel,rfl,by decide +kernel,(by change ∀y∈Scope.names _,y.2=NameKind.free→(b8 w9).names.lookup y.1=some .cell∨(b8 w9).names.lookup y.1=some .free;decide +kernel),by decide +kernel,rfl,rfl,by decide +kernel⟩ z9.nd rfl (a1U (u3 (a6 a7 (a6 a7 (a6 a7 (a6 a7 c5)))))) (fun _ _ _ _ _=>(t9 (i:=0) (by show List.Nodup [("_law_k" : Str),("_law_script" : Str),("_law_many" : Str),("_law_room" : Str),("_law_at" : Str)];decide +kernel) rfl (Or.inl rfl))) (fun _ _ _ _ _=>P0) (fun _ _ _ _ _=>(u2 G_l_drawn hr (by omega) x8 (a6 (pv 1) (a6 (d5 p9 (d5 C7 (pv 4) a7) (pv 0)) (a6 (d5 a0C (pv 3) a7) (a6 (pv 2) c5))))))) (g6 (k6 (u3 (F7 (a6 (pv 8) (a6 (pv 9) (a6 (c8 (h7 (K:=K)) (pv 7) a7 (fun _ _=>rfl)) (a6 (c8 (h7 (K:=K)) (pv 7) a7 (fun _ _=>rfl)) (a6 (c8 (h7 (K:=K)) (pv 7) a7 (fun _ _=>rfl)) (a6 (c8 (h7 (K:=K)) (pv 7) a7 (fun _ _=>rfl)) c5)))))))))))))))))),(d7 (t6 (a8 r0 (a8 m8 (a8 F8 (A4 (a9 b7 (a9 (a8 r0 b6 (a8 m8 b7 b6)) d9))) b6) b6) (a8 m8 (a8 F8 (a8 F8 b6 b7) b7) b6))) (d7 (t6 (a8 m8 b7 b6)) (d7 (t6 (a8 A2 b7 b6)) (d7 (u4 (U0 (y6 (a8 J8 b7 b6)) (y6 (a8 J8 b7 b6))) (d7 (t6 (a8 f9 (A9 (a9 b6 (a9 b6 d9))) (a8 m8 b7 b6))) (r6 (A9 (a9 b6 (a9 b7 (a9 (Z6 (Y5 (by decide) (a9 (a8 r0 b6 (a8 m8 (a8 A2 b7 b6) b6)) d9) (n6 (k:=1) (by decide)) G6 (a8 m8 (a8 A2 b7 (a8 r0 b6 (a8 F8 b6 b7))) b7))) d9)))))) z8) (d7 (u4 (U0 (y6 (a8 J8 b7 b6)) (y6 (a8 J8 b7 b6))) (d7 (W0 (a0u (by decide) (A9 (a9 b6 (a9 b6 d9))) (n6 (k:=1) (by decide)) G6 (A4 (a9 b7 (a9 (a8 r0 (a8 F8 b7 b6) b7) (a9 (a8 a0P b7 b6) (a9 b7 d9))))))) (r6 (A9 (a9 b6 (a9 (a8 m8 b7 b7) (a9 (j4 j5 b6) (a9 (j4 j5 b6) d9))))))) z8) (d7 (t6 (a8 m8 b7 b7)) (d7 (t6 (a8 m8 (a8 r0 (a8 r0 b7 b6) (a8 m8 (a8 A2 b7 b7) (G0 a1g (a9 b6 (a9 (a8 a0P b7 b6) d9))))) b7)) (d7 (W0 (a0u (by decide) (A9 (a9 b6 (a9 b6 (a9 b6 (a9 b6 d9))))) (n6 (k:=1) (by decide)) G6 (A4 (a9 b7 (a9 (a8 r0 (a8 F8 b7 b6) b7) (a9 (a8 a0P b7 b6) (a9 b7 d9))))))) (r6 (A9 (a9 b6 (a9 b7 (a9 b7 (a9 (j4 j5 b6) (a9 (j4 j5 b6) (a9 (j4 j5 b6) (a9 (j4 j5 b6) d9)))))))))))))))))⟩
def a3R:SF:=(c7 (v8 3 (eL aN)) (c7 (k8 4 (eB i3 (eB p7 (j0 i7 (aC (eV 0) (aC (eC (.int 0)) aN))) (eC (.int 4))) (eC (.int 3)))) (c7 (v8 5 (eL (aC (eC (.int 0)) (aC (eC (.int 0)) aN)))) (c7 (R7 D1 (aC (P7 D0 1) aN) (g7 6) (c7 (A3 7 i7 (aC (eV 0) (aC (eB i5 (eC (.int 7)) (eV 6)) aN))) (c7 (k8 8 (V5 (eB (v9 false) (eB i3 (eV 7) (eC (.int 2))) (eC (.int 1))) (eOr (eB d6 (i8 g8 1 (eV 6)) (eC (.int 2))) (eB (v9 false) (eB i3 (eB p7 (j0 i7 (aC (eV 0) (aC (eC (.int 0)) aN))) (eC (.int 12))) (eC (.int 8))) (eC (.int 3)))))) (c7 (v8 9 (eL (aC (eB l7 (eV 2) (eB i3 (eB p7 (eV 7) (eC (.int 2))) (eC (.int 7)))) (aC (eB B8 (eB l7 (eV 2) (eB i3 (eB p7 (eV 7) (eC (.int 14))) (eC (.int 7)))) (eB i3 (eB p7 (eV 7) (eC (.int 98))) (eC (.int 3)))) aN)))) (c7 (y0 (bZ (eB gGt (eV 4) (eC (.int 0)))) (a3A 9 (eB i3 (eB p7 (eV 7) (eC (.int 14))) (eC (.int 2))) (eB i5 (i8 g8 5 (eB i3 (eB p7 (eV 7) (eC (.int 14))) (eC (.int 2)))) (eB i3 (eB p7 (eV 7) (eC (.int 28))) (eC (.int 3))))) A0) (c7 (a0t 3 (eT (aC (i8 g8 9 (eC (.int 0))) (aC (i8 g8 9 (eC (.int 1))) (aC (eV 8) aN))))) (c7 (A3 10 z0 (aC (i8 g8 1 (eV 6)) (aC (eV 8) aN))) (v8 5 (eL (aC (C5 E7 (aC (i8 g8 5 (eC (.int 0))) (aC (eB i5 (i8 g8 9 (eC (.int 0))) (eB d6 (eV 10) (eC (.int 0)))) aN))) (aC (C5 E7 (aC (i8 g8 5 (eC (.int 1))) (aC (eB i5 (i8 g8 9 (eC (.int 1))) (eB d6 (eV 10) (eC (.int 1)))) aN))) aN))))))))))) (E6 3)))))
def C3:List D→Option R1:=fD 11 3 a3R
theorem w4:FnScope ["_law_script","_law_wares","_law_unit","_law_places_here","_law_mode","_law_far","_law_k","_law_cell_here","_law_lie","_law_spot_here","_law_sides_here"] ["_law_script","_law_wares","_law_unit"] (b8 E9):=⟨rfl,rfl,rfl,by decide +kernel,rfl,by decide +kernel,by decide +kernel⟩
theorem a2K{f:Addr}{fd:FuncData}(F:Fun K "_law_places" "_law_places" E9 f fd)(T:Txt K mg c)(G_l_cell:Own P w K mg base 3 "_law_cell" ["_law_script","_law_k"] (j2 K c i7))(G_l_sides:Own P w K mg base 3 "_law_sides" ["_law_ware","_law_lie"] (j2 K c z0)):FnOk P w K mg base (w6 P w) 5 f fd ["_law_script","_law_wares","_law_unit"] (j2 K c C3) :=
 F.okD (k:=4) w4 fun cdv A outer s H E hr=>⟨_,(c6 (i0 (i:=3) w4.nd rfl (Or.inl rfl) (O6 c5)) (c6 (i0 (i:=4) w4.nd rfl (Or.inl rfl) (d5 l9 (d5 u6 (u2 G_l_cell hr (by decide) x8 (a6 (pv 0) (a6 a7 c5))) a7) a7)) (c6 (i0 (i:=5) w4.nd rfl (Or.inl rfl) (O6 (a6 a7 (a6 a7 c5)))) (c6 (a30 PassesOwn.leaving rfl (M1 rfl T.z_range (a6 (n5 (A6 (K:=K)) rfl T.z_len T8 (a6 (pv 1) c5)) c5)) (t9 (i:=6) w4.nd rfl (Or.inl rfl)) (c6 (i0 (i:=7) w4.nd rfl (Or.inl rfl) (u2 G_l_cell hr (by decide) x8 (a6 (pv 0) (a6 (d5 p9 a7 (pv 6)) c5)))) (c6 (i0 (i:=8) w4.nd rfl (Or.inl rfl) (a0A (B4 J6 (d5 l9 (pv 7) a7) a7 (j3 _)) (X3 (a9a (c8 (c9 (K:=K)) (c8 (h7 (K:=K)) (pv 1) (pv 6) (fun _ _=>rfl)) a7 (fun _ _=>rfl)) (X3 (B4 J6 (d5 l9 (d5 u6 (u2 G_l_cell hr (by decide) x8 (a6 (pv 0) (a6 a7 c5))) a7) a7) a7 (j3 _))))))) (c6 (i0 (i:=9) w4.nd rfl (Or.inl rfl) (O6 (a6 (d5 C7 (pv 2) (d5 l9 (d5 u6 (pv 7) a7) a7)) (a6 (d5 a0C (d5 C7 (pv 2) (d5 l9 (d5 u6 (pv 7) a7) a7)) (d5 l9 (d5 u6 (pv 7) a7) a7)) c5)))) (c6 (y4 (n8 a55 (pv 4) a7 (j3 _)) (g6 (a0B (d5 p9 (c8 (h7 (K:=K)) (pv 5) (d5 l9 (d5 u6 (pv 7) a7) a7) (fun _ _=>rfl)) (d5 l9 (d5 u6 (pv 7) a7) a7)) (a8c (pv 9) (d5 l9 (d5 u6 (pv 7) a7) a7) a41))) t8) (c6 (a2M (a15 (K:=K) PySem.F.plainAttrs_list PySem.F.slot_list_append PySem.F.type_list_append Y1 (pv 3) (a6 (u3 (a6 (c8 (h7 (K:=K)) (pv 9) a7 (fun _ _=>rfl)) (a6 (c8 (h7 (K:=K)) (pv 9) a7 (fun _ _=>rfl)) (a6 (pv 8) c5)))) c5))) (c6 (i0 (i:=10) w4.nd rfl (Or.inl rfl) (u2 G_l_sides hr (by decide) x8 (a6 (c8 (h7 (K:=K)) (pv 1) (pv 6) (fun _ _=>rfl)) (a6 (pv 8) c5)))) (g6 (i0 (i:=5) w4.nd rfl (Or.inl rfl) (O6 (a6 (n5 (X9 rfl) rfl T.z_max a14 (a6 (c8 (h7 (K:=K)) (pv 5) a7 (fun _ _=>rfl)) (a6 (d5 p9 (c8 (h7 (K:=K)) (pv 9) a7 (fun _ _=>rfl)) (c8 (c9 (K:=K)) (pv 10) a7 (fun _ _=>rfl))) c5))) (a6 (n5 (X9 rfl) rfl T.z_max a14 (a6 (c8 (h7 (K:=K)) (pv 5) a7 (fun _ _=>rfl)) (a6 (d5 p9 (c8 (h7 (K:=K)) (pv 9) a7 (fun _ _=>rfl)) (c8 (c9 (K:=K)) (pv 10) a7 (fun _ _=>rfl))) c5))) c5)))))))))))) (g6 (k6 (pv 3))))))),(d7 (J2 (a0s d9)) (d7 (t6 (a8 m8 (a8 A2 (A4 (a9 b7 (a9 b6 d9))) b6) b6)) (d7 (J2 (a0s (a9 b6 (a9 b6 d9)))) (d7 (a2m (a9 (a0N U1) d9) (n6 (k:=11) (by decide)) (d7 (G4 (a9 b7 (a9 (a8 r0 b6 b7) d9))) (d7 (t6 (a0M (a8 J8 (a8 m8 b7 b6) b6) (a9f (a8 f9 (j4 j5 b7) b6) (a8 J8 (a8 m8 (a8 A2 (A4 (a9 b7 (a9 b6 d9))) b6) b6) b6)))) (d7 (J2 (a0s (a9 (a8 F8 b7 (a8 m8 (a8 A2 b7 b6) b6)) (a9 (a8 a0P (a8 F8 b7 (a8 m8 (a8 A2 b7 b6) b6)) (a8 m8 (a8 A2 b7 b6) b6)) d9)))) (d7 (u4 (y6 (a8 a6g b7 b6)) (a8N (a8 r0 (j4 j5 (a8 m8 (a8 A2 b7 b6) b6)) (a8 m8 (a8 A2 b7 b6) b6)) (a8 m8 (a8 A2 b7 b6) b6)) z8) (d7 (a4g (A9 (a9 (j4 j5 b6) (a9 (j4 j5 b6) (a9 b7 d9))))) (d7 (G4 (a9 (j4 j5 b7) (a9 b7 d9))) (J2 (a0s (a9 (G0 a1g (a9 (j4 j5 b6) (a9 (a8 r0 (j4 j5 b6) (a8 f9 b7 b6)) d9))) (a9 (G0 a1g (a9 (j4 j5 b6) (a9 (a8 r0 (j4 j5 b6) (a8 f9 b7 b6)) d9))) d9))))))))))) Z7))))⟩
def a7R:SF:=(c7 (y0 (bZ (eB gGt (C5 (g1 D0) (aC (zN (B6 D1 1 [1,0] (aC (P7 D0 0) aN) (g7 0) (a2a (bZ (eB d6 (i8 g8 1 (eV 0)) (eC (.int 2)))) (P6 (bZ (eB d6 (i8 g8 2 (eV 0)) (eC (.int 2)))))) (eV 0))) aN)) (eC (.int 0)))) (p8 (eT (aC (eC (.str "turned")) (aC (eC (.int 0)) (aC (eC (.int 0)) aN))))) A0) (c7 (v8 3 (B6 D1 1 [0,1] (aC (P7 D0 0) aN) (g7 0) l6 (j0 E1 (aC (i8 g8 1 (eV 0)) (aC (i8 g8 2 (eV 0)) aN))))) (c7 (r8 (bZ (eB (v9 true) (eB d6 (eV 2) (eC (.int 0))) (eC (.str "chain")))) (y0 (bZ (eB (v9 false) (eB d6 (eV 2) (eC (.int 0))) (eC (.str "turn")))) (k8 2 (eB d6 (eV 2) (eB i5 (eC (.int 2)) (C5 (g1 W1) (aC (eB d6 (i8 g8 1 (eB d6 (eV 2) (eC (.int 1)))) (eC (.int 2))) aN))))) (c7 (k8 4 (i8 g8 3 (eB d6 (eV 2) (eC (.int 1))))) (c7 (k8 5 (i8 g8 3 (eB d6 (eV 2) (eC (.int 2))))) (c7 (v8 6 (eL (aC (eB J1 (eB d6 (eV 4) (eC (.int 2))) (eB d6 (eV 5) (eC (.int 0)))) (aC (eB J1 (eB d6 (eV 5) (eC (.int 2))) (eB d6 (eV 4) (eC (.int 0)))) (aC (eB J1 (eB d6 (eV 4) (eC (.int 3))) (eB d6 (eV 5) (eC (.int 1)))) (aC (eB J1 (eB d6 (eV 5) (eC (.int 3))) (eB d6 (eV 4) (eC (.int 1)))) aN)))))) (c7 (y0 (P6 (bZ (C5 (g1 V6) (aC (eV 6) aN)))) (p8 (eT (aC (eC (.str "over")) (aC (eB d6 (eV 2) (eC (.int 1))) (aC (eB d6 (eV 2) (eC (.int 2))) aN))))) A0) (k8 2 (eB d6 (eV 2) (eB i5 (eC (.int 3)) (a0e 6 (eC (.bl true))))))))))) 1000000) (E6 2))))
def O5:List D→Option R1:=fD 7 3 a7R
theorem G8:FnScope ["_law_wares","_law_places_here","_law_paper","_law_spots","_law_one","_law_two","_law_ways"] ["_law_wares","_law_places_here","_law_paper"] (b8 C8):=⟨rfl,rfl,rfl,by decide +kernel,rfl,by decide +kernel,by decide +kernel⟩
theorem a5M{f:Addr}{fd:FuncData}(F:Fun K "_law_due" "_law_due" C8 f fd)(T:Txt K mg c)(G_l_spot:Own P w K mg base 5 "_law_spot" ["_law_ware","_law_place"] (j2 K c E1)):FnOk P w K mg base (w6 P w) 7 f fd ["_law_wares","_law_places_here","_law_paper"] (j2 K c O5) :=
 F.okD (k:=6) G8 fun cdv A outer s H E hr=>⟨_,(c6 (y4 (n8 a55 (n5 (A6 (K:=K)) rfl T.z_len T8 (a6 (Z4 (Nc:=["_law_k","_law_places_here","_law_wares"]) (k:=1) (js:=[1,0]) rfl ⟨by decide +kernel,rfl,by decide +kernel,(by change ∀y∈Scope.names _,y.2=NameKind.free→(b8 C8).names.lookup y.1=some .cell∨(b8 C8).names.lookup y.1=some .free;decide +kernel),by decide +kernel,rfl,rfl,by decide +kernel⟩ (M1 rfl T.z_range (a6 (n5 (A6 (K:=K)) rfl T.z_len T8 (a6 (pv 0) c5)) c5)) (fun _ _ _ _ _=>(t9 (i:=0) (by show List.Nodup [("_law_k" : Str),("_law_places_here" : Str),("_law_wares" : Str)];decide +kernel) rfl (Or.inl rfl))) (fun _ _ _ _ _=>(a8t (PW.pt (a75 (D4 (c8 (c9 (K:=K)) (c8 (h7 (K:=K)) (pv 1) (pv 0) (fun _ _=>rfl)) a7 (fun _ _=>rfl))) (a6y (T1 (D4 (c8 (c9 (K:=K)) (c8 (h7 (K:=K)) (pv 2) (pv 0) (fun _ _=>rfl)) a7 (fun _ _=>rfl))))))))) (fun _ _ _ _ _=>(pv 0))) c5)) a7 (j3 _)) (g6 (k6 (u3 (F7 (a6 a7 (a6 a7 c5)))))) t8) (c6 (V1 (i:=3) (Nc:=["_law_k","_law_wares","_law_places_here"]) (k:=1) (js:=[0,1]) rfl ⟨by decide +kernel,rfl,by decide +kernel,(by change ∀y∈Scope.names _,y.2=NameKind.free→(b8 C8).names.lookup y.1=some .cell∨(b8 C8).names.lookup y.1=some .free;decide +kernel),by decide +kernel,rfl,rfl,by decide +kernel⟩ G8.nd rfl (M1 rfl T.z_range (a6 (n5 (A6 (K:=K)) rfl T.z_len T8 (a6 (pv 0) c5)) c5)) (fun _ _ _ _ _=>(t9 (i:=0) (by show List.Nodup [("_law_k" : Str),("_law_wares" : Str),("_law_places_here" : Str)];decide +kernel) rfl (Or.inl rfl))) (fun _ _ _ _ _=>P0) (fun _ _ _ _ _=>(u2 G_l_spot hr (by decide) x8 (a6 (c8 (h7 (K:=K)) (pv 1) (pv 0) (fun _ _=>rfl)) (a6 (c8 (h7 (K:=K)) (pv 2) (pv 0) (fun _ _=>rfl)) c5))))) (c6 (a1T PassesOwn.leaving (n8 a3j (c8 (c9 (K:=K)) (pv 2) a7 (fun _ _=>rfl)) F6 (j3 _)) (g6 (y4 (n8 J6 (c8 (c9 (K:=K)) (pv 2) a7 (fun _ _=>rfl)) F6 (j3 _)) (g6 (i0 (i:=2) G8.nd rfl (Or.inl rfl) (c8 (c9 (K:=K)) (pv 2) (d5 p9 a7 (M3 a33 rfl T.z_int a8s (a6 (c8 (c9 (K:=K)) (c8 (h7 (K:=K)) (pv 1) (c8 (c9 (K:=K)) (pv 2) a7 (fun _ _=>rfl)) (fun _ _=>rfl)) a7 (fun _ _=>rfl)) c5))) (fun _ _=>rfl)))) (c6 (i0 (i:=4) G8.nd rfl (Or.inl rfl) (c8 (h7 (K:=K)) (pv 3) (c8 (c9 (K:=K)) (pv 2) a7 (fun _ _=>rfl)) (fun _ _=>rfl))) (c6 (i0 (i:=5) G8.nd rfl (Or.inl rfl) (c8 (h7 (K:=K)) (pv 3) (c8 (c9 (K:=K)) (pv 2) a7 (fun _ _=>rfl)) (fun _ _=>rfl))) (c6 (i0 (i:=6) G8.nd rfl (Or.inl rfl) (O6 (a6 (B4 Q6 (c8 (c9 (K:=K)) (pv 4) a7 (fun _ _=>rfl)) (c8 (c9 (K:=K)) (pv 5) a7 (fun _ _=>rfl)) (j3 _)) (a6 (B4 Q6 (c8 (c9 (K:=K)) (pv 5) a7 (fun _ _=>rfl)) (c8 (c9 (K:=K)) (pv 4) a7 (fun _ _=>rfl)) (j3 _)) (a6 (B4 Q6 (c8 (c9 (K:=K)) (pv 4) a7 (fun _ _=>rfl)) (c8 (c9 (K:=K)) (pv 5) a7 (fun _ _=>rfl)) (j3 _)) (a6 (B4 Q6 (c8 (c9 (K:=K)) (pv 5) a7 (fun _ _=>rfl)) (c8 (c9 (K:=K)) (pv 4) a7 (fun _ _=>rfl)) (j3 _)) c5)))))) (c6 (y4 (T1 (D4 (n5 (a1w (K:=K)) rfl T.z_any a39 (a6 (pv 6) c5)))) (g6 (k6 (u3 (F7 (a6 (c8 (c9 (K:=K)) (pv 2) a7 (fun _ _=>rfl)) (a6 (c8 (c9 (K:=K)) (pv 2) a7 (fun _ _=>rfl)) c5)))))) t8) (g6 (i0 (i:=2) G8.nd rfl (Or.inl rfl) (c8 (c9 (K:=K)) (pv 2) (d5 p9 a7 (a15 (K:=K) PySem.F.plainAttrs_list PySem.F.slot_list_index PySem.F.type_list_index a4A (pv 6) (a6 a0x c5))) (fun _ _=>rfl))))))))))) (g6 (k6 (pv 2)))))),(d7 (u4 (y6 (a8 a6g (G0 U1.cb (a9 (Z6 (Y5 (by decide) (a9 (a0N U1) d9) (n6 (k:=1) (by decide)) (a6P (F9 (a8 f9 (j4 j5 b7) b6)) (O4 (F9 (a8 f9 (j4 j5 b7) b6)))) b7)) d9)) b6)) (r6 (A9 (a9 b6 (a9 b6 (a9 b6 d9))))) z8) (d7 (W0 (Y5 (by decide) (a9 (a0N U1) d9) (n6 (k:=1) (by decide)) G6 (A4 (a9 (j4 j5 b7) (a9 (j4 j5 b7) d9))))) (d7 (a2n (y6 (a8 a3y (a8 f9 b7 b6) b6)) (u4 (y6 (a8 J8 (a8 f9 b7 b6) b6)) (t6 (a8 f9 b7 (a8 r0 b6 (G0 a7u.cb (a9 (a8 f9 (j4 j5 (a8 f9 b7 b6)) b6) d9))))) (d7 (t6 (j4 j5 (a8 f9 b7 b6))) (d7 (t6 (j4 j5 (a8 f9 b7 b6))) (d7 (J2 (a0s (a9 (a8 Q9 (a8 f9 b7 b6) (a8 f9 b7 b6)) (a9 (a8 Q9 (a8 f9 b7 b6) (a8 f9 b7 b6)) (a9 (a8 Q9 (a8 f9 b7 b6) (a8 f9 b7 b6)) (a9 (a8 Q9 (a8 f9 b7 b6) (a8 f9 b7 b6)) d9)))))) (d7 (u4 (O4 (F9 (G0 a4d.cb (a9 b7 d9)))) (r6 (A9 (a9 b6 (a9 (a8 f9 b7 b6) (a9 (a8 f9 b7 b6) d9))))) z8) (t6 (a8 f9 b7 (a8 r0 b6 (a7Q b6)))))))))) Z7)))⟩
def U3:SF:=(c7 (y0 (W8 (P6 (bZ (G1 0 "tuple"))) (W8 (bZ (eB (v9 true) (P7 D0 0) (eC (.int 3)))) (P6 (bZ (C5 a2o (aC (eB d6 (eV 0) (eC (.int 2))) (aC (eC (.ty "list")) aN))))))) (p8 (eC (.bl false))) A0) (p8 (V5 (eB (D3 false) (eV 0) (eV 1)) (a2b (C5 (g1 V6) (aC (zN (a0S 1 [] (eB d6 (eV 0) (eC (.int 2))) (g7 0) l6 (G1 0 "bool"))) aN))))))
def v5:List D→Option R1:=fD 2 2 U3
theorem a0Z:FnScope ["_law_found","_law_due_here"] ["_law_found","_law_due_here"] (b8 v3):=⟨rfl,rfl,rfl,by decide +kernel,rfl,by decide +kernel,by decide +kernel⟩
theorem a00{f:Addr}{fd:FuncData}(F:Fun K "_law_leaf_alike" "_law_leaf_alike" v3 f fd)(T:Txt K mg c)  : FnOk P w K mg base (w6 P w) 3 f fd ["_law_found","_law_due_here"] (j2 K c v5) :=
 F.okD (k:=2) a0Z fun cdv A outer s H E hr=>⟨_,(c6 (y4 (PW.pt (Z2 (T1 (D4 (n5 (B7 (K:=K)) rfl T.z_isinstance w8 (a6 (pv 0) (a6 (S9 (v:=.ty "tuple") rfl T.z_tuple a0p rfl) c5))))) (Z2 (n8 a3j (n5 (A6 (K:=K)) rfl T.z_len T8 (a6 (pv 0) c5)) a7 (j3 _)) (a0z (T1 (D4 (n5 (B7 (K:=K)) rfl T.z_isinstance w8 (a6 (c8 (c9 (K:=K)) (pv 0) a7 (fun _ _=>rfl)) (a6 (S9 (v:=.ty "list") rfl T.z_list T7 rfl) c5))))))))) (g6 (k6 a0x)) t8) (g6 (k6 (a0A (B4 (a1j (K:=K) (cl:=c) (a1i hr)) (pv 0) (pv 1) (j3 _)) (X3 (a3V (n5 (a1w (K:=K)) rfl T.z_any a39 (a6 (Z4 (Nc:=["_law_k"]) (k:=1) (js:=[]) rfl ⟨by decide +kernel,rfl,by decide +kernel,(by change ∀y∈Scope.names _,y.2=NameKind.free→(b8 v3).names.lookup y.1=some .cell∨(b8 v3).names.lookup y.1=some .free;decide +kernel),by decide +kernel,rfl,rfl,by decide +kernel⟩ (a6z (c8 (c9 (K:=K)) (pv 0) a7 (fun _ _=>rfl))) (fun _ _ _ _ _=>(t9 (i:=0) (by show List.Nodup [("_law_k" : Str)];decide +kernel) rfl (Or.inl rfl))) (fun _ _ _ _ _=>P0) (fun _ _ _ _ _=>(n5 (B7 (K:=K)) rfl T.z_isinstance w8 (a6 (pv 0) (a6 (S9 (v:=.ty "bool") rfl T.z_bool a6J rfl) c5))))) c5)))))))),(d7 (u4 (U0 (O4 (F9 a0b)) (U0 (y6 (a8 a3y (a0N U1) b6)) (O4 (F9 (G0 a8Q (a9 (a8 f9 b7 b6) (a9 b6 d9))))))) (r6 b6) z8) (r6 (a0M (a8 U2 b7 b7) (a4c (G0 a4d.cb (a9 (Z6 (a6U (by decide) (a8 f9 b7 b6) (n6 (k:=1) (by decide)) G6 a0b)) d9))))))⟩
def a9r:SF:=(c7 (k8 1 (eB i5 (eC (.int 1)) (eB i3 (j0 i7 (aC (eV 0) (aC (eC (.int 0)) aN))) (eC (.int 4))))) (c7 (k8 2 (eB i5 (eC (.int 1)) (eB i3 (j0 i7 (aC (eV 0) (aC (eC (.int 1)) aN))) (eB a2e (eC (.int 10)) (eC (.int 38)))))) (c7 (v8 3 (eL aN)) (c7 (R7 D1 (aC (eV 1) aN) (g7 4) (c7 (A3 5 i7 (aC (eV 0) (aC (eB i5 (eC (.int 3)) (eV 4)) aN))) (a0t 3 (eT (aC (eB l7 (eV 2) (eB i5 (eC (.int 1)) (eB i3 (eV 5) (eC (.int 4))))) (aC (eB i5 (eB l7 (eV 2) (eB i5 (eC (.int 1)) (eB i3 (eB p7 (eV 5) (eC (.int 4))) (eC (.int 4))))) (eB i3 (eB p7 (eV 5) (eC (.int 32))) (eC (.int 3)))) (aC (eB (v9 false) (eB i3 (eB p7 (eV 5) (eC (.int 16))) (eC (.int 2))) (eC (.int 1))) aN))))))) (c7 (A3 6 C3 (aC (eV 0) (aC (eV 3) (aC (eV 2) aN)))) (c7 (A3 7 (n9 8) (aC (eV 0) (aC (eC (.int 0)) (aC (eC (.int 3)) (aC (eV 1) aN))))) (c7 (A3 8 O5 (aC (eV 3) (aC (eV 6) (aC (eV 7) aN)))) (c7 (v8 9 (eL (aC (zN (nCV O0 3)) (aC (zN (nCV O0 6)) (aC (j0 (l3 8) (aC (eV 7) aN)) aN))))) (c7 (k8 10 (eC .non)) (c7 (a0V 11 a0g (aC (i8 g8 9 (eC (.int 0))) (aC (i8 g8 9 (eC (.int 1))) (aC (i8 g8 9 (eC (.int 2))) aN))) (hAs 12 u5 (k8 10 (eT (aC (eC (.str "packing")) (aC (eU (a1n Y9 "why") (eV 12)) (aC (V5 (C5 (R9 x1 x2) (aC (eV 12) (aC (eC (.cls "CrateError")) aN))) (a2b (C5 (R9 x1 x2) (aC (eV 12) (aC (eC (.cls "BadTurn")) aN))))) aN))))) (hAs 12 K3 (k8 10 (eT (aC (eC (.str "turned")) (aC (eC .non) (aC (C5 (R9 x1 x2) (aC (eV 12) (aC (eC (.cls "CrateError")) aN))) aN))))) hN))) (c7 (y0 (W8 (bZ (eBW (D3 true) (i8 g8 9 (eC (.int 0))) 3)) (W8 (bZ (eBW (D3 true) (i8 g8 9 (eC (.int 1))) 6)) (bZ (eB (D3 true) (i8 g8 9 (eC (.int 2))) (eV 7))))) (p8 (eC (.bl false))) A0) (c7 (y0 (bZ (eB (v9 false) (eB d6 (eV 8) (eC (.int 0))) (eC (.str "chain")))) (p8 (V5 (eB (a2g false) (eV 10) (eC .non)) (j0 v5 (aC (eV 11) (aC (eV 8) aN))))) A0) (c7 (y0 (bZ (eB (v9 false) (eB d6 (eV 8) (eC (.int 0))) (eC (.str "turned")))) (p8 (eB (D3 false) (eV 10) (eT (aC (eC (.str "turned")) (aC (eC .non) (aC (eC (.bl true)) aN)))))) A0) (p8 (eB (D3 false) (eV 10) (eT (aC (eC (.str "packing")) (aC (eV 8) (aC (eC (.bl true)) aN)))))))))))))))))))
def a6r:List D→Option R1:=fD 13 1 a9r
theorem z7:FnScope ["_law_script","_law_many","_law_unit","_law_wares","_law_k","_law_cell_here","_law_places_here","_law_paper","_law_due_here","_law_handed","_law_met","_law_found","error"] ["_law_script"] (b8 L9):=⟨rfl,rfl,rfl,by decide +kernel,rfl,by decide +kernel,by decide +kernel⟩
theorem a7S{f:Addr}{fd:FuncData}(F:Fun K "law" "law" L9 f fd)(T:Txt K mg c)(G_l_cell:Own P w K mg base 3 "_law_cell" ["_law_script","_law_k"] (j2 K c i7))(G_l_places:Own P w K mg base 5 "_law_places" ["_law_script","_law_wares","_law_unit"] (j2 K c C3))(G_l_drawn:Own P w K mg base 21 "_law_drawn" ["_law_script","_law_at","_law_room","_law_many"] (j2 K c (n9 8)))(G_l_due:Own P w K mg base 7 "_law_due" ["_law_wares","_law_places_here","_law_paper"] (j2 K c O5))(G_l_copy:Own P w K mg base 19 "_law_copy" ["_law_paper"] (j2 K c (l3 8)))(G_led:Own P w K mg base 9 "led" ["wares","places","paper"] (j2 K c a0g))(G_l_leaf_alike:Own P w K mg base 3 "_law_leaf_alike" ["_law_found","_law_due_here"] (j2 K c v5)):FnOk P w K mg base (w6 P w) 23 f fd ["_law_script"] (j2 K c a6r) :=
 F.okD (k:=22) z7 fun cdv A outer s H E hr=>⟨_,(c6 (i0 (i:=1) z7.nd rfl (Or.inl rfl) (d5 p9 a7 (d5 l9 (u2 G_l_cell hr (by decide) x8 (a6 (pv 0) (a6 a7 c5))) a7))) (c6 (i0 (i:=2) z7.nd rfl (Or.inl rfl) (d5 p9 a7 (d5 l9 (u2 G_l_cell hr (by decide) x8 (a6 (pv 0) (a6 a7 c5))) (d5 a8g a7 a7)))) (c6 (i0 (i:=3) z7.nd rfl (Or.inl rfl) (O6 c5)) (c6 (a30 PassesOwn.leaving rfl (M1 rfl T.z_range (a6 (pv 1) c5)) (t9 (i:=4) z7.nd rfl (Or.inl rfl)) (c6 (i0 (i:=5) z7.nd rfl (Or.inl rfl) (u2 G_l_cell hr (by decide) x8 (a6 (pv 0) (a6 (d5 p9 a7 (pv 4)) c5)))) (g6 (a2M (a15 (K:=K) PySem.F.plainAttrs_list PySem.F.slot_list_append PySem.F.type_list_append Y1 (pv 3) (a6 (u3 (a6 (d5 C7 (pv 2) (d5 p9 a7 (d5 l9 (pv 5) a7))) (a6 (d5 p9 (d5 C7 (pv 2) (d5 p9 a7 (d5 l9 (d5 u6 (pv 5) a7) a7))) (d5 l9 (d5 u6 (pv 5) a7) a7)) (a6 (B4 J6 (d5 l9 (d5 u6 (pv 5) a7) a7) a7 (j3 _)) c5)))) c5)))))) (c6 (i0 (i:=6) z7.nd rfl (Or.inl rfl) (u2 G_l_places hr (by decide) x8 (a6 (pv 0) (a6 (pv 3) (a6 (pv 2) c5))))) (c6 (i0 (i:=7) z7.nd rfl (Or.inl rfl) (u2 G_l_drawn hr (by decide) x8 (a6 (pv 0) (a6 a7 (a6 a7 (a6 (pv 1) c5)))))) (c6 (i0 (i:=8) z7.nd rfl (Or.inl rfl) (u2 G_l_due hr (by decide) x8 (a6 (pv 3) (a6 (pv 6) (a6 (pv 7) c5))))) (c6 (i0 (i:=9) z7.nd rfl (Or.inl rfl) (O6 (a6 (M3 (M9 (K:=K)) rfl T.z_list T7 (a6 (pv 3) c5)) (a6 (M3 (M9 (K:=K)) rfl T.z_list T7 (a6 (pv 6) c5)) (a6 (u2 G_l_copy hr (by decide) x8 (a6 (pv 7) c5)) c5))))) (c6 (i0 (i:=10) z7.nd rfl (Or.inl rfl) a0y) (c6 (a7O G_led hr (by decide) (i:=11) z7.nd rfl (Or.inl rfl) (fun E2 pins=>(a6 (c8 (h7 (K:=K)) (pv 9) a7 (fun _ _=>rfl)) (a6 (c8 (h7 (K:=K)) (pv 9) a7 (fun _ _=>rfl)) (a6 (c8 (h7 (K:=K)) (pv 9) a7 (fun _ _=>rfl)) c5)))) (a6c rfl T.m_BadPacking z7.nd (i:=12) rfl (fun a=>(g6 (i0 (i:=10) z7.nd rfl (Or.inl rfl) (u3 (F7 (a6 (a8C (pv 12) rfl) (a6 (a0A (n5 (B7 (K:=K)) rfl T.z_isinstance w8 (a6 (pv 12) (a6 (a03 (v:=.ref (c "CrateError")) rfl T.m_CrateError rfl) c5))) (X3 (a3V (n5 (B7 (K:=K)) rfl T.z_isinstance w8 (a6 (pv 12) (a6 (a03 (v:=.ref (c "BadTurn")) rfl T.m_BadTurn rfl) c5)))))) c5))))))) (a6c rfl T.m_BadTurn z7.nd (i:=12) rfl (fun a=>(g6 (i0 (i:=10) z7.nd rfl (Or.inl rfl) (u3 (F7 (a6 a0y (a6 (n5 (B7 (K:=K)) rfl T.z_isinstance w8 (a6 (pv 12) (a6 (a03 (v:=.ref (c "CrateError")) rfl T.m_CrateError rfl) c5))) c5))))))) a8z))) (c6 (y4 (PW.pt (Z2 (n8 (a1k (K:=K) (cl:=c) (a1i hr)) (c8 (h7 (K:=K)) (pv 9) a7 (fun _ _=>rfl)) (pv 3) (j3 _)) (Z2 (n8 (a1k (K:=K) (cl:=c) (a1i hr)) (c8 (h7 (K:=K)) (pv 9) a7 (fun _ _=>rfl)) (pv 6) (j3 _)) (a0z (n8 (a1k (K:=K) (cl:=c) (a1i hr)) (c8 (h7 (K:=K)) (pv 9) a7 (fun _ _=>rfl)) (pv 7) (j3 _)))))) (g6 (k6 a0x)) t8) (c6 (y4 (n8 J6 (c8 (c9 (K:=K)) (pv 8) a7 (fun _ _=>rfl)) F6 (j3 _)) (g6 (k6 (a0A (B4 a8h (pv 10) a0y (j3 _)) (X3 (u2 G_l_leaf_alike hr (by decide) x8 (a6 (pv 11) (a6 (pv 8) c5))))))) t8) (c6 (y4 (n8 J6 (c8 (c9 (K:=K)) (pv 8) a7 (fun _ _=>rfl)) F6 (j3 _)) (g6 (k6 (B4 (a1j (K:=K) (cl:=c) (a1i hr)) (pv 10) (u3 (F7 (a6 a0y (a6 a0x c5)))) (j3 _)))) t8) (g6 (k6 (B4 (a1j (K:=K) (cl:=c) (a1i hr)) (pv 10) (u3 (F7 (a6 (pv 8) (a6 a0x c5)))) (j3 _))))))))))))))))),(d7 (t6 (a8 r0 b6 (a8 m8 (A4 (a9 b7 (a9 b6 d9))) b6))) (d7 (t6 (a8 r0 b6 (a8 m8 (A4 (a9 b7 (a9 b6 d9))) (a8 a8L b6 b6)))) (d7 (J2 (a0s d9)) (d7 (a2m (a9 b7 d9) (n6 (k:=13) (by decide)) (d7 (G4 (a9 b7 (a9 (a8 r0 b6 b7) d9))) (a4g (A9 (a9 (a8 F8 b7 (a8 r0 b6 (a8 m8 b7 b6))) (a9 (a8 r0 (a8 F8 b7 (a8 r0 b6 (a8 m8 (a8 A2 b7 b6) b6))) (a8 m8 (a8 A2 b7 b6) b6)) (a9 (a8 J8 (a8 m8 (a8 A2 b7 b6) b6) b6) d9))))))) (d7 (G4 (a9 b7 (a9 b7 (a9 b7 d9)))) (d7 (G4 (a9 b7 (a9 b6 (a9 b6 (a9 b7 d9))))) (d7 (G4 (a9 b7 (a9 b7 (a9 b7 d9)))) (d7 (J2 (a0s (a9 (Z6 (a2d a1c)) (a9 (Z6 (a2d a1c)) (a9 (A4 (a9 b7 d9)) d9))))) (d7 (t6 b6) (d7 (a7P (a9 (j4 j5 b6) (a9 (j4 j5 b6) (a9 (j4 j5 b6) d9))) (a4x (a0w T) (fun a=>(t6 (A9 (a9 b6 (a9 (a81 (a4B T) b7) (a9 (a0M (G0 (a1e (a3M T) (a3N T)) (a9 b7 (a9 b6 d9))) (a4c (G0 (a1e (a3M T) (a3N T)) (a9 b7 (a9 b6 d9))))) d9)))))) (a4x (a1Q T) (fun a=>(t6 (A9 (a9 b6 (a9 b6 (a9 (G0 (a1e (a3M T) (a3N T)) (a9 b7 (a9 b6 d9))) d9)))))) a9p))) (d7 (u4 (U0 (y6 (a4b U2 (j4 j5 b6))) (U0 (y6 (a4b U2 (j4 j5 b6))) (y6 (a8 U2 (j4 j5 b6) b7)))) (r6 b6) z8) (d7 (u4 (y6 (a8 J8 (a8 f9 b7 b6) b6)) (r6 (a0M (a8 a8M b7 b6) (A4 (a9 b7 (a9 b7 d9))))) z8) (d7 (u4 (y6 (a8 J8 (a8 f9 b7 b6) b6)) (r6 (a8 U2 b7 (A9 (a9 b6 (a9 b6 (a9 b6 d9)))))) z8) (r6 (a8 U2 b7 (A9 (a9 b6 (a9 b7 (a9 b6 d9)))))))))))))))))))⟩
end Law
namespace Law
open PySem L2 PyProof.Rows
variable {P:Program}{w:World}{K:PySem.W.Frag}{mg:Str→Option Value}{base:Heap}{c:Str→Addr}
local macro_rules|`(tactic|walk_at $s:str)=>do
 let t←`(tactic|simp(decide:=true)only[*,a9j,a6W,a6X,a6Y,a6Z,a69,a60,a61,a62,a63,a5i,a64,a65,a8R,a5j,a5k,a4l,a4m,a5l,a3C,a3D,a4n,a4o,a4p,a5m,a3E,a3F,a66,a67,a6_,a68,a7a,a5n,a7b,a7c,a7d,a7e,a7g,a7f,a7h,a5o,a1C,S0,a7D,a7E,a7F,a7G,a7I,a7H,a1E,a4s,a0U,k9,Q0,B6,C6,a0S,a2r,a3J,a5v,a8W,a8X,a5w,a8Y,a8Z,a1l,a7y,a7z,a7A,a7B,noL,noLs,a4q,a7o,a7l,a7m,a7n,a7i,a7j,a7k,a3z,P8,D3,r9,D2,g4,u0,B1,y8,L7,Nat.max_self,Nat.zero_max,Nat.max_zero,decide_true,Bool.or_true,Bool.true_or,Bool.or_false,List.isEmpty_nil,E7,W1,List.any_cons,List.any_nil,j1,List.all_cons,List.all_nil,Bool.and_self,Bool.and_true,Bool.true_and,beq_self_eq_true,a7p,a7q,a8S,a8T,a8U,a2q,J9,a1f,a27,a28,y0,k8,v8,V7,A3,p8,a0R,E6,A0,a2j,a2i,a1m,a1n,XN.nm,XN.d,a7w,a7x,a0t,a5G,a7M,a7N,a3A,R7,a4u,a5C,a5D,a5y,a5z,a5A,a5B,a5x,a7C,a5F,a4v,eC,eV,eB,i8,eBW,eT,eL,zN,aN,aC,R5,j0,a2b,V5,eOr,eIf,eU,C5,P7,nCV,g1,D0,O0,bZ,P6,a2a,W8,l6,a5E,P9,V8,P5,a8D,a8E,T9,a8F,a8G,V3,V4,look,d6,g8,a6Q,a6R,a2g,G1,a7J,a0a,tyN,seqL,a6h,a6i,a6j,a6k,a6l,a6m,a9k,List.map_cons,List.map_nil,List.length_cons,List.length_nil,List.cons_append,List.nil_append,List.replicate_succ,List.replicate_zero,List.getElem?_cons_zero,List.getElem?_cons_succ,List.set_cons_zero,List.set_cons_succ,Nat.reduceAdd,Nat.reduceSub,if_true,if_false,Bool.not_true,Bool.not_false,Bool.not_not,Nat.zero_add,Bool.false_eq_true,decide_eq_true_eq,Bool.not_eq_true',decide_eq_false_iff_not,Option.map_some,Option.map_none,ite_self,u5,K3,Y9])
 return if s.getString=="eh" then t.raw else t.raw.modifyArg 4 (·.modifyArg 1 fun l=>l.setArg 0 l[2])
abbrev T3:=Int×Int×Bool
abbrev T4:=Int×Int×Int×Int
def K5(q:T3×T3):Bool:=q.2.2.2 && !q.1.2.2
def spt(q:T3×T3):T4:=if q.2.2.2=true then(q.2.1,q.2.2.1,q.2.1+q.1.2.1,q.2.2.1+q.1.1)else(q.2.1,q.2.2.1,q.2.1+q.1.1,q.2.2.1+q.1.2.1)
abbrev t3(p:T3):D:=.tup [.int p.1,.int p.2.1,.bl p.2.2]
abbrev t4(p:T4):D:=.tup [.int p.1,.int p.2.1,.int p.2.2.1,.int p.2.2.2]
abbrev t2(b:Int×Int):D:=.tup [.int b.1,.int b.2]
abbrev wD(q:T3×T3):D:=t3 q.1
abbrev pD(q:T3×T3):D:=t3 q.2
abbrev sD(q:T3×T3):D:=t4 (spt q)
theorem a3c(q:T3×T3)(hb:K5 q=false):x6 [t3 q.1,t3 q.2]=some (.ret (t4 (spt q))):=by
 obtain⟨⟨w,h,t⟩,⟨x,y,l⟩⟩:=q
 unfold x6 a1J K4 a0X spt
 unfold K5 at hb
 cases l<;>cases t<;>first | (simp only[Bool.and_true,Bool.and_false,Bool.not_true,Bool.not_false,Bool.true_and,Bool.false_and];walk_at "ev";done) | simp at hb
theorem a5N(L:List (T3×T3))(hl:L.length≤1000)(hb:∀q∈L,K5 q=false):y9 [.lst (L.map wD),.lst (L.map pD)]=some (.own (L.map sD)):=by
 have key:∀eo,j8 (P9 [g7 0,g7 1]) l6 (R5 x6 (aC (eV 0) (aC (eV 1) aN))) [.no,.no] eo (L.map fun q=>D.tup [wD q,pD q]) []=some (.ok (L.map sD) eo):=fun eo=>by
  have:=B2 (b:=P9 [g7 0,g7 1]) (c:=l6) (el:=R5 x6 (aC (eV 0) (aC (eV 1) aN))) (ec:=[.no,.no]) (eo:=eo) (fun q:T3×T3=>D.tup [wD q,pD q]) sD (fun _=>true) L [] (by show 0+_≤2 ^ 24;omega) fun q m=>⟨[.fz (t3 q.1),.fz (t3 q.2)],[.fz (t3 q.1),.fz (t3 q.2)],rfl,rfl,fun _=>by
   have h:=a3c q (hb q m)
   clear hb m
   walk_at "eh";exact⟨_,rfl⟩⟩
  rw[this,List.filter_eq_self.mpr (fun _ _=>rfl),List.nil_append]
 have hz:=Y8 wD pD L
 unfold y9 W5
 clear hl hb
 walk_at "eh"
theorem a3d{rg:List D→Option (Int×Nat)}{f:AF}{b:GF}{body:SF}{e e1:DE}{ds:List D}{lo:Int}{n:Nat}(h:f e=some (.ok ds e1))(hr:rg ds=some (lo,n)):R7 rg f b body e=G5 b body (B5 lo n) e1:=by
 unfold R7;rw[h,T9,hr]
theorem a84(l:List T3):u0 (l.map t3)=true:=a0l fun a _=>rfl
theorem a90(l:List T3):y8 (l.map t3)≤2:=a1F fun a _=>by simp[B1,y8]
theorem K9{ns:List Int}{k:Int}(hk:0≤k):i7 [.scr ns,.int k]=some (.ret (.int (j6 ns k))):=by
 rw[← a7s hk]
 unfold i7 a2v
 walk_at "ev"
 split
 ·cases atI ns k<;>rfl
 ·rfl
theorem Z1{n:Nat}(h:n≤1000):D1 [.int (n:Int)]=some (0,n):=by
 unfold D1
 show(if _ then _ else _)=_
 rw[if_pos (by omega)]
 simp
theorem a2x(m:Nat):B5 0 m=(List.range m).map fun(k:Nat)=>D.int (k:Int):=by
 unfold B5
 refine List.map_congr_left fun i _=>?_
 rw[Int.zero_add]
theorem a5O(q:T3×T3)(hb:K5 q=true):x6 [t3 q.1,t3 q.2]=some (.ex (.p "BadTurn")):=by
 obtain⟨⟨w,h,t⟩,x,y,l⟩:=q
 cases t<;>cases l<;>first | (simp[K5]at hb;done) | rfl
theorem W9(eo:DE):∀(L:List (T3×T3)) (acc:List D),acc.length+L.length≤1000→(∃q∈L,K5 q=true)→j8 (P9 [(g7 0),(g7 1)]) l6 (R5 x6 (aC (eV 0) (aC (eV 1) aN))) [.no,.no] eo (L.map fun q=>.tup [wD q,pD q]) acc=some (.ex (.p "BadTurn"))
 | [],_,_,h=>by obtain⟨q,m,_⟩:=h;cases m
 | q::L,acc,hl,h=>by
  rw[List.length_cons]at hl
  rw[List.map_cons,j8]
  show bnd (l6 [.fz (wD q),.fz (pD q)]) _=_
  show bnd (bnd (some (L2.R.ok [wD q,pD q] [Sl.fz (wD q),Sl.fz (pD q)])) fun ds e1=>toZ (x6 ds) e1) _=_
  rw[P5]
  by_cases z:K5 q=true
  ·rw[a5O q z]
   rfl
  ·have z':K5 q=false:=by cases hb:K5 q<;>first | rfl | exact absurd hb z
   rw[a3c q z']
   show(if acc.length<sizeLine then _ else none)=_
   rw[if_pos (by show _<2 ^ 24;omega)]
   refine W9 eo L (acc++[t4 (spt q)]) (by rw[List.length_append,List.length_singleton];omega) ?_
   obtain⟨p,m,hp⟩:=h
   rcases List.mem_cons.mp m with e | m
   ·exact absurd (e▸hp) z
   ·exact⟨p,m,hp⟩
theorem a4I(L:List (T3×T3))(hl:L.length≤1000)(h:∃q∈L,K5 q=true):y9 [.lst (L.map wD),.lst (L.map pD)]=some (.ex (.p "BadTurn")):=by
 have r:=W9 [.fz (.lst (L.map wD)),.fz (.lst (L.map pD))] L [] (by show 0+_≤_;omega) h
 have e:W5 [.fz (.lst (L.map wD)),.fz (.lst (L.map pD))]=some (.ex (.p "BadTurn")):=by
  show J0 (j8 (P9 [(g7 0),(g7 1)]) l6 (R5 x6 (aC (eV 0) (aC (eV 1) aN))) [.no,.no] _ (N4 (L.map wD) (L.map pD)) []) _=_
  rw[Y8,r]
  rfl
 exact congrArg S5 e
inductive Pp where
 | ch (w:Bool) (ks:List Int)
 | tu (k:Nat) (a b:Pp)
 | pr (i j:Nat) (a b c d:Pp)
def g5:Pp→D
 | .ch w ks=>.tup [.str "chain",.str (if w=true then "up" else "across"),.lst (ks.map D.int)]
 | .tu k a b=>.tup [.str "turn",.int (k:Int),g5 a,g5 b]
 | .pr i j a b c d=>.tup [.str "pair",.int (i:Int),.int (j:Int),g5 a,g5 b,g5 c,g5 d]
def dp:Pp→Nat
 | .ch _ _=>0
 | .tu _ a b=>max (dp a) (dp b)+1
 | .pr _ _ a b c d=>max (max (dp a) (dp b)) (max (dp c) (dp d))+1
def X0(n:Nat):Pp→Prop
 | .ch _ ks=>ks.length≤10
 | .tu k a b=>k<n∧X0 n a∧X0 n b
 | .pr i j a b c d=>i<n∧j<n∧X0 n a∧X0 n b∧X0 n c∧X0 n d
theorem a7T(ks:List Int):u0 (ks.map D.int)=true:=a0l fun a _=>rfl
theorem a7U(ks:List Int):y8 (ks.map D.int)≤1:=a1F fun a _=>by simp[B1]
theorem G9:∀P:Pp,g4 (g5 P)=true
 | .ch w ks=>by simp only[g5,g4,u0,a7T];rfl
 | .tu k a b=>by simp only[g5,g4,u0,G9 a,G9 b];rfl
 | .pr i j a b c d=>by simp only[g5,g4,u0,G9 a,G9 b,G9 c,G9 d];rfl
theorem Q4:∀P:Pp,B1 (g5 P)≤dp P+3
 | .ch w ks=>by
  have:=a7U ks
  simp only[g5,B1,y8,dp]
  omega
 | .tu k a b=>by
  have h1:=Q4 a
  have h2:=Q4 b
  simp only[g5,B1,y8,dp]
  omega
 | .pr i j a b c d=>by
  have h1:=Q4 a
  have h2:=Q4 b
  have h3:=Q4 c
  have h4:=Q4 d
  simp only[g5,B1,y8,dp]
  omega
theorem a6s(neg:Bool)(P:Pp)(h:dp P≤10):D3 neg (g5 P) (g5 P)=some (.bl (!neg)):=S2 neg (G9 P) (by have:=Q4 P;omega) (by cases P<;>rfl)
theorem a91(self CE:List D→Option R1)(C0 C2 C4:NF)(ns:List Int)(a r n c b k:Int)(cc kd:Int)(L2 L4 L0:List D)(w:Str)(v:D)(p0 p1 p2 p3:D)
  (k0:CE [.scr ns,.int (12+a%50)]=some (.ret (.int c))) (m1:l7 (.int c) (.int 48271)=some (.int (c*48271))) (m2:l7 (.int 7919) (.int a)=some (.int (7919*a))) (m3:l7 (.int (7919*a)) (.int a)=some (.int (7919*a*a))) (hb:c*48271%1000003+7919*a*a%1009=b) (hcc:b/6=cc) (hkd:b%6=kd) (hn:0<n∧n.natAbs.log2<9000) (hn1:0<(if n-1 > 1 then n-1 else 1))
  (hc:((r=0∨(¬r=0∧kd=0))∧atI [D.str "across",D.str "up"] (cc%2)=some (.str w)∧C0 [.fz (.scr ns),.fz (.int a),.fz (.int r),.fz (.int n),.fz (.int cc),.fz (.int kd),.fz (.str w),.no,.no,.no]=some (.ok L0 [.fz (.scr ns),.fz (.int a),.fz (.int r),.fz (.int n),.fz (.int cc),.fz (.int kd),.fz (.str w),.no,.no,.no])∧.tup [.str "chain",.str w,.lst L0]=v) ∨
   ((¬r=0∧¬kd=0)∧(kd=1∨(¬kd=1∧n=1))∧C2 [.fz (.scr ns),.fz (.int a),.fz (.int r),.fz (.int n),.fz (.int cc),.fz (.int kd),.no,.no,.no,.no]=some (.ok [p0,p1] [.fz (.scr ns),.fz (.int a),.fz (.int r),.fz (.int n),.fz (.int cc),.fz (.int kd),.no,.no,.no,.no])∧.tup [.str "turn",.int (cc%n),p0,p1]=v) ∨
   ((¬r=0∧¬kd=0)∧(¬kd=1∧¬n=1)∧C4 [.fz (.scr ns),.fz (.int a),.fz (.int r),.fz (.int n),.fz (.int cc),.fz (.int kd),.no,.no,.fz (.int (cc%n)),.fz (.int ((cc%n+1+cc/n%(if n-1 > 1 then n-1 else 1))%n))]=some (.ok [p0,p1,p2,p3] [.fz (.scr ns),.fz (.int a),.fz (.int r),.fz (.int n),.fz (.int cc),.fz (.int kd),.no,.no,.fz (.int (cc%n)),.fz (.int ((cc%n+1+cc/n%(if n-1 > 1 then n-1 else 1))%n))])∧.tup [.str "pair",.int (cc%n),.int ((cc%n+1+cc/n%(if n-1 > 1 then n-1 else 1))%n),p0,p1,p2,p3]=v)) :
  fD 10 4 (c7 (k8 4 (eB i5 (eB i3 (eB l7 (j0 CE (aC (eV 0) (aC (eB i5 (eC (.int 12)) (eB i3 (eV 1) (eC (.int 50)))) aN))) (eC (.int 48271))) (eC (.int 1000003))) (eB i3 (eB l7 (eB l7 (eC (.int 7919)) (eV 1)) (eV 1)) (eC (.int 1009))))) (c7 (k8 5 (eB i3 (eV 4) (eC (.int 6)))) (c7 (k8 4 (eB p7 (eV 4) (eC (.int 6)))) (c7 (y0 (W8 (bZ (eB (v9 false) (eV 2) (eC (.int 0)))) (bZ (eB (v9 false) (eV 5) (eC (.int 0))))) (c7 (k8 6 (eB d6 (eT (aC (eC (.str "across")) (aC (eC (.str "up")) aN))) (eB i3 (eV 4) (eC (.int 2))))) (p8 (eT (aC (eC (.str "chain")) (aC (eV 6) (aC (zN C0) aN)))))) A0) (c7 (y0 (W8 (bZ (eB (v9 false) (eV 5) (eC (.int 1)))) (bZ (eB (v9 false) (eV 3) (eC (.int 1))))) (c7 (v8 7 C2) (p8 (eT (aC (eC (.str "turn")) (aC (eB i3 (eV 4) (eV 3)) (aC (i8 g8 7 (eC (.int 0))) (aC (i8 g8 7 (eC (.int 1))) aN))))))) A0) (c7 (k8 8 (eB i3 (eV 4) (eV 3))) (c7 (k8 9 (eB i3 (eB i5 (eB i5 (eV 8) (eC (.int 1))) (eB i3 (eB p7 (eV 4) (eV 3)) (C5 E7 (aC (eC (.int 1)) (aC (eB B8 (eV 3) (eC (.int 1))) aN))))) (eV 3))) (c7 (v8 7 C4) (p8 (eT (aC (eC (.str "pair")) (aC (eV 8) (aC (eV 9) (aC (i8 g8 7 (eC (.int 0))) (aC (i8 g8 7 (eC (.int 1))) (aC (i8 g8 7 (eC (.int 2))) (aC (i8 g8 7 (eC (.int 3))) aN))))))))))))))))) [.scr ns,.int a,.int r,.int n]=some (.ret v):=by
 have w1:=a1f (a:=cc) hn
 have w2:=a27 (a:=cc/n) hn1
 have h5:E7 [.int 1,.int (n-1)]=some (.int (if n-1 > 1 then n-1 else 1)):=rfl
 generalize (if n-1 > 1 then n-1 else 1)=mm at *
 generalize E7=GX2 at *
 have hn0:=hn.1
 have a0:atI [p0,p1] 0=some p0:=rfl
 have a1:atI [p0,p1] 1=some p1:=rfl
 have b0:atI [p0,p1,p2,p3] 0=some p0:=rfl
 have b1:atI [p0,p1,p2,p3] 1=some p1:=rfl
 have b2:atI [p0,p1,p2,p3] 2=some p2:=rfl
 have b3:atI [p0,p1,p2,p3] 3=some p3:=rfl
 rcases hc with⟨rfl | ⟨z,rfl⟩,g,h,rfl⟩ | ⟨⟨z,z2⟩,rfl | ⟨z3,rfl⟩,h,rfl⟩ | ⟨⟨z,z2⟩,⟨z3,z4⟩,h,rfl⟩
 ·walk_at "eh"
 ·walk_at "eh"
 ·walk_at "eh"
 ·walk_at "eh"
 ·walk_at "eh"
theorem el0(cc n k:Int)(hn:0<n)(m7:l7 (.int 7) (.int k)=some (.int (7*k)))(hd:p7 (.int cc) (.int (2+7*k))=some (.int (cc/(2+7*k)))):(eB i3 (eB p7 (eV 2) (eB i5 (eC (.int 2)) (eB l7 (eC (.int 7)) (eV 0)))) (eV 1)) [.fz (.int k),.fz (.int n),.fz (.int cc)]=some (.ok (.int (cc/(2+7*k)%n)) [.fz (.int k),.fz (.int n),.fz (.int cc)]):=by
 walk_at "eh"
theorem a92(cc:Int)(s0 s1 s2 s3 s5 s6 s7 s8 s9:Sl):(aC (eB i5 (eC (.int 1)) (eB i3 (eB p7 (eV 4) (eC (.int 4))) (eC (.int 3)))) aN) [s0,s1,s2,s3,.fz (.int cc),s5,s6,s7,s8,s9]=some (.ok [.int (1+cc/4%3)] [s0,s1,s2,s3,.fz (.int cc),s5,s6,s7,s8,s9]):=by
 walk_at "eh"
theorem a9s(cc n:Int)(hn:0<n)(s0 s1 s2 s5 s6 s7 s8 s9:Sl):∃ks:List Int,ks.length≤10∧(B6 D1 1 [3,4] (aC (eB i5 (eC (.int 1)) (eB i3 (eB p7 (eV 4) (eC (.int 4))) (eC (.int 3)))) aN) (g7 0) l6 (eB i3 (eB p7 (eV 2) (eB i5 (eC (.int 2)) (eB l7 (eC (.int 7)) (eV 0)))) (eV 1))) [s0,s1,s2,.fz (.int n),.fz (.int cc),s5,s6,s7,s8,s9]=some (.ok (ks.map D.int) [s0,s1,s2,.fz (.int n),.fz (.int cc),s5,s6,s7,s8,s9]):=by
 obtain⟨m,hm⟩:=Int.eq_ofNat_of_zero_le (show 0≤1+cc/4%3 by omega)
 refine⟨(List.range m).map fun(k:Nat)=>cc/(2+7*(k:Int))%n,by rw[List.length_map,List.length_range];omega,?_⟩
 have e0:=a92 cc s0 s1 s2 (.fz (.int n)) s5 s6 s7 s8 s9
 rw[hm]at e0
 unfold B6
 rw[e0,P5,Z1 (by omega)]
 show j8 (g7 0) l6 _ [.no,.fz (.int n),.fz (.int cc)] _ (B5 0 m) []=_
 rw[a2x]
 refine(B2 (fun(k:Nat)=>D.int (k:Int)) (fun(k:Nat)=>D.int (cc/(2+7*(k:Int))%n)) (fun _=>true) (List.range m) [] (by rw[List.length_range];show 0+_≤2 ^ 24;omega) (fun k hk=>?_)).trans ?_
 ·have hk:=List.mem_range.mp hk
  exact⟨[.fz (.int (k:Int)),.fz (.int n),.fz (.int cc)],_,rfl,rfl,fun _=>⟨_,el0 cc n (k:Int) hn (a2q (by decide)) (a1f ⟨by omega,by
   have:(2+7*(k:Int)).natAbs<2 ^ 20:=by omega
   have h2:=(Nat.log2_lt (n:=(2+7*(k:Int)).natAbs) (k:=20) (by omega)).mpr this
   omega⟩)⟩⟩
 ·rw[List.filter_eq_self.mpr (fun _ _=>rfl),List.nil_append,List.map_map]
  rfl
theorem el2(SF0:List D→Option R1)(ns:List Int)(a r n k:Int)(p:D)(m4:l7 (.int a) (.int 4)=some (.int (a*4)))(h:SF0 [.scr ns,.int (a*4+k),.int (r-1),.int n]=some (.ret p)):(j0 SF0 (aC (eV 1) (aC (eB i5 (eB l7 (eV 4) (eC (.int 4))) (eV 0)) (aC (eB B8 (eV 3) (eC (.int 1))) (aC (eV 2) aN))))) [.fz (.int k),.fz (.scr ns),.fz (.int n),.fz (.int r),.fz (.int a)]=some (.ok p [.fz (.int k),.fz (.scr ns),.fz (.int n),.fz (.int r),.fz (.int a)]):=by
 walk_at "eh"
theorem a9t(SF0:List D→Option R1)(ns:List Int)(a r n:Int)(p:Nat→D)(h:∀k:Nat,1≤k→k≤4→SF0 [.scr ns,.int (a*4+(k:Int)),.int (r-1),.int n]=some (.ret (p k)))(s4 s5 s6 s7 s8 s9:Sl):(C6 1 [0,3,2,1] (eT (aC (eC (.int 1)) (aC (eC (.int 2)) aN))) (g7 0) l6 (j0 SF0 (aC (eV 1) (aC (eB i5 (eB l7 (eV 4) (eC (.int 4))) (eV 0)) (aC (eB B8 (eV 3) (eC (.int 1))) (aC (eV 2) aN)))))) [.fz (.scr ns),.fz (.int a),.fz (.int r),.fz (.int n),s4,s5,s6,s7,s8,s9]=some (.ok [p 1,p 2] [.fz (.scr ns),.fz (.int a),.fz (.int r),.fz (.int n),s4,s5,s6,s7,s8,s9]):=by
 have:=B2 (b:=g7 0) (c:=l6) (el:=(j0 SF0 (aC (eV 1) (aC (eB i5 (eB l7 (eV 4) (eC (.int 4))) (eV 0)) (aC (eB B8 (eV 3) (eC (.int 1))) (aC (eV 2) aN)))))) (ec:=[.no,.fz (.scr ns),.fz (.int n),.fz (.int r),.fz (.int a)]) (eo:=[.fz (.scr ns),.fz (.int a),.fz (.int r),.fz (.int n),s4,s5,s6,s7,s8,s9]) (fun(k:Nat)=>D.int (k:Int)) p (fun _=>true) [1,2] [] (by decide) (fun k hk=>⟨[.fz (.int (k:Int)),.fz (.scr ns),.fz (.int n),.fz (.int r),.fz (.int a)],_,rfl,rfl,fun _=>⟨_,el2 SF0 ns a r n (k:Int) (p k) (J9 (by decide)) (h k (by simp at hk;omega) (by simp at hk;omega))⟩⟩)
 exact this
theorem a9u(SF0:List D→Option R1)(ns:List Int)(a r n:Int)(p:Nat→D)(h:∀k:Nat,1≤k→k≤4→SF0 [.scr ns,.int (a*4+(k:Int)),.int (r-1),.int n]=some (.ret (p k)))(s4 s5 s6 s7 s8 s9:Sl):(C6 1 [0,3,2,1] (eT (aC (eC (.int 1)) (aC (eC (.int 2)) (aC (eC (.int 3)) (aC (eC (.int 4)) aN))))) (g7 0) l6 (j0 SF0 (aC (eV 1) (aC (eB i5 (eB l7 (eV 4) (eC (.int 4))) (eV 0)) (aC (eB B8 (eV 3) (eC (.int 1))) (aC (eV 2) aN)))))) [.fz (.scr ns),.fz (.int a),.fz (.int r),.fz (.int n),s4,s5,s6,s7,s8,s9]=some (.ok [p 1,p 2,p 3,p 4] [.fz (.scr ns),.fz (.int a),.fz (.int r),.fz (.int n),s4,s5,s6,s7,s8,s9]):=by
 have:=B2 (b:=g7 0) (c:=l6) (el:=(j0 SF0 (aC (eV 1) (aC (eB i5 (eB l7 (eV 4) (eC (.int 4))) (eV 0)) (aC (eB B8 (eV 3) (eC (.int 1))) (aC (eV 2) aN)))))) (ec:=[.no,.fz (.scr ns),.fz (.int n),.fz (.int r),.fz (.int a)]) (eo:=[.fz (.scr ns),.fz (.int a),.fz (.int r),.fz (.int n),s4,s5,s6,s7,s8,s9]) (fun(k:Nat)=>D.int (k:Int)) p (fun _=>true) [1,2,3,4] [] (by decide) (fun k hk=>⟨[.fz (.int (k:Int)),.fz (.scr ns),.fz (.int n),.fz (.int r),.fz (.int a)],_,rfl,rfl,fun _=>⟨_,el2 SF0 ns a r n (k:Int) (p k) (J9 (by decide)) (h k (by simp at hk;omega) (by simp at hk;omega))⟩⟩)
 exact this
theorem a2y(ns:List Int)(n:Nat)(n1:1≤n)(n4:n≤4):∀(m room a:Nat),room<m→room≤3→a≤10 ^ (9-room)→∃P:Pp,X0 n P∧dp P≤room∧n9 m [.scr ns,.int (a:Int),.int (room:Int),.int (n:Int)]=some (.ret (g5 P))
 | 0,_,_,h,_,_=>absurd h (Nat.not_lt_zero _)
 | m+1,room,a,hm,hr,ha=>by
  have ha9:a≤10 ^ 9:=Nat.le_trans ha (Nat.pow_le_pow_right (by omega) (by omega))
  have hn:0<(n:Int)∧(n:Int).natAbs.log2<9000:=⟨by omega,by
   rw[Int.natAbs_natCast]
   have:=Nat.log2_le_self n
   omega⟩
  have q1:=Int.emod_nonneg ((j6 ns (12+(a:Int)%50)*48271%1000003+7919*(a:Int)*(a:Int)%1009)/6) (b:=(n:Int)) (by omega)
  have q2:=Int.emod_lt_of_pos ((j6 ns (12+(a:Int)%50)*48271%1000003+7919*(a:Int)*(a:Int)%1009)/6) (b:=(n:Int)) (by omega)
  obtain⟨b,hb⟩:∃b:Int,j6 ns (12+(a:Int)%50)*48271%1000003+7919*(a:Int)*(a:Int)%1009=b:=⟨_,rfl⟩
  rw[hb]at q1 q2
  have W:=fun(L0:List D) (w:Str) (v p0 p1 p2 p3:D)=>a91 (n9 m) i7 (B6 D1 1 [3,4] (aC (eB i5 (eC (.int 1)) (eB i3 (eB p7 (eV 4) (eC (.int 4))) (eC (.int 3)))) aN) (g7 0) l6 (eB i3 (eB p7 (eV 2) (eB i5 (eC (.int 2)) (eB l7 (eC (.int 7)) (eV 0)))) (eV 1))) ((C6 1 [0,3,2,1] (eT (aC (eC (.int 1)) (aC (eC (.int 2)) aN))) (g7 0) l6 (j0 (n9 m) (aC (eV 1) (aC (eB i5 (eB l7 (eV 4) (eC (.int 4))) (eV 0)) (aC (eB B8 (eV 3) (eC (.int 1))) (aC (eV 2) aN))))))) ((C6 1 [0,3,2,1] (eT (aC (eC (.int 1)) (aC (eC (.int 2)) (aC (eC (.int 3)) (aC (eC (.int 4)) aN))))) (g7 0) l6 (j0 (n9 m) (aC (eV 1) (aC (eB i5 (eB l7 (eV 4) (eC (.int 4))) (eV 0)) (aC (eB B8 (eV 3) (eC (.int 1))) (aC (eV 2) aN))))))) ns (a:Int) (room:Int) (n:Int) _ b 0 _ _ [] [] L0 w v p0 p1 p2 p3 (K9 (by omega)) (J9 (by decide)) (a2q (by decide)) (J9 (by omega)) hb rfl rfl hn (by split<;>omega)
  by_cases z:room=0∨b%6=0
  ·obtain⟨ks,k1,k2⟩:=a9s (b/6) (n:Int) hn.1 (.fz (.scr ns)) (.fz (.int (a:Int))) (.fz (.int (room:Int))) (.fz (.int (b%6))) (.fz (.str (if b/6%2=1 then "up" else "across"))) .no .no .no
   refine⟨.ch (decide (b/6%2=1)) ks,k1,Nat.zero_le _,?_⟩
   refine W (ks.map D.int) (if b/6%2=1 then "up" else "across") _ .non .non .non .non (.inl ⟨?_,?_,k2,?_⟩)
   ·by_cases y:room=0
    ·exact .inl (by omega)
    ·exact .inr ⟨by omega,by omega⟩
   ·rcases(show b/6%2=0∨b/6%2=1 by omega)with e | e<;>rw[e]<;>rfl
   ·show _=D.tup [.str "chain",.str (if decide (b/6%2=1)=true then "up" else "across"),.lst (ks.map D.int)]
    by_cases y:b/6%2=1
    ·rw[if_pos y,if_pos (decide_eq_true y)]
    ·rw[if_neg y,if_neg (fun w=>y (of_decide_eq_true w))]
  ·have z1:¬room=0:=fun y=>z (.inl y)
   have z2:¬b%6=0:=fun y=>z (.inr y)
   have rec':∀k:Nat,1≤k→k≤4→∃P:Pp,X0 n P∧dp P≤room-1∧n9 m [.scr ns,.int ((a:Int)*4+(k:Int)),.int ((room:Int)-1),.int (n:Int)]=some (.ret (g5 P)):=fun k k1 k4=>by
    have:=a2y ns n n1 n4 m (room-1) (a*4+k) (by omega) (by omega) (by
     rw[show 9-(room-1)=(9-room)+1 by omega,Nat.pow_succ]
     have:=Nat.pow_pos (n:=9-room) (show 0<10 by omega)
     omega)
    rw[Int.natCast_add,Int.natCast_mul,show((room-1:Nat):Int)=(room:Int)-1 by omega]at this
    exact this
   obtain⟨P1,o1,d1,e1⟩:=rec' 1 (by omega) (by omega)
   obtain⟨P2,o2,d2,e2⟩:=rec' 2 (by omega) (by omega)
   obtain⟨P3,o3,d3,e3⟩:=rec' 3 (by omega) (by omega)
   obtain⟨P4,o4,d4,e4⟩:=rec' 4 (by omega) (by omega)
   have hp:∀k:Nat,1≤k→k≤4→n9 m [.scr ns,.int ((a:Int)*4+(k:Int)),.int ((room:Int)-1),.int (n:Int)]=some (.ret ((fun k:Nat=>if k=1 then g5 P1 else if k=2 then g5 P2 else if k=3 then g5 P3 else g5 P4) k)):=fun k k1 k4=>by
    rcases(show k=1∨k=2∨k=3∨k=4 by omega)with rfl | rfl | rfl | rfl
    ·exact e1
    ·exact e2
    ·exact e3
    ·exact e4
   obtain⟨i,hi⟩:=Int.eq_ofNat_of_zero_le q1
   by_cases y:b%6=1∨n=1
   ·refine⟨.tu i P1 P2,⟨by omega,o1,o2⟩,by simp only[dp];omega,?_⟩
    refine W [] "" _ (g5 P1) (g5 P2) .non .non (.inr (.inl ⟨⟨by omega,z2⟩,?_,a9t (n9 m) ns (a:Int) (room:Int) (n:Int) _ hp _ _ _ _ _ _,?_⟩))
    ·by_cases x:b%6=1
     ·exact .inl x
     ·exact .inr ⟨x,by omega⟩
    ·rw[hi]
     rfl
   ·have y1:¬b%6=1:=fun w=>y (.inl w)
    have y2:¬n=1:=fun w=>y (.inr w)
    have r1:=Int.emod_nonneg (b/6%(n:Int)+1+b/6/(n:Int)%(if(n:Int)-1 > 1 then(n:Int)-1 else 1)) (b:=(n:Int)) (by omega)
    have r2:=Int.emod_lt_of_pos (b/6%(n:Int)+1+b/6/(n:Int)%(if(n:Int)-1 > 1 then(n:Int)-1 else 1)) (b:=(n:Int)) (by omega)
    obtain⟨j,hj⟩:=Int.eq_ofNat_of_zero_le r1
    refine⟨.pr i j P1 P2 P3 P4,⟨by omega,by omega,o1,o2,o3,o4⟩,by simp only[dp];omega,?_⟩
    refine W [] "" _ (g5 P1) (g5 P2) (g5 P3) (g5 P4) (.inr (.inr ⟨⟨by omega,z2⟩,⟨y1,by omega⟩,a9u (n9 m) ns (a:Int) (room:Int) (n:Int) _ hp _ _ _ _ _ _,?_⟩))
    rw[hj,hi]
    rfl
theorem a5P(self:List D→Option R1)(ds:List D)(hl:ds.length≤1000)(h:∀d∈ds,D8 (self [d]) [.fz d]=some (.ok d [.fz d])):fD 1 1 (c7 (y0 (bZ (G1 0 "tuple")) (p8 (C5 (g1 W4) (aC (zN (C6 1 [] (eV 0) (g7 0) l6 (j0 self (aC (eV 0) aN)))) aN))) A0) (c7 (y0 (bZ (G1 0 "list")) (a0R (nCV O0 0)) A0) (E6 0))) [.tup ds]=some (.ret (.tup ds)):=by
 have co:(C6 1 [] (eV 0) (g7 0) l6 (j0 self (aC (eV 0) aN))) [.fz (.tup ds)]=some (.ok ds [.fz (.tup ds)]):=by
  have:=B2 (b:=g7 0) (c:=l6) (el:=(j0 self (aC (eV 0) aN))) (ec:=[.no]) (eo:=[.fz (.tup ds)]) (fun(d:D)=>d) (fun d=>d) (fun _=>true) ds [] (by show 0+_≤2 ^ 24;omega) (fun d hd=>⟨[.fz d],_,rfl,rfl,fun _=>⟨_,h d hd⟩⟩)
  rw[List.filter_eq_self.mpr (fun _ _=>rfl),List.nil_append]at this
  simp only[List.map_id']at this
  exact this
 have gt:W4 (.lst ds)=some (.tup ds):=by
  unfold W4
  first
   | rfl
   | (rw[if_pos (by show _≤2 ^ 24;omega)])
 generalize (C6 1 [] (eV 0) (g7 0) l6 (j0 self (aC (eV 0) aN)))=CO at *
 generalize W4=GT at *
 walk_at "eh"
theorem a3S(m:Nat)(s:Str):D8 (l3 (m+1) [.str s]) [.fz (.str s)]=some (.ok (.str s) [.fz (.str s)]):=rfl
theorem a5Q(m:Nat)(i:Int):D8 (l3 (m+1) [.int i]) [.fz (.int i)]=some (.ok (.int i) [.fz (.int i)]):=rfl
theorem a93(m:Nat)(ds:List D):D8 (l3 (m+1) [.lst ds]) [.fz (.lst ds)]=some (.ok (.lst ds) [.fz (.lst ds)]):=rfl
theorem L3:∀(P:Pp) (m:Nat),dp P+1<m→l3 m [g5 P]=some (.ret (g5 P))
 | .ch w ks,m,h=>by
  obtain⟨k,rfl⟩:∃k,m=k+1+1:=⟨m-2,by omega⟩
  refine a5P (l3 (k+1)) _ (by simp only[List.length_cons,List.length_nil];omega) (fun d hd=>?_)
  rcases List.mem_cons.mp hd with rfl | hd
  ·exact a3S k _
  rcases List.mem_cons.mp hd with rfl | hd
  ·exact a3S k _
  rw[List.mem_singleton.mp hd]
  exact a93 k _
 | .tu t a b,m,h=>by
  simp only[dp]at h
  obtain⟨k,rfl⟩:∃k,m=k+1+1:=⟨m-2,by omega⟩
  have ha:D8 (l3 (k+1) [g5 a]) [.fz (g5 a)]=some (.ok (g5 a) [.fz (g5 a)]):=by rw[L3 a (k+1) (by omega)];rfl
  have hb:D8 (l3 (k+1) [g5 b]) [.fz (g5 b)]=some (.ok (g5 b) [.fz (g5 b)]):=by rw[L3 b (k+1) (by omega)];rfl
  refine a5P (l3 (k+1)) _ (by simp only[List.length_cons,List.length_nil];omega) (fun d hd=>?_)
  rcases List.mem_cons.mp hd with rfl | hd
  ·exact a3S k _
  rcases List.mem_cons.mp hd with rfl | hd
  ·exact a5Q k _
  rcases List.mem_cons.mp hd with rfl | hd
  ·exact ha
  rw[List.mem_singleton.mp hd]
  exact hb
 | .pr i j a b c e,m,h=>by
  simp only[dp]at h
  obtain⟨k,rfl⟩:∃k,m=k+1+1:=⟨m-2,by omega⟩
  have ha:D8 (l3 (k+1) [g5 a]) [.fz (g5 a)]=some (.ok (g5 a) [.fz (g5 a)]):=by rw[L3 a (k+1) (by omega)];rfl
  have hb:D8 (l3 (k+1) [g5 b]) [.fz (g5 b)]=some (.ok (g5 b) [.fz (g5 b)]):=by rw[L3 b (k+1) (by omega)];rfl
  have hc:D8 (l3 (k+1) [g5 c]) [.fz (g5 c)]=some (.ok (g5 c) [.fz (g5 c)]):=by rw[L3 c (k+1) (by omega)];rfl
  have he:D8 (l3 (k+1) [g5 e]) [.fz (g5 e)]=some (.ok (g5 e) [.fz (g5 e)]):=by rw[L3 e (k+1) (by omega)];rfl
  refine a5P (l3 (k+1)) _ (by simp only[List.length_cons,List.length_nil];omega) (fun d hd=>?_)
  rcases List.mem_cons.mp hd with rfl | hd
  ·exact a3S k _
  rcases List.mem_cons.mp hd with rfl | hd
  ·exact a5Q k _
  rcases List.mem_cons.mp hd with rfl | hd
  ·exact a5Q k _
  rcases List.mem_cons.mp hd with rfl | hd
  ·exact ha
  rcases List.mem_cons.mp hd with rfl | hd
  ·exact hb
  rcases List.mem_cons.mp hd with rfl | hd
  ·exact hc
  rw[List.mem_singleton.mp hd]
  exact he
abbrev plB(CE SI:List D→Option R1):SF:=(c7 (A3 7 CE (aC (eV 0) (aC (eB i5 (eC (.int 7)) (eV 6)) aN))) (c7 (k8 8 (V5 (eB (v9 false) (eB i3 (eV 7) (eC (.int 2))) (eC (.int 1))) (eOr (eB d6 (i8 g8 1 (eV 6)) (eC (.int 2))) (eB (v9 false) (eB i3 (eB p7 (j0 CE (aC (eV 0) (aC (eC (.int 0)) aN))) (eC (.int 12))) (eC (.int 8))) (eC (.int 3)))))) (c7 (v8 9 (eL (aC (eB l7 (eV 2) (eB i3 (eB p7 (eV 7) (eC (.int 2))) (eC (.int 7)))) (aC (eB B8 (eB l7 (eV 2) (eB i3 (eB p7 (eV 7) (eC (.int 14))) (eC (.int 7)))) (eB i3 (eB p7 (eV 7) (eC (.int 98))) (eC (.int 3)))) aN)))) (c7 (y0 (bZ (eB gGt (eV 4) (eC (.int 0)))) (a3A 9 (eB i3 (eB p7 (eV 7) (eC (.int 14))) (eC (.int 2))) (eB i5 (i8 g8 5 (eB i3 (eB p7 (eV 7) (eC (.int 14))) (eC (.int 2)))) (eB i3 (eB p7 (eV 7) (eC (.int 28))) (eC (.int 3))))) A0) (c7 (a0t 3 (eT (aC (i8 g8 9 (eC (.int 0))) (aC (i8 g8 9 (eC (.int 1))) (aC (eV 8) aN))))) (c7 (A3 10 SI (aC (i8 g8 1 (eV 6)) (aC (eV 8) aN))) (v8 5 (eL (aC (C5 E7 (aC (i8 g8 5 (eC (.int 0))) (aC (eB i5 (i8 g8 9 (eC (.int 0))) (eB d6 (eV 10) (eC (.int 0)))) aN))) (aC (C5 E7 (aC (i8 g8 5 (eC (.int 1))) (aC (eB i5 (i8 g8 9 (eC (.int 1))) (eB d6 (eV 10) (eC (.int 1)))) aN))) aN))))))))))
def ows:Option (List D)→Sl
 | none=>.no
 | some l=>.ow l
theorem a94(CE SI:List D→Option R1)(ns:List Int)(W acc:List D)(u md f0 f1 k c c0 ww wh x y sw sh:Int)(t b:Bool)(o7 o8:Option D)(o9:Option (List D))(o10:Option D)(k7:CE [.scr ns,.int (7+k)]=some (.ret (.int c)))(k0:CE [.scr ns,.int 0]=some (.ret (.int c0)))(hw:atI W k=some (.tup [.int ww,.int wh,.bl t]))(m1:l7 (.int u) (.int (c/2%7))=some (.int (u*(c/2%7))))(m2:l7 (.int u) (.int (c/14%7))=some (.int (u*(c/14%7))))(hs:SI [.tup [.int ww,.int wh,.bl t],.bl b]=some (.ret (.tup [.int sw,.int sh])))(ha:acc.length<sizeLine)
  (hxy:(¬md > 0∧u*(c/2%7)=x∧u*(c/14%7)-c/98%3=y)∨(md > 0∧c/14%2=0∧f0+c/28%3=x∧u*(c/14%7)-c/98%3=y)∨(md > 0∧c/14%2=1∧u*(c/2%7)=x∧f1+c/28%3=y))
  (hl:(¬c%2=1∧false=b)∨(c%2=1∧t=true∧true=b)∨(c%2=1∧t=false∧decide (c0/12%8=3)=b)) :
  plB CE SI [.fz (.scr ns),.fz (.lst W),.fz (.int u),.ow acc,.fz (.int md),.ow [.int f0,.int f1],.fz (.int k),un o7,un o8,ows o9,un o10]=some (.nx [.fz (.scr ns),.fz (.lst W),.fz (.int u),.ow (acc++[t3 (x,y,b)]),.fz (.int md),.ow [.int (if x+sw > f0 then x+sw else f0),.int (if y+sh > f1 then y+sh else f1)],.fz (.int k),.fz (.int c),.fz (.bl b),.ow [.int x,.int y],.fz (.tup [.int sw,.int sh])]):=by
 have a0:atI [D.int f0,.int f1] 0=some (.int f0):=rfl
 have a1:atI [D.int f0,.int f1] 1=some (.int f1):=rfl
 have c0':∀p q:D,atI [p,q] 0=some p:=fun _ _=>rfl
 have c1':∀p q:D,atI [p,q] 1=some q:=fun _ _=>rfl
 have n0:O7 2 0=some 0:=rfl
 have n1:O7 2 1=some 1:=rfl
 have gx:∀i j:Int,E7 [.int i,.int j]=some (.int (if j > i then j else i)):=fun _ _=>rfl
 generalize E7=GX2 at *
 unfold plB
 rcases hl with⟨z,rfl⟩ | ⟨z,rfl,rfl⟩ | ⟨z,rfl,rfl⟩<;>rcases hxy with⟨y1,rfl,rfl⟩ | ⟨y1,y2,rfl,rfl⟩ | ⟨y1,y2,rfl,rfl⟩<;>cases o9<;>simp only[ows]<;>walk_at "eh" <;>try rfl
theorem a5R(w:T3)(b:Bool):z0 [t3 w,.bl b]=some (.ret (.tup [.int (if b=true then w.2.1 else w.1),.int (if b=true then w.1 else w.2.1)])):=by
 cases b<;>rfl
theorem a95(CE:List D→Option R1)(LO:SF)(ns:List Int)(W:D)(u c0:Int)(A:List D)(s5 s6 s7 s8 s9 s10:Sl)(k0:CE [.scr ns,.int 0]=some (.ret (.int c0)))(h:LO [.fz (.scr ns),.fz W,.fz (.int u),.ow [],.fz (.int (c0/4%3)),.ow [.int 0,.int 0],.no,.no,.no,.no,.no]=some (.nx [.fz (.scr ns),.fz W,.fz (.int u),.ow A,.fz (.int (c0/4%3)),s5,s6,s7,s8,s9,s10])):fD 11 3 (c7 (v8 3 (eL aN)) (c7 (k8 4 (eB i3 (eB p7 (j0 CE (aC (eV 0) (aC (eC (.int 0)) aN))) (eC (.int 4))) (eC (.int 3)))) (c7 (v8 5 (eL (aC (eC (.int 0)) (aC (eC (.int 0)) aN)))) (c7 LO (E6 3))))) [.scr ns,W,.int u]=some (.own A):=by
 walk_at "eh"
theorem a4L(ns:List Int)(W:List T3)(hW:W.length≤10)(u:Int):∃P:List T3,P.length=W.length∧C3 [.scr ns,.lst (W.map t3),.int u]=some (.own (P.map t3)):=by
 obtain⟨e',g,P,f0,f1,o6,o7,o8,o9,o10,hP,rfl⟩:=a2_ (b:=g7 6) (body:=plB i7 z0) (fun(k:Nat)=>D.int (k:Int)) (fun pre e=>∃(P:List T3) (f0 f1:Int) (o6 o7 o8:Option D) (o9:Option (List D)) (o10:Option D),P.length=pre.length∧e=[.fz (.scr ns),.fz (.lst (W.map t3)),.fz (.int u),.ow (P.map t3),.fz (.int (j6 ns 0/4%3)),.ow [.int f0,.int f1],un o6,un o7,un o8,ows o9,un o10]) (List.range W.length) [.fz (.scr ns),.fz (.lst (W.map t3)),.fz (.int u),.ow [],.fz (.int (j6 ns 0/4%3)),.ow [.int 0,.int 0],.no,.no,.no,.no,.no] ⟨[],0,0,none,none,none,none,none,rfl,rfl⟩ (by
  rintro pre k post e hq ⟨P,f0,f1,o6,o7,o8,o9,o10,hP,rfl⟩
  have hk:k<W.length:=List.mem_range.mp (by rw[hq];simp)
  have hpl:pre.length<W.length:=by have:=congrArg List.length hq;rw[List.length_range,List.length_append,List.length_cons]at this;omega
  have hb:g7 6 (.int (k:Int)) [.fz (.scr ns),.fz (.lst (W.map t3)),.fz (.int u),.ow (P.map t3),.fz (.int (j6 ns 0/4%3)),.ow [.int f0,.int f1],un o6,un o7,un o8,ows o9,un o10]=some [.fz (.scr ns),.fz (.lst (W.map t3)),.fz (.int u),.ow (P.map t3),.fz (.int (j6 ns 0/4%3)),.ow [.int f0,.int f1],.fz (.int (k:Int)),un o7,un o8,ows o9,un o10]:=by cases o6<;>rfl
  rw[hb,S0]
  obtain⟨c,hc⟩:∃c,j6 ns (7+(k:Int))=c:=⟨_,rfl⟩
  have kc:=K9 (ns:=ns) (k:=7+(k:Int)) (by omega)
  rw[hc]at kc
  obtain⟨b,hl⟩:∃b:Bool,(¬c%2=1∧false=b)∨(c%2=1∧W[k].2.2=true∧true=b)∨(c%2=1∧W[k].2.2=false∧decide (j6 ns 0/12%8=3)=b):=by
   by_cases z:c%2=1
   ·cases ht:W[k].2.2
    ·exact⟨_,.inr (.inr ⟨z,rfl,rfl⟩)⟩
    ·exact⟨_,.inr (.inl ⟨z,rfl,rfl⟩)⟩
   ·exact⟨_,.inl ⟨z,rfl⟩⟩
  obtain⟨x,y,hxy⟩:∃x y:Int,(¬j6 ns 0/4%3 > 0∧u*(c/2%7)=x∧u*(c/14%7)-c/98%3=y)∨(j6 ns 0/4%3 > 0∧c/14%2=0∧f0+c/28%3=x∧u*(c/14%7)-c/98%3=y)∨(j6 ns 0/4%3 > 0∧c/14%2=1∧u*(c/2%7)=x∧f1+c/28%3=y):=by
   by_cases z:j6 ns 0/4%3 > 0
   ·rcases(show c/14%2=0∨c/14%2=1 by omega)with e | e
    ·exact⟨_,_,.inr (.inl ⟨z,e,rfl,rfl⟩)⟩
    ·exact⟨_,_,.inr (.inr ⟨z,e,rfl,rfl⟩)⟩
   ·exact⟨_,_,.inl ⟨z,rfl,rfl⟩⟩
  have st:=a94 i7 z0 ns (W.map t3) (P.map t3) u (j6 ns 0/4%3) f0 f1 (k:Int) c (j6 ns 0) W[k].1 W[k].2.1 x y _ _ W[k].2.2 b o7 o8 o9 o10 kc (K9 (by omega)) (G7 (by rw[List.getElem?_map,List.getElem?_eq_getElem hk];rfl)) (J9 (by omega)) (J9 (by omega)) (a5R W[k] b) (by rw[List.length_map];show _<2 ^ 24;omega) hxy hl
  refine⟨_,(congrArg N5 st).trans rfl,P++[(x,y,b)],(if x+(if b=true then W[k].2.1 else W[k].1) > f0 then x+(if b=true then W[k].2.1 else W[k].1)else f0),(if y+(if b=true then W[k].1 else W[k].2.1) > f1 then y+(if b=true then W[k].1 else W[k].2.1)else f1),some (.int (k:Int)),some (.int c),some (.bl b),some [.int x,.int y],some (.tup [.int (if b=true then W[k].2.1 else W[k].1),.int (if b=true then W[k].1 else W[k].2.1)]),by rw[List.length_append,List.length_append,hP];rfl,?_⟩
  rw[List.map_append]
  rfl)
 rw[List.length_range]at hP
 have e0:(aC (P7 D0 1) aN) [.fz (.scr ns),.fz (.lst (W.map t3)),.fz (.int u),.ow [],.fz (.int (j6 ns 0/4%3)),.ow [.int 0,.int 0],.no,.no,.no,.no,.no]=some (.ok [.int ((W.map t3).length:Int)] [.fz (.scr ns),.fz (.lst (W.map t3)),.fz (.int u),.ow [],.fz (.int (j6 ns 0/4%3)),.ow [.int 0,.int 0],.no,.no,.no,.no,.no]):=rfl
 rw[List.length_map]at e0
 have hlo:=a3d (b:=g7 6) (body:=plB i7 z0) e0 (Z1 (by omega))
 rw[a2x]at hlo
 exact⟨P,hP,a95 i7 (R7 D1 (aC (P7 D0 1) aN) (g7 6) (plB i7 z0)) ns _ u (j6 ns 0) _ _ _ _ _ _ _ (K9 (by omega)) (hlo.trans g)⟩
def go(lie:Nat→Bool)(S:Nat→T4):Pp→(Bool×List Int) ⊕ (Nat×Nat)
 | .ch w ks=>.inl (w,ks)
 | .tu k a b=>if lie k=true then go lie S b else go lie S a
 | .pr i j a b c d=>if(S i).2.2.1≤(S j).1 then go lie S a else if(S j).2.2.1≤(S i).1 then go lie S b else if(S i).2.2.2≤(S j).2.1 then go lie S c else if(S j).2.2.2≤(S i).2.1 then go lie S d else .inr (i,j)
def r1X(v:D):Option XN→Option R1
 | none=>some (.ret v)
 | some y=>some (.ex y)
def rsX(e:DE):Option XN→Option RS
 | none=>some (.nx e)
 | some y=>some (.ex y)
theorem a96(S:List D)(i j:Int)(s t:T4)(a b c d v:D)(x:Option XN)(h1:atI S i=some (t4 s))(h2:atI S j=some (t4 t))(hc:(s.2.2.1≤t.1∧a=v∧none=x)∨(¬s.2.2.1≤t.1∧t.2.2.1≤s.1∧b=v∧none=x)∨(¬s.2.2.1≤t.1∧¬t.2.2.1≤s.1∧s.2.2.2≤t.2.1∧c=v∧none=x)∨(¬s.2.2.1≤t.1∧¬t.2.2.1≤s.1∧¬s.2.2.2≤t.2.1∧t.2.2.2≤s.2.1∧d=v∧none=x)∨(¬s.2.2.1≤t.1∧¬t.2.2.1≤s.1∧¬s.2.2.2≤t.2.1∧¬t.2.2.2≤s.2.1∧some (XN.v "BadPacking" "why" (.tup [.str "over",.int i,.int j]))=x)) :
  i4 [.lst S,.tup [.str "pair",.int i,.int j,a,b,c,d]]=r1X v x:=by
 unfold i4 M7
 rcases hc with⟨z,rfl,rfl⟩ | ⟨z,z2,rfl,rfl⟩ | ⟨z,z2,z3,rfl,rfl⟩ | ⟨z,z2,z3,z4,rfl,rfl⟩ | ⟨z,z2,z3,z4,rfl⟩<;>walk_at "eh" <;>try rfl
abbrev ldC:BF:=(bZ (eB (v9 true) (eB d6 (eV 4) (eC (.int 0))) (eC (.str "chain"))))
abbrev ldB(PB:List D→Option R1):SF:=(y0 (bZ (eB (v9 false) (eB d6 (eV 4) (eC (.int 0))) (eC (.str "turn")))) (k8 4 (eIf (bZ (eB d6 (i8 g8 1 (eB d6 (eV 4) (eC (.int 1)))) (eC (.int 2)))) (eB d6 (eV 4) (eC (.int 3))) (eB d6 (eV 4) (eC (.int 2))))) (V7 4 PB (aC (eV 3) (aC (eV 4) aN))))
theorem a9v(s0 s1 s2 s3:Sl)(w:Bool)(ks:List Int):ldC [s0,s1,s2,s3,.fz (g5 (.ch w ks))]=some (.ok false [s0,s1,s2,s3,.fz (g5 (.ch w ks))]):=rfl
theorem a85(s0 s1 s2 s3:Sl)(k:Nat)(a b:Pp):ldC [s0,s1,s2,s3,.fz (g5 (.tu k a b))]=some (.ok true [s0,s1,s2,s3,.fz (g5 (.tu k a b))]):=rfl
theorem a2A(s0 s1 s2 s3:Sl)(i j:Nat)(a b c d:Pp):ldC [s0,s1,s2,s3,.fz (g5 (.pr i j a b c d))]=some (.ok true [s0,s1,s2,s3,.fz (g5 (.pr i j a b c d))]):=rfl
theorem a9w(PB:List D→Option R1)(B:List D)(k:Int)(x y:Int)(l:Bool)(a b:D)(s0 s2 s3:Sl)(h:atI B k=some (.tup [.int x,.int y,.bl l])):ldB PB [s0,.fz (.lst B),s2,s3,.fz (.tup [.str "turn",.int k,a,b])]=some (.nx [s0,.fz (.lst B),s2,s3,.fz (if l=true then b else a)]):=by
 unfold ldB
 cases l
 ·walk_at "eh"
 ·walk_at "eh"
theorem a9x(PB:List D→Option R1)(S:List D)(p v:D)(x:Option XN)(s0 s1 s2 s3:Sl)(h3:s3=.ow S∨s3=.fz (.lst S))(i j:Int)(a b c d:D)(hp:p=.tup [.str "pair",.int i,.int j,a,b,c,d])(h:PB [.lst S,p]=r1X v x):ldB PB [s0,s1,s2,s3,.fz p]=rsX [s0,s1,s2,.fz (.lst S),.fz v] x:=by
 subst hp
 unfold ldB
 rcases h3 with rfl | rfl<;>cases x<;>simp only[r1X,rsX]at h ⊢ <;>walk_at "eh" <;>try rfl
theorem t7{c:BF}{body:SF}{n:Nat}{e e1 e2:DE}(h1:c e=some (.ok true e1))(h2:body e1=some (.nx e2)):r8 c body (n+1) e=r8 c body n e2:=by
 rw[r8,h1,T9,if_pos rfl,h2]
theorem a01{c:BF}{body:SF}{n:Nat}{e e1:DE}(h1:c e=some (.ok false e1)):r8 c body (n+1) e=some (.nx e1):=by
 rw[r8,h1,T9];rfl
theorem a4N{c:BF}{body:SF}{n:Nat}{e e1:DE}{x:XN}(h1:c e=some (.ok true e1))(h2:body e1=some (.ex x)):r8 c body (n+1) e=some (.ex x):=by
 rw[r8,h1,T9,if_pos rfl,h2]
theorem a4O{c:BF}{body:SF}{n:Nat}{e e1:DE}{x:D}(h1:c e=some (.ok true e1))(h2:body e1=some (.rt x)):r8 c body (n+1) e=some (.rt x):=by
 rw[r8,h1,T9,if_pos rfl,h2]
theorem L5(L:List (T3×T3))(lie:Nat→Bool)(S:Nat→T4)(hlie:∀k,k<L.length→atI (L.map pD) (k:Int)=some (.tup [.int (L.getD k ((0,0,false),(0,0,false))).2.1,.int (L.getD k ((0,0,false),(0,0,false))).2.2.1,.bl (lie k)]))(hS:∀k,k<L.length→atI (L.map sD) (k:Int)=some (t4 (S k)))(A C:D):∀(P:Pp) (f:Nat) (s3:Sl),X0 L.length P→dp P<f→(s3=.ow (L.map sD)∨s3=.fz (.lst (L.map sD)))→∃s3',r8 ldC (ldB i4) f [.fz A,.fz (.lst (L.map pD)),.fz C,s3,.fz (g5 P)]=match go lie S P with | .inl q=>some (.nx [.fz A,.fz (.lst (L.map pD)),.fz C,s3',.fz (g5 (.ch q.1 q.2))]) | .inr q=>some (.ex (.v "BadPacking" "why" (.tup [.str "over",.int (q.1:Int),.int (q.2:Int)])))
 | .ch w ks,f,s3,_,hf,h3=>by
  obtain⟨m,rfl⟩:∃m,f=m+1:=⟨f-1,by omega⟩
  exact⟨s3,a01 (a9v _ _ _ _ w ks)⟩
 | .tu k a b,f,s3,⟨hk,oa,ob⟩,hf,h3=>by
  simp only[dp]at hf
  obtain⟨m,rfl⟩:∃m,f=m+1:=⟨f-1,by omega⟩
  have st:=a9w i4 (L.map pD) (k:Int) _ _ (lie k) (g5 a) (g5 b) (.fz A) (.fz C) s3 (hlie k hk)
  cases hl:lie k with
  | true =>
   rw[hl,if_pos rfl]at st
   obtain⟨s',ih⟩:=L5 L lie S hlie hS A C b m s3 ob (by omega) h3
   refine⟨s',(t7 (a85 _ _ _ _ k a b) st).trans (ih.trans ?_)⟩
   simp only[go,hl,if_true]
  | false =>
   rw[hl,if_neg (by decide)]at st
   obtain⟨s',ih⟩:=L5 L lie S hlie hS A C a m s3 oa (by omega) h3
   refine⟨s',(t7 (a85 _ _ _ _ k a b) st).trans (ih.trans ?_)⟩
   simp only[go,hl,Bool.false_eq_true,if_false]
 | .pr i j a b c d,f,s3,⟨hi,hj,oa,ob,oc,od⟩,hf,h3=>by
  simp only[dp]at hf
  obtain⟨m,rfl⟩:∃m,f=m+1:=⟨f-1,by omega⟩
  have B:=fun(v:D) (x:Option XN) hc=>a9x i4 (L.map sD) (g5 (.pr i j a b c d)) v x (.fz A) (.fz (.lst (L.map pD))) (.fz C) s3 h3 (i:Int) (j:Int) (g5 a) (g5 b) (g5 c) (g5 d) rfl (a96 (L.map sD) (i:Int) (j:Int) (S i) (S j) (g5 a) (g5 b) (g5 c) (g5 d) v x (hS i hi) (hS j hj) hc)
  have h3':(Sl.fz (.lst (L.map sD))=.ow (L.map sD)∨Sl.fz (.lst (L.map sD))=.fz (.lst (L.map sD))):=.inr rfl
  by_cases c1:(S i).2.2.1≤(S j).1
  ·obtain⟨s',ih⟩:=L5 L lie S hlie hS A C a m _ oa (by omega) h3'
   refine⟨s',(t7 (a2A _ _ _ _ i j a b c d) (B (g5 a) none (.inl ⟨c1,rfl,rfl⟩))).trans (ih.trans ?_)⟩
   simp only[go,if_pos c1]
  ·by_cases c2:(S j).2.2.1≤(S i).1
   ·obtain⟨s',ih⟩:=L5 L lie S hlie hS A C b m _ ob (by omega) h3'
    refine⟨s',(t7 (a2A _ _ _ _ i j a b c d) (B (g5 b) none (.inr (.inl ⟨c1,c2,rfl,rfl⟩)))).trans (ih.trans ?_)⟩
    simp only[go,if_neg c1,if_pos c2]
   ·by_cases c3:(S i).2.2.2≤(S j).2.1
    ·obtain⟨s',ih⟩:=L5 L lie S hlie hS A C c m _ oc (by omega) h3'
     refine⟨s',(t7 (a2A _ _ _ _ i j a b c d) (B (g5 c) none (.inr (.inr (.inl ⟨c1,c2,c3,rfl,rfl⟩))))).trans (ih.trans ?_)⟩
     simp only[go,if_neg c1,if_neg c2,if_pos c3]
    ·by_cases c4:(S j).2.2.2≤(S i).2.1
     ·obtain⟨s',ih⟩:=L5 L lie S hlie hS A C d m _ od (by omega) h3'
      refine⟨s',(t7 (a2A _ _ _ _ i j a b c d) (B (g5 d) none (.inr (.inr (.inr (.inl ⟨c1,c2,c3,c4,rfl,rfl⟩)))))).trans (ih.trans ?_)⟩
      simp only[go,if_neg c1,if_neg c2,if_neg c3,if_pos c4]
     ·refine⟨s3,(a4N (a2A _ _ _ _ i j a b c d) (B .non (some _) (.inr (.inr (.inr (.inr ⟨c1,c2,c3,c4,rfl⟩)))))).trans ?_⟩
      simp only[go,if_neg c1,if_neg c2,if_neg c3,if_neg c4]
theorem a7V(SP:List D→Option R1)(WL:SF)(A B C:D)(x:XN)(h:SP [A,B]=some (.ex x)):fD 5 3 (c7 (V7 3 SP (aC (eV 0) (aC (eV 1) aN))) (c7 (k8 4 (eV 2)) (c7 WL (E6 4)))) [A,B,C]=some (.ex x):=by
 walk_at "eh"
theorem a6u(SP:List D→Option R1)(WL:SF)(A B C v:D)(S:List D)(s3:Sl)(x:Option XN)(h:SP [A,B]=some (.own S))(hw:WL [.fz A,.fz B,.fz C,.ow S,.fz C]=rsX [.fz A,.fz B,.fz C,s3,.fz v] x):fD 5 3 (c7 (V7 3 SP (aC (eV 0) (aC (eV 1) aN))) (c7 (k8 4 (eV 2)) (c7 WL (E6 4)))) [A,B,C]=r1X v x:=by
 cases x<;>simp only[r1X,rsX]at hw ⊢ <;>walk_at "eh"
abbrev duC:BF:=(bZ (eB (v9 true) (eB d6 (eV 2) (eC (.int 0))) (eC (.str "chain"))))
abbrev duB(GL:D→D→Option D):SF:=(y0 (bZ (eB (v9 false) (eB d6 (eV 2) (eC (.int 0))) (eC (.str "turn")))) (k8 2 (eB d6 (eV 2) (eB i5 (eC (.int 2)) (C5 (g1 W1) (aC (eB d6 (i8 g8 1 (eB d6 (eV 2) (eC (.int 1)))) (eC (.int 2))) aN))))) (c7 (k8 4 (i8 g8 3 (eB d6 (eV 2) (eC (.int 1))))) (c7 (k8 5 (i8 g8 3 (eB d6 (eV 2) (eC (.int 2))))) (c7 (v8 6 (eL (aC (eB GL (eB d6 (eV 4) (eC (.int 2))) (eB d6 (eV 5) (eC (.int 0)))) (aC (eB GL (eB d6 (eV 5) (eC (.int 2))) (eB d6 (eV 4) (eC (.int 0)))) (aC (eB GL (eB d6 (eV 4) (eC (.int 3))) (eB d6 (eV 5) (eC (.int 1)))) (aC (eB GL (eB d6 (eV 5) (eC (.int 3))) (eB d6 (eV 4) (eC (.int 1)))) aN)))))) (c7 (y0 (P6 (bZ (C5 (g1 V6) (aC (eV 6) aN)))) (p8 (eT (aC (eC (.str "over")) (aC (eB d6 (eV 2) (eC (.int 1))) (aC (eB d6 (eV 2) (eC (.int 2))) aN))))) A0) (k8 2 (eB d6 (eV 2) (eB i5 (eC (.int 3)) (a0e 6 (eC (.bl true)))))))))))
theorem a9y(s0 s1 s3 s4 s5 s6:Sl)(w:Bool)(ks:List Int):duC [s0,s1,.fz (g5 (.ch w ks)),s3,s4,s5,s6]=some (.ok false [s0,s1,.fz (g5 (.ch w ks)),s3,s4,s5,s6]):=rfl
theorem a86(s0 s1 s3 s4 s5 s6:Sl)(k:Nat)(a b:Pp):duC [s0,s1,.fz (g5 (.tu k a b)),s3,s4,s5,s6]=some (.ok true [s0,s1,.fz (g5 (.tu k a b)),s3,s4,s5,s6]):=rfl
theorem a2C(s0 s1 s3 s4 s5 s6:Sl)(i j:Nat)(a b c d:Pp):duC [s0,s1,.fz (g5 (.pr i j a b c d)),s3,s4,s5,s6]=some (.ok true [s0,s1,.fz (g5 (.pr i j a b c d)),s3,s4,s5,s6]):=rfl
theorem a9z(GL:D→D→Option D)(B:List D)(k:Int)(x y:Int)(l:Bool)(a b:D)(s0 s3 s4 s5 s6:Sl)(h:atI B k=some (.tup [.int x,.int y,.bl l])):duB GL [s0,.fz (.lst B),.fz (.tup [.str "turn",.int k,a,b]),s3,s4,s5,s6]=some (.nx [s0,.fz (.lst B),.fz (if l=true then b else a),s3,s4,s5,s6]):=by
 have g0:W1 (.bl l)=some (.int (if l=true then 1 else 0)):=by cases l<;>rfl
 have a2:atI [D.str "turn",.int k,a,b] (2+0)=some a:=rfl
 have a3:atI [D.str "turn",.int k,a,b] (2+1)=some b:=rfl
 generalize W1=GI at *
 unfold duB
 cases l<;>simp only[Bool.false_eq_true,if_false,if_true]at g0<;>walk_at "eh" <;>try rfl
theorem a9A(GL:D→D→Option D)(S:List D)(i j:Int)(s t:T4)(a b c d v:D)(r b1 b2 b3 b4:Bool)(s0 s1:Sl)(o4 o5 o6:Option D)(h1:atI S i=some (t4 s))(h2:atI S j=some (t4 t))(k1:GL (.int s.2.2.1) (.int t.1)=some (.bl b1))(k2:GL (.int t.2.2.1) (.int s.1)=some (.bl b2))(k3:GL (.int s.2.2.2) (.int t.2.1)=some (.bl b3))(k4:GL (.int t.2.2.2) (.int s.2.1)=some (.bl b4))(hc:(b1=true∧a=v∧false=r)∨(b1=false∧b2=true∧b=v∧false=r)∨(b1=false∧b2=false∧b3=true∧c=v∧false=r)∨(b1=false∧b2=false∧b3=false∧b4=true∧d=v∧false=r)∨(b1=false∧b2=false∧b3=false∧b4=false∧.tup [.str "over",.int i,.int j]=v∧true=r)) :
  duB GL [s0,s1,.fz (.tup [.str "pair",.int i,.int j,a,b,c,d]),.ow S,un o4,un o5,un o6]=if r=true then some (.rt v)else some (.nx [s0,s1,.fz v,.ow S,.fz (t4 s),.fz (t4 t),.fz (.lst [.bl b1,.bl b2,.bl b3,.bl b4])]):=by
 have p3:atI [D.str "pair",.int i,.int j,a,b,c,d] (3+0)=some a:=rfl
 have p4:atI [D.str "pair",.int i,.int j,a,b,c,d] (3+1)=some b:=rfl
 have p5:atI [D.str "pair",.int i,.int j,a,b,c,d] (3+2)=some c:=rfl
 have p6:atI [D.str "pair",.int i,.int j,a,b,c,d] (3+3)=some d:=rfl
 have hA:V6 (.lst [.bl b1,.bl b2,.bl b3,.bl b4])=some (.bl (b1 || (b2 || (b3 || b4)))):=by cases b1<;>cases b2<;>cases b3<;>cases b4<;>rfl
 have hz:∀(s0 s1 s2 s3 s4 s5:Sl),(b1 || (b2 || (b3 || b4)))=true→a0e 6 (eC (.bl true)) [s0,s1,s2,s3,s4,s5,.fz (.lst [.bl b1,.bl b2,.bl b3,.bl b4])]=some (.ok (.int (if b1=true then 0 else if b2=true then 1 else if b3=true then 2 else 3)) [s0,s1,s2,s3,s4,s5,.fz (.lst [.bl b1,.bl b2,.bl b3,.bl b4])]):=fun _ _ _ _ _ _ h=>by
  cases b1<;>cases b2<;>cases b3<;>cases b4<;>first | rfl | exact absurd h (by decide)
 unfold duB
 generalize V6=GA at *
 generalize a0e 6 (eC (.bl true))=ZI at *
 rcases hc with⟨rfl,rfl,rfl⟩ | ⟨rfl,rfl,rfl,rfl⟩ | ⟨rfl,rfl,rfl,rfl,rfl⟩ | ⟨rfl,rfl,rfl,rfl,rfl,rfl⟩ | ⟨rfl,rfl,rfl,rfl,rfl,rfl⟩
 ·have hz:=fun s0 s1 s2 s3 s4 s5=>hz s0 s1 s2 s3 s4 s5 rfl
  simp only[Bool.true_or,if_true]at hA hz
  walk_at "eh"
  try rfl
 ·have hz:=fun s0 s1 s2 s3 s4 s5=>hz s0 s1 s2 s3 s4 s5 rfl
  simp only[Bool.false_or,Bool.true_or,if_true,Bool.false_eq_true,if_false]at hA hz
  walk_at "eh"
  try rfl
 ·have hz:=fun s0 s1 s2 s3 s4 s5=>hz s0 s1 s2 s3 s4 s5 rfl
  simp only[Bool.false_or,Bool.true_or,if_true,Bool.false_eq_true,if_false]at hA hz
  walk_at "eh"
  try rfl
 ·have hz:=fun s0 s1 s2 s3 s4 s5=>hz s0 s1 s2 s3 s4 s5 rfl
  simp only[Bool.false_or,Bool.true_or,if_true,Bool.false_eq_true,if_false]at hA hz
  walk_at "eh"
  try rfl
 ·clear hz
  simp only[Bool.false_or]at hA
  walk_at "eh"
  try rfl
theorem Q5(L:List (T3×T3))(lie:Nat→Bool)(S:Nat→T4)(hlie:∀k,k<L.length→atI (L.map pD) (k:Int)=some (.tup [.int (L.getD k ((0,0,false),(0,0,false))).2.1,.int (L.getD k ((0,0,false),(0,0,false))).2.2.1,.bl (lie k)]))(hS:∀k,k<L.length→atI (L.map sD) (k:Int)=some (t4 (S k)))(A:D):∀(P:Pp) (f:Nat) (o4 o5 o6:Option D),X0 L.length P→dp P<f→∃q4 q5 q6:Option D,r8 duC (duB J1) f [.fz A,.fz (.lst (L.map pD)),.fz (g5 P),.ow (L.map sD),un o4,un o5,un o6]=match go lie S P with | .inl q=>some (.nx [.fz A,.fz (.lst (L.map pD)),.fz (g5 (.ch q.1 q.2)),.ow (L.map sD),un q4,un q5,un q6]) | .inr q=>some (.rt (.tup [.str "over",.int (q.1:Int),.int (q.2:Int)]))
 | .ch w ks,f,o4,o5,o6,_,hf=>by
  obtain⟨m,rfl⟩:∃m,f=m+1:=⟨f-1,by omega⟩
  exact⟨o4,o5,o6,a01 (a9y _ _ _ _ _ _ w ks)⟩
 | .tu k a b,f,o4,o5,o6,⟨hk,oa,ob⟩,hf=>by
  simp only[dp]at hf
  obtain⟨m,rfl⟩:∃m,f=m+1:=⟨f-1,by omega⟩
  have st:=a9z J1 (L.map pD) (k:Int) _ _ (lie k) (g5 a) (g5 b) (.fz A) (.ow (L.map sD)) (un o4) (un o5) (un o6) (hlie k hk)
  cases hl:lie k with
  | true =>
   rw[hl,if_pos rfl]at st
   obtain⟨q4,q5,q6,ih⟩:=Q5 L lie S hlie hS A b m o4 o5 o6 ob (by omega)
   refine⟨q4,q5,q6,(t7 (a86 _ _ _ _ _ _ k a b) st).trans (ih.trans ?_)⟩
   simp only[go,hl,if_true]
  | false =>
   rw[hl,if_neg (by decide)]at st
   obtain⟨q4,q5,q6,ih⟩:=Q5 L lie S hlie hS A a m o4 o5 o6 oa (by omega)
   refine⟨q4,q5,q6,(t7 (a86 _ _ _ _ _ _ k a b) st).trans (ih.trans ?_)⟩
   simp only[go,hl,Bool.false_eq_true,if_false]
 | .pr i j a b c d,f,o4,o5,o6,⟨hi,hj,oa,ob,oc,od⟩,hf=>by
  simp only[dp]at hf
  obtain⟨m,rfl⟩:∃m,f=m+1:=⟨f-1,by omega⟩
  have B:=fun(v:D) (r:Bool) hc=>a9A J1 (L.map sD) (i:Int) (j:Int) (S i) (S j) (g5 a) (g5 b) (g5 c) (g5 d) v r _ _ _ _ (.fz A) (.fz (.lst (L.map pD))) o4 o5 o6 (hS i hi) (hS j hj) (rfl:J1 (.int (S i).2.2.1) (.int (S j).1)=some (.bl (decide ((S i).2.2.1≤(S j).1)))) (rfl:J1 (.int (S j).2.2.1) (.int (S i).1)=some (.bl (decide ((S j).2.2.1≤(S i).1)))) (rfl:J1 (.int (S i).2.2.2) (.int (S j).2.1)=some (.bl (decide ((S i).2.2.2≤(S j).2.1)))) (rfl:J1 (.int (S j).2.2.2) (.int (S i).2.1)=some (.bl (decide ((S j).2.2.2≤(S i).2.1)))) hc
  by_cases c1:(S i).2.2.1≤(S j).1
  ·obtain⟨q4,q5,q6,ih⟩:=Q5 L lie S hlie hS A a m (some (t4 (S i))) (some (t4 (S j))) (some _) oa (by omega)
   refine⟨q4,q5,q6,(t7 (a2C _ _ _ _ _ _ i j a b c d) (B (g5 a) false (.inl ⟨decide_eq_true c1,rfl,rfl⟩))).trans (ih.trans ?_)⟩
   simp only[go,if_pos c1]
  ·by_cases c2:(S j).2.2.1≤(S i).1
   ·obtain⟨q4,q5,q6,ih⟩:=Q5 L lie S hlie hS A b m (some (t4 (S i))) (some (t4 (S j))) (some _) ob (by omega)
    refine⟨q4,q5,q6,(t7 (a2C _ _ _ _ _ _ i j a b c d) (B (g5 b) false (.inr (.inl ⟨decide_eq_false c1,decide_eq_true c2,rfl,rfl⟩)))).trans (ih.trans ?_)⟩
    simp only[go,if_neg c1,if_pos c2]
   ·by_cases c3:(S i).2.2.2≤(S j).2.1
    ·obtain⟨q4,q5,q6,ih⟩:=Q5 L lie S hlie hS A c m (some (t4 (S i))) (some (t4 (S j))) (some _) oc (by omega)
     refine⟨q4,q5,q6,(t7 (a2C _ _ _ _ _ _ i j a b c d) (B (g5 c) false (.inr (.inr (.inl ⟨decide_eq_false c1,decide_eq_false c2,decide_eq_true c3,rfl,rfl⟩))))).trans (ih.trans ?_)⟩
     simp only[go,if_neg c1,if_neg c2,if_pos c3]
    ·by_cases c4:(S j).2.2.2≤(S i).2.1
     ·obtain⟨q4,q5,q6,ih⟩:=Q5 L lie S hlie hS A d m (some (t4 (S i))) (some (t4 (S j))) (some _) od (by omega)
      refine⟨q4,q5,q6,(t7 (a2C _ _ _ _ _ _ i j a b c d) (B (g5 d) false (.inr (.inr (.inr (.inl ⟨decide_eq_false c1,decide_eq_false c2,decide_eq_false c3,decide_eq_true c4,rfl,rfl⟩)))))).trans (ih.trans ?_)⟩
      simp only[go,if_neg c1,if_neg c2,if_neg c3,if_pos c4]
     ·refine⟨o4,o5,o6,(a4O (a2C _ _ _ _ _ _ i j a b c d) (B _ true (.inr (.inr (.inr (.inr ⟨decide_eq_false c1,decide_eq_false c2,decide_eq_false c3,decide_eq_false c4,rfl,rfl⟩)))))).trans ?_⟩
      simp only[go,if_neg c1,if_neg c2,if_neg c3,if_neg c4]
theorem a5S(q:T3×T3):E1 [t3 q.1,t3 q.2]=some (.ret (t4 (spt q))):=by
 obtain⟨⟨w,h,t⟩,x,y,l⟩:=q
 cases l<;>rfl
theorem a97(W P:List D)(k:Int)(a b c d:Int)(l t:Bool)(h1:atI P k=some (.tup [.int a,.int b,.bl l]))(h2:atI W k=some (.tup [.int c,.int d,.bl t])):(a2a (bZ (eB d6 (i8 g8 1 (eV 0)) (eC (.int 2)))) (P6 (bZ (eB d6 (i8 g8 2 (eV 0)) (eC (.int 2)))))) [.fz (.int k),.fz (.lst P),.fz (.lst W)]=some (.ok (l && !t) [.fz (.int k),.fz (.lst P),.fz (.lst W)]):=by
 cases l<;>cases t<;>walk_at "eh"
theorem a9B(L:List (T3×T3))(hl:L.length≤100)(s2 s3 s4 s5 s6:Sl):(B6 D1 1 [1,0] (aC (P7 D0 0) aN) (g7 0) (a2a (bZ (eB d6 (i8 g8 1 (eV 0)) (eC (.int 2)))) (P6 (bZ (eB d6 (i8 g8 2 (eV 0)) (eC (.int 2)))))) (eV 0)) [.fz (.lst (L.map wD)),.fz (.lst (L.map pD)),s2,s3,s4,s5,s6]=some (.ok (((List.range L.length).filter fun k=>(L[k]?).any K5).map fun(k:Nat)=>D.int (k:Int)) [.fz (.lst (L.map wD)),.fz (.lst (L.map pD)),s2,s3,s4,s5,s6]):=by
 have e0:(aC (P7 D0 0) aN) [.fz (.lst (L.map wD)),.fz (.lst (L.map pD)),s2,s3,s4,s5,s6]=some (.ok [.int ((L.map wD).length:Int)] [.fz (.lst (L.map wD)),.fz (.lst (L.map pD)),s2,s3,s4,s5,s6]):=rfl
 rw[List.length_map]at e0
 unfold B6
 rw[e0,P5,Z1 (by omega)]
 show j8 (g7 0) _ (eV 0) [.no,.fz (.lst (L.map pD)),.fz (.lst (L.map wD))] _ (B5 0 L.length) []=_
 rw[a2x]
 refine(B2 (fun(k:Nat)=>D.int (k:Int)) (fun(k:Nat)=>D.int (k:Int)) (fun k=>(L[k]?).any K5) (List.range L.length) [] (by rw[List.length_range];show 0+_≤2 ^ 24;omega) (fun k hk=>?_)).trans ?_
 ·have hk:=List.mem_range.mp hk
  refine⟨[.fz (.int (k:Int)),.fz (.lst (L.map pD)),.fz (.lst (L.map wD))],[.fz (.int (k:Int)),.fz (.lst (L.map pD)),.fz (.lst (L.map wD))],rfl,?_,fun _=>⟨_,rfl⟩⟩
  rw[List.getElem?_eq_getElem hk]
  exact a97 (L.map wD) (L.map pD) (k:Int) _ _ _ _ L[k].2.2.2 L[k].1.2.2 (G7 (by rw[List.getElem?_map,List.getElem?_eq_getElem hk];rfl)) (G7 (by rw[List.getElem?_map,List.getElem?_eq_getElem hk];rfl))
 ·rw[List.nil_append]
theorem a98(SP:List D→Option R1)(W P:List D)(k:Int)(w p s:D)(h1:atI W k=some w)(h2:atI P k=some p)(h:SP [w,p]=some (.ret s)):(j0 SP (aC (i8 g8 1 (eV 0)) (aC (i8 g8 2 (eV 0)) aN))) [.fz (.int k),.fz (.lst W),.fz (.lst P)]=some (.ok s [.fz (.int k),.fz (.lst W),.fz (.lst P)]):=by
 walk_at "eh"
theorem a7W{α:Type}(f:α→D)(d:α)(L:List α):((List.range L.length).map fun k=>f (L.getD k d))=L.map f:=by
 apply List.ext_getElem?
 intro j
 rw[List.getElem?_map,List.getElem?_map]
 by_cases h:j<L.length
 ·rw[List.getElem?_range h,List.getElem?_eq_getElem h]
  show some (f (L.getD j d))=_
  rw[List.getD_eq_getElem?_getD,List.getElem?_eq_getElem h]
  rfl
 ·rw[List.getElem?_eq_none (by rw[List.length_range];omega),List.getElem?_eq_none (by omega)]
  rfl
theorem a9C(L:List (T3×T3))(hl:L.length≤100)(s2 s3 s4 s5 s6:Sl):(B6 D1 1 [0,1] (aC (P7 D0 0) aN) (g7 0) l6 (j0 E1 (aC (i8 g8 1 (eV 0)) (aC (i8 g8 2 (eV 0)) aN)))) [.fz (.lst (L.map wD)),.fz (.lst (L.map pD)),s2,s3,s4,s5,s6]=some (.ok (L.map sD) [.fz (.lst (L.map wD)),.fz (.lst (L.map pD)),s2,s3,s4,s5,s6]):=by
 have e0:(aC (P7 D0 0) aN) [.fz (.lst (L.map wD)),.fz (.lst (L.map pD)),s2,s3,s4,s5,s6]=some (.ok [.int ((L.map wD).length:Int)] [.fz (.lst (L.map wD)),.fz (.lst (L.map pD)),s2,s3,s4,s5,s6]):=rfl
 rw[List.length_map]at e0
 unfold B6
 rw[e0,P5,Z1 (by omega)]
 show j8 (g7 0) l6 _ [.no,.fz (.lst (L.map wD)),.fz (.lst (L.map pD))] _ (B5 0 L.length) []=_
 rw[a2x]
 refine(B2 (fun(k:Nat)=>D.int (k:Int)) (fun(k:Nat)=>sD (L.getD k ((0,0,false),(0,0,false)))) (fun _=>true) (List.range L.length) [] (by rw[List.length_range];show 0+_≤2 ^ 24;omega) (fun k hk=>?_)).trans ?_
 ·have hk:=List.mem_range.mp hk
  refine⟨[.fz (.int (k:Int)),.fz (.lst (L.map wD)),.fz (.lst (L.map pD))],_,rfl,rfl,fun _=>⟨_,a98 E1 (L.map wD) (L.map pD) (k:Int) (wD L[k]) (pD L[k]) _ (G7 (by rw[List.getElem?_map,List.getElem?_eq_getElem hk];rfl)) (G7 (by rw[List.getElem?_map,List.getElem?_eq_getElem hk];rfl)) ?_⟩⟩
  rw[List.getD_eq_getElem?_getD,List.getElem?_eq_getElem hk]
  exact a5S L[k]
 ·rw[List.filter_eq_self.mpr (fun _ _=>rfl),List.nil_append,a7W sD]
theorem a9D(N1 N2:NF)(WL:SF)(A B C:D)(K:List D)(h1:N1 [.fz A,.fz B,.fz C,.no,.no,.no,.no]=some (.ok K [.fz A,.fz B,.fz C,.no,.no,.no,.no]))(hK:(K.length:Int) > 0):fD 7 3 (c7 (y0 (bZ (eB gGt (C5 (g1 D0) (aC (zN N1) aN)) (eC (.int 0)))) (p8 (eT (aC (eC (.str "turned")) (aC (eC (.int 0)) (aC (eC (.int 0)) aN))))) A0) (c7 (v8 3 N2) (c7 WL (E6 2)))) [A,B,C]=some (.ret (.tup [.str "turned",.int 0,.int 0])):=by
 walk_at "eh"
theorem a6v(N1 N2:NF)(WL:SF)(A B C v:D)(K S:List D)(s3 s4 s5 s6:Sl)(r:Bool)(h1:N1 [.fz A,.fz B,.fz C,.no,.no,.no,.no]=some (.ok K [.fz A,.fz B,.fz C,.no,.no,.no,.no]))(hK:¬(K.length:Int) > 0)(h2:N2 [.fz A,.fz B,.fz C,.no,.no,.no,.no]=some (.ok S [.fz A,.fz B,.fz C,.no,.no,.no,.no]))(hw:WL [.fz A,.fz B,.fz C,.ow S,.no,.no,.no]=if r=true then some (.rt v)else some (.nx [.fz A,.fz B,.fz v,s3,s4,s5,s6])):fD 7 3 (c7 (y0 (bZ (eB gGt (C5 (g1 D0) (aC (zN N1) aN)) (eC (.int 0)))) (p8 (eT (aC (eC (.str "turned")) (aC (eC (.int 0)) (aC (eC (.int 0)) aN))))) A0) (c7 (v8 3 N2) (c7 WL (E6 2)))) [A,B,C]=some (.ret v):=by
 cases r<;>simp only[Bool.false_eq_true,if_false,if_true]at hw<;>walk_at "eh"
theorem a9E(w:Bool)(ks:List Int)(hk:ks.length≤10):v5 [g5 (.ch w ks),g5 (.ch w ks)]=some (.ret (.bl true)):=by
 have e1:=a6s false (.ch w ks) (by show 0≤10;omega)
 have e2:(a0S 1 [] (eB d6 (eV 0) (eC (.int 2))) (g7 0) l6 (G1 0 "bool")) [.fz (g5 (.ch w ks)),.fz (g5 (.ch w ks))]=some (.ok (List.replicate ks.length (.bl false)) [.fz (g5 (.ch w ks)),.fz (g5 (.ch w ks))]):=by
  have:=B2 (b:=g7 0) (c:=l6) (el:=G1 0 "bool") (ec:=[.no]) (eo:=[.fz (g5 (.ch w ks)),.fz (g5 (.ch w ks))]) D.int (fun _=>D.bl false) (fun _=>true) ks [] (by show 0+_≤2 ^ 24;omega) (fun i m=>⟨[.fz (.int i)],_,rfl,rfl,fun _=>⟨_,rfl⟩⟩)
  rw[List.filter_eq_self.mpr (fun _ _=>rfl),List.nil_append,List.map_const']at this
  exact this
 have e3:V6 (.lst (List.replicate ks.length (.bl false)))=some (.bl false):=by
  have:∀n,E5 (List.replicate n (.bl false))=some (List.replicate n false):=by
   intro n
   induction n with
   | zero=>rfl
   | succ n ih =>
    show(E5 (List.replicate n (.bl false))).map (false :: ·)=_
    rw[ih]
    rfl
  show(E5 _).map _=_
  rw[this]
  show some (D.bl ((List.replicate ks.length false).any id))=_
  congr 2
  simp
 unfold v5 U3
 unfold g5 at *
 generalize (a0S 1 [] (eB d6 (eV 0) (eC (.int 2))) (g7 0) l6 (G1 0 "bool"))=CO at *
 generalize V6=GA at *
 generalize D3 false=GE at *
 walk_at "eh"
 try rfl
abbrev lwB(CE:List D→Option R1)(GM:D→D→Option D):SF:=(c7 (A3 5 CE (aC (eV 0) (aC (eB i5 (eC (.int 3)) (eV 4)) aN))) (a0t 3 (eT (aC (eB GM (eV 2) (eB i5 (eC (.int 1)) (eB i3 (eV 5) (eC (.int 4))))) (aC (eB i5 (eB GM (eV 2) (eB i5 (eC (.int 1)) (eB i3 (eB p7 (eV 5) (eC (.int 4))) (eC (.int 4))))) (eB i3 (eB p7 (eV 5) (eC (.int 32))) (eC (.int 3)))) (aC (eB (v9 false) (eB i3 (eB p7 (eV 5) (eC (.int 16))) (eC (.int 2))) (eC (.int 1))) aN))))))
theorem a99(CE:List D→Option R1)(GM:D→D→Option D)(ns:List Int)(n u k c x y:Int)(A:List D)(o5:Option D)(k3:CE [.scr ns,.int (3+k)]=some (.ret (.int c)))(m1:GM (.int u) (.int (1+c%4))=some (.int x))(m2:GM (.int u) (.int (1+c/4%4))=some (.int y))(hA:A.length<sizeLine):lwB CE GM [.fz (.scr ns),.fz (.int n),.fz (.int u),.ow A,.fz (.int k),un o5,.no,.no,.no,.no,.no,.no,.no]=some (.nx [.fz (.scr ns),.fz (.int n),.fz (.int u),.ow (A++[t3 (x,y+c/32%3,decide (c/16%2=1))]),.fz (.int k),.fz (.int c),.no,.no,.no,.no,.no,.no,.no]):=by
 unfold lwB
 walk_at "eh"
theorem a9F(CE PL DW DU CP LE LA:List D→Option R1)(LO:SF)(HH:HF)(GT GF GP:D→D→Option D)(ns:List Int)(c0 c1 n u B:Int)(A P:List D)(pp:D)(o4 o5:Option D)
  (k0:CE [.scr ns,.int 0]=some (.ret (.int c0))) (k1:CE [.scr ns,.int 1]=some (.ret (.int c1))) (gp:GP (.int 10) (.int 38)=some (.int B)) (hB:0<B) (en:1+c0%4=n) (eu:1+c1%B=u)
  (lo:LO [.fz (.scr ns),.fz (.int n),.fz (.int u),.ow [],.no,.no,.no,.no,.no,.no,.no,.no,.no]=some (.nx [.fz (.scr ns),.fz (.int n),.fz (.int u),.ow A,un o4,un o5,.no,.no,.no,.no,.no,.no,.no])) (hpl:PL [.scr ns,.lst A,.int u]=some (.own P)) (hdw:DW [.scr ns,.int 0,.int 3,.int n]=some (.ret pp)) (hcp:CP [pp]=some (.ret pp)) (g1':GT (.lst A) (.lst A)=some (.bl false)) (g2':GT (.lst P) (.lst P)=some (.bl false)) (g3':GT pp pp=some (.bl false))
  (hc:(DU [.lst A,.lst P,pp]=some (.ret (.tup [.str "turned",.int 0,.int 0]))∧LE [.lst A,.lst P,pp]=some (.ex (.p "BadTurn"))∧GF (.tup [.str "turned",.non,.bl true]) (.tup [.str "turned",.non,.bl true])=some (.bl true)∧(∀e:DE,e.length=13→∀s,e=[.fz (.scr ns),.fz (.int n),.fz (.int u),.fz (.lst A),un o4,un o5,.fz (.lst P),.fz pp,.fz (.tup [.str "turned",.int 0,.int 0]),.ow [.lst A,.lst P,pp],.fz .non,s,.no]→s=.no→HH (.p "BadTurn") e=some (.nx [.fz (.scr ns),.fz (.int n),.fz (.int u),.fz (.lst A),un o4,un o5,.fz (.lst P),.fz pp,.fz (.tup [.str "turned",.int 0,.int 0]),.ow [.lst A,.lst P,pp],.fz (.tup [.str "turned",.non,.bl true]),.no,.no]))) ∨
   (∃w l:D,DU [.lst A,.lst P,pp]=some (.ret (.tup [.str "chain",w,l]))∧LE [.lst A,.lst P,pp]=some (.ret (.tup [.str "chain",w,l]))∧LA [.tup [.str "chain",w,l],.tup [.str "chain",w,l]]=some (.ret (.bl true))) ∨
   (∃i j:D,DU [.lst A,.lst P,pp]=some (.ret (.tup [.str "over",i,j]))∧LE [.lst A,.lst P,pp]=some (.ex (.v "BadPacking" "why" (.tup [.str "over",i,j])))∧GF (.tup [.str "packing",.tup [.str "over",i,j],.bl true]) (.tup [.str "packing",.tup [.str "over",i,j],.bl true])=some (.bl true)∧HH (.v "BadPacking" "why" (.tup [.str "over",i,j])) [.fz (.scr ns),.fz (.int n),.fz (.int u),.fz (.lst A),un o4,un o5,.fz (.lst P),.fz pp,.fz (.tup [.str "over",i,j]),.ow [.lst A,.lst P,pp],.fz .non,.no,.no]=some (.nx [.fz (.scr ns),.fz (.int n),.fz (.int u),.fz (.lst A),un o4,un o5,.fz (.lst P),.fz pp,.fz (.tup [.str "over",i,j]),.ow [.lst A,.lst P,pp],.fz (.tup [.str "packing",.tup [.str "over",i,j],.bl true]),.no,.no]))) :
  fD 13 1 (c7 (k8 1 (eB i5 (eC (.int 1)) (eB i3 (j0 CE (aC (eV 0) (aC (eC (.int 0)) aN))) (eC (.int 4))))) (c7 (k8 2 (eB i5 (eC (.int 1)) (eB i3 (j0 CE (aC (eV 0) (aC (eC (.int 1)) aN))) (eB GP (eC (.int 10)) (eC (.int 38)))))) (c7 (v8 3 (eL aN)) (c7 LO (c7 (A3 6 PL (aC (eV 0) (aC (eV 3) (aC (eV 2) aN)))) (c7 (A3 7 DW (aC (eV 0) (aC (eC (.int 0)) (aC (eC (.int 3)) (aC (eV 1) aN))))) (c7 (A3 8 DU (aC (eV 3) (aC (eV 6) (aC (eV 7) aN)))) (c7 (v8 9 (eL (aC (zN (nCV O0 3)) (aC (zN (nCV O0 6)) (aC (j0 CP (aC (eV 7) aN)) aN))))) (c7 (k8 10 (eC .non)) (c7 (a0V 11 LE (aC (i8 g8 9 (eC (.int 0))) (aC (i8 g8 9 (eC (.int 1))) (aC (i8 g8 9 (eC (.int 2))) aN))) HH) (c7 (y0 (W8 (bZ (eBW GT (i8 g8 9 (eC (.int 0))) 3)) (W8 (bZ (eBW GT (i8 g8 9 (eC (.int 1))) 6)) (bZ (eB GT (i8 g8 9 (eC (.int 2))) (eV 7))))) (p8 (eC (.bl false))) A0) (c7 (y0 (bZ (eB (v9 false) (eB d6 (eV 8) (eC (.int 0))) (eC (.str "chain")))) (p8 (V5 (eB (a2g false) (eV 10) (eC .non)) (j0 LA (aC (eV 11) (aC (eV 8) aN))))) A0) (c7 (y0 (bZ (eB (v9 false) (eB d6 (eV 8) (eC (.int 0))) (eC (.str "turned")))) (p8 (eB GF (eV 10) (eT (aC (eC (.str "turned")) (aC (eC .non) (aC (eC (.bl true)) aN)))))) A0) (p8 (eB GF (eV 10) (eT (aC (eC (.str "packing")) (aC (eV 8) (aC (eC (.bl true)) aN))))))))))))))))))) [.scr ns]=some (.ret (.bl true)):=by
 have a0:atI [D.lst A,.lst P,pp] 0=some (.lst A):=rfl
 have a1:atI [D.lst A,.lst P,pp] 1=some (.lst P):=rfl
 have a2:atI [D.lst A,.lst P,pp] 2=some pp:=rfl
 have q1':v9 false (.str "turned") (.str "chain")=some (.bl false):=rfl
 have q2':v9 false (.str "over") (.str "chain")=some (.bl false):=rfl
 have q3':v9 false (.str "over") (.str "turned")=some (.bl false):=rfl
 have q4':v9 false (.str "turned") (.str "turned")=some (.bl true):=rfl
 have q5':v9 false (.str "chain") (.str "chain")=some (.bl true):=rfl
 subst en eu
 unfold a0V
 rcases hc with⟨h1,h2,h3,h4⟩ | ⟨w,l,h1,h2,h3⟩ | ⟨i,j,h1,h2,h3,h4⟩
 ·have h4:=h4 _ rfl .no rfl rfl
  walk_at "eh"
 ·walk_at "eh"
 ·walk_at "eh"
theorem a4Q:∀(ws ps:List T3),ws.length=ps.length→ws.map t3=(ws.zip ps).map wD
 | [],[],_=>rfl
 | w::ws,p::ps,h=>by
  rw[List.zip_cons_cons,List.map_cons,List.map_cons,a4Q ws ps (by simpa using h)]
theorem a4R:∀(ws ps:List T3),ws.length=ps.length→ps.map t3=(ws.zip ps).map pD
 | [],[],_=>rfl
 | w::ws,p::ps,h=>by
  rw[List.zip_cons_cons,List.map_cons,List.map_cons,a4R ws ps (by simpa using h)]
theorem a87(l:List T3):D3 true (.lst (l.map t3)) (.lst (l.map t3))=some (.bl false):=S2 true (by simp only[g4];exact a84 l) (by
 have:=a90 l
 simp only[B1]
 omega) rfl
theorem a9_:D3 false (.tup [.str "turned",.non,.bl true]) (.tup [.str "turned",.non,.bl true])=some (.bl true):=S2 false rfl (by simp[B1,y8]) rfl
theorem b0a(i j:Int):D3 false (.tup [.str "packing",.tup [.str "over",.int i,.int j],.bl true]) (.tup [.str "packing",.tup [.str "over",.int i,.int j],.bl true])=some (.bl true):=S2 false rfl (by simp[B1,y8]) rfl
theorem W6(n:Nat)(lie:Nat→Bool)(S:Nat→T4):∀(P:Pp) (w:Bool) (ks:List Int),X0 n P→go lie S P=.inl (w,ks)→ks.length≤10
 | .ch w ks,_,_,h,e=>by
  simp only[go]at e
  cases e
  exact h
 | .tu k a b,w,ks,⟨_,oa,ob⟩,e=>by
  simp only[go]at e
  split at e
  ·exact W6 n lie S b w ks ob e
  ·exact W6 n lie S a w ks oa e
 | .pr i j a b c d,w,ks,⟨_,_,oa,ob,oc,od⟩,e=>by
  simp only[go]at e
  split at e
  ·exact W6 n lie S a w ks oa e
  ·split at e
   ·exact W6 n lie S b w ks ob e
   ·split at e
    ·exact W6 n lie S c w ks oc e
    ·split at e
     ·exact W6 n lie S d w ks od e
     ·cases e
theorem main(ns:List Int)(hl:ns.length≤63)(hb:∀m∈ns,Builtin.Int.intBits m≤2 ^ 20):a6r [.scr ns]=some (.ret (.bl true)):=by
 obtain⟨B,gB,hB⟩:∃B:Int,a2e (.int 10) (.int 38)=some (.int B)∧0<B:=⟨_,a28 (by decide +kernel),by decide⟩
 obtain⟨n,hn,n1,n4⟩:∃n:Nat,1+j6 ns 0%4=(n:Int)∧1≤n∧n≤4:=⟨(1+j6 ns 0%4).toNat,by omega,by omega,by omega⟩
 obtain⟨u,hu⟩:∃u:Int,1+j6 ns 1%B=u:=⟨_,rfl⟩
 obtain⟨e',g,W,o4,o5,hW,rfl⟩:=a2_ (b:=g7 4) (body:=lwB i7 l7) (fun(k:Nat)=>D.int (k:Int)) (fun pre e=>∃(W:List T3) (o4 o5:Option D),W.length=pre.length∧e=[.fz (.scr ns),.fz (.int (n:Int)),.fz (.int u),.ow (W.map t3),un o4,un o5,.no,.no,.no,.no,.no,.no,.no]) (List.range n) [.fz (.scr ns),.fz (.int (n:Int)),.fz (.int u),.ow [],.no,.no,.no,.no,.no,.no,.no,.no,.no] ⟨[],none,none,rfl,rfl⟩ (by
  rintro pre k post e hq ⟨W,o4,o5,hW,rfl⟩
  have hk:k<n:=List.mem_range.mp (by rw[hq];simp)
  have hpl:pre.length<n:=by have:=congrArg List.length hq;rw[List.length_range,List.length_append,List.length_cons]at this;omega
  have hb:g7 4 (.int (k:Int)) [.fz (.scr ns),.fz (.int (n:Int)),.fz (.int u),.ow (W.map t3),un o4,un o5,.no,.no,.no,.no,.no,.no,.no]=some [.fz (.scr ns),.fz (.int (n:Int)),.fz (.int u),.ow (W.map t3),.fz (.int (k:Int)),un o5,.no,.no,.no,.no,.no,.no,.no]:=by cases o4<;>rfl
  rw[hb,S0]
  have st:=a99 i7 l7 ns (n:Int) u (k:Int) (j6 ns (3+(k:Int))) _ _ (W.map t3) o5 (K9 (by omega)) (J9 (by omega)) (J9 (by omega)) (by rw[List.length_map];show _<2 ^ 24;omega)
  refine⟨_,(congrArg N5 st).trans rfl,W++[(u*(1+j6 ns (3+(k:Int))%4),u*(1+j6 ns (3+(k:Int))/4%4)+j6 ns (3+(k:Int))/32%3,decide (j6 ns (3+(k:Int))/16%2=1))],some (.int (k:Int)),some (.int (j6 ns (3+(k:Int)))),by rw[List.length_append,List.length_append,hW];rfl,?_⟩
  rw[List.map_append]
  rfl)
 rw[List.length_range]at hW
 have e0:(aC (eV 1) aN) [.fz (.scr ns),.fz (.int (n:Int)),.fz (.int u),.ow [],.no,.no,.no,.no,.no,.no,.no,.no,.no]=some (.ok [.int (n:Int)] [.fz (.scr ns),.fz (.int (n:Int)),.fz (.int u),.ow [],.no,.no,.no,.no,.no,.no,.no,.no,.no]):=rfl
 have hlo:=a3d (b:=g7 4) (body:=lwB i7 l7) e0 (Z1 (by omega))
 rw[a2x]at hlo
 obtain⟨P,hP,pl⟩:=a4L ns W (by omega) u
 obtain⟨Q,oQ,dQ,dr⟩:=a2y ns n n1 n4 8 3 0 (by omega) (by omega) (by omega)
 have cp:=L3 Q 8 (by omega)
 have hlen:(W.zip P).length=n:=by rw[List.length_zip];omega
 have eW:=a4Q W P hP.symm
 have eP:=a4R W P hP.symm
 generalize eL:W.zip P=L at *
 refine a9F i7 C3 (n9 8) O5 (l3 8) a0g v5 (R7 D1 (aC (eV 1) aN) (g7 4) (lwB i7 l7)) (hAs 12 u5 (k8 10 (eT (aC (eC (.str "packing")) (aC (eU (a1n Y9 "why") (eV 12)) (aC (V5 (C5 (R9 x1 x2) (aC (eV 12) (aC (eC (.cls "CrateError")) aN))) (a2b (C5 (R9 x1 x2) (aC (eV 12) (aC (eC (.cls "BadTurn")) aN))))) aN))))) (hAs 12 K3 (k8 10 (eT (aC (eC (.str "turned")) (aC (eC .non) (aC (C5 (R9 x1 x2) (aC (eV 12) (aC (eC (.cls "CrateError")) aN))) aN))))) hN)) (D3 true) (D3 false) a2e ns (j6 ns 0) (j6 ns 1) (n:Int) u B (W.map t3) (P.map t3) (g5 Q) o4 o5 (K9 (by omega)) (K9 (by omega)) gB hB hn hu (hlo.trans g) pl dr cp (a87 W) (a87 P) (a6s true Q (by omega)) ?_
 rw[eW,eP]
 have N1:=a9B L (by omega) (.fz (g5 Q)) .no .no .no .no
 by_cases hbad:∃q∈L,K5 q=true
 ·refine .inl ⟨a9D _ (B6 D1 1 [0,1] (aC (P7 D0 0) aN) (g7 0) l6 (j0 E1 (aC (i8 g8 1 (eV 0)) (aC (i8 g8 2 (eV 0)) aN)))) (r8 duC (duB J1) 1000000) _ _ _ _ N1 ?_,a7V y9 (r8 ldC (ldB i4) 1000000) _ _ _ _ (a4I L (by omega) hbad),a9_,fun e _ s he hs=>by subst hs he;cases o4<;>cases o5<;>rfl⟩
  obtain⟨q,mq,hq⟩:=hbad
  obtain⟨k,hk,rfl⟩:=List.mem_iff_getElem.mp mq
  have:k∈(List.range L.length).filter fun k=>(L[k]?).any K5:=List.mem_filter.mpr ⟨List.mem_range.mpr hk,by rw[List.getElem?_eq_getElem hk];exact hq⟩
  rw[List.length_map]
  have:=List.length_pos_of_mem this
  omega
 ·have hg:∀q∈L,K5 q=false:=fun q m=>by
   cases hq:K5 q
   ·rfl
   ·exact absurd ⟨q,m,hq⟩ hbad
  have hK:((List.range L.length).filter fun k=>(L[k]?).any K5)=[]:=by
   rw[List.filter_eq_nil_iff]
   intro k hk
   have hk:=List.mem_range.mp hk
   rw[List.getElem?_eq_getElem hk]
   show ¬K5 L[k]=true
   rw[hg _ (List.getElem_mem hk)]
   decide
  rw[hK]at N1
  have N2:=a9C L (by omega) (.fz (g5 Q)) .no .no .no .no
  have hlie:∀k,k<L.length→atI (L.map pD) (k:Int)=some (.tup [.int (L.getD k ((0,0,false),(0,0,false))).2.1,.int (L.getD k ((0,0,false),(0,0,false))).2.2.1,.bl ((fun k=>(L.getD k ((0,0,false),(0,0,false))).2.2.2) k)]):=fun k hk=>G7 (by
   dsimp only
   rw[List.getElem?_map,List.getD_eq_getElem?_getD,List.getElem?_eq_getElem hk]
   rfl)
  have hS:∀k,k<L.length→atI (L.map sD) (k:Int)=some (t4 ((fun k=>spt (L.getD k ((0,0,false),(0,0,false)))) k)):=fun k hk=>G7 (by
   dsimp only
   rw[List.getElem?_map,List.getD_eq_getElem?_getD,List.getElem?_eq_getElem hk]
   rfl)
  have oQ':X0 L.length Q:=by rw[hlen];exact oQ
  obtain⟨s3,r1⟩:=L5 L _ _ hlie hS (.lst (L.map wD)) (g5 Q) Q 1000000 (.ow (L.map sD)) oQ' (by omega) (.inl rfl)
  obtain⟨q4,q5,q6,r2⟩:=Q5 L _ _ hlie hS (.lst (L.map wD)) Q 1000000 none none none oQ' (by omega)
  have sp:=a5N L (by omega) hg
  cases hgo:go (fun k=>(L.getD k ((0,0,false),(0,0,false))).2.2.2) (fun k=>spt (L.getD k ((0,0,false),(0,0,false)))) Q with
  | inl q =>
   rw[hgo]at r1 r2
   have hq:=W6 L.length _ _ Q q.1 q.2 oQ' hgo
   exact .inr (.inl ⟨_,_,a6v _ _ (r8 duC (duB J1) 1000000) _ _ _ (g5 (.ch q.1 q.2)) [] _ _ _ _ _ false N1 (by decide) N2 r2,a6u y9 (r8 ldC (ldB i4) 1000000) _ _ _ (g5 (.ch q.1 q.2)) _ s3 none sp r1,a9E q.1 q.2 hq⟩)
  | inr q =>
   rw[hgo]at r1 r2
   refine .inr (.inr ⟨_,_,a6v _ _ (r8 duC (duB J1) 1000000) _ _ _ _ [] _ (.no) (.no) (.no) (.no) true N1 (by decide) N2 r2,a6u y9 (r8 ldC (ldB i4) 1000000) _ _ _ .non _ .no (some _) sp r1,b0a _ _,?_⟩)
   cases o4<;>cases o5<;>rfl
def a02(K:PySem.W.Frag)(c:Str→Addr):Sp:=fun vs H Q _=>∃a,∃ns:List Int,vs=[.ref a]∧Scr K H a (ns.map V.int)∧(∀m∈ns,Builtin.Int.intBits m≤2 ^ 20)∧ns.length≤63∧∀H',Q (.bl true) H'
theorem a88{f:Addr}{fd:FuncData}(F:Fun K "law" "law" L9 f fd)(T:Txt K mg c)(G_l_cell:Own P w K mg base 3 "_law_cell" ["_law_script","_law_k"] (j2 K c i7))(G_l_places:Own P w K mg base 5 "_law_places" ["_law_script","_law_wares","_law_unit"] (j2 K c C3))(G_l_drawn:Own P w K mg base 21 "_law_drawn" ["_law_script","_law_at","_law_room","_law_many"] (j2 K c (n9 8)))(G_l_due:Own P w K mg base 7 "_law_due" ["_law_wares","_law_places_here","_law_paper"] (j2 K c O5))(G_l_copy:Own P w K mg base 19 "_law_copy" ["_law_paper"] (j2 K c (l3 8)))(G_led:Own P w K mg base 9 "led" ["wares","places","paper"] (j2 K c a0g))(G_l_leaf_alike:Own P w K mg base 3 "_law_leaf_alike" ["_law_found","_law_due_here"] (j2 K c v5)):FnOk P w K mg base (w6 P w) 23 f fd ["_law_script"] (a02 K c) :=
 (a7S F T G_l_cell G_l_places G_l_drawn G_l_due G_l_copy G_led G_l_leaf_alike).imp fun vs H Q E ⟨a,ns,e,h,hb,hl,q⟩=>a6V e h q (main ns hl hb)
def cOf(l:List (Str×Addr))(x:Str):Addr:=(l.lookup x).getD 0
abbrev cL(c0 c1 c2:Addr):=cOf [("BadPacking",c0),("BadTurn",c1),("CrateError",c2)]
theorem all_mk{w:World}{K:PySem.W.Frag}{h:Heap}{mg:Str→Option Value}{fa:Addr}(X:K.In h)(G:h.Ns mainGlobals mg)(hfa:mg "law" = some (.ref fa))
  {c0 c1 c2:Addr} {f_1:Addr} {oc_1 kV_1 dc_1 pm_1 cd_1 ct_1:Value} {od_1 an_1:Option Addr} {sl_1:Array (Option Value)} {f_2:Addr} {oc_2 kV_2 dc_2 pm_2 cd_2 ct_2:Value} {od_2 an_2:Option Addr} {sl_2:Array (Option Value)} {f_3:Addr} {oc_3 kV_3 dc_3 pm_3 cd_3 ct_3:Value} {od_3 an_3:Option Addr} {sl_3:Array (Option Value)} {f_4:Addr} {oc_4 kV_4 dc_4 pm_4 cd_4 ct_4:Value} {od_4 an_4:Option Addr} {sl_4:Array (Option Value)} {f_5:Addr} {oc_5 kV_5 dc_5 pm_5 cd_5 ct_5:Value} {od_5 an_5:Option Addr} {sl_5:Array (Option Value)} {f_6:Addr} {oc_6 kV_6 dc_6 pm_6 cd_6 ct_6:Value} {od_6 an_6:Option Addr} {sl_6:Array (Option Value)} {f_7:Addr} {oc_7 kV_7 dc_7 pm_7 cd_7 ct_7:Value} {od_7 an_7:Option Addr} {sl_7:Array (Option Value)} {f_8:Addr} {oc_8 kV_8 dc_8 pm_8 cd_8 ct_8:Value} {od_8 an_8:Option Addr} {sl_8:Array (Option Value)} {f_9:Addr} {oc_9 kV_9 dc_9 pm_9 cd_9 ct_9:Value} {od_9 an_9:Option Addr} {sl_9:Array (Option Value)} {f_10:Addr} {oc_10 kV_10 dc_10 pm_10 cd_10 ct_10:Value} {od_10 an_10:Option Addr} {sl_10:Array (Option Value)} {f_11:Addr} {oc_11 kV_11 dc_11 pm_11 cd_11 ct_11:Value} {od_11 an_11:Option Addr} {sl_11:Array (Option Value)} {f_12:Addr} {oc_12 kV_12 dc_12 pm_12 cd_12 ct_12:Value} {od_12 an_12:Option Addr} {sl_12:Array (Option Value)} {f_13:Addr} {oc_13 kV_13 dc_13 pm_13 cd_13 ct_13:Value} {od_13 an_13:Option Addr} {sl_13:Array (Option Value)} {f_14:Addr} {oc_14 kV_14 dc_14 pm_14 cd_14 ct_14:Value} {od_14 an_14:Option Addr} {sl_14:Array (Option Value)} {f_0:Addr} {oc_0 kV_0 dc_0 pm_0 cd_0 ct_0:Value} {od_0 an_0:Option Addr} {sl_0:Array (Option Value)}
  (a_1:PySem.W.nsIn K mainGlobals "sides_of" = some (some (.ref f_1)))
  (l_1:K.lookup f_1=some ⟨oc_1,od_1,.func (PySem.W.fnOf "sides_of" "sides_of" (m9 E8) (j7 E8) (b8 E8) .none kV_1 dc_1 pm_1 an_1 cd_1 ct_1),sl_1⟩)
  (c_1:PySem.W.codeIn K cd_1 "sides_of" = true)
  (k_1:PySem.W.keepIn K (.ref f_1)=true)
  (a_2:PySem.W.nsIn K mainGlobals "spot_of" = some (some (.ref f_2)))
  (l_2:K.lookup f_2=some ⟨oc_2,od_2,.func (PySem.W.fnOf "spot_of" "spot_of" (m9 J3) (j7 J3) (b8 J3) .none kV_2 dc_2 pm_2 an_2 cd_2 ct_2),sl_2⟩)
  (c_2:PySem.W.codeIn K cd_2 "spot_of" = true)
  (k_2:PySem.W.keepIn K (.ref f_2)=true)
  (a_3:PySem.W.nsIn K mainGlobals "spots_of" = some (some (.ref f_3)))
  (l_3:K.lookup f_3=some ⟨oc_3,od_3,.func (PySem.W.fnOf "spots_of" "spots_of" (m9 A7) (j7 A7) (b8 A7) .none kV_3 dc_3 pm_3 an_3 cd_3 ct_3),sl_3⟩)
  (c_3:PySem.W.codeIn K cd_3 "spots_of" = true)
  (k_3:PySem.W.keepIn K (.ref f_3)=true)
  (a_4:PySem.W.nsIn K mainGlobals "part_behind_pair" = some (some (.ref f_4)))
  (l_4:K.lookup f_4=some ⟨oc_4,od_4,.func (PySem.W.fnOf "part_behind_pair" "part_behind_pair" (m9 u9) (j7 u9) (b8 u9) .none kV_4 dc_4 pm_4 an_4 cd_4 ct_4),sl_4⟩)
  (c_4:PySem.W.codeIn K cd_4 "part_behind_pair" = true)
  (k_4:PySem.W.keepIn K (.ref f_4)=true)
  (a_5:PySem.W.nsIn K mainGlobals "led" = some (some (.ref f_5)))
  (l_5:K.lookup f_5=some ⟨oc_5,od_5,.func (PySem.W.fnOf "led" "led" (m9 a0f) (j7 a0f) (b8 a0f) .none kV_5 dc_5 pm_5 an_5 cd_5 ct_5),sl_5⟩)
  (c_5:PySem.W.codeIn K cd_5 "led" = true)
  (k_5:PySem.W.keepIn K (.ref f_5)=true)
  (a_6:PySem.W.nsIn K mainGlobals "_law_cell" = some (some (.ref f_6)))
  (l_6:K.lookup f_6=some ⟨oc_6,od_6,.func (PySem.W.fnOf "_law_cell" "_law_cell" (m9 K7) (j7 K7) (b8 K7) .none kV_6 dc_6 pm_6 an_6 cd_6 ct_6),sl_6⟩)
  (c_6:PySem.W.codeIn K cd_6 "_law_cell" = true)
  (k_6:PySem.W.keepIn K (.ref f_6)=true)
  (a_7:PySem.W.nsIn K mainGlobals "_law_sides" = some (some (.ref f_7)))
  (l_7:K.lookup f_7=some ⟨oc_7,od_7,.func (PySem.W.fnOf "_law_sides" "_law_sides" (m9 J4) (j7 J4) (b8 J4) .none kV_7 dc_7 pm_7 an_7 cd_7 ct_7),sl_7⟩)
  (c_7:PySem.W.codeIn K cd_7 "_law_sides" = true)
  (k_7:PySem.W.keepIn K (.ref f_7)=true)
  (a_8:PySem.W.nsIn K mainGlobals "_law_spot" = some (some (.ref f_8)))
  (l_8:K.lookup f_8=some ⟨oc_8,od_8,.func (PySem.W.fnOf "_law_spot" "_law_spot" (m9 K8) (j7 K8) (b8 K8) .none kV_8 dc_8 pm_8 an_8 cd_8 ct_8),sl_8⟩)
  (c_8:PySem.W.codeIn K cd_8 "_law_spot" = true)
  (k_8:PySem.W.keepIn K (.ref f_8)=true)
  (a_9:PySem.W.nsIn K mainGlobals "_law_copy" = some (some (.ref f_9)))
  (l_9:K.lookup f_9=some ⟨oc_9,od_9,.func (PySem.W.fnOf "_law_copy" "_law_copy" (m9 D9) (j7 D9) (b8 D9) .none kV_9 dc_9 pm_9 an_9 cd_9 ct_9),sl_9⟩)
  (c_9:PySem.W.codeIn K cd_9 "_law_copy" = true)
  (k_9:PySem.W.keepIn K (.ref f_9)=true)
  (a_10:PySem.W.nsIn K mainGlobals "_law_drawn" = some (some (.ref f_10)))
  (l_10:K.lookup f_10=some ⟨oc_10,od_10,.func (PySem.W.fnOf "_law_drawn" "_law_drawn" (m9 w9) (j7 w9) (b8 w9) .none kV_10 dc_10 pm_10 an_10 cd_10 ct_10),sl_10⟩)
  (c_10:PySem.W.codeIn K cd_10 "_law_drawn" = true)
  (k_10:PySem.W.keepIn K (.ref f_10)=true)
  (a_11:PySem.W.nsIn K mainGlobals "_law_places" = some (some (.ref f_11)))
  (l_11:K.lookup f_11=some ⟨oc_11,od_11,.func (PySem.W.fnOf "_law_places" "_law_places" (m9 E9) (j7 E9) (b8 E9) .none kV_11 dc_11 pm_11 an_11 cd_11 ct_11),sl_11⟩)
  (c_11:PySem.W.codeIn K cd_11 "_law_places" = true)
  (k_11:PySem.W.keepIn K (.ref f_11)=true)
  (a_12:PySem.W.nsIn K mainGlobals "_law_due" = some (some (.ref f_12)))
  (l_12:K.lookup f_12=some ⟨oc_12,od_12,.func (PySem.W.fnOf "_law_due" "_law_due" (m9 C8) (j7 C8) (b8 C8) .none kV_12 dc_12 pm_12 an_12 cd_12 ct_12),sl_12⟩)
  (c_12:PySem.W.codeIn K cd_12 "_law_due" = true)
  (k_12:PySem.W.keepIn K (.ref f_12)=true)
  (a_13:PySem.W.nsIn K mainGlobals "_law_leaf_alike" = some (some (.ref f_13)))
  (l_13:K.lookup f_13=some ⟨oc_13,od_13,.func (PySem.W.fnOf "_law_leaf_alike" "_law_leaf_alike" (m9 v3) (j7 v3) (b8 v3) .none kV_13 dc_13 pm_13 an_13 cd_13 ct_13),sl_13⟩)
  (c_13:PySem.W.codeIn K cd_13 "_law_leaf_alike" = true)
  (k_13:PySem.W.keepIn K (.ref f_13)=true)
  (a_14:PySem.W.nsIn K mainGlobals "law" = some (some (.ref f_14)))
  (l_14:K.lookup f_14=some ⟨oc_14,od_14,.func (PySem.W.fnOf "law" "law" (m9 L9) (j7 L9) (b8 L9) .none kV_14 dc_14 pm_14 an_14 cd_14 ct_14),sl_14⟩)
  (c_14:PySem.W.codeIn K cd_14 "law" = true)
  (k_14:PySem.W.keepIn K (.ref f_14)=true)
  (a_0:PySem.W.findIn K (.ref c0) "__init__" = some (some (.ref f_0)))
  (i_BadPacking___init__:PySem.W.isFn K (.ref f_0)=true)
  (l_0:K.lookup f_0=some ⟨oc_0,od_0,.func (PySem.W.fnOf "__init__" "BadPacking.__init__" (m9 t5) (j7 t5) (b8 t5) .none kV_0 dc_0 pm_0 an_0 cd_0 ct_0),sl_0⟩)
  (c_0:PySem.W.codeIn K cd_0 "BadPacking.__init__" = true)
  (k_0:PySem.W.keepIn K (.ref f_0)=true)
  (z_any:PySem.W.nsIn K mainGlobals "any" = some none)
  (z_bool:PySem.W.nsIn K mainGlobals "bool" = some none)
  (z_int:PySem.W.nsIn K mainGlobals "int" = some none)
  (z_isinstance:PySem.W.nsIn K mainGlobals "isinstance" = some none)
  (z_len:PySem.W.nsIn K mainGlobals "len" = some none)
  (z_list:PySem.W.nsIn K mainGlobals "list" = some none)
  (z_max:PySem.W.nsIn K mainGlobals "max" = some none)
  (z_range:PySem.W.nsIn K mainGlobals "range" = some none)
  (z_tuple:PySem.W.nsIn K mainGlobals "tuple" = some none)
  (z_zip:PySem.W.nsIn K mainGlobals "zip" = some none)
  (m_BadPacking:PySem.W.nsIn K mainGlobals "BadPacking" = some (some (.ref c0)))
  (m_BadTurn:PySem.W.nsIn K mainGlobals "BadTurn" = some (some (.ref c1)))
  (m_CrateError:PySem.W.nsIn K mainGlobals "CrateError" = some (some (.ref c2)))
  (u5:a0I K c0=true)
  (xa_BadPacking:PySem.W.findIn K (.ref c0) "__setattr__" = some (some (.builtin "object.__setattr__")))
  (xm_BadPacking:((PySem.W.clsIn K c0).any fun cd=>PySem.W.onlyVE cd.mro)=true)
  (xq_BadPacking:PySem.W.mroIn K c0 (.type "object")=some true)
  (x_BadTurn:PySem.W.excIn K c1 vErr "ValueError.__new__" = true)
  (t_exc_BadPacking1:PySem.W.findIn K (.ref c0) "__getattribute__" = some (some (.builtin "BaseException.__getattribute__")))
  (t_exc_BadPacking2:PySem.W.findIn K (.ref c0) "__getattr__" = some none)
  (t_exc_BadPacking3:PySem.W.findIn K (.ref c0) "__class__" = some (some (.builtin "object.__class__")))
  (t_exc_BadPacking4:PySem.W.mroIn K c0 (.type "object")=some true)
  (t_exc_BadPacking5:PySem.W.subIn K (.ref c0) (.type "BaseException")=some true)
  (t_exc_BadTurn1:PySem.W.findIn K (.ref c1) "__getattribute__" = some (some (.builtin "BaseException.__getattribute__")))
  (t_exc_BadTurn2:PySem.W.findIn K (.ref c1) "__getattr__" = some none)
  (t_exc_BadTurn3:PySem.W.findIn K (.ref c1) "__class__" = some (some (.builtin "object.__class__")))
  (t_exc_BadTurn4:PySem.W.mroIn K c1 (.type "object")=some true)
  (t_exc_BadTurn5:PySem.W.subIn K (.ref c1) (.type "BaseException")=some true)
  (hd_BadPacking:PySem.W.hasDictIn K c0=true)
  (xn_BadPacking:PySem.W.findIn K (.ref c0) "why" = some none)
  (t_one_BadPacking_BadTurn:PySem.W.kitOne K (.ref c0) (.ref c1)=some false)
  (t_one_BadPacking_CrateError:PySem.W.kitOne K (.ref c0) (.ref c2)=some true)
  (t_exo_BadPacking_BadPacking:PySem.W.exmOne K (.ref c0) (.ref c0)=some true)
  (t_exo_BadPacking_BadTurn:PySem.W.exmOne K (.ref c0) (.ref c1)=some false)
  (t_one_BadTurn_BadTurn:PySem.W.kitOne K (.ref c1) (.ref c1)=some true)
  (t_one_BadTurn_CrateError:PySem.W.kitOne K (.ref c1) (.ref c2)=some true)
  (t_exo_BadTurn_BadPacking:PySem.W.exmOne K (.ref c1) (.ref c0)=some false)
  (t_exo_BadTurn_BadTurn:PySem.W.exmOne K (.ref c1) (.ref c1)=some true)
  : ∃fd:FuncData,(∀(s:Shared) (v:Value),BindsTo s fd ⟨[v],[]⟩ [("_law_script",v)])∧∃c:Str→Addr,∀base:Heap,K.In base→base.Ns mainGlobals mg→FnOk (PySem.Challenge.rw_cratefit_k36_led_by_a_paper).prog w K mg base (w6 (PySem.Challenge.rw_cratefit_k36_led_by_a_paper).prog w) 23 fa fd ["_law_script"] (a02 K c):=by
 have e:=hfa.symm.trans (PySem.W.mg_of X G a_14)
 cases e
 have T:Txt K mg (cL c0 c1 c2):=⟨PySem.W.mg_none_of X G z_any,PySem.W.mg_none_of X G z_bool,PySem.W.mg_none_of X G z_int,PySem.W.mg_none_of X G z_isinstance,PySem.W.mg_none_of X G z_len,PySem.W.mg_none_of X G z_list,PySem.W.mg_none_of X G z_max,PySem.W.mg_none_of X G z_range,PySem.W.mg_none_of X G z_tuple,PySem.W.mg_none_of X G z_zip,PySem.W.mg_of X G m_BadPacking,PySem.W.mg_of X G m_BadTurn,PySem.W.mg_of X G m_CrateError,x_BadTurn,⟨t_exc_BadPacking1,t_exc_BadPacking2,t_exc_BadPacking3,t_exc_BadPacking4,t_exc_BadPacking5⟩,⟨t_exc_BadTurn1,t_exc_BadTurn2,t_exc_BadTurn3,t_exc_BadTurn4,t_exc_BadTurn5⟩,hd_BadPacking,xn_BadPacking,t_one_BadPacking_BadTurn,t_one_BadPacking_CrateError,t_exo_BadPacking_BadPacking,t_exo_BadPacking_BadTurn,t_one_BadTurn_BadTurn,t_one_BadTurn_CrateError,t_exo_BadTurn_BadPacking,t_exo_BadTurn_BadTurn⟩
 refine⟨PySem.W.fnOf "law" "law" (m9 L9) (j7 L9) (b8 L9) .none kV_14 dc_14 pm_14 an_14 cd_14 ct_14,fun s v=>.of_eq rfl,cOf [("BadPacking",c0),("BadTurn",c1),("CrateError",c2)],fun base _ _=>?_⟩
 have F_0:=A1 (st:=t5) l_0 c_0 k_0
 have B_0:=F_0.binds (ps:=["self","why"]) fun _ _ _ _ _ _ us hl=>match us,hl with | [_,_],_=>rfl
 have OI_BadPacking___init__:=S8 (P:=(PySem.Challenge.rw_cratefit_k36_led_by_a_paper).prog) (w:=w) (mg:=mg) (base:=base) (c:=cOf [("BadPacking",c0),("BadTurn",c1),("CrateError",c2)]) F_0 ⟨xa_BadPacking,xm_BadPacking,xq_BadPacking,hd_BadPacking,xn_BadPacking⟩
 have XI_BadPacking:a5H (PySem.Challenge.rw_cratefit_k36_led_by_a_paper).prog w K mg base 3 "BadPacking" ((cL c0 c1 c2) "BadPacking") ["self","why"] "why" := ⟨_,_,⟨u5,a_0,beq_iff_eq.mp i_BadPacking___init__⟩,OI_BadPacking___init__,B_0,PySem.W.mg_of X G m_BadPacking⟩
 have F_1:=A1 (st:=E8) l_1 c_1 k_1
 have B_1:=F_1.binds (ps:=["ware","lie"]) fun _ _ _ _ _ _ us hl=>match us,hl with | [_,_],_=>rfl
 have O_1:Own (PySem.Challenge.rw_cratefit_k36_led_by_a_paper).prog w K mg base 3 "sides_of" ["ware","lie"] (j2 K (cL c0 c1 c2) K4):=⟨_,_,a2H F_1 T ,B_1,k_1,PySem.W.mg_of X G a_1⟩
 have F_2:=A1 (st:=J3) l_2 c_2 k_2
 have B_2:=F_2.binds (ps:=["ware","place"]) fun _ _ _ _ _ _ us hl=>match us,hl with | [_,_],_=>rfl
 have O_2:Own (PySem.Challenge.rw_cratefit_k36_led_by_a_paper).prog w K mg base 5 "spot_of" ["ware","place"] (j2 K (cL c0 c1 c2) x6):=⟨_,_,a3O F_2 T O_1,B_2,k_2,PySem.W.mg_of X G a_2⟩
 have F_3:=A1 (st:=A7) l_3 c_3 k_3
 have B_3:=F_3.binds (ps:=["wares","places"]) fun _ _ _ _ _ _ us hl=>match us,hl with | [_,_],_=>rfl
 have O_3:Own (PySem.Challenge.rw_cratefit_k36_led_by_a_paper).prog w K mg base 7 "spots_of" ["wares","places"] (j2 K (cL c0 c1 c2) y9):=⟨_,_,a2J F_3 T O_2,B_3,k_3,PySem.W.mg_of X G a_3⟩
 have F_4:=A1 (st:=u9) l_4 c_4 k_4
 have B_4:=F_4.binds (ps:=["spots","paper"]) fun _ _ _ _ _ _ us hl=>match us,hl with | [_,_],_=>rfl
 have O_4:Own (PySem.Challenge.rw_cratefit_k36_led_by_a_paper).prog w K mg base 5 "part_behind_pair" ["spots","paper"] (j2 K (cL c0 c1 c2) i4):=⟨_,_,X1 F_4 T XI_BadPacking,B_4,k_4,PySem.W.mg_of X G a_4⟩
 have F_5:=A1 (st:=a0f) l_5 c_5 k_5
 have B_5:=F_5.binds (ps:=["wares","places","paper"]) fun _ _ _ _ _ _ us hl=>match us,hl with | [_,_,_],_=>rfl
 have O_5:Own (PySem.Challenge.rw_cratefit_k36_led_by_a_paper).prog w K mg base 9 "led" ["wares","places","paper"] (j2 K (cL c0 c1 c2) a0g):=⟨_,_,a83 F_5 T O_3 O_4,B_5,k_5,PySem.W.mg_of X G a_5⟩
 have F_6:=A1 (st:=K7) l_6 c_6 k_6
 have B_6:=F_6.binds (ps:=["_law_script","_law_k"]) fun _ _ _ _ _ _ us hl=>match us,hl with | [_,_],_=>rfl
 have O_6:Own (PySem.Challenge.rw_cratefit_k36_led_by_a_paper).prog w K mg base 3 "_law_cell" ["_law_script","_law_k"] (j2 K (cL c0 c1 c2) i7):=⟨_,_,a4D F_6 T ,B_6,k_6,PySem.W.mg_of X G a_6⟩
 have F_7:=A1 (st:=J4) l_7 c_7 k_7
 have B_7:=F_7.binds (ps:=["_law_ware","_law_lie"]) fun _ _ _ _ _ _ us hl=>match us,hl with | [_,_],_=>rfl
 have O_7:Own (PySem.Challenge.rw_cratefit_k36_led_by_a_paper).prog w K mg base 3 "_law_sides" ["_law_ware","_law_lie"] (j2 K (cL c0 c1 c2) z0):=⟨_,_,a3Q F_7 T ,B_7,k_7,PySem.W.mg_of X G a_7⟩
 have F_8:=A1 (st:=K8) l_8 c_8 k_8
 have B_8:=F_8.binds (ps:=["_law_ware","_law_place"]) fun _ _ _ _ _ _ us hl=>match us,hl with | [_,_],_=>rfl
 have O_8:Own (PySem.Challenge.rw_cratefit_k36_led_by_a_paper).prog w K mg base 5 "_law_spot" ["_law_ware","_law_place"] (j2 K (cL c0 c1 c2) E1):=⟨_,_,a4F F_8 T O_7,B_8,k_8,PySem.W.mg_of X G a_8⟩
 have F_9:=A1 (st:=D9) l_9 c_9 k_9
 have B_9:=F_9.binds (ps:=["_law_paper"]) fun _ _ _ _ _ _ us hl=>match us,hl with | [_],_=>rfl
 have O_9:Own (PySem.Challenge.rw_cratefit_k36_led_by_a_paper).prog w K mg base 19 "_law_copy" ["_law_paper"] (j2 K (cL c0 c1 c2) (l3 8)):=⟨_,_,a1L F_9 T B_9 k_9 (PySem.W.mg_of X G a_9)  8,B_9,k_9,PySem.W.mg_of X G a_9⟩
 have F_10:=A1 (st:=w9) l_10 c_10 k_10
 have B_10:=F_10.binds (ps:=["_law_script","_law_at","_law_room","_law_many"]) fun _ _ _ _ _ _ us hl=>match us,hl with | [_,_,_,_],_=>rfl
 have O_10:Own (PySem.Challenge.rw_cratefit_k36_led_by_a_paper).prog w K mg base 21 "_law_drawn" ["_law_script","_law_at","_law_room","_law_many"] (j2 K (cL c0 c1 c2) (n9 8)):=⟨_,_,a0Y F_10 T B_10 k_10 (PySem.W.mg_of X G a_10) O_6 8,B_10,k_10,PySem.W.mg_of X G a_10⟩
 have F_11:=A1 (st:=E9) l_11 c_11 k_11
 have B_11:=F_11.binds (ps:=["_law_script","_law_wares","_law_unit"]) fun _ _ _ _ _ _ us hl=>match us,hl with | [_,_,_],_=>rfl
 have O_11:Own (PySem.Challenge.rw_cratefit_k36_led_by_a_paper).prog w K mg base 5 "_law_places" ["_law_script","_law_wares","_law_unit"] (j2 K (cL c0 c1 c2) C3):=⟨_,_,a2K F_11 T O_6 O_7,B_11,k_11,PySem.W.mg_of X G a_11⟩
 have F_12:=A1 (st:=C8) l_12 c_12 k_12
 have B_12:=F_12.binds (ps:=["_law_wares","_law_places_here","_law_paper"]) fun _ _ _ _ _ _ us hl=>match us,hl with | [_,_,_],_=>rfl
 have O_12:Own (PySem.Challenge.rw_cratefit_k36_led_by_a_paper).prog w K mg base 7 "_law_due" ["_law_wares","_law_places_here","_law_paper"] (j2 K (cL c0 c1 c2) O5):=⟨_,_,a5M F_12 T O_8,B_12,k_12,PySem.W.mg_of X G a_12⟩
 have F_13:=A1 (st:=v3) l_13 c_13 k_13
 have B_13:=F_13.binds (ps:=["_law_found","_law_due_here"]) fun _ _ _ _ _ _ us hl=>match us,hl with | [_,_],_=>rfl
 have O_13:Own (PySem.Challenge.rw_cratefit_k36_led_by_a_paper).prog w K mg base 3 "_law_leaf_alike" ["_law_found","_law_due_here"] (j2 K (cL c0 c1 c2) v5):=⟨_,_,a00 F_13 T ,B_13,k_13,PySem.W.mg_of X G a_13⟩
 have F_14:=A1 (st:=L9) l_14 c_14 k_14
 exact a88 F_14 T O_6 O_11 O_10 O_12 O_9 O_5 O_13
end Law
namespace Law
open PySem L2 PyProof.Rows
theorem walk{q:Program}{loose:List Str}{XP:(Str→Option Value)→Heap→Prop}{YP:World→Heap→Prop}{d:DefRec}{K:Params→PySem.W.Frag}(hdf:d.params.defaults=[])(hY:∀(w:World) (h:Heap),YP w h→(K w.params).In h)
  (F:∀(w:World) (mg:Str→Option Value) (fa:Addr) (h:Heap),(K w.params).In h→h.Ns mainGlobals mg→mg d.name=some (.ref fa) →
   ∃fd:FuncData,(∀(s:Shared) (u:Value),BindsTo s fd ⟨[u],[]⟩ [("_law_script",u)])∧∃c:Str→Addr,∀base:Heap,(K w.params).In base→base.Ns mainGlobals mg→FnOk (PySem.Challenge.rw_cratefit_k36_led_by_a_paper).prog w (K w.params) mg base (w6 (PySem.Challenge.rw_cratefit_k36_led_by_a_paper).prog w) 23 fa fd ["_law_script"] (a02 (K w.params) c)) :
  PySem.W.WalkO q loose XP YP (PySem.Challenge.rw_cratefit_k36_led_by_a_paper).row.toRowW d [] (fun f vs=>PySem.call f vs):=by
 refine L2.walk_ofB (l:=PySem.Challenge.rw_cratefit_k36_led_by_a_paper) (n:=63) (k:=23) (x := "_law_script") (K:=K) (CX:=fun w=>w6 (PySem.Challenge.rw_cratefit_k36_led_by_a_paper).prog w) (sp:=fun w vs H Q E=>∀c,a02 (K w.params) c vs H Q E) rfl (by decide) hdf ⟨rfl,by decide,by decide⟩ hY (fun w mg fa h KX G hm=>?_) (fun w H a ns h1 h2 h3 h4 c=>⟨a,ns,rfl,.of h4 h3,h2,h1,fun _=>rfl⟩) fun w H s e s' z=>a9d H s e s' z
 obtain⟨fd,hb,c,hF⟩:=F w mg fa h KX G hm
 exact⟨fd,hb,fun base kb nb=>(hF base kb nb).imp fun vs H Q E z=>z c⟩
end Law
local macro_rules|`(#check 0)=>do
 let g:=fun(n:Lean.Name)=>do
  let y:=Lean.mkIdent (.str `PySem.W.Fast s!"tw{n.hash}")
  `(theorem $y:ident : True:=trivial)
 let mut r:=#[←g `PySem.Challenge.pw_cratefit_k36_led_by_a_paper]
 for x in ["view_39","sts_49","sts_64","sts_79","sts_127","tree_47","tree_63","tree_78","tree_126","tree_190","heap_39","heap_46","heap_191","env_41"]++(List.range 148).map (s!"o_{·+43}") do r:=r.push (←g (.str `PySem.Challenge.cw_cratefit_k36_led_by_a_paper_holds x))
 return Lean.mkNullNode r
#check 0
open PySem.W
set_option maxRecDepth 100000 in
set_option maxHeartbeats 0 in
theorem PySem.Challenge.cw_cratefit_k36_led_by_a_paper_holds : PySem.Challenge.rw_cratefit_k36_led_by_a_paper.Holds := by
 w_on;o_law;k_head; (case hw=>w_witness2)
 k_fill
 refine Law.walk rfl (fun w h Y=>PySem.W.kIn_of Y) ?F
 case F =>
  intro w mg fa h KX G hmg
  refine' Law.all_mk KX G hmg ?a_sides_of ?l_sides_of ?c_sides_of ?k_sides_of ?a_spot_of ?l_spot_of ?c_spot_of ?k_spot_of ?a_spots_of ?l_spots_of ?c_spots_of ?k_spots_of ?a_part_behind_pair ?l_part_behind_pair ?c_part_behind_pair ?k_part_behind_pair ?a_led ?l_led ?c_led ?k_led ?a_l_cell ?l_l_cell ?c_l_cell ?k_l_cell ?a_l_sides ?l_l_sides ?c_l_sides ?k_l_sides ?a_l_spot ?l_l_spot ?c_l_spot ?k_l_spot ?a_l_copy ?l_l_copy ?c_l_copy ?k_l_copy ?a_l_drawn ?l_l_drawn ?c_l_drawn ?k_l_drawn ?a_l_places ?l_l_places ?c_l_places ?k_l_places ?a_l_due ?l_l_due ?c_l_due ?k_l_due ?a_l_leaf_alike ?l_l_leaf_alike ?c_l_leaf_alike ?k_l_leaf_alike ?a_law ?l_law ?c_law ?k_law ?a_BadPacking___init__ ?i_BadPacking___init__ ?l_BadPacking___init__ ?c_BadPacking___init__ ?k_BadPacking___init__ ?z_any ?z_bool ?z_int ?z_isinstance ?z_len ?z_list ?z_max ?z_range ?z_tuple ?z_zip ?m_BadPacking ?m_BadTurn ?m_CrateError ?u5 ?xa_BadPacking ?xm_BadPacking ?xq_BadPacking ?x_BadTurn ?t_exc_BadPacking1 ?t_exc_BadPacking2 ?t_exc_BadPacking3 ?t_exc_BadPacking4 ?t_exc_BadPacking5 ?t_exc_BadTurn1 ?t_exc_BadTurn2 ?t_exc_BadTurn3 ?t_exc_BadTurn4 ?t_exc_BadTurn5 ?hd_BadPacking ?xn_BadPacking ?t_one_BadPacking_BadTurn ?t_one_BadPacking_CrateError ?t_exo_BadPacking_BadPacking ?t_exo_BadPacking_BadTurn ?t_one_BadTurn_BadTurn ?t_one_BadTurn_CrateError ?t_exo_BadTurn_BadPacking ?t_exo_BadTurn_BadTurn
  (case m_BadPacking=>k_is)
  (case a_sides_of=>k_is)
  (case l_sides_of=>k_is)
  (case c_sides_of=>k_is)
  (case k_sides_of=>k_is)
  (case a_spot_of=>k_is)
  (case l_spot_of=>k_is)
  (case c_spot_of=>k_is)
  (case k_spot_of=>k_is)
  (case a_spots_of=>k_is)
  (case l_spots_of=>k_is)
  (case c_spots_of=>k_is)
  (case k_spots_of=>k_is)
  (case a_part_behind_pair=>k_is)
  (case l_part_behind_pair=>k_is)
  (case c_part_behind_pair=>k_is)
  (case k_part_behind_pair=>k_is)
  (case a_led=>k_is)
  (case l_led=>k_is)
  (case c_led=>k_is)
  (case k_led=>k_is)
  (case a_l_cell=>k_is)
  (case l_l_cell=>k_is)
  (case c_l_cell=>k_is)
  (case k_l_cell=>k_is)
  (case a_l_sides=>k_is)
  (case l_l_sides=>k_is)
  (case c_l_sides=>k_is)
  (case k_l_sides=>k_is)
  (case a_l_spot=>k_is)
  (case l_l_spot=>k_is)
  (case c_l_spot=>k_is)
  (case k_l_spot=>k_is)
  (case a_l_copy=>k_is)
  (case l_l_copy=>k_is)
  (case c_l_copy=>k_is)
  (case k_l_copy=>k_is)
  (case a_l_drawn=>k_is)
  (case l_l_drawn=>k_is)
  (case c_l_drawn=>k_is)
  (case k_l_drawn=>k_is)
  (case a_l_places=>k_is)
  (case l_l_places=>k_is)
  (case c_l_places=>k_is)
  (case k_l_places=>k_is)
  (case a_l_due=>k_is)
  (case l_l_due=>k_is)
  (case c_l_due=>k_is)
  (case k_l_due=>k_is)
  (case a_l_leaf_alike=>k_is)
  (case l_l_leaf_alike=>k_is)
  (case c_l_leaf_alike=>k_is)
  (case k_l_leaf_alike=>k_is)
  (case a_law=>k_is)
  (case l_law=>k_is)
  (case c_law=>k_is)
  (case k_law=>k_is)
  (case a_BadPacking___init__=>k_is)
  (case i_BadPacking___init__=>k_is)
  (case l_BadPacking___init__=>k_is)
  (case c_BadPacking___init__=>k_is)
  (case k_BadPacking___init__=>k_is)
  (case z_any=>k_is)
  (case z_bool=>k_is)
  (case z_int=>k_is)
  (case z_isinstance=>k_is)
  (case z_len=>k_is)
  (case z_list=>k_is)
  (case z_max=>k_is)
  (case z_range=>k_is)
  (case z_tuple=>k_is)
  (case z_zip=>k_is)
  (case m_BadTurn=>k_is)
  (case m_CrateError=>k_is)
  (case u5=>kernel_rfl)
  (case xa_BadPacking=>k_is)
  (case xm_BadPacking=>kernel_rfl)
  (case xq_BadPacking=>k_is)
  (case x_BadTurn=>kernel_rfl)
  (case t_exc_BadPacking1=>k_is)
  (case t_exc_BadPacking2=>k_is)
  (case t_exc_BadPacking3=>k_is)
  (case t_exc_BadPacking4=>k_is)
  (case t_exc_BadPacking5=>k_is)
  (case t_exc_BadTurn1=>k_is)
  (case t_exc_BadTurn2=>k_is)
  (case t_exc_BadTurn3=>k_is)
  (case t_exc_BadTurn4=>k_is)
  (case t_exc_BadTurn5=>k_is)
  (case hd_BadPacking=>k_is)
  (case xn_BadPacking=>k_is)
  (case t_one_BadPacking_BadTurn=>kit_is)
  (case t_one_BadPacking_CrateError=>kit_is)
  (case t_exo_BadPacking_BadPacking=>kts_exm)
  (case t_exo_BadPacking_BadTurn=>kts_exm)
  (case t_one_BadTurn_BadTurn=>kit_is)
  (case t_one_BadTurn_CrateError=>kit_is)
  (case t_exo_BadTurn_BadPacking=>kts_exm)
  (case t_exo_BadTurn_BadTurn=>kts_exm)
