import PyProof.Rows.All
import Wide.All
import OpenK.AllK
import Wide.FinOn
import Lean
import PyProof.EqAt
import PyProof.EqKinds
import PyProof.TupleCall
import KE.KLam
import KE.KSortKey
import PyProof.ListRange
import PyProof.CollectIter
import PyProof.Rows.RuleB_bool
import PySem.Challenge.RW_cratefit_k42_heights
set_option Elab.async false
set_option linter.all false
set_option maxRecDepth 100000
set_option hygiene false
namespace L2
open PySem PySem.Spec PyProof.Rows
abbrev y9:=Sum Int Str
def a5l:y9→Value→Bool
 | .inl k,v=>Value.isInt k v
 | .inr x,v=>Value.isStrOf x v
def a9q(w:World):y9→Int
 | .inl k=>hashInt k
 | .inr x=>hashStr w x
theorem j5:∀{k:y9} {v:Value},a5l k v=true→(∃i t,k=Sum.inl i∧v=Value.int i t)∨(∃x t,k=Sum.inr x∧v=Value.str x t)
 | .inl i,v,h=>by
  obtain⟨t,e⟩:=Value.isInt_shape (k:=i) (v:=v) h
  exact .inl ⟨i,t,rfl,e⟩
 | .inr x,v,h=>by
  obtain⟨t,e⟩:=Value.isStrOf_shape (x:=x) (v:=v) h
  exact .inr ⟨x,t,rfl,e⟩
theorem a7g(a b:Int):decide ((Sum.inl a:y9)=Sum.inl b)=(a == b):=by
 by_cases e:a=b
 ·subst e;simp
 ·have h:¬(Sum.inl a:y9)=Sum.inl b:=fun q=>e (Sum.inl.inj q)
  rw[decide_eq_false h]
  exact(beq_eq_false_iff_ne.mpr e).symm
theorem a7h(a b:Str):decide ((Sum.inr a:y9)=Sum.inr b)=decide (a=b):=by
 by_cases e:a=b
 ·subst e;simp
 ·have h:¬(Sum.inr a:y9)=Sum.inr b:=fun q=>e (Sum.inr.inj q)
  rw[decide_eq_false h,decide_eq_false e]
theorem a7i(a:Int)(b:Str):decide ((Sum.inl a:y9)=Sum.inr b)=false:=decide_eq_false (fun q=>nomatch q)
theorem a7j(a:Str)(b:Int):decide ((Sum.inr a:y9)=Sum.inl b)=false:=decide_eq_false (fun q=>nomatch q)
def a1Q(prog:Program)(w:World):PySem.KeyKind prog w y9 where
 is:=a5l
 hash:=a9q w
 inj:=fun v a b ha hb=>by
  rcases j5 ha with⟨i,t,rfl,rfl⟩ | ⟨x,t,rfl,rfl⟩
  ·rcases j5 hb with⟨j,u,rfl,e⟩ | ⟨y,u,rfl,e⟩
   ·injection e with e1 _;rw[e1]
   ·exact nomatch e
  ·rcases j5 hb with⟨j,u,rfl,e⟩ | ⟨y,u,rfl,e⟩
   ·exact nomatch e
   ·injection e with e1 _;rw[e1]
 byValue:=fun k v h=>by
  rcases j5 h with⟨i,t,rfl,rfl⟩ | ⟨x,t,rfl,rfl⟩<;>rfl
 pyHash:=fun hv h=>by
  rcases j5 hv with⟨i,t,rfl,rfl⟩ | ⟨x,t,rfl,rfl⟩
  ·exact wpAny_pyHash_int h
  ·exact wpAny_pyHash_str h
 eqBool:=fun hu hv h=>by
  rcases j5 hu with⟨i,t,rfl,rfl⟩ | ⟨x,t,rfl,rfl⟩
  ·rcases j5 hv with⟨j,u,rfl,rfl⟩ | ⟨y,u,rfl,rfl⟩
   ·rw[a7g]at h;exact wpAny_eqBool_int h
   ·rw[a7i]at h;exact SeqAt.EqAt.int_str i t y u _ _ _ _ h
  ·rcases j5 hv with⟨j,u,rfl,rfl⟩ | ⟨y,u,rfl,rfl⟩
   ·rw[a7j]at h;exact SeqAt.EqAt.str_int x t j u _ _ _ _ h
   ·rw[a7h]at h;exact wpAny_eqBool_str h
 «strs» := fun k x t v h=>by
  rcases j5 h with⟨i,u,rfl,e⟩ | ⟨y,u,rfl,e⟩
  ·exact nomatch e
  ·injection e with e1 _
   subst e1
   cases v<;>rfl
inductive V where
 | non | bl (b:Bool) | int (i:Int) | str (x:Str) | byt (b:Array UInt8) | flt (b:UInt64) | ref (a:Addr) | ty (n:String)
 deriving DecidableEq
def RelV:V→Value→Prop
 | .non,u=>u=Value.none
 | .bl b,u=>u=Value.bool b
 | .int i,u=>∃t,u=Value.int i t
 | .str x,u=>∃t,u=Value.str x t
 | .byt b,u=>∃t,u=Value.bytes b t
 | .flt b,u=>∃t,u=Value.float b t
 | .ref a,u=>u=Value.ref a
 | .ty n,u=>u=Value.type n
abbrev Vals:List V→List Value→Prop:=Paired RelV
theorem Vals.length{xs:List V}{us:List Value}(r:Vals xs us):xs.length=us.length:=Paired.length r
theorem Vals.get:∀{xs:List V} {us:List Value} {i:Nat} {x:V},Vals xs us→xs[i]? = some x→∃u,us[i]? = some u∧RelV x u
 | _,_,_,_,.nil,e=>by simp at e
 | _,_,0,_,.cons r _,e=>by simp at e;subst e;exact⟨_,rfl,r⟩
 | _,_,i+1,x,.cons _ t,e=>by
  obtain⟨u,h1,h2⟩:=Vals.get (i:=i) (x:=x) t (by simpa using e)
  exact⟨u,by simpa using h1,h2⟩
theorem Vals.set{x:V}{u:Value}(r:RelV x u):∀{xs:List V} {us:List Value} (i:Nat),Vals xs us→Vals (xs.set i x) (us.set i u)
 | _,_,_,.nil=>.nil
 | _,_,0,.cons _ t=>.cons r t
 | _,_,i+1,.cons q t=>.cons q (Vals.set r i t)
theorem Vals.append:∀{xs ys:List V} {us ws:List Value},Vals xs us→Vals ys ws→Vals (xs++ys) (us++ws)
 | _,_,_,_,.nil,s=>s
 | _,_,_,_,.cons r t,s=>.cons r (Vals.append t s)
theorem Vals.take:∀{xs:List V} {us:List Value} (n:Nat),Vals xs us→Vals (xs.take n) (us.take n)
 | _,_,0,_=>.nil
 | _,_,_+1,.nil=>.nil
 | _,_,n+1,.cons r t=>.cons r (Vals.take n t)
theorem Vals.drop:∀{xs:List V} {us:List Value} (n:Nat),Vals xs us→Vals (xs.drop n) (us.drop n)
 | _,_,0,r=>r
 | _,_,_+1,.nil=>.nil
 | _,_,n+1,.cons _ t=>Vals.drop n t
def a4e:Option V→Option Value→Prop
 | some v,some u=>RelV v u
 | none,none=>True
 | _,_=>False
def KV{κ:Type}:List (κ×V)→List (κ×Value)→Prop:=Paired fun(p:κ×V) (q:κ×Value)=>p.1=q.1∧RelV p.2 q.2
def kV:y9→V
 | .inl i=>.int i
 | .inr x=>.str x
inductive HO where
 /-- a list -/
 | lst (xs:List V)
 /-- a tuple (never changes) -/
 | tup (xs:List V)
 /-- a dict whose keys are ints and texts; one whose keys are tuples of ints and texts (the empty one is both) -/
 | dK (kvs:List (y9×V)) | dT (kvs:List (List y9×V))
 /-- a set of ints: its members, its size -/
 | set (S:Int→Bool) (n:Nat)
 /-- an instance of the class at C, its dict at dx, its attributes -/
 | ins (C dx:Addr) (fs:List (Str×V))
 /-- the dict of the instance at x -/
 | own (x:Addr)
 /-- the dict of an exception -/
 | xd (fs:List (Str×V))
 /-- a bound method, f of x -/
 | met (f x:Addr)
 /-- a range object lo, lo + 1, .. below hi -/
 | rng (lo hi:Int)
 /-- a thing that is known to the object (the script; a dict while a loop walks it): read, never written while it is so -/
 | frz (o:Obj) (u:HO)
 /-- a code object's table -/
 | tbl (ps:Array Value)
 /-- any other thing, by what is true of its one object (a def of one's own: SetO a S n := HO.ext fun h => ..) -/
 | ext (φ:Heap→Prop)
abbrev Hp:=Addr→Option HO
def upd(H:Hp)(a:Addr)(o:HO):Hp:=fun b=>if b=a then some o else H b
theorem c7{H:Hp}{a:Addr}{o:HO}:upd H a o a=some o:=by unfold upd;rw[if_pos rfl]
theorem a8{H:Hp}{a b:Addr}{o:HO}(h:b≠a):upd H a o b=H b:=by unfold upd;rw[if_neg h]
theorem a8K{H:Hp}{a b:Addr}{o u:HO}(h:H a=some o)(h':H b=some u)(d:o≠u):a≠b:=by
 intro e;subst e;rw[h]at h';exact d (Option.some.inj h')
theorem g7{H:Hp}{a b:Addr}{o:HO}(h:H a=some o)(h':H b=none):a≠b:=by
 intro e;subst e;rw[h]at h';cases h'
section
variable (P:Program)(w:World)
def ObjOk(H:Hp)(h:Heap)(a:Addr):HO→Prop
 | .lst xs=>xs.length≤sizeLine∧∃(its:List Value) (n:Nat),Vals xs its∧h.get? a=some { cls:=.type "list",data:=.seq its.toArray n }
 | .tup xs=>xs.length≤sizeLine∧∃its:List Value,Vals xs its∧IsTup h a its.toArray
 | .dK kvs=>kvs.length≤sizeLine∧(a == sysModules)=false∧∃vs,KV kvs vs∧h.DictOf (a1Q P w) a vs
 | .dT kvs=>kvs.length≤sizeLine∧(a == sysModules)=false∧∃xs:List (List y9×Addr×Value),
   Paired (fun(p:List y9×V) (q:List y9×Addr×Value)=>p.1=q.1∧H q.2.1=some (.tup (p.1.map kV))∧RelV p.2 q.2.2) kvs xs ∧
   ∃o es ep,h.get? a=some o∧o.ExactDict∧o.data=.dict es ep∧es.toList=xs.map (entryOfKey (tupleKind (a1Q P w)))∧(xs.map (·.1)).Nodup
 | .set S n=>h.SetOf (intKind P w) a S n
 | .ins C dx fs=>H dx=some (.own a)∧fs.length≤1000∧dx≠a∧h.get? a=some (W.instObj C dx) ∧
   ∃mA,h.Ns1 dx mA∧(∀f,a4e (fs.lookup f) (mA f))∧PySem.Within mA (fs.map (·.1))
 | .own _=>∃o,h.get? a=some o
 | .xd fs=>∃mA,h.Ns1 a mA∧∀f,a4e (fs.lookup f) (mA f)
 | .rng lo hi=>∃t u v,h.get? a=some { cls:=.type "range",data:=.fields #[.int lo t,.int hi u,.int 1 v] }
 | .frz o u=>h.get? a=some o∧ObjOk H h a u
 | .tbl qs=>∃ps:Array Value,h.get? a=some { cls:=.none,data:=.fields ps }∧TriplesOk ps.toList∧∀pos cv,codeAmong pos ps.toList=some cv→∃c oc u,cv=Value.ref c∧H c=some (.frz oc u)∧∃vs q t t2,oc.data=.fields vs∧vs[1]? = some (Value.str q t2)∧qs[0]? = some (Value.str q t)
 | .met f x=>h.get? a=some (W.methodObj (.ref f) (.ref x))
 | .ext φ=>φ h∧(∃o,h.get? a=some o)∧∀h1 h2:Heap,φ h1→(∀o,h1.get? a=some o→h2.get? a=some o)→φ h2
def HOk(H:Hp)(h:Heap):Prop:=∀a o,H a=some o→ObjOk P w H h a o
end
section
variable {P:Program}{w:World}{H H':Hp}{h h':Heap}{a:Addr}{o:HO}
theorem ObjOk.lt(x:ObjOk P w H h a o):a<h.objs.size:=by
 cases o with
 | lst xs=>obtain⟨_,_,_,_,e⟩:=x;exact Heap.lt_size e
 | tup xs=>obtain⟨_,_,_,p⟩:=x;exact p.lt
 | dK kvs=>obtain⟨_,_,_,_,o,_,_,e,_⟩:=x;exact Heap.lt_size e
 | dT kvs=>obtain⟨_,_,_,_,o,_,_,e,_⟩:=x;exact Heap.lt_size e
 | set S n=>obtain⟨o,_,_,_,e,_⟩:=x;exact Heap.lt_size e
 | ins C dx fs=>obtain⟨_,_,_,e,_⟩:=x;exact Heap.lt_size e
 | own y=>obtain⟨_,e⟩:=x;exact Heap.lt_size e
 | xd fs=>obtain⟨_,⟨_,_,_,e,_⟩,_⟩:=x;exact Heap.lt_size e
 | rng lo hi=>obtain⟨_,_,_,e⟩:=x;exact Heap.lt_size e
 | frz ob u=>obtain⟨e,_⟩:=x;exact Heap.lt_size e
 | tbl ps=>obtain⟨_,e,_⟩:=x;exact Heap.lt_size e
 | met f y=>exact Heap.lt_size (show h.get? a=some _ from x)
 | ext φ=>obtain⟨_,⟨_,e⟩,_⟩:=x;exact Heap.lt_size e
theorem Paired.mapP{α β:Type}{F G:α→β→Prop}:∀{l₁:List α} {l₂:List β},Paired F l₁ l₂→(∀a b,F a b→G a b)→Paired G l₁ l₂
 | _,_,.nil,_=>.nil
 | _,_,.cons r t,f=>.cons (f _ _ r) (Paired.mapP t f)
theorem ObjOk.stay(x:ObjOk P w H h a o)(k:∀b u,(b=a∨H b=some (.own a))→h.get? b=some u→h'.get? b=some u)
  (ho:∀b,H b=some (.own a)→H' b=some (.own a)) (ht:∀b xs,H b=some (.tup xs)→H' b=some (.tup xs)) (hz:∀b ob u,H b=some (.frz ob u)→H' b=some (.frz ob u)):ObjOk P w H' h' a o:=by
 induction o with
 | lst xs=>obtain⟨z,its,n,r,e⟩:=x;exact⟨z,its,n,r,k _ _ (.inl rfl) e⟩
 | tup xs=>obtain⟨z,its,r,ob,e,c⟩:=x;exact⟨z,its,r,ob,k _ _ (.inl rfl) e,c⟩
 | dK kvs=>obtain⟨z,y,vs,r,ob,es,ep,e,c⟩:=x;exact⟨z,y,vs,r,ob,es,ep,k _ _ (.inl rfl) e,c⟩
 | dT kvs =>
  obtain⟨z,y,xs,r,ob,es,ep,e,c⟩:=x
  exact⟨z,y,xs,Paired.mapP r fun p q z=>⟨z.1,ht _ _ z.2.1,z.2.2⟩,ob,es,ep,k _ _ (.inl rfl) e,c⟩
 | set S n=>obtain⟨ob,es,ep,t,e,c⟩:=x;exact⟨ob,es,ep,t,k _ _ (.inl rfl) e,c⟩
 | ins C dx fs =>
  obtain⟨d,z,ne,e,mA,⟨od,es,ep,e2,c⟩,r⟩:=x
  exact⟨ho _ d,z,ne,k _ _ (.inl rfl) e,mA,⟨od,es,ep,k _ _ (.inr d) e2,c⟩,r⟩
 | own y=>obtain⟨ob,e⟩:=x;exact⟨ob,k _ _ (.inl rfl) e⟩
 | xd fs=>obtain⟨mA,⟨od,es,ep,e,c⟩,r⟩:=x;exact⟨mA,⟨od,es,ep,k _ _ (.inl rfl) e,c⟩,r⟩
 | rng lo hi=>obtain⟨t,u,v,e⟩:=x;exact⟨t,u,v,k _ _ (.inl rfl) e⟩
 | frz ob u ih=>obtain⟨e,q⟩:=x;exact⟨k _ _ (.inl rfl) e,ih q⟩
 | tbl qs =>
  obtain⟨ps,e,tr,al⟩:=x
  refine⟨ps,k a _ (.inl rfl) e,tr,fun pos cv q=>?_⟩
  obtain⟨c,oc,u,e1,e3,r⟩:=al pos cv q
  exact⟨c,oc,u,e1,hz _ _ _ e3,r⟩
 | met f y =>
  have e:h.get? a=some (W.methodObj (.ref f) (.ref y)):=x
  show h'.get? a=some (W.methodObj (.ref f) (.ref y))
  exact k a _ (.inl rfl) e
 | ext φ=>obtain⟨p,⟨o,e⟩,st⟩:=x;exact⟨st _ _ p fun o q=>k _ _ (.inl rfl) q,⟨o,k _ _ (.inl rfl) e⟩,st⟩
theorem HOk.lt(x:HOk P w H h)(e:H a=some o):a<h.objs.size:=(x a o e).lt
theorem HOk.fresh(x:HOk P w H h)(e:h.objs.size≤a):H a=none:=by
 cases q:H a with
 | none=>rfl
 | some u=>exact absurd (Nat.lt_of_lt_of_le (x.lt q) e) (Nat.lt_irrefl _)
theorem HOk.kept(x:HOk P w H h)(k:∀b u,h.get? b=some u→h'.get? b=some u):HOk P w H h':=fun a o e =>
 (x a o e).stay (fun b u _ q=>k b u q) (fun _ q=>q) (fun _ _ q=>q) fun _ _ _ q=>q
theorem HOk.laid(x:HOk P w H h)(k:∀b u,h.get? b=some u→h'.get? b=some u)(hp:h.objs.size≤a)(new:ObjOk P w (upd H a o) h' a o):HOk P w (upd H a o) h':=fun b u e=>by
 have hn:=x.fresh hp
 by_cases hb:b=a
 ·subst hb;rw[c7]at e;cases e;exact new
 ·rw[a8 hb]at e
  exact(x b u e).stay (fun c v _ q=>k c v q) (fun c q=>by rw[a8 (g7 q hn)];exact q) (fun c xs q=>by rw[a8 (g7 q hn)];exact q) fun c ob u q=>by rw[a8 (g7 q hn)];exact q
end
def Rd(H:Hp)(a:Addr)(u:HO):Prop:=H a=some u∨∃o,H a=some (.frz o u)
theorem Rd.of{H:Hp}{a:Addr}{u:HO}(h:H a=some u):Rd H a u:=.inl h
theorem Rd.ok{P:Program}{w:World}{H:Hp}{h:Heap}{a:Addr}{u:HO}(r:Rd H a u)(x:HOk P w H h):ObjOk P w H h a u:=by
 rcases r with r | ⟨o,r⟩
 ·exact x a u r
 ·obtain⟨_,q⟩:=x a _ r
  exact q
def Mut:Option HO→Prop
 | some (.lst _)=>True
 | some (.dK _)=>True
 | some (.dT _)=>True
 | some (.set _ _)=>True
 | some (.ins _ _ _)=>True
 | some (.ext _)=>True
 | _=>False
section
variable {P:Program}{w:World}{H:Hp}{h h':Heap}{x e:Addr}{o':HO}
theorem HOk.write(ok:HOk P w H h)(mu:Mut (H x))(he:e=x∨H e=some (.own x))(k:∀b u,b≠e→h.get? b=some u→h'.get? b=some u)(heo:∃u,h'.get? e=some u)
  (new:ObjOk P w (upd H x o') h' x o'):HOk P w (upd H x o') h':=fun b u q=>by
 have nown:∀c y,H c=some (.own y)→c≠x:=fun c y r z=>by subst z;rw[r]at mu;exact mu
 have ntup:∀c xs,H c=some (.tup xs)→c≠x:=fun c xs r z=>by subst z;rw[r]at mu;exact mu
 by_cases hb:b=x
 ·subst hb;rw[c7]at q;cases q;exact new
 ·rw[a8 hb]at q
  by_cases hbe:b=e
  ·have q':H b=some (.own x):=by
    rcases he with z | z
    ·exact absurd (hbe.trans z) hb
    ·rw[hbe];exact z
   rw[q]at q';cases q'
   obtain⟨v,hv⟩:=heo
   exact⟨v,by rw[hbe];exact hv⟩
  ·refine(ok b u q).stay (fun c v hc r=>k c v ?_ r) (fun c r=>by rw[a8 (nown c b r)];exact r) (fun c xs r=>by rw[a8 (ntup c xs r)];exact r) fun c ob u r=>by rw[a8 (fun z=>by subst z;rw[r]at mu;exact mu)];exact r
   rcases hc with rfl | hc
   ·exact hbe
   ·rintro rfl
    rcases he with z | z
    ·exact nown c b hc z
    ·rw[hc]at z;cases z;exact hb rfl
end
structure Un(fs ex:List Addr)(H H':Hp)(h h':Heap):Prop where
 keep:∀b o,h.get? b=some o→H b=none→b ∉ fs→b ∉ ex→h'.get? b=some o
 slot:∀b o,h.get? b=some o→H b=none→b∈fs→b ∉ ex→∃sl,h'.get? b=some { o with slots:=sl }
 free:∀b o,h.get? b=some o→H b=none→b ∉ ex→H' b=none
 there:∀b o,h.get? b=some o→b ∉ ex→∃o',h'.get? b=some o'
 tups:∀b xs,H b=some (.tup xs)→H' b=some (.tup xs)
 frzs:∀b o u,H b=some (.frz o u)→H' b=some (.frz o u)
 tbls:∀b ps,H b=some (.tbl ps)→∃more,H' b=some (.tbl (ps++more))
section
variable {fs fs' ex ex':List Addr}{H H1 H2:Hp}{h h1 h2 h':Heap}{a x e:Addr}{o:HO}
theorem Un.any(u:Un fs ex H H1 h h1){b:Addr}{ob:Obj}(q:h.get? b=some ob)(n:H b=none)(hx:b ∉ ex):∃sl,h1.get? b=some { ob with slots:=sl }:=by
 by_cases hb:b∈fs
 ·exact u.slot b ob q n hb hx
 ·exact⟨ob.slots,u.keep b ob q n hb hx⟩
theorem Un.trans(a:Un fs ex H H1 h h1)(b:Un fs ex H1 H2 h1 h2):Un fs ex H H2 h h2 where
 keep:=fun c ob q n hc hx=>b.keep c ob (a.keep c ob q n hc hx) (a.free c ob q n hx) hc hx
 slot:=fun c ob q n hc hx=>by
  obtain⟨sl,e1⟩:=a.slot c ob q n hc hx
  obtain⟨sl',e2⟩:=b.slot c _ e1 (a.free c ob q n hx) hc hx
  exact⟨sl',e2⟩
 free:=fun c ob q n hx=>by
  obtain⟨o',e1⟩:=a.there c ob q hx
  exact b.free c o' e1 (a.free c ob q n hx) hx
 there:=fun c ob q hx=>by
  obtain⟨o',e1⟩:=a.there c ob q hx
  exact b.there c o' e1 hx
 tups:=fun c xs q=>b.tups c xs (a.tups c xs q)
 frzs:=fun c ob xs q=>b.frzs c ob xs (a.frzs c ob xs q)
 tbls:=fun c ps q=>by
  obtain⟨m1,e1⟩:=a.tbls c ps q
  obtain⟨m2,e2⟩:=b.tbls c _ e1
  exact⟨m1++m2,by rw[e2,Array.append_assoc]⟩
theorem Un.kept(k:∀b u,h.get? b=some u→h'.get? b=some u):Un fs ex H H h h' :=
 ⟨fun b ob q _ _ _=>k b ob q,fun b ob q _ _ _=>⟨ob.slots,k b ob q⟩,fun _ _ _ n _=>n,fun b ob q _=>⟨ob,k b ob q⟩,fun _ _ q=>q,fun _ _ _ q=>q,fun _ ps q=>⟨#[],by rw[q];simp⟩⟩
theorem Un.refl:Un fs ex H H h h:=Un.kept fun _ _ q=>q
theorem Un.laid(k:∀b u,h.get? b=some u→h'.get? b=some u)(hp:h.objs.size≤a)(hn:H a=none):Un fs ex H (upd H a o) h h' where
 keep:=fun b u q _ _ _=>k b u q
 slot:=fun b u q _ _ _=>⟨u.slots,k b u q⟩
 free:=fun b u q n _=>by rw[a8 (Nat.ne_of_lt (Nat.lt_of_lt_of_le (Heap.lt_size q) hp))];exact n
 there:=fun b u q _=>⟨u,k b u q⟩
 tups:=fun b xs q=>by rw[a8 (g7 q hn)];exact q
 frzs:=fun b u xs q=>by rw[a8 (g7 q hn)];exact q
 tbls:=fun b ps q=>⟨#[],by rw[a8 (g7 q hn),q];simp⟩
theorem Un.write(mu:Mut (H x))(he:e=x∨H e=some (.own x))(k:∀b u,b≠e→h.get? b=some u→h'.get? b=some u)(heo:∃u,h'.get? e=some u):Un fs ex H (upd H x o) h h':=by
 have hx:∀b,H b=none→b≠x:=fun b n z=>by subst z;rw[n]at mu;exact mu
 have hb:∀b,H b=none→b≠e:=fun b n z=>by
  subst z
  rcases he with r | r
  ·exact hx b n r
  ·rw[n]at r;cases r
 have hm:∀b u,H b=some u→¬Mut (some u)→b≠x:=fun b u q nm z=>by subst z;rw[q]at mu;exact nm mu
 refine⟨fun b u q n _ _=>k b u (hb b n) q,fun b u q n _ _=>⟨u.slots,k b u (hb b n) q⟩,fun b u q n _=>by rw[a8 (hx b n)];exact n,fun b u q _=>?_,
  fun b xs q=>by rw[a8 (hm b _ q fun z=>z)];exact q,fun b u xs q=>by rw[a8 (hm b _ q fun z=>z)];exact q,fun b ps q=>⟨#[],by rw[a8 (hm b _ q fun z=>z),q];simp⟩⟩
 by_cases hbe:b=e
 ·subst hbe;exact heo
 ·exact⟨u,k b u hbe q⟩
theorem Un.mono(u:Un fs ex H H1 h h1)(hs:∀b∈fs,b∈fs')(hx:∀b∈ex,b∈ex'):Un fs' ex' H H1 h h1 :=
 ⟨fun b ob q n hb he=>u.keep b ob q n (fun z=>hb (hs b z)) fun z=>he (hx b z),fun _ _ q n _ he=>u.any q n fun z=>he (hx _ z),fun b ob q n he=>u.free b ob q n fun z=>he (hx b z),fun b ob q he=>u.there b ob q fun z=>he (hx b z),u.tups,u.frzs,u.tbls⟩
end
def trk(h:Heap)(H:Hp):List Addr:=(List.range h.objs.size).filter fun a=>(H a).isSome
def L3(h:Heap)(H:Hp):Heap:=W.hideAll h (trk h H)
theorem a3d(h:Heap)(H:Hp):(L3 h H).objs.size=h.objs.size:=W.hideAll_size _ _
theorem a4f{h:Heap}{H:Hp}{b:Addr}{o:Obj}(e:h.get? b=some o)(n:H b=none):(L3 h H).get? b=some o :=
 W.hideAll_get _ e fun hm=>by
  have q:(H b).isSome=true:=(List.mem_filter.mp hm).2
  rw[n]at q;simp at q
theorem a5U{h:Heap}{H:Hp}{b:Addr}{o:Obj}(e:(L3 h H).get? b=some o):h.get? b=some o∧H b=none:=by
 have e':h.get? b=some o:=W.of_hideAll (trk h H) e
 refine⟨e',?_⟩
 cases q:H b with
 | none=>rfl
 | some x =>
  have hm:b∈trk h H:=List.mem_filter.mpr ⟨List.mem_range.mpr (Heap.lt_size e'),by simp[q]⟩
  have z:(L3 h H).get? b=none:=W.hideAll_none (trk h H) hm
  rw[z]at e;cases e
def a5V(g h:Heap)(L:Addr):List (Addr×Obj):=(List.range h.objs.size).filterMap fun a=>if a=L∨(g.get? a).isSome=true then none else(h.get? a).map fun o=>(a,o)
def b7(g h:Heap)(L d:Addr):List (Addr×Obj):=(a5V g h L).filter fun p=>decide (p.1≠d)
structure Mod(K:W.Frag)(mg:Str→Option Value)(base:Heap):Prop where
 kin:K.In base
 glob:base.Ns mainGlobals mg
 blt:∃mb,base.Ns builtinsNs mb∧∀x:Str,x≠"__name__"→mb x=bootBuiltins x
 nolimit:base.NoLimit
structure Cx where
 prog:Program
 w:World
 K:W.Frag
 mg:Str→Option Value
 base:Heap
 A:Around
 N:List Str
 s₀:Shared
 H₀:Hp
 env:Env
 outer:List Env
 stack:List Env
 ex:List Addr
 fn:Str→Bool
 calm:Bool
 pn:List (Addr×Obj)
 xe:Value→Shared→Prop
def r6(l:List Env):List Addr:=l.filterMap (·.frame)
abbrev Cx.fs(X:Cx):List Addr:=r6 X.outer
def Vis(sc:Scope)(x:Str):Prop:=sc.names.lookup x=some .local∨sc.names.lookup x=some .cell∨sc.names.lookup x=some .free
def Loc(sc:Scope)(x:Str):Prop:=sc.names.lookup x=some .local∨sc.names.lookup x=some .cell
def a9r(env:Env)(h:Heap)(m:Str→Option Value)(x:Str)(u:Value):Prop :=
 (env.kindOf x=some .local∧m x=some u)∨((env.kindOf x=some .cell∨env.kindOf x=some .free)∧∃c,env.cells.lookup x=some c∧h.IsCell c (some u))
structure Cx.Ok(X:Cx):Prop where
 mod:Mod X.K X.mg X.base
 kind:X.env.scope.kind=.function
 glob:X.env.globals=mainGlobals
 blt:X.env.builtins=builtinsNs
 above:X.s₀.heap.objs.size≤X.env.locals
 inj:∀x y c,X.env.cells.lookup x=some c→X.env.cells.lookup y=some c→x=y
 has:∀x,(X.env.kindOf x=some .cell∨X.env.kindOf x=some .free)→∃c,X.env.cells.lookup x=some c
 cab:∀x c,X.fn x=true→X.env.cells.lookup x=some c→X.s₀.heap.objs.size≤c
 hd:X.calm=true→X.A.handled=none
 frames:X.A.frames=some X.stack
 stk:X.stack=X.outer∨(X.stack=X.env::X.outer∧X.env.frame=some X.env.locals)
 exf:∀b∈X.ex,b≠X.env.locals∧∀x c,X.env.cells.lookup x=some c→c≠b
 bs:∀b o,X.base.get? b=some o→X.s₀.heap.get? b=some o∧X.H₀ b=none
 bsz:X.base.objs.size≤X.s₀.heap.objs.size
 noex:∀b o,X.base.get? b=some o→b ∉ X.ex
 exfs:∀b∈X.ex,b ∉ X.fs
 funs:X.s₀.heap.FunFrames X.base X.outer
 frf:∀b∈X.fs,X.H₀ b=none
structure Inv(X:Cx)(pins:List (Addr×Obj))(σ:List (Option V))(H:Hp)(s:Shared):Prop where
 ok:X.Ok
 os:s.os=X.s₀.os
 bare:AllBare s.gens
 base:Un X.fs X.ex X.H₀ H X.s₀.heap s.heap
 loc:∃m,s.heap.Ns X.env.locals m∧∀(i:Nat) (x:Str) (v:V),X.N[i]? = some x→σ[i]? = some (some v)→Vis X.env.scope x→∃u,RelV v u∧a9r X.env s.heap m x u
 cell:∀x c,X.env.cells.lookup x=some c→∃v,s.heap.IsCell c v
 free:H X.env.locals=none
 freeC:∀x c,X.env.cells.lookup x=some c→H c=none
 pin:∀p∈X.pn++pins,s.heap.get? p.1=some p.2∧H p.1=none∧p.1≠X.env.locals∧p.1 ∉ X.fs∧∀v,p.2.data≠.cell v
 hok:HOk X.prog X.w H s.heap
 len:σ.length=X.N.length
section
variable {X:Cx}{pins:List (Addr×Obj)}{σ:List (Option V)}{H H':Hp}{s:Shared}{h':Heap}
theorem Cx.Ok.nofr(ok:X.Ok){b:Addr}{o:Obj}(e:X.base.get? b=some o):b ∉ X.fs:=fun hb=>by
 have:=(ok.funs.mem hb).1
 rw[e]at this;cases this
theorem Inv.bs(I:Inv X pins σ H s):∀b o,X.base.get? b=some o→s.heap.get? b=some o∧H b=none:=fun b o e =>
 ⟨I.base.keep b o (I.ok.bs b o e).1 (I.ok.bs b o e).2 (I.ok.nofr e) (I.ok.noex b o e),I.base.free b o (I.ok.bs b o e).1 (I.ok.bs b o e).2 (I.ok.noex b o e)⟩
theorem Inv.bk(I:Inv X pins σ H s):∀b o,X.base.get? b=some o→s.heap.get? b=some o:=fun b o e=>(I.bs b o e).1
theorem Inv.mod(I:Inv X pins σ H s):Mod X.K X.mg X.base:=I.ok.mod
theorem Inv.kIn(I:Inv X pins σ H s):X.K.In s.heap:=I.ok.mod.kin.keeps I.bk
theorem Inv.nolimit(I:Inv X pins σ H s):s.heap.NoLimit:=I.ok.mod.nolimit.keeps I.bk
theorem Inv.fr(I:Inv X pins σ H s):∃m,Fr X.base X.env.locals s.heap m :=
 let ⟨m,hn,_⟩:=I.loc
 ⟨m,hn,I.bk,Nat.le_trans I.ok.bsz I.ok.above⟩
theorem Inv.lt(I:Inv X pins σ H s):X.env.locals<s.heap.objs.size:=let ⟨_,hn,_⟩:=I.loc;hn.lt
theorem Inv.sz(I:Inv X pins σ H s):X.s₀.heap.objs.size≤s.heap.objs.size:=Nat.le_trans I.ok.above (Nat.le_of_lt I.lt)
theorem Inv.nofs(I:Inv X pins σ H s){a:Addr}(h:s.heap.objs.size≤a):a ∉ X.fs:=fun hb=>by
 obtain⟨_,o,ho,_⟩:=I.ok.funs.mem hb
 exact absurd (Nat.lt_of_lt_of_le (Heap.lt_size ho) (Nat.le_trans I.sz h)) (Nat.lt_irrefl _)
theorem Inv.cne(I:Inv X pins σ H s):∀x c,X.env.cells.lookup x=some c→c≠X.env.locals:=fun x c e z=>by
 obtain⟨v,o,ho,hd⟩:=I.cell x c e
 obtain⟨m,⟨o',es,ep,ho',hd',_⟩,_⟩:=I.loc
 rw[z,ho']at ho;cases ho;rw[hd']at hd;cases hd
theorem Inv.funs(I:Inv X pins σ H s):s.heap.FunFrames X.base X.outer:=by
 have all:∀(l:List Env),(∀b∈r6 l,b∈X.fs)→X.s₀.heap.FunFrames X.base l→s.heap.FunFrames X.base l:=by
  intro l
  induction l with
  | nil=>intro _ _;trivial
  | cons env r ih =>
   intro hs hl
   obtain⟨hk,⟨L,o,hf,hn,ho,hd⟩,hr⟩:=hl
   have hL:L∈X.fs:=hs L (by unfold r6;rw[List.filterMap_cons,hf];exact List.mem_cons_self)
   obtain⟨sl,e⟩:=I.base.slot L o ho (I.ok.frf L hL) hL fun z=>I.ok.exfs L z hL
   exact⟨hk,⟨L,_,hf,hn,e,hd⟩,ih (fun b hb=>hs b (by unfold r6;rw[List.filterMap_cons,hf];exact List.mem_cons_of_mem _ hb)) hr⟩
 exact all X.outer (fun _ hb=>hb) I.ok.funs
theorem Inv.stack(I:Inv X pins σ H s):s.heap.FunFrames X.base X.stack:=by
 rcases I.ok.stk with e | ⟨e,hf⟩
 ·rw[e];exact I.funs
 ·rw[e]
  obtain⟨m,hn,_⟩:=I.loc
  refine .cons (by rw[I.ok.kind];decide) hf hn ?_ I.funs
  exact Heap.get?_none_of_le (Nat.le_trans I.ok.bsz I.ok.above)
theorem Inv.stkSub(I:Inv X pins σ H s):∀b∈r6 X.stack,b∈X.env.locals::X.fs:=fun b hb=>by
 rcases I.ok.stk with e | ⟨e,hf⟩
 ·rw[e]at hb;exact List.mem_cons_of_mem _ hb
 ·rw[e]at hb
  unfold r6 at hb
  rw[List.filterMap_cons,hf]at hb
  exact hb
theorem Inv.stkFree(I:Inv X pins σ H s):∀b∈r6 X.stack,H b=none:=fun b hb=>by
 rcases List.mem_cons.mp (I.stkSub b hb)with e | hb
 ·rw[e];exact I.free
 ·obtain⟨_,o,ho,_⟩:=I.ok.funs.mem hb
  exact I.base.free b o ho (I.ok.frf b hb) fun z=>I.ok.exfs b z hb
theorem Inv.step{g':Array GenState}{t':Nat}{d':Drawn}{ch:List Addr}(I:Inv X pins σ H s)
  (hch:∀b∈ch,(b∈X.ex∨X.s₀.heap.objs.size≤b)∧b≠X.env.locals∧(∀x c,X.env.cells.lookup x=some c→c≠b)∧∀p∈X.pn++pins,p.1≠b)
  (keep:∀b o,b≠X.env.locals→b ∉ X.fs→b ∉ ch→s.heap.get? b=some o→H b=none→h'.get? b=some o)
  (slot:∀b o,b≠X.env.locals→b∈X.fs→b ∉ ch→s.heap.get? b=some o→H b=none→∃sl,h'.get? b=some { o with slots:=sl }) (free:∀b o,b ∉ ch→s.heap.get? b=some o→H b=none→H' b=none)
  (there:∀b o,b ∉ ch→s.heap.get? b=some o→∃o',h'.get? b=some o')
  (tups:∀b xs,H b=some (.tup xs)→H' b=some (.tup xs)) (frzs:∀b o u,H b=some (.frz o u)→H' b=some (.frz o u)) (tbls:∀b ps,H b=some (.tbl ps)→∃more,H' b=some (.tbl (ps++more)))
  (ns:∀m,s.heap.Ns X.env.locals m→h'.Ns X.env.locals m) (hok:HOk X.prog X.w H' h') (hg:AllBare g') :
  Inv X pins σ H' { s with heap:=h',gens:=g',drawn:=d',toks:=t' }:=by
 have neL:∀b o,X.s₀.heap.get? b=some o→b≠X.env.locals:=fun b o e=>Nat.ne_of_lt (Nat.lt_of_lt_of_le (Heap.lt_size e) I.ok.above)
 have neC:∀b o,X.s₀.heap.get? b=some o→b ∉ X.ex→b ∉ ch:=fun b o e hx hb=>by
  rcases(hch b hb).1 with z | z
  ·exact hx z
  ·exact absurd (Nat.lt_of_lt_of_le (Heap.lt_size e) z) (Nat.lt_irrefl _)
 have cellK:∀x c,X.env.cells.lookup x=some c→∀v,s.heap.IsCell c v→h'.IsCell c v:=fun x c e v ⟨o,ho,hd⟩=>by
  have nch:c ∉ ch:=fun z=>(hch c z).2.2.1 x c e rfl
  by_cases hc:c∈X.fs
  ·obtain⟨sl,q⟩:=slot c o (I.cne x c e) hc nch ho (I.freeC x c e)
   exact⟨_,q,hd⟩
  ·exact⟨o,keep c o (I.cne x c e) hc nch ho (I.freeC x c e),hd⟩
 refine⟨I.ok,I.os,hg,⟨fun b o e n hb hx=>?_,fun b o e n hb hx=>?_,fun b o e n hx=>?_,fun b o e hx=>?_,fun b xs e=>tups b xs (I.base.tups b xs e),fun b o xs e=>frzs b o xs (I.base.frzs b o xs e),fun b ps e=>?_⟩,?_,fun x c e=>?_,?_,fun x c e=>?_,fun p hp=>?_,hok,I.len⟩
 ·exact keep b o (neL b o e) hb (neC b o e hx) (I.base.keep b o e n hb hx) (I.base.free b o e n hx)
 ·obtain⟨sl,e1⟩:=I.base.slot b o e n hb hx
  obtain⟨sl',e2⟩:=slot b _ (neL b o e) hb (neC b o e hx) e1 (I.base.free b o e n hx)
  exact⟨sl',e2⟩
 ·obtain⟨o',e1⟩:=I.base.there b o e hx
  exact free b o' (neC b o e hx) e1 (I.base.free b o e n hx)
 ·obtain⟨o',e1⟩:=I.base.there b o e hx
  exact there b o' (neC b o e hx) e1
 ·obtain⟨m1,e1⟩:=I.base.tbls b ps e
  obtain⟨m2,e2⟩:=tbls b _ e1
  exact⟨m1++m2,by rw[e2,Array.append_assoc]⟩
 ·obtain⟨m,hn,hl⟩:=I.loc
  refine⟨m,ns m hn,fun i x v e1 e2 e3=>?_⟩
  obtain⟨u,r,l⟩:=hl i x v e1 e2 e3
  refine⟨u,r,?_⟩
  rcases l with l | ⟨k,c,e,z⟩
  ·exact .inl l
  ·exact .inr ⟨k,c,e,cellK x c e _ z⟩
 ·obtain⟨v,z⟩:=I.cell x c e
  exact⟨v,cellK x c e v z⟩
 ·obtain⟨m,⟨o,_,_,ho,_⟩,_⟩:=I.loc
  exact free _ o (fun z=>(hch _ z).2.1 rfl) ho I.free
 ·obtain⟨v,o,ho,hd⟩:=I.cell x c e
  exact free c o (fun z=>(hch c z).2.2.1 x c e rfl) ho (I.freeC x c e)
 ·obtain⟨e,n,ne,nf,d⟩:=I.pin p hp
  have nch:p.1 ∉ ch:=fun z=>(hch p.1 z).2.2.2 p hp rfl
  exact⟨keep p.1 p.2 ne nf nch e n,free p.1 p.2 nch e n,ne,nf,d⟩
theorem Inv.un{t':Nat}(I:Inv X pins σ H s)(u:Un X.fs [] H H' s.heap h')(hok:HOk X.prog X.w H' h'):Inv X pins σ H' { s with heap:=h',toks:=t' }:=by
 obtain⟨m,⟨o,es,ep,ho,r⟩,_⟩:=id I.loc
 obtain⟨sl,hL⟩:=u.any ho I.free (by simp)
 exact I.step (g':=s.gens) (d':=s.drawn) (ch:=[]) (fun _ z=>nomatch z) (fun b o _ hb _ e n=>u.keep b o e n hb (by simp)) (fun b o _ hb _ e n=>u.slot b o e n hb (by simp)) (fun b o _ e n=>u.free b o e n (by simp)) (fun b o _ e=>u.there b o e (by simp)) u.tups u.frzs u.tbls (fun m' hm=>by
  obtain⟨o',es',ep',ho',r'⟩:=hm
  rw[ho]at ho';cases ho'
  exact⟨_,es',ep',hL,r'⟩) hok I.bare
theorem Inv.call{g':Array GenState}{t':Nat}{d':Drawn}{ch:List Addr}(I:Inv X pins σ H s)(u:Un (r6 X.stack) ch H H' s.heap h')(hok:HOk X.prog X.w H' h')(hg:AllBare g')
  (hch:∀b∈ch,(b∈X.ex∨X.s₀.heap.objs.size≤b)∧b≠X.env.locals∧(∀x c,X.env.cells.lookup x=some c→c≠b)∧∀p∈X.pn++pins,p.1≠b) :
  Inv X pins σ H' { s with heap:=h',gens:=g',drawn:=d',toks:=t' }:=by
 obtain⟨m,⟨o,es,ep,ho,r⟩,_⟩:=id I.loc
 obtain⟨sl,hL⟩:=u.any ho I.free fun z=>(hch _ z).2.1 rfl
 exact I.step (ch:=ch) hch (fun b o hL hb hc e n=>u.keep b o e n (fun z=>(List.mem_cons.mp (I.stkSub b z)).elim hL hb) hc) (fun b o _ _ hc e n=>u.any e n hc) (fun b o hc e n=>u.free b o e n hc) (fun b o hc e=>u.there b o e hc) u.tups u.frzs u.tbls (fun m' hm=>by
  obtain⟨o',es',ep',ho',r'⟩:=hm
  rw[ho]at ho';cases ho'
  exact⟨_,es',ep',hL,r'⟩) hok hg
theorem Inv.turned{t':Nat}{it:Addr}(I:Inv X pins σ H s)(k:∀b o,b≠it→s.heap.get? b=some o→h'.get? b=some o)(hn:H it=none)(hL:it≠X.env.locals)
  (h1:it∈X.ex∨X.s₀.heap.objs.size≤it) (h2:∀x c,X.env.cells.lookup x=some c→c≠it) (h3:∀p∈X.pn++pins,p.1≠it):Inv X pins σ H { s with heap:=h',toks:=t' }:=by
 have nit:∀b u,H b=some u→b≠it:=fun b u e z=>by rw[z,hn]at e;cases e
 refine I.step (g':=s.gens) (d':=s.drawn) (ch:=[it]) (fun b hb=>?_) (fun b o _ _ hc e _=>k b o (fun z=>hc (by simp[z])) e) (fun b o _ _ hc e _=>⟨o.slots,k b o (fun z=>hc (by simp[z])) e⟩) (fun _ _ _ _ n=>n)
  (fun b o hc e=>⟨o,k b o (fun z=>hc (by simp[z])) e⟩) (fun _ _ e=>e) (fun _ _ _ e=>e) (fun b ps e=>⟨#[],by rw[e];simp⟩) (fun m hm=>?_) (fun b u e=>?_) I.bare
 ·have e:b=it:=by simpa using hb
  subst e
  exact⟨h1,hL,h2,h3⟩
 ·obtain⟨o,es,ep,ho,r⟩:=hm
  exact⟨o,es,ep,k _ o (Ne.symm hL) ho,r⟩
 ·refine(I.hok b u e).stay (fun c v hc q=>k c v ?_ q) (fun _ q=>q) (fun _ _ q=>q) fun _ _ _ q=>q
  rcases hc with z | z
  ·rw[z];exact nit b u e
  ·exact nit c _ z
theorem Inv.tok(I:Inv X pins σ H s)(t:Nat):Inv X pins σ H { s with toks:=t }:=I.un (h':=s.heap) (t':=t) Un.refl I.hok
theorem Inv.kept{t':Nat}(I:Inv X pins σ H s)(k:∀b u,s.heap.get? b=some u→h'.get? b=some u):Inv X pins σ H { s with heap:=h',toks:=t' }:=I.un (Un.kept k) (I.hok.kept k)
theorem Inv.laid{a:Addr}{o:HO}{t':Nat}(I:Inv X pins σ H s)(k:∀b u,s.heap.get? b=some u→h'.get? b=some u)(hp:s.heap.objs.size≤a)(new:ObjOk X.prog X.w (upd H a o) h' a o) :
  Inv X pins σ (upd H a o) { s with heap:=h',toks:=t' }:=I.un (Un.laid k hp (I.hok.fresh hp)) (I.hok.laid k hp new)
theorem Inv.write{x e:Addr}{o:HO}{t':Nat}(I:Inv X pins σ H s)(mu:Mut (H x))(he:e=x∨H e=some (.own x))(k:∀b u,b≠e→s.heap.get? b=some u→h'.get? b=some u)(heo:∃u,h'.get? e=some u)
  (new:ObjOk X.prog X.w (upd H x o) h' x o):Inv X pins σ (upd H x o) { s with heap:=h',toks:=t' }:=I.un (Un.write mu he k heo) (I.hok.write mu he k heo new)
theorem Inv.weak{σ':List (Option V)}(I:Inv X pins σ H s)(hl:σ'.length=σ.length)(w:∀(i:Nat) v,σ'[i]? = some (some v)→σ[i]? = some (some v)):Inv X pins σ' H s :=
 ⟨I.ok,I.os,I.bare,I.base,let ⟨m,hn,hl'⟩:=I.loc; ⟨m,hn,fun i x v e1 e2 e3=>hl' i x v e1 (w i v e2) e3⟩,I.cell,I.free,I.freeC,I.pin,I.hok,hl.trans I.len⟩
theorem Inv.pins_of{pins':List (Addr×Obj)}(I:Inv X pins σ H s)(h:∀p∈pins',s.heap.get? p.1=some p.2∧H p.1=none∧p.1≠X.env.locals∧p.1 ∉ X.fs∧∀v,p.2.data≠.cell v):Inv X pins' σ H s :=
 ⟨I.ok,I.os,I.bare,I.base,I.loc,I.cell,I.free,I.freeC,fun p hp=>(List.mem_append.mp hp).elim (fun z=>I.pin p (List.mem_append_left _ z)) (h p),I.hok,I.len⟩
theorem a0P{N:List Str}(hN:N.Nodup){i j:Nat}{x:Str}(a:N[i]? = some x)(b:N[j]? = some x):i=j:=by
 obtain⟨h1,e1⟩:=List.getElem?_eq_some_iff.mp a
 obtain⟨h2,e2⟩:=List.getElem?_eq_some_iff.mp b
 exact(List.getElem_inj hN).mp (e1.trans e2.symm)
theorem a0h{M:Model}{A:Around}{E:Value→Shared→Prop}{i:Nat}{x:Str}{v:V}{u:Value}{Q:Unit→Shared→Prop}(I:Inv X pins σ H s)(hN:X.N.Nodup)(hi:X.N[i]? = some x)(hx:Loc X.env.scope x)(r:RelV v u)
  (h:∀s',Inv X pins (σ.set i (some v)) H s'→(∃a,Heap.SameBut a s.heap s'.heap∧(a=X.env.locals∨X.env.cells.lookup x=some a))→Q () s') (hf:X.fn x=true∨X.env.scope.names.lookup x=some .local:=by first | exact .inl rfl | exact .inr rfl | assumption):wpAny M A (storeName X.env x u) Q E s:=by
 obtain⟨m,hn,hl⟩:=id I.loc
 have hcls:(X.env.scope.kind == .class || (X.env.scope.kind == .module && X.env.locals != X.env.globals))=false:=by rw[I.ok.kind];rfl
 have hiσ:i<σ.length:=by rw[I.len];exact(List.getElem?_eq_some_iff.mp hi).1
 have cne:=I.cne
 have tracked:∀{a:Addr} {h':Heap},(∃o,s.heap.get? a=some o∧H a=none)→Heap.SameBut a s.heap h'→HOk X.prog X.w H h':=fun{a h'} ha hs b ob e=>by
  obtain⟨_,_,hfree⟩:=ha
  refine(I.hok b ob e).stay (fun c w' hc q=>(hs.2 c ?_).trans q) (fun _ q=>q) (fun _ _ q=>q) fun _ _ _ q=>q
  rintro rfl
  rcases hc with rfl | hc
  ·rw[hfree]at e;cases e
  ·rw[hfree]at hc;cases hc
 rcases hx with hk | hk
 ·refine wpAny_storeName_local hk hn (fun h' hn' hs=>?_) hcls
  obtain⟨oL,_,_,hoL,_⟩:=id hn
  refine h _ ⟨I.ok,I.os,I.bare,⟨fun b o e n hb hx=>?_,fun b o e n hb hx=>?_,I.base.free,fun b o e hx=>?_,I.base.tups,I.base.frzs,I.base.tbls⟩,⟨_,hn',fun j y v' e1 e2 e3=>?_⟩,fun y c e=>?_,I.free,I.freeC,fun p hp=>?_,tracked ⟨oL,hoL,I.free⟩ hs,by simpa using I.len⟩ ⟨_,hs,.inl rfl⟩
  ·exact(hs.2 b (Nat.ne_of_lt (Nat.lt_of_lt_of_le (Heap.lt_size e) I.ok.above))).trans (I.base.keep b o e n hb hx)
  ·obtain⟨sl,e1⟩:=I.base.slot b o e n hb hx
   exact⟨sl,(hs.2 b (Nat.ne_of_lt (Nat.lt_of_lt_of_le (Heap.lt_size e) I.ok.above))).trans e1⟩
  ·obtain⟨o',e1⟩:=I.base.there b o e hx
   exact⟨o',(hs.2 b (Nat.ne_of_lt (Nat.lt_of_lt_of_le (Heap.lt_size e) I.ok.above))).trans e1⟩
  ·by_cases hj:j=i
   ·subst hj
    rw[hi]at e1;cases e1
    rw[List.getElem?_set_self hiσ]at e2
    cases e2
    exact⟨u,r,.inl ⟨hk,by simp⟩⟩
   ·rw[List.getElem?_set_ne (Ne.symm hj)]at e2
    obtain⟨u',r',q⟩:=hl j y v' e1 e2 e3
    refine⟨u',r',?_⟩
    rcases q with⟨k,e⟩ | ⟨k,c,e,z⟩
    ·refine .inl ⟨k,?_⟩
     have:y≠x:=fun e=>hj (a0P hN e1 (e▸hi))
     simp[this,e]
    ·exact .inr ⟨k,c,e,z.sameBut hs (cne y c e)⟩
  ·obtain⟨w',z⟩:=I.cell y c e
   exact⟨w',z.sameBut hs (cne y c e)⟩
  ·obtain⟨e,n,ne,nf,d⟩:=I.pin p hp
   exact⟨(hs.2 p.1 ne).trans e,n,ne,nf,d⟩
 ·have hfn:X.fn x=true:=by
   rcases hf with z | z
   ·exact z
   ·rw[z]at hk;cases hk
  obtain⟨c,hc⟩:=I.ok.has x (.inl hk)
  obtain⟨w',z⟩:=I.cell x c hc
  refine wpAny_storeName_cell I.ok.kind hk hc z (fun h' hc' hs=>?_)
  obtain⟨oc,hoc,hocd⟩:=id z
  refine h { s with heap:=h' } ⟨I.ok,I.os,I.bare,⟨fun b o e n hb hx=>?_,fun b o e n hb hx=>?_,I.base.free,fun b o e hx=>?_,I.base.tups,I.base.frzs,I.base.tbls⟩,⟨m,hn.sameBut hs (Ne.symm (cne x c hc)),fun j y v' e1 e2 e3=>?_⟩,fun y c' e=>?_,I.free,I.freeC,fun p hp=>?_,tracked ⟨oc,hoc,I.freeC x c hc⟩ hs,by simpa using I.len⟩ ⟨c,hs,.inr hc⟩
  ·exact(hs.2 b (Nat.ne_of_lt (Nat.lt_of_lt_of_le (Heap.lt_size e) (I.ok.cab x c hfn hc)))).trans (I.base.keep b o e n hb hx)
  ·obtain⟨sl,e1⟩:=I.base.slot b o e n hb hx
   exact⟨sl,(hs.2 b (Nat.ne_of_lt (Nat.lt_of_lt_of_le (Heap.lt_size e) (I.ok.cab x c hfn hc)))).trans e1⟩
  ·obtain⟨o',e1⟩:=I.base.there b o e hx
   exact⟨o',(hs.2 b (Nat.ne_of_lt (Nat.lt_of_lt_of_le (Heap.lt_size e) (I.ok.cab x c hfn hc)))).trans e1⟩
  ·by_cases hj:j=i
   ·subst hj
    rw[hi]at e1;cases e1
    rw[List.getElem?_set_self hiσ]at e2
    cases e2
    exact⟨u,r,.inr ⟨.inl hk,c,hc,hc'⟩⟩
   ·rw[List.getElem?_set_ne (Ne.symm hj)]at e2
    obtain⟨u',r',q⟩:=hl j y v' e1 e2 e3
    refine⟨u',r',?_⟩
    rcases q with q | ⟨k,c',e,z'⟩
    ·exact .inl q
    ·refine .inr ⟨k,c',e,z'.sameBut hs ?_⟩
     rintro rfl
     exact hj (a0P hN e1 (I.ok.inj _ _ _ e hc▸hi))
  ·by_cases hcc:c'=c
   ·subst hcc;exact⟨_,hc'⟩
   ·obtain⟨w2,z2⟩:=I.cell y c' e
    exact⟨w2,z2.sameBut hs hcc⟩
  ·obtain⟨e,n,ne,nf,d⟩:=I.pin p hp
   refine⟨(hs.2 p.1 ?_).trans e,n,ne,nf,d⟩
   intro q
   rw[q,hoc]at e
   have q':oc=p.2:=Option.some.inj e
   exact d w' (by rw[← q'];exact hocd)
theorem a0Q{M:Model}{A:Around}{E:Value→Shared→Prop}{i:Nat}{x:Str}{v:V}{u:Value}{Q:Unit→Shared→Prop}(I:Inv X pins σ H s)(hN:X.N.Nodup)(hi:X.N[i]? = some x)(hx:Loc X.env.scope x)(r:RelV v u)
  (h:∀s',Inv X pins (σ.set i (some v)) H s'→Q () s') (hf:X.fn x=true∨X.env.scope.names.lookup x=some .local:=by first | exact .inl rfl | exact .inr rfl | assumption):wpAny M A (storeName X.env x u) Q E s :=
 a0h I hN hi hx r (fun s' I' _=>h s' I') hf
theorem Inv.call'{s':Shared}{ch:List Addr}(I:Inv X pins σ H s)(ho:s'.os=s.os)(u:Un (r6 X.stack) ch H H' s.heap s'.heap)(hok:HOk X.prog X.w H' s'.heap)(hg:AllBare s'.gens)
  (hch:∀b∈ch,(b∈X.ex∨X.s₀.heap.objs.size≤b)∧b≠X.env.locals∧(∀x c,X.env.cells.lookup x=some c→c≠b)∧∀p∈X.pn++pins,p.1≠b):Inv X pins σ H' s':=by
 obtain⟨h',g',d',t',o'⟩:=s'
 have e:o'=s.os:=ho
 subst e
 exact I.call (g':=g') (t':=t') (d':=d') u hok hg hch
end
abbrev XK:=Value→Option Addr→Hp→Prop
abbrev St:=List (Option V)
abbrev VK:=V→Hp→Prop
abbrev TE:=St→Hp→VK→Prop
abbrev TT:=St→Hp→(Bool→Hp→Prop)→Prop
abbrev TA:=St→Hp→(List V→Hp→Prop)→Prop
structure Ends where
 nx:St→Hp→Prop
 rt:VK
 bk:St→Hp→Prop:=fun _ _=>False
 ct:St→Hp→Prop:=fun _ _=>False
abbrev TS:=Ends→St→Hp→Prop
def EP(X:Cx)(pins:List (Addr×Obj))(σ:St)(Q:VK)(u:Value)(s':Shared):Prop:=∃v H',Inv X pins σ H' s'∧RelV v u∧Q v H'
def TP(X:Cx)(pins:List (Addr×Obj))(σ:St)(Q:Bool→Hp→Prop)(b:Bool)(s':Shared):Prop:=∃H',Inv X pins σ H' s'∧Q b H'
def AP(X:Cx)(pins:List (Addr×Obj))(σ:St)(Q:List V→Hp→Prop)(us:List Value)(s':Shared):Prop:=∃vs H',Inv X pins σ H' s'∧Vals vs us∧Q vs H'
def SP(X:Cx)(pins:List (Addr×Obj))(D:Ends)(f:Flow)(s':Shared):Prop :=
 match f with
 | .next=>∃σ' H',Inv X pins σ' H' s'∧D.nx σ' H'
 | .brk=>∃σ' H',Inv X pins σ' H' s'∧D.bk σ' H'
 | .cont=>∃σ' H',Inv X pins σ' H' s'∧D.ct σ' H'
 | .ret u=>∃v σ' H',Inv X pins σ' H' s'∧RelV v u∧D.rt v H'
def PE(X:Cx)(e:Expr)(t:TE):Prop :=
 ∀(pins:List (Addr×Obj)) (s:Shared) (σ:St) (H:Hp) (Q:VK),Inv X pins σ H s→t σ H Q→wpAny (model X.prog X.w) X.A (eval e X.env) (EP X pins σ Q) X.xe s
def PT(X:Cx)(e:Expr)(t:TT):Prop :=
 ∀(pins:List (Addr×Obj)) (s:Shared) (σ:St) (H:Hp) (Q:Bool→Hp→Prop),Inv X pins σ H s→t σ H Q→wpAny (model X.prog X.w) X.A (isTrue e X.env (eval e X.env)) (TP X pins σ Q) X.xe s
def PW(X:Cx)(e:Expr)(t:TT):Prop :=
 ∀(whole:Sem Value) (pins:List (Addr×Obj)) (s:Shared) (σ:St) (H:Hp) (Q:Bool→Hp→Prop),Inv X pins σ H s→t σ H Q→wpAny (model X.prog X.w) X.A (isTrue e X.env whole) (TP X pins σ Q) X.xe s
theorem PW.pt{X:Cx}{e:Expr}{t:TT}(h:PW X e t):PT X e t:=h _
def PA(X:Cx)(es:List Expr)(t:TA):Prop :=
 ∀(pos:Pos) (pins:List (Addr×Obj)) (s:Shared) (σ:St) (H:Hp) (Q:List V→Hp→Prop),Inv X pins σ H s→t σ H Q→wpAny (model X.prog X.w) X.A (spliced (backTo pos (starEach es X.env))) (AP X pins σ Q) X.xe s
def PS(X:Cx)(st:Stmt)(t:TS):Prop :=
 ∀(pins:List (Addr×Obj)) (s:Shared) (σ:St) (H:Hp) (D:Ends),Inv X pins σ H s→t D σ H→wpAny (model X.prog X.w) X.A (exec st X.env) (SP X pins D) X.xe s
def PSs(X:Cx)(st:List Stmt)(t:TS):Prop :=
 ∀(pins:List (Addr×Obj)) (s:Shared) (σ:St) (H:Hp) (D:Ends),Inv X pins σ H s→t D σ H→wpAny (model X.prog X.w) X.A (execs st X.env) (SP X pins D) X.xe s
theorem c5{α:Type}{t:Sem α}{Q Q':α→Shared→Prop}{M:Model}{A:Around}{E:Value→Shared→Prop}{s:Shared}(h:wpAny M A t Q E s)(hQ:∀a s,Q a s→Q' a s):wpAny M A t Q' E s:=wpAny_mono h hQ fun _ _ x=>x
section
variable {X:Cx}
def u7(i:Nat):TE:=fun σ H Q=>∃v,σ[i]? = some (some v)∧Q v H
def tC(v:V):TE:=fun _ H Q=>Q v H
theorem a7l{i:Nat}{x:Str}{pos:Pos}(hN:X.N[i]? = some x)(hv:Vis X.env.scope x)(hd:(x == ("__debug__" : Str))=false:=by decide)(hcd:(x == ("__classdict__" : Str))=false:=by decide):PE X (.Name x pos) (u7 i):=by
 intro pins s σ H Q I h
 obtain⟨v,e,h⟩:=h
 obtain⟨m,hn,hl⟩:=I.loc
 obtain⟨u,r,l⟩:=hl i x v hN e hv
 have fin:EP X pins σ Q u s:=⟨v,H,I,r,h⟩
 rcases l with⟨hk,hm⟩ | ⟨hk,c,hc,hcell⟩
 ·exact wpAny_Name (wpAny_loadName_local I.ok.kind hk hn hm fin) hd
 ·rcases hk with hk | hk
  ·exact wpAny_Name (wpAny_loadName_cell I.ok.kind hk hc hcell fin) hd
  ·exact wpAny_Name (wpAny_loadName_free I.ok.kind hk hc hcell fin hcd) hd
theorem b9{i j pos}:PE X (.Constant (.int i) j pos) (tC (.int i)):=fun _ _ _ H _ I h=>wpAny_Constant_int ⟨.int i,H,I.tok _,⟨_,rfl⟩,h⟩
theorem V5{b j pos}:PE X (.Constant (.bool b) j pos) (tC (.bl b)):=fun _ _ _ H _ I h=>Constant_bool ⟨.bl b,H,I,rfl,h⟩
theorem a0R{x j pos}:PE X (.Constant (.str x) j pos) (tC (.str x)):=fun _ _ _ H _ I h=>Calls.Constant_str ⟨.str x,H,I.tok _,⟨_,rfl⟩,h⟩
def Gl(X:Cx)(x:Str):Prop:=X.env.kindOf x=some .globalImplicit
theorem Y5{E:Value→Shared→Prop}{pins:List (Addr×Obj)}{s:Shared}{σ:St}{H:Hp}{x:Str}{u:Value}{pos:Pos}{Q:Value→Shared→Prop}(I:Inv X pins σ H s)(hg:Gl X x)(hm:X.mg x=some u)(h:Q u s)
  (hd:(x == ("__debug__" : Str))=false:=by decide):wpAny (model X.prog X.w) X.A (eval (.Name x pos) X.env) Q E s :=
 Calls.Name_function_global I.ok.kind hg (Calls.loadGlobal_global (by rw[I.ok.glob];exact I.mod.glob.keeps I.bk) hm h) hd
theorem K0{E:Value→Shared→Prop}{pins:List (Addr×Obj)}{s:Shared}{σ:St}{H:Hp}{x:Str}{u:Value}{pos:Pos}{Q:Value→Shared→Prop}(I:Inv X pins σ H s)(hg:Gl X x)(hm:X.mg x=none)(hv:bootBuiltins x=some u)(h:Q u s)
  (hn:x≠"__name__" := by decide) (hd:(x == ("__debug__" : Str))=false:=by decide):wpAny (model X.prog X.w) X.A (eval (.Name x pos) X.env) Q E s:=by
 obtain⟨mb,h1,h2⟩:=I.mod.blt
 exact Calls.Name_function_global I.ok.kind hg (Calls.loadGlobal_builtin (by rw[I.ok.glob];exact I.mod.glob.keeps I.bk) hm (by rw[I.ok.blt];exact h1.keeps I.bk) ((h2 x hn).trans hv) h) hd
theorem a5W{x:Str}{v:V}{u:Value}{pos:Pos}(hg:Gl X x)(hm:X.mg x=some u)(r:RelV v u)(hd:(x == ("__debug__" : Str))=false:=by decide):PE X (.Name x pos) (tC v) :=
 fun _ _ _ H _ I h=>Y5 I hg hm ⟨v,H,I,r,h⟩ hd
theorem Y6{x:Str}{v:V}{u:Value}{pos:Pos}(hg:Gl X x)(hm:X.mg x=none)(hv:bootBuiltins x=some u)(r:RelV v u)(hn:x≠"__name__" := by decide)(hd:(x == ("__debug__" : Str))=false:=by decide):PE X (.Name x pos) (tC v) :=
 fun _ _ _ H _ I h=>K0 I hg hm hv ⟨v,H,I,r,h⟩ hn hd
variable {a b:Expr}{ta tb:TE}{pos:Pos}
def tB(t:TE):TT:=fun σ H Q=>t σ H fun x H1=>∃c,x=.bl c∧Q c H1
theorem K1{e:Expr}{t:TE}(h:PE X e t)(he:∀whole,isTrue e X.env whole=(do let v ← whole;standAt e.pos;holding [v] (truthy v)):=by intro _;rfl):PT X e (tB t):=by
 intro pins s σ H Q I hw
 refine isTrue_plain (c5 (h pins s σ H _ I hw) fun v s1 ⟨x,H1,I1,r1,q1⟩=>?_) (he _)
 obtain⟨d,rfl,q⟩:=q1
 cases r1
 exact wpAny_truthy_bool ⟨H1,I1,q⟩
variable {tA tB':TT}{b7:List Expr}
def a7m(t u:TT):TT:=fun σ H Q=>t σ H fun c H1=>if c=true then u σ H1 Q else Q false H1
def tOr(t u:TT):TT:=fun σ H Q=>t σ H fun c H1=>if c=true then Q true H1 else u σ H1 Q
def a7n(t:TT):TT:=fun σ H Q=>t σ H fun c H1=>Q (!c) H1
theorem a5X(ha:PT X a tA):PW X (.BoolOp .And [a] pos) tA:=by
 intro wh pins s σ H Q I h
 refine isTrue_and (c5 (ha pins s σ H Q I h) fun c s1 e=>?_)
 cases c with
 | true=>exact isTrue_and_nil e
 | false=>exact e
theorem a3e(ha:PT X a tA):PW X (.BoolOp .Or [a] pos) tA:=by
 intro wh pins s σ H Q I h
 refine isTrue_or (c5 (ha pins s σ H Q I h) fun c s1 e=>?_)
 cases c with
 | false=>exact isTrue_or_nil e
 | true=>exact e
theorem a7o(ha:PT X a tA)(hb:PW X (.BoolOp .And (b::b7) pos) tB'):PW X (.BoolOp .And (a::b::b7) pos) (a7m tA tB'):=by
 intro wh pins s σ H Q I h
 refine isTrue_and (c5 (ha pins s σ H _ I h) fun c s1 ⟨H1,I1,q1⟩=>?_)
 cases c with
 | true=>exact hb wh pins s1 σ H1 Q I1 q1
 | false=>exact⟨H1,I1,q1⟩
theorem a5p(ha:PT X a tA)(hb:PW X (.BoolOp .Or (b::b7) pos) tB'):PW X (.BoolOp .Or (a::b::b7) pos) (tOr tA tB'):=by
 intro wh pins s σ H Q I h
 refine isTrue_or (c5 (ha pins s σ H _ I h) fun c s1 ⟨H1,I1,q1⟩=>?_)
 cases c with
 | true=>exact⟨H1,I1,q1⟩
 | false=>exact hb wh pins s1 σ H1 Q I1 q1
theorem V6(ha:PT X a tA):PT X (.UnaryOp .Not a pos) (a7n tA):=by
 intro pins s σ H Q I h
 exact isTrue_not (ha pins s σ H (fun c H1=>Q (!c) H1) I h)
def a5q(ta tb:TE):TE:=fun σ H Q=>ta σ H fun x H1=>∃c,x=.bl c∧if c=true then tb σ H1 Q else Q (.bl false) H1
def a5r(ta:TE):TE:=fun σ H Q=>ta σ H fun x H1=>∃c,x=.bl c∧Q (.bl (!c)) H1
theorem a3f{op}{t:TE}(h:PE X a t):PE X (.BoolOp op [a] pos) t:=fun pins s σ H Q I hw=>BoolOp_one (h pins s σ H Q I hw)
theorem a3g(ha:PE X a ta)(hb:PE X (.BoolOp .And (b::b7) pos) tb):PE X (.BoolOp .And (a::b::b7) pos) (a5q ta tb):=by
 intro pins s σ H Q I h
 refine BoolOp_and (c5 (ha pins s σ H _ I h) fun v s1 ⟨x,H1,I1,r1,q1⟩=>?_)
 obtain⟨c,rfl,q1⟩:=q1
 cases r1
 refine wpAny_truthy_bool ?_
 cases c with
 | true=>exact hb pins s1 σ H1 Q I1 q1
 | false=>exact⟨.bl false,H1,I1,rfl,q1⟩
theorem a7p(ha:PE X a ta):PE X (.UnaryOp .Not a pos) (a5r ta):=by
 intro pins s σ H Q I h
 refine UnaryOp_ (c5 (ha pins s σ H _ I h) fun v s1 ⟨x,H1,I1,r1,q1⟩=>?_)
 obtain⟨c,rfl,q1⟩:=q1
 cases r1
 exact not_of (wpAny_truthy_bool ⟨.bl (!c),H1,I1,rfl,q1⟩)
def tIf(t:TT)(ta tb:TE):TE:=fun σ H Q=>t σ H fun c H1=>if c=true then ta σ H1 Q else tb σ H1 Q
theorem a4g{c:Expr}(hc:PT X c tA)(ha:PE X a ta)(hb:PE X b tb):PE X (.IfExp c a b pos) (tIf tA ta tb):=by
 intro pins s σ H Q I h
 refine wpAny_IfExp (c5 (hc pins s σ H _ I h) fun d s1 ⟨H1,I1,q1⟩=>?_)
 cases d with
 | true=>exact ha pins s1 σ H1 Q I1 q1
 | false=>exact hb pins s1 σ H1 Q I1 q1
end
def SqL(K:W.Frag)(H:Hp)(a:Addr)(xs:List V):Prop :=
 Rd H a (.lst xs) ∨
  ∃(o:Obj) (its:Array Value) (n:Nat),K.lookup a=some o∧o.cls=.type "list"∧o.dict=none∧o.data=.seq its n∧its.size≤sizeLine∧Vals xs its.toList
def SqT(K:W.Frag)(H:Hp)(a:Addr)(xs:List V):Prop :=
 Rd H a (.tup xs) ∨
  ∃(o:Obj) (its:Array Value) (n:Nat),K.lookup a=some o∧o.cls=.type "tuple"∧o.data=.seq its n∧its.size≤sizeLine∧Vals xs its.toList
def a9s:Value→Option V
 | .none=>some .non
 | .bool b=>some (.bl b)
 | .int i _=>some (.int i)
 | .str x _=>some (.str x)
 | .bytes b _=>some (.byt b)
 | .float b _=>some (.flt b)
 | .ref a=>some (.ref a)
 | .type n=>some (.ty n)
 | _=>none
theorem RelV.abs{x:V}{u:Value}(r:RelV x u):a9s u=some x:=by
 cases x with
 | non=>cases r;rfl
 | bl _=>cases r;rfl
 | int _=>obtain⟨t,rfl⟩:=r;rfl
 | str _=>obtain⟨t,rfl⟩:=r;rfl
 | byt _=>obtain⟨t,rfl⟩:=r;rfl
 | flt _=>obtain⟨t,rfl⟩:=r;rfl
 | ref _=>cases r;rfl
 | ty _=>cases r;rfl
theorem RelV.inj{x y:V}{u:Value}(r:RelV x u)(q:RelV y u):x=y:=Option.some.inj (r.abs.symm.trans q.abs)
theorem Vals.inj:∀{xs ys:List V} {us:List Value},Vals xs us→Vals ys us→xs=ys
 | _,_,_,.nil,.nil=>rfl
 | _,_,_,.cons r t,.cons r' t'=>by rw[r.inj r',Vals.inj t t']
section
variable {X:Cx}{pins:List (Addr×Obj)}{σ:St}{H:Hp}{s:Shared}{a:Addr}{xs ys:List V}
theorem SqL.of{K:W.Frag}(h:H a=some (.lst xs)):SqL K H a xs:=.inl (.inl h)
theorem SqT.of{K:W.Frag}(h:H a=some (.tup xs)):SqT K H a xs:=.inl (.inl h)
theorem Inv.list(I:Inv X pins σ H s)(h:SqL X.K H a xs):∃its:List Value,Vals xs its∧PlainL s.heap a its.toArray∧xs.length≤sizeLine:=by
 rcases h with h | ⟨o,its,n,hk,hc,hd,hs,hz,r⟩
 ·obtain⟨z,its,n,r,e⟩:=h.ok I.hok
  exact⟨its,r,⟨_,n,e,rfl,rfl,rfl⟩,z⟩
 ·refine⟨its.toList,r,⟨o,n,I.kIn a o hk,hc,hd,by simpa using hs⟩,?_⟩
  have e:=r.length
  simp only[Array.length_toList]at e
  omega
theorem Inv.tuple(I:Inv X pins σ H s)(h:SqT X.K H a xs):∃its:List Value,Vals xs its∧IsTup s.heap a its.toArray∧xs.length≤sizeLine:=by
 rcases h with h | ⟨o,its,n,hk,hc,hs,hz,r⟩
 ·obtain⟨z,its,r,p⟩:=h.ok I.hok
  exact⟨its,r,p,z⟩
 ·refine⟨its.toList,r,⟨o,I.kIn a o hk,hc,n,by simpa using hs⟩,?_⟩
  have e:=r.length
  simp only[Array.length_toList]at e
  omega
theorem Inv.list_inj(I:Inv X pins σ H s)(h:SqL X.K H a xs)(h':SqL X.K H a ys):xs=ys:=by
 obtain⟨its,r,⟨o,n,e,_,_,d⟩,_⟩:=I.list h
 obtain⟨its',r',⟨o',n',e',_,_,d'⟩,_⟩:=I.list h'
 rw[e]at e';cases e'
 rw[d]at d'
 injection d' with d1 _
 have:its=its':=by simpa using congrArg Array.toList d1
 subst this
 exact r.inj r'
end
abbrev Cx.wish(X:Cx)(E:Value→Shared→Prop):Cx:={ X with xe:=E }
abbrev Cx.nox(X:Cx):Cx:=X.wish fun _ _=>False
theorem Cx.Ok.wish{X:Cx}(ok:X.Ok)(E:Value→Shared→Prop):(X.wish E).Ok :=
 ⟨ok.mod,ok.kind,ok.glob,ok.blt,ok.above,ok.inj,ok.has,ok.cab,ok.hd,ok.frames,ok.stk,ok.exf,ok.bs,ok.bsz,ok.noex,ok.exfs,ok.funs,ok.frf⟩
theorem Cx.Ok.unwish{X:Cx}{E:Value→Shared→Prop}(ok:(X.wish E).Ok):X.Ok :=
 ⟨ok.mod,ok.kind,ok.glob,ok.blt,ok.above,ok.inj,ok.has,ok.cab,ok.hd,ok.frames,ok.stk,ok.exf,ok.bs,ok.bsz,ok.noex,ok.exfs,ok.funs,ok.frf⟩
section
variable {X:Cx}{pins:List (Addr×Obj)}{σ:St}{H:Hp}{s:Shared}{E:Value→Shared→Prop}
theorem Inv.wish(I:Inv X pins σ H s)(E:Value→Shared→Prop):Inv (X.wish E) pins σ H s:=⟨I.ok.wish E,I.os,I.bare,I.base,I.loc,I.cell,I.free,I.freeC,I.pin,I.hok,I.len⟩
theorem Inv.unwish(I:Inv (X.wish E) pins σ H s):Inv X pins σ H s:=⟨I.ok.unwish,I.os,I.bare,I.base,I.loc,I.cell,I.free,I.freeC,I.pin,I.hok,I.len⟩
theorem SP.unwish{D:Ends}{f:Flow}{s':Shared}(h:SP (X.wish E) pins D f s'):SP X pins D f s':=by
 cases f with
 | next=>obtain⟨σ',H',I,q⟩:=h;exact⟨σ',H',I.unwish,q⟩
 | brk=>obtain⟨σ',H',I,q⟩:=h;exact⟨σ',H',I.unwish,q⟩
 | cont=>obtain⟨σ',H',I,q⟩:=h;exact⟨σ',H',I.unwish,q⟩
 | ret u=>obtain⟨v,σ',H',I,r,q⟩:=h;exact⟨v,σ',H',I.unwish,r,q⟩
theorem PE.nox{e:Expr}{t:TE}(h:PE X.nox e t):PE X e t:=fun pins s σ H Q I hw =>
 wpAny_mono (h pins s σ H Q (I.wish _) hw) (fun _ _ ⟨v,H',I',r,q⟩=>⟨v,H',I'.unwish,r,q⟩) fun _ _ z=>False.elim z
theorem PT.nox{e:Expr}{t:TT}(h:PT X.nox e t):PT X e t:=fun pins s σ H Q I hw =>
 wpAny_mono (h pins s σ H Q (I.wish _) hw) (fun _ _ ⟨H',I',q⟩=>⟨H',I'.unwish,q⟩) fun _ _ z=>False.elim z
theorem PSs.nox{st:List Stmt}{t:TS}(h:PSs X.nox st t):PSs X st t:=fun pins s σ H D I hw =>
 wpAny_mono (h pins s σ H D (I.wish _) hw) (fun _ _ q=>q.unwish) fun _ _ z=>False.elim z
end
section
variable {X:Cx}{st:Stmt}{b7:List Stmt}{t u:TS}{e:Expr}{te:TE}{pos:Pos}
def a5s:TS:=fun D σ H=>D.nx σ H
def a7q(t u:TS):TS:=fun D σ H=>t { D with nx:=u D } σ H
theorem u0:PSs X [] a5s:=fun _ _ σ H _ I h=>wpAny_execs_nil ⟨σ,H,I,h⟩
theorem b6(h1:PS X st t)(h2:PSs X b7 u):PSs X (st::b7) (a7q t u):=by
 intro pins s σ H D I h
 refine wpAny_execs_cons (c5 (h1 pins s σ H { D with nx:=u D } I h) fun f s1 q=>?_)
 cases f with
 | next =>
  obtain⟨σ',H',I',q⟩:=q
  exact h2 pins s1 σ' H' D I' q
 | ret v=>exact q
 | brk=>exact q
 | cont=>exact q
theorem g5(h1:PS X st t):PSs X [st] t:=by
 intro pins s σ H D I h
 refine wpAny_execs_cons (c5 (h1 pins s σ H D I h) fun f s1 q=>?_)
 cases f with
 | next=>exact wpAny_execs_nil q
 | ret v=>exact q
 | brk=>exact q
 | cont=>exact q
theorem Inv.quiet{pins:List (Addr×Obj)}{σ:St}{H:Hp}{s:Shared}(I:Inv X pins σ H s):interactive X.env=false:=by simp[interactive,I.ok.kind]
def a0I(te:TE):TS:=fun D σ H=>te σ H fun _ H1=>D.nx σ H1
theorem E5(he:PE X e te)(hs:swapsWith e none pos.line X.env=pure false:=by rfl):PS X (.Expr e pos) (a0I te):=by
 intro pins s σ H D I h
 exact wpAny_Expr_any (c5 (he pins s σ H _ I h) fun v s1 ⟨x,H1,I1,r1,q1⟩=>⟨σ,H1,I1,q1⟩) I.quiet hs
def a2v(te:TE):TS:=fun D σ H=>te σ H D.rt
theorem o6(he:PE X e te):PS X (.Return (some e) pos) (a2v te):=by
 intro pins s σ H D I h
 exact wpAny_Return_some (c5 (he pins s σ H _ I h) fun v s1 ⟨x,H1,I1,r1,q1⟩=>⟨x,σ,H1,I1,r1,q1⟩)
def a7r(c:TT)(t u:TS):TS:=fun D σ H=>c σ H fun b H1=>if b=true then t D σ H1 else u D σ H1
theorem D6{c:Expr}{a b:List Stmt}{tc:TT}(hc:PT X c tc)(ha:PSs X a t)(hb:PSs X b u):PS X (.If c a b pos) (a7r tc t u):=by
 intro pins s σ H D I h
 refine wpAny_If (c5 (hc pins s σ H _ I h) fun d s1 ⟨H1,I1,q1⟩=>?_)
 cases d with
 | true=>exact ha pins s1 σ H1 D I1 q1
 | false=>exact hb pins s1 σ H1 D I1 q1
end
abbrev TG:=V→St→Hp→(St→Hp→Prop)→Prop
abbrev O6:=List V→St→Hp→(St→Hp→Prop)→Prop
def PG(X:Cx)(target:Expr)(t:TG):Prop :=
 ∀(pins:List (Addr×Obj)) (s:Shared) (σ:St) (H:Hp) (v:V) (u:Value) (Q:St→Hp→Prop),Inv X pins σ H s→RelV v u→t v σ H Q →
  wpAny (model X.prog X.w) X.A (assign target X.env u) (fun _ s'=>∃σ' H',Inv X pins σ' H' s'∧Q σ' H') X.xe s
def PGs(X:Cx)(ts:List Expr)(t:O6):Prop :=
 ∀(pins:List (Addr×Obj)) (s:Shared) (σ:St) (H:Hp) (vs:List V) (us:List Value) (Q:St→Hp→Prop),Inv X pins σ H s→Vals vs us→t vs σ H Q →
  wpAny (model X.prog X.w) X.A (assignInOrder ((assignEach ts X.env).map (·.2)) us) (fun _ s'=>∃σ' H',Inv X pins σ' H' s'∧Q σ' H') X.xe s
section
variable {X:Cx}{pos:Pos}
def L4(i:Nat):TG:=fun v σ H Q=>Q (σ.set i (some v)) H
theorem j9{i:Nat}{x:Str}(hN:X.N.Nodup)(hi:X.N[i]? = some x)(hx:Loc X.env.scope x)(hf:X.fn x=true∨X.env.scope.names.lookup x=some .local:=by first | exact .inl rfl | exact .inr rfl | assumption):PG X (.Name x pos) (L4 i):=by
 intro pins s σ H v u Q I r h
 exact wpAny_assign_Name (a0Q I hN hi hx r (fun s' I'=>⟨_,H,I',h⟩) hf)
def a7s:O6:=fun vs σ H Q=>vs=[]∧Q σ H
def a5t(t:TG)(u:O6):O6:=fun vs σ H Q=>∃v r,vs=v::r∧t v σ H fun σ' H'=>u r σ' H' Q
theorem a1R:PGs X [] a7s:=by
 intro pins s σ H vs us Q I r h
 obtain⟨e,h⟩:=h
 subst e
 cases r
 exact assignInOrder_nil ⟨σ,H,I,h⟩
theorem z7{e:Expr}{es:List Expr}{t:TG}{u:O6}(h1:PG X e t)(h2:PGs X es u)
  (hs:(assignEach (e::es) X.env).map (·.2)=assign e X.env::(assignEach es X.env).map (·.2):=by rfl):PGs X (e::es) (a5t t u):=by
 intro pins s σ H vs us Q I r h
 obtain⟨v,vr,e1,h⟩:=h
 subst e1
 cases r with
 | cons r rr =>
  rw[hs]
  refine assignInOrder_cons (c5 (h1 pins s σ H _ _ _ I r h) fun _ s1 ⟨σ1,H1,I1,q1⟩=>?_)
  exact h2 pins s1 σ1 H1 _ _ Q I1 rr q1
def a4h(K:W.Frag)(n:Nat)(t:O6):TG:=fun v σ H Q=>∃a xs,v=.ref a∧SqT K H a xs∧xs.length=n∧t xs σ H Q
theorem a7t{es:List Expr}{k:Nat}{t:O6}{n:Nat}(hc:X.calm=true)(h:PGs X es t)
  (hn:(assignEach es X.env).length=n:=by rfl) (hst:(assignEach es X.env).findIdx? (·.1)=none:=by rfl):PG X (.Tuple es k pos) (a4h X.K n t):=by
 intro pins s σ H v u Q I r hw
 obtain⟨a,xs,e1,hq,hl,hw⟩:=hw
 subst e1
 cases r
 obtain⟨its,rv,ht,hz⟩:=I.tuple hq
 refine assign_Tuple_tuple (I.ok.hd hc) ht (by simp[hn,← hl,rv.length]) hst fun h' hx=>?_
 have I1:Inv X pins σ H { s with heap:=h' }:=I.kept (t':=s.toks) fun b o e=>hx b o (Nat.ne_of_lt (Heap.lt_size e)) e
 exact h pins _ σ H xs _ Q I1 (by simpa using rv) hw
def T4(te:TE)(g:TG):TS:=fun D σ H=>te σ H fun x H1=>g x σ H1 D.nx
theorem a3i{tg e:Expr}{te:TE}{g:TG}(he:PE X e te)(hg:PG X tg g)(hs:swapsWithSole [tg] e pos.line X.env=pure false:=by rfl)(hw:swappedStores [tg] e X.env=pure none:=by rfl)
  (h1:(assignEach [tg] X.env).map (·.2)=[assign tg X.env]:=by rfl):PS X (.Assign [tg] e pos) (T4 te g):=by
 intro pins s σ H D I h
 refine wpAny_Assign_stores (c5 (he pins s σ H _ I h) fun v s1 ⟨x,H1,I1,r1,q1⟩=>?_) hs hw
 rw[h1]
 exact c5 (hg pins s1 σ H1 x v _ I1 r1 q1) fun _ s2 q=>q
theorem o7{i:Nat}{x:Str}{e:Expr}{te:TE}{pos':Pos}(hN:X.N.Nodup)(hi:X.N[i]? = some x)(hx:Loc X.env.scope x)(he:PE X e te)(hs:swapsWith e (some (.Name x pos')) pos.line X.env=pure false:=by rfl)(hf:X.fn x=true∨X.env.scope.names.lookup x=some .local:=by first | exact .inl rfl | exact .inr rfl | assumption) :
  PS X (.Assign [.Name x pos'] e pos) (T4 te (L4 i)):=by
 intro pins s σ H D I h
 refine wpAny_Assign_Name (c5 (he pins s σ H _ I h) fun v s1 ⟨y,H1,I1,r1,q1⟩=>?_) hs
 exact a0Q I1 hN hi hx r1 (fun s2 I2=>⟨_,H1,I2,q1⟩) hf
end
structure It where
 go:Nat→Hp→Prop
 yld:Nat→Hp→V→Hp→Prop
 stop:Nat→Hp→Prop
def FpOk(X:Cx)(pins:List (Addr×Obj))(H:Hp)(b:Addr):Prop :=
 H b=none∧b≠X.env.locals∧b ∉ X.fs∧(b∈X.ex∨X.s₀.heap.objs.size≤b)∧(∀x c,X.env.cells.lookup x=some c→c≠b)∧∀p∈X.pn++pins,p.1≠b
theorem Inv.fpOk{X:Cx}{pins:List (Addr×Obj)}{σ:St}{H H':Hp}{s:Shared}{b:Addr}(I:Inv X pins σ H s)(hb:s.heap.objs.size≤b)(hn:H' b=none):FpOk X pins H' b:=by
 refine⟨hn,Nat.ne_of_gt (Nat.lt_of_lt_of_le I.lt hb),I.nofs hb,.inr (Nat.le_trans I.sz hb),fun x c e z=>?_,fun p hp z=>?_⟩
 ·obtain⟨v,q⟩:=I.cell x c e
  exact absurd (Nat.lt_of_lt_of_le q.lt (by rw[z];exact hb)) (Nat.lt_irrefl _)
 ·exact absurd (Nat.lt_of_lt_of_le (Heap.lt_size (I.pin p hp).1) (by rw[z];exact hb)) (Nat.lt_irrefl _)
structure Turn(P:Program)(w:World)(K:W.Frag)(tg:Expr)(J:It)(fp:List Addr)(it:Addr)(tn:Nat→Heap→Prop):Prop where
 mem:it∈fp
 obj:∀i h,tn i h→∀b∈fp,∃o,h.get? b=some o∧∀v,o.data≠.cell v
 keep:∀i h h',tn i h→(∀b∈fp,∀o,h.get? b=some o→h'.get? b=some o)→tn i h'
 item:∀(X:Cx),X.prog=P→X.w=w→X.K=K→X.calm=true→∀(i:Nat) (pins:List (Addr×Obj)) (s:Shared) (σ:St) (H:Hp) (E:Value→Shared→Prop),Inv X pins σ H s→(∀b∈fp,FpOk X pins H b)→tn i s.heap→J.go i H →
  wpAny (model P w) X.A (pyNext (.ref it)) (fun r s1=>∃u,r=some u ∧
   wpAny (model P w) X.A (letOwnedTupleGo tg (.ref it) u) (fun _ s2=>∃x H',Inv X pins σ H' s2∧RelV x u∧J.yld i H x H'∧tn (i+1) s2.heap∧∀b∈fp,H' b=none) E s1) E s
 done:∀(X:Cx),X.prog=P→X.w=w→X.K=K→X.calm=true→∀(i:Nat) (pins:List (Addr×Obj)) (s:Shared) (σ:St) (H:Hp) (E:Value→Shared→Prop),Inv X pins σ H s→(∀b∈fp,FpOk X pins H b)→tn i s.heap→J.stop i H →
  wpAny (model P w) X.A (pyNext (.ref it)) (fun r s1=>r=none∧Inv X pins σ H s1) E s
 self:∀(A:Around) (i:Nat) (s:Shared) (Q:Value→Shared→Prop) (E:Value→Shared→Prop),tn i s.heap→Q (.ref it) s→wpAny (model P w) A (pyIter (.ref it)) Q E s
abbrev TI:=St→Hp→(It→Hp→Prop)→Prop
def PIE(X:Cx)(pins:List (Addr×Obj))(σ:St)(tg:Expr)(R:It→Hp→Prop)(itv:Value)(s2:Shared):Prop :=
 ∃(it:Addr) (fp:List Addr) (tn:Nat→Heap→Prop) (J:It) (H':Hp),itv=.ref it∧Inv X pins σ H' s2∧Turn X.prog X.w X.K tg J fp it tn∧tn 0 s2.heap∧(∀b∈fp,FpOk X pins H' b)∧R J H'
def PI(X:Cx)(tg iter:Expr)(wi:TI):Prop :=
 ∀(pins:List (Addr×Obj)) (s:Shared) (σ:St) (H:Hp) (R:It→Hp→Prop),Inv X pins σ H s→wi σ H R →
  wpAny (model X.prog X.w) X.A (eval iter X.env) (fun v s1=>wpAny (model X.prog X.w) X.A (pyIter v) (PIE X pins σ tg R) X.xe s1) X.xe s
theorem a5u{M:Model}{A:Around}{E:Value→Shared→Prop}{s:Shared}{tg:Expr}{it:Addr}{u:Value}{o:Obj}{n:String}{vs:Array Value}{Q:Unit→Shared→Prop}(ho:s.heap.get? it=some o)(hc:o.cls=.type n)(hd:o.data=.fields vs)
  (hn:["enumerate","zip","dict_itemiterator","dict_reverseitemiterator","odict_iterator","itertools.zip_longest","itertools.pairwise"].contains n=false) (hQ:Q () s):wpAny M A (letOwnedTupleGo tg (.ref it) u) Q E s:=by
 unfold letOwnedTupleGo
 cases tg<;>first
  | exact wpAny_pure hQ
  | (cases u<;>first
    | exact wpAny_pure hQ
    | (refine wpAny_bind (wpAny_load ho ?_)
       rw[hc,hd]
       show wpAny M A (if(["enumerate","zip","dict_itemiterator","dict_reverseitemiterator","odict_iterator","itertools.zip_longest","itertools.pairwise"].contains n && vs[0]? == some (rawInt _))=true then _ else _) Q E s
       rw[if_neg (by intro h;rw[hn,Bool.false_and]at h;cases h)]
       exact wpAny_pure hQ))
def S6(K:W.Frag)(a:Addr):It :=
 ⟨fun i H=>∃xs x,SqL K H a xs∧xs[i]? = some x,fun i H x H'=>H'=H∧∀xs,SqL K H a xs→xs[i]? = some x,fun i H=>∃xs,SqL K H a xs∧xs.length≤i⟩
def V7(lo:Int)(n:Nat):It:=⟨fun i _=>i<n,fun i H x H'=>H'=H∧x=.int (lo+i),fun i _=>n≤i⟩
theorem a3j{P:Program}{w:World}{K:W.Frag}{tg:Expr}(a it:Addr):Turn P w K tg (S6 K a) [it] it (fun i h=>h.IsListIter it a i) where
 mem:=by simp
 obj:=fun i h st b hb=>by
  have e:b=it:=by simpa using hb
  subst e
  obtain⟨o,e,c,d⟩:=st
  exact⟨o,e,fun v z=>by rw[d]at z;cases z⟩
 keep:=fun i h h' st k=>st.at fun o e=>k it (by simp) o e
 item:=by
  intro X hP hw hK hc i pins s σ H E I hf st hg
  subst hP hw hK
  obtain⟨xs,x,hq,hx⟩:=hg
  obtain⟨its,rv,p,hz⟩:=I.list hq
  obtain⟨u,hu,ru⟩:=rv.get hx
  obtain⟨f0,f1,f2,f3,f4,f5⟩:=hf it (by simp)
  refine wpAny_pyNext_list_item st p.isList (x:=u) (by simpa using hu) fun h' st' sb=>?_
  have I1:Inv X pins σ H { s with heap:=h' }:=I.turned (t':=s.toks) (fun b o hb e=>(sb.2 b hb).trans e) f0 f1 f3 f4 f5
  obtain⟨o,e,c,d⟩:=id st'
  exact⟨u,rfl,a5u (s:={ s with heap:=h' }) e c d (by decide) ⟨x,H,I1,ru,⟨rfl,fun ys hy=>by rw[I.list_inj hy hq];exact hx⟩,st',fun b hb=>(hf b hb).1⟩⟩
 done:=by
  intro X hP hw hK hc i pins s σ H E I hf st hg
  subst hP hw hK
  obtain⟨xs,hq,hx⟩:=hg
  obtain⟨its,rv,p,hz⟩:=I.list hq
  obtain⟨f0,f1,f2,f3,f4,f5⟩:=hf it (by simp)
  have hl:=rv.length
  exact wpAny_pyNext_list_end (I.ok.hd hc) st p.isList (by simp;omega) fun h' eb=>⟨rfl,I.turned (t':=s.toks) (fun b o hb e=>eb b o hb e) f0 f1 f3 f4 f5⟩
 self:=fun _ _ _ _ _ st h=>wpAny_pyIter_listiter st h
theorem a2w{P:Program}{w:World}{K:PySem.W.Frag}{tg:Expr}(it:Addr)(lo:Int)(n:Nat):Turn P w K tg (V7 lo n) [it] it (fun i h=>IsRangeIter h it (lo+(i:Nat)*1) ((n:Int)-(i:Nat)) 1) where
 mem:=by simp
 obj:=fun i h st b hb=>by
  have e:b=it:=by simpa using hb
  subst e
  exact⟨_,st,fun v z=>by
   have z':Data.fields _=Data.cell v:=z
   cases z'⟩
 keep:=fun i h h' st k=>k it (by simp) _ st
 item:=by
  intro X hP hw hK hc i pins s σ H E I hf st hg
  subst hP hw hK
  obtain⟨f0,f1,f2,f3,f4,f5⟩:=hf it (by simp)
  have W:=Walks.range (prog:=X.prog) (w:=X.w) (I.ok.hd hc) it lo 1 n
  refine W.item i s _ _ hg st fun v h' tk hv st' kk=>?_
  obtain⟨t,rfl⟩:=hv
  have I1:Inv X pins σ H { s with heap:=h',toks:=tk }:=I.turned (fun b o hb e=>kk b o (by simpa using hb) e) f0 f1 f3 f4 f5
  refine⟨_,rfl,a5u (s:={ s with heap:=h',toks:=tk }) (n := "range_iterator") st' rfl rfl (by decide) ⟨.int (lo+i),H,I1,⟨t,?_⟩,⟨rfl,rfl⟩,st',fun b hb=>(hf b hb).1⟩⟩
  rw[Int.mul_one]
 done:=by
  intro X hP hw hK hc i pins s σ H E I hf st hg
  subst hP hw hK
  obtain⟨f0,f1,f2,f3,f4,f5⟩:=hf it (by simp)
  exact wpAny_pyNext_range_end (I.ok.hd hc) st (by have:n≤i:=hg;omega) fun h' eb=>⟨rfl,I.turned (t':=s.toks) (fun b o hb e=>eb b o hb e) f0 f1 f3 f4 f5⟩
 self:=fun _ _ _ _ _ st h=>wpAny_pyIter_rangeiter st h
section
variable {X:Cx}{tg:Expr}
def a0J(K:W.Frag)(tl:TE):TI:=fun σ H R=>tl σ H fun x H1=>∃a,x=.ref a∧(∃xs,SqL K H1 a xs)∧R (S6 K a) H1
theorem z8{l:Expr}{tl:TE}(hl:PE X l tl):PI X tg l (a0J X.K tl):=by
 intro pins s σ H R I h
 refine c5 (hl pins s σ H _ I h) fun v s1 ⟨x,H1,I1,r1,q1⟩=>?_
 obtain⟨a,e,⟨xs,hq⟩,q⟩:=q1
 subst e
 cases r1
 obtain⟨its,rv,p,hz⟩:=I1.list hq
 refine wpAny_pyIter_list p.isList ?_
 refine⟨s1.heap.objs.size,[s1.heap.objs.size],_,_,H1,rfl,I1.kept (t':=s1.toks) fun b o e=>Heap.get?_push_of_some _ e,a3j a _,⟨_,Heap.get?_push_size _ rfl,rfl,rfl⟩,fun b hb=>?_,q⟩
 have e:b=s1.heap.objs.size:=by simpa using hb
 subst e
 exact I1.fpOk (Nat.le_refl _) (I1.hok.fresh (Nat.le_refl _))
theorem a4i{pins:List (Addr×Obj)}{σ:St}{H:Hp}{s:Shared}{R:It→Hp→Prop}{E:Value→Shared→Prop}{lo hi:Int}{t u v:Tok}{tk:Nat}(I:Inv X pins σ H s)(h1 : -(2 ^ 62)≤lo)(h2:lo<2 ^ 62)(h3 : -(2 ^ 62)≤hi)(h4:hi<2 ^ 62)
  (q:R (V7 lo (hi-lo).toNat) H):wpAny (model X.prog X.w) X.A (pyIter (.ref s.heap.objs.size)) (PIE X pins σ tg R) E { s with heap:=s.heap.push { cls:=.type "range",data:=.fields #[.int lo t,.int hi u,.int 1 v] },toks:=tk }:=by
 refine wpAny_pyIter_range (IsRange.new ..) (small_one h1 h2 h3 h4) ?_
 have I1:Inv X pins σ H { s with heap:=s.heap.push { cls:=.type "range",data:=.fields #[.int lo t,.int hi u,.int 1 v] },toks:=tk }:=I.kept fun b o e=>Heap.get?_push_of_some _ e
 refine⟨(s.heap.push { cls:=.type "range",data:=.fields #[.int lo t,.int hi u,.int 1 v] }).objs.size,[(s.heap.push { cls:=.type "range",data:=.fields #[.int lo t,.int hi u,.int 1 v] }).objs.size],_,_,H,rfl,
  I1.kept (t':=tk) fun b o e=>Heap.get?_push_of_some _ e,a2w _ lo (hi-lo).toNat,?_,fun b hb=>?_,q⟩
 ·have e1:lo+((0:Nat):Int)*1=lo:=by simp
  have e2:(((hi-lo).toNat:Nat):Int)-((0:Nat):Int)=Builtin.Range.rangeSize lo hi 1:=by rw[rangeSize_one];split<;>omega
  show IsRangeIter _ _ (lo+((0:Nat):Int)*1) ((((hi-lo).toNat:Nat):Int)-((0:Nat):Int)) 1
  rw[e1,e2]
  exact Heap.get?_push_size _ rfl
 ·have e:b=(s.heap.push { cls:=.type "range",data:=.fields #[.int lo t,.int hi u,.int 1 v] }).objs.size:=by simpa using hb
  subst e
  exact I1.fpOk (Nat.le_refl _) (I1.hok.fresh (Nat.le_refl _))
def a5v(ta:TA):TI:=fun σ H R=>ta σ H fun vs H1=>∃j:Int,vs=[.int j]∧-(2 ^ 62)≤j∧j<2 ^ 62∧R (V7 0 j.toNat) H1
theorem a3k{a:Expr}{ta:TA}{p pos:Pos}(hg:Gl X "range")(hm:X.mg "range" = none)(ha:PA X [a] ta)(hs:starEach [a] X.env=[(false,eval a X.env)]:=by rfl):PI X tg (.Call (.Name "range" p) [a] [] pos) (a5v ta):=by
 intro pins s σ H R I h
 refine Call_ (K0 I hg hm boot_range (PyProof.Rows.callWith_type1 (c5 (ha pos pins s σ H _ I h) fun us s1 ⟨vs,H1,I1,r1,q1⟩=>?_) hs rfl))
 obtain⟨j,e,q1,q2,q⟩:=q1
 subst e
 cases r1 with
 | cons r rr =>
  cases rr
  obtain⟨t,rfl⟩:=r
  exact call_range_1 (a4i I1 (by omega) (by omega) q1 q2 (by simpa using q))
def a2x(wi:TI)(g:TG)(tb:TS):TS:=fun D σ H=>wi σ H fun J H1=>∃W:Nat→Nat→St→Hp→Prop,(∃m,W 0 m σ H1)∧∀i m σ H,W i m σ H →
 (J.stop i H∧D.nx σ H)∨(J.go i H∧∃N:St→Hp→Prop,(∀σ' H',N σ' H'→∃m',m'<m∧W (i+1) m' σ' H')∧∀x H',J.yld i H x H'→g x σ H' fun σ2 H2=>tb { D with nx:=N,ct:=N,bk:=D.nx } σ2 H2)
def O7(fp:List Addr)(h:Heap):List (Addr×Obj):=fp.filterMap fun b=>(h.get? b).map fun o=>(b,o)
theorem D7{fp:List Addr}{h:Heap}{b:Addr}{o:Obj}(hb:b∈fp)(e:h.get? b=some o):(b,o)∈O7 fp h:=List.mem_filterMap.mpr ⟨b,hb,by rw[e];rfl⟩
theorem a3l{fp:List Addr}{h:Heap}{p:Addr×Obj}(hp:p∈O7 fp h):p.1∈fp∧h.get? p.1=some p.2:=by
 obtain⟨b,hb,e⟩:=List.mem_filterMap.mp hp
 cases q:h.get? b with
 | none=>rw[q]at e;cases e
 | some o =>
  rw[q]at e
  have e':(b,o)=p:=Option.some.inj e
  subst e'
  exact⟨hb,q⟩
theorem Inv.pinned{pins:List (Addr×Obj)}{σ:St}{H:Hp}{s:Shared}{fp:List Addr}(I:Inv X pins σ H s)(hf:∀b∈fp,FpOk X pins H b)(ho:∀b∈fp,∃o,s.heap.get? b=some o∧∀v,o.data≠.cell v):Inv X (pins++O7 fp s.heap) σ H s :=
 I.pins_of fun p hp=>(List.mem_append.mp hp).elim (fun z=>I.pin p (List.mem_append_right _ z)) fun z=>by
  obtain⟨hb,e⟩:=a3l z
  obtain⟨f0,f1,f2,_⟩:=hf p.1 hb
  obtain⟨o,e',d⟩:=ho p.1 hb
  rw[e]at e';cases e'
  exact⟨e,f0,f1,f2,d⟩
theorem Inv.unpinned{pins pl:List (Addr×Obj)}{σ:St}{H:Hp}{s:Shared}(I:Inv X (pins++pl) σ H s):Inv X pins σ H s:=I.pins_of fun p hp=>I.pin p (List.mem_append_right _ (List.mem_append_left _ hp))
theorem a0S{iter:Expr}{body:List Stmt}{wi:TI}{g:TG}{tb:TS}{pos:Pos}(hp:PassesOwn (model X.prog X.w) X.A X.env X.xe)(hc:X.calm=true)(hi:PI X tg iter wi)(hg:PG X tg g)(hb:PSs X body tb)
  (hs:∀x,foldedSetIterable iter X.env x=pure x:=by intro _;rfl):PS X (.For tg iter body [] pos) (a2x wi g tb):=by
 intro pins s σ H D I h
 refine wpAny_For (c5 (hi pins s σ H _ I h) fun v s1 h1=>c5 h1 fun itv s2 h2=>?_) hs
 obtain⟨it,fp,tn,J,H2,e,I2,T,st2,f2,W,⟨m0,w0⟩,turn⟩:=h2
 subst e
 -- what stays true of the iterator's objects through the loop
 have stat:∀{H':Hp},(∀b∈fp,H' b=none)→∀b∈fp,FpOk X pins H' b:=fun hn b hb=>⟨hn b hb,(f2 b hb).2⟩
 refine codeAny_forLoop_any (fun n s'=>∃i σ' H',Inv X pins σ' H' s'∧tn i s'.heap∧(∀b∈fp,H' b=none)∧W i n σ' H') ?_ m0 ⟨0,σ,H2,I2,st2,fun b hb=>(f2 b hb).1,w0⟩
 rintro n s3 ⟨i,σ3,H3,I3,st3,fr3,w3⟩
 rcases turn i n σ3 H3 w3 with⟨stop,qn⟩ | ⟨go,N,hN,step⟩
 ·refine wpAny_passesOwn hp (c5 (T.done X rfl rfl rfl hc i pins s3 σ3 H3 X.xe I3 (stat fr3) st3 stop) fun r s4 ⟨hr,I4⟩=>?_)
  subst hr
  exact wpAny_execs_nil ⟨σ3,H3,I4,qn⟩
 ·refine wpAny_passesOwn hp (c5 (T.item X rfl rfl rfl hc i pins s3 σ3 H3 X.xe I3 (stat fr3) st3 go) fun r s4 ⟨u,hr,h4⟩=>?_)
  subst hr
  refine wpAny_passesOwn hp (c5 h4 fun _ s5 ⟨x,H5,I5,r5,y5,st5,fr5⟩=>?_)
  have I5':=I5.pinned (stat fr5) (T.obj _ _ st5)
  refine wpAny_passesOwn hp (c5 (hg _ s5 σ3 H5 x u _ I5' r5 (step x H5 y5)) fun _ s6 ⟨σ6,H6,I6,q6⟩=>?_)
  refine wpAny_passesOwn hp (c5 (hb _ s6 σ6 H6 _ I6 q6) fun f s7 q7=>?_)
  have again:∀{σ7:St} {H7:Hp},Inv X (pins++O7 fp s5.heap) σ7 H7 s7→N σ7 H7→∃m,m<n∧∃i σ' H',Inv X pins σ' H' s7∧tn i s7.heap∧(∀b∈fp,H' b=none)∧W i m σ' H':=fun{σ7 H7} I7 n7=>by
   obtain⟨m',hm,w7⟩:=hN σ7 H7 n7
   refine⟨m',hm,i+1,σ7,H7,I7.unpinned,T.keep _ _ _ st5 fun b hb o e=>(I7.pin (b,o) (List.mem_append_right _ (List.mem_append_right _ (D7 hb e)))).1,fun b hb=>?_,w7⟩
   obtain⟨o,e,d⟩:=T.obj _ _ st5 b hb
   exact(I7.pin (b,o) (List.mem_append_right _ (List.mem_append_right _ (D7 hb e)))).2.1
  cases f with
  | next=>obtain⟨σ7,H7,I7,n7⟩:=q7;exact again I7 n7
  | cont=>obtain⟨σ7,H7,I7,n7⟩:=q7;exact again I7 n7
  | brk=>obtain⟨σ7,H7,I7,q7⟩:=q7;exact⟨σ7,H7,I7.unpinned,q7⟩
  | ret v=>obtain⟨x7,σ7,H7,I7,r7,q7⟩:=q7;exact⟨x7,σ7,H7,I7.unpinned,r7,q7⟩
end
theorem a4j{K:PySem.W.Frag}{a:Addr}{xs:List V}{g:TG}{tb:TS}{D:Ends}{σ:St}{H:Hp}(Pv:Nat→St→Hp→Prop)(h0:Pv 0 σ H)(hl:∀i σ H,i≤xs.length→Pv i σ H→SqL K H a xs)
  (hs:∀i x σ H,xs[i]? = some x→Pv i σ H→g x σ H fun σ2 H2=>tb { D with nx:=Pv (i+1),ct:=Pv (i+1),bk:=D.nx } σ2 H2) (hd:∀σ H,Pv xs.length σ H→D.nx σ H) :
  ∃W:Nat→Nat→St→Hp→Prop,(∃m,W 0 m σ H)∧∀i m σ H,W i m σ H →
   ((S6 K a).stop i H∧D.nx σ H)∨((S6 K a).go i H∧∃N:St→Hp→Prop,(∀σ' H',N σ' H'→∃m',m'<m∧W (i+1) m' σ' H')∧∀x H',(S6 K a).yld i H x H'→g x σ H' fun σ2 H2=>tb { D with nx:=N,ct:=N,bk:=D.nx } σ2 H2):=by
 refine⟨fun i m σ H=>m=xs.length-i∧i≤xs.length∧Pv i σ H,⟨xs.length,by simp,Nat.zero_le _,h0⟩,?_⟩
 rintro i m σ H ⟨rfl,hi,p⟩
 have q:=hl i σ H hi p
 by_cases hlt:i<xs.length
 ·refine .inr ⟨⟨xs,xs[i],q,by simp[hlt]⟩,Pv (i+1),fun σ' H' p'=>⟨xs.length-(i+1),by omega,rfl,hlt,p'⟩,fun x H' y=>?_⟩
  obtain⟨e,y⟩:=y
  subst e
  exact hs i x σ _ (y xs q) p
 ·have e:i=xs.length:=by omega
  subst e
  exact .inl ⟨⟨xs,q,Nat.le_refl _⟩,hd σ H p⟩
theorem a3m{lo:Int}{n:Nat}{g:TG}{tb:TS}{D:Ends}{σ:St}{H:Hp}(Pv:Nat→St→Hp→Prop)(h0:Pv 0 σ H)
  (hs:∀i σ H,i<n→Pv i σ H→g (.int (lo+i)) σ H fun σ2 H2=>tb { D with nx:=Pv (i+1),ct:=Pv (i+1),bk:=D.nx } σ2 H2) (hd:∀σ H,Pv n σ H→D.nx σ H) :
  ∃W:Nat→Nat→St→Hp→Prop,(∃m,W 0 m σ H)∧∀i m σ H,W i m σ H →
   ((V7 lo n).stop i H∧D.nx σ H)∨((V7 lo n).go i H∧∃N:St→Hp→Prop,(∀σ' H',N σ' H'→∃m',m'<m∧W (i+1) m' σ' H')∧∀x H',(V7 lo n).yld i H x H'→g x σ H' fun σ2 H2=>tb { D with nx:=N,ct:=N,bk:=D.nx } σ2 H2):=by
 refine⟨fun i m σ H=>m=n-i∧i≤n∧Pv i σ H,⟨n,by simp,Nat.zero_le _,h0⟩,?_⟩
 rintro i m σ H ⟨rfl,hi,p⟩
 by_cases hlt:i<n
 ·refine .inr ⟨hlt,Pv (i+1),fun σ' H' p'=>⟨n-(i+1),by omega,rfl,hlt,p'⟩,fun x H' y=>?_⟩
  obtain⟨e,y⟩:=y
  subst e y
  exact hs i σ _ hlt p
 ·have e:i=n:=by omega
  subst e
  exact .inl ⟨Nat.le_refl _,hd σ H p⟩
abbrev R2:=V→V→Hp→VK→Prop
def B5(X:Cx)(f:Value→Value→Sem Value)(r:R2):Prop :=
 ∀(pins:List (Addr×Obj)) (s:Shared) (σ:St) (H:Hp) (x y:V) (v u:Value) (Q:VK),Inv X pins σ H s→RelV x v→RelV y u→r x y H Q →
  wpAny (model X.prog X.w) X.A (f v u) (EP X pins σ Q) X.xe s
def D8(X:Cx)(f:Value)(r:List V→Hp→VK→Prop):Prop :=
 ∀(pins:List (Addr×Obj)) (s:Shared) (σ:St) (H:Hp) (xs:List V) (us:List Value) (Q:VK),Inv X pins σ H s→Vals xs us→r xs H Q →
  wpAny (model X.prog X.w) X.A (call f us) (EP X pins σ Q) X.xe s
def tOp(r:R2)(ta tb:TE):TE:=fun σ H Q=>ta σ H fun x H1=>tb σ H1 fun y H2=>r x y H2 Q
def rI(C:Int→Int→Prop)(g:Int→Int→V):R2:=fun x y H Q=>∃i j,x=.int i∧y=.int j∧C i j∧Q (g i j) H
def V8(g:Int→Int→V):R2:=fun x y H Q=>∃i j,x=.int i∧y=.int j∧Q (g i j) H
section
variable {X:Cx}{a b c:Expr}{ta tb tc:TE}{pos:Pos}
theorem a4k(ha:PE X a ta)(hb:PE X b tb){pins:List (Addr×Obj)}{s:Shared}{σ:St}{H:Hp}{R:V→V→Hp→Prop}(I:Inv X pins σ H s)
  (h:ta σ H fun x H1=>tb σ H1 fun y H2=>R x y H2) {Q:Value→Shared→Prop} {f:Value→Value→Sem Value}
  (hf:∀v u s2 x y H2,Inv X pins σ H2 s2→RelV x v→RelV y u→R x y H2→wpAny (model X.prog X.w) X.A (f v u) Q X.xe s2) :
  wpAny (model X.prog X.w) X.A (eval a X.env) (fun v s₁=>wpAny (model X.prog X.w) X.A (eval b X.env) (fun u s₂=>wpAny (model X.prog X.w) X.A (f v u) Q X.xe s₂) X.xe s₁) X.xe s:=by
 refine c5 (ha pins s σ H _ I h) fun v s1 ⟨x,H1,I1,r1,q1⟩=>?_
 refine c5 (hb pins s1 σ H1 _ I1 q1) fun u s2 ⟨y,H2,I2,r2,q2⟩=>?_
 exact hf v u s2 x y H2 I2 r1 r2 q2
theorem n0{op:Operator}{r:R2}(ho:B5 X (binaryOp op) r)(ha:PE X a ta)(hb:PE X b tb):PE X (.BinOp a op b pos) (tOp r ta tb):=by
 intro pins s σ H Q I h
 exact wpAny_BinOp (a4k ha hb I h fun v u s2 x y H2 I2 rx ry q=>ho pins s2 σ H2 x y v u Q I2 rx ry q)
theorem opI{f:Value→Value→Sem Value}{C:Int→Int→Prop}{g:Int→Int→Int}
  (rule:∀(i j:Int) (t u:Tok) (s:Shared) (Q:Value→Shared→Prop) (E:Value→Shared→Prop),C i j→Q (.int (g i j) s.toks) { s with toks:=s.toks+1 }→wpAny (model X.prog X.w) X.A (f (.int i t) (.int j u)) Q E s) :
  B5 X f (rI C fun i j=>.int (g i j)):=by
 intro pins s σ H x y v u Q I rx ry h
 obtain⟨i,j,rfl,rfl,hc,q⟩:=h
 obtain⟨t,rfl⟩:=rx
 obtain⟨t',rfl⟩:=ry
 exact rule i j t t' s _ _ hc ⟨.int (g i j),H,I.tok _,⟨_,rfl⟩,q⟩
theorem a9t{f:Value→Value→Sem Value}{g:Int→Int→Int}
  (rule:∀(i j:Int) (t u:Tok) (s:Shared) (Q:Value→Shared→Prop) (E:Value→Shared→Prop),Q (.int (g i j) s.toks) { s with toks:=s.toks+1 }→wpAny (model X.prog X.w) X.A (f (.int i t) (.int j u)) Q E s) :
  B5 X f (V8 fun i j=>.int (g i j)):=by
 intro pins s σ H x y v u Q I rx ry h
 obtain⟨i,j,rfl,rfl,q⟩:=h
 obtain⟨t,rfl⟩:=rx
 obtain⟨t',rfl⟩:=ry
 exact rule i j t t' s _ _ ⟨.int (g i j),H,I.tok _,⟨_,rfl⟩,q⟩
theorem a7u{f:Value→Value→Sem Value}{g:Int→Int→Bool}
  (rule:∀(i j:Int) (t u:Tok) (s:Shared) (Q:Value→Shared→Prop) (E:Value→Shared→Prop),Q (.bool (g i j)) s→wpAny (model X.prog X.w) X.A (f (.int i t) (.int j u)) Q E s) :
  B5 X f (V8 fun i j=>.bl (g i j)):=by
 intro pins s σ H x y v u Q I rx ry h
 obtain⟨i,j,rfl,rfl,q⟩:=h
 obtain⟨t,rfl⟩:=rx
 obtain⟨t',rfl⟩:=ry
 exact rule i j t t' s _ _ ⟨.bl (g i j),H,I,rfl,q⟩
def Y7(i j:Int):Prop:=0≤j∧j≤1000000∧i.natAbs<2 ^ 64
def CMul(i j:Int):Prop:=(-(2 ^ 64)<i∧i<2 ^ 64)∨(-(2 ^ 64)<j∧j<2 ^ 64)
theorem CMul.ok{i j:Int}(h:CMul i j):IntMulOk i j:=by
 rcases h with⟨h1,h2⟩ | ⟨h1,h2⟩
 ·exact .of_left (intBits_le_64 h1 h2)
 ·exact .of_right (intBits_le_64 h1 h2)
theorem B6:B5 X (binaryOp .Add) (V8 fun i j=>.int (i+j)):=a9t fun _ _ _ _ _ _ _ q=>add_int q
theorem O8:B5 X (binaryOp .Mod) (rI (fun _ j=>0<j) fun i j=>.int (i%j)):=opI fun i j _ _ _ _ _ hc q=>by
 have h1:(0:Int)<j:=hc
 exact mod_int' (by omega) (by rw[Int.fmod_eq_emod_of_nonneg i (by omega)];exact q)
theorem a7v:B5 X (binaryOp .Pow) (rI Y7 fun i j=>.int (i ^ j.toNat)):=opI fun _ _ _ _ _ _ _ hc q=>pow_int_small hc.1 hc.2.1 hc.2.2 q
end
def a2y:V→V→Bool
 | .non,.non=>true | .non,.int _=>true | .int _,.non=>true | .non,.bl _=>true | .bl _,.non=>true | .non,.str _=>true | .str _,.non=>true
 | .int _,.int _=>true | .bl _,.bl _=>true | .str _,.str _=>true | .byt _,.byt _=>true
 | .int _,.str _=>true | .str _,.int _=>true | .bl _,.str _=>true | .str _,.bl _=>true
 | _,_=>false
def rEq:R2:=fun x y H Q=>a2y x y=true∧Q (.bl (decide (x=y))) H
def rNe:R2:=fun x y H Q=>a2y x y=true∧Q (.bl (!decide (x=y))) H
theorem a1S{i j:Int}:decide (V.int i=V.int j)=(i == j):=by
 rw[Bool.eq_iff_iff]
 simp
theorem a3n{i j:Bool}:decide (V.bl i=V.bl j)=(i == j):=by
 rw[Bool.eq_iff_iff]
 simp
theorem a1T{i j:Str}:decide (V.str i=V.str j)=(i == j):=by
 rw[Bool.eq_iff_iff]
 simp
theorem a1U{i j:Array UInt8}:decide (V.byt i=V.byt j)=(i.toList == j.toList):=by
 rw[Bool.eq_iff_iff]
 cases i
 cases j
 simp
section
variable {X:Cx}{a b c:Expr}{ta tb tc:TE}{pos:Pos}
theorem c6{pins:List (Addr×Obj)}{σ:St}{H:Hp}{s:Shared}{Q:VK}{k k':Bool}(I:Inv X pins σ H s)(q:Q (.bl k) H)(e:k=k'):EP X pins σ Q (.bool k') s:=by
 subst e
 exact⟨.bl k,H,I,rfl,q⟩
theorem a2z:B5 X (compareOp .Eq) rEq:=by
 intro pins s σ H x y v u Q I rx ry h
 obtain⟨hs,q⟩:=h
 cases x with
 | non =>
  cases rx
  cases y with
  | non=>cases ry;exact PySem.EqNone.eq_none_none (c6 I q (by simp))
  | bl j=>cases ry;exact PySem.EqNone.eq_none_bool (c6 I q (by simp))
  | int j=>obtain⟨t',rfl⟩:=ry;exact PySem.EqNone.eq_none_int (c6 I q (by simp))
  | str j=>obtain⟨t',rfl⟩:=ry;exact PySem.EqNone.eq_none_str (c6 I q (by simp))
  | _=>exact absurd (show false=true from hs) Bool.false_ne_true
 | bl i =>
  cases rx
  cases y with
  | non=>cases ry;exact PySem.EqNone.eq_bool_none (c6 I q (by simp))
  | bl j=>cases ry;exact eq_bool (c6 I q a3n)
  | str j=>obtain⟨t',rfl⟩:=ry;exact PySem.EqMixed.eq_bool_str (c6 I q (by simp))
  | _=>exact absurd (show false=true from hs) Bool.false_ne_true
 | int i =>
  obtain⟨t,rfl⟩:=rx
  cases y with
  | non=>cases ry;exact PySem.EqNone.eq_int_none (c6 I q (by simp))
  | int j=>obtain⟨t',rfl⟩:=ry;exact eq_int (c6 I q a1S)
  | str j=>obtain⟨t',rfl⟩:=ry;exact PySem.EqMixed.eq_int_str (c6 I q (by simp))
  | _=>exact absurd (show false=true from hs) Bool.false_ne_true
 | str i =>
  obtain⟨t,rfl⟩:=rx
  cases y with
  | non=>cases ry;exact PySem.EqNone.eq_str_none (c6 I q (by simp))
  | bl j=>cases ry;exact PySem.EqMixed.eq_str_bool (c6 I q (by simp))
  | int j=>obtain⟨t',rfl⟩:=ry;exact PySem.EqMixed.eq_str_int (c6 I q (by simp))
  | str j=>obtain⟨t',rfl⟩:=ry;exact eq_str (c6 I q a1T)
  | _=>exact absurd (show false=true from hs) Bool.false_ne_true
 | byt i =>
  obtain⟨t,rfl⟩:=rx
  cases y with
  | byt j=>obtain⟨t',rfl⟩:=ry;exact W.eq_bytes (c6 I q a1U)
  | _=>exact absurd (show false=true from hs) Bool.false_ne_true
 | _=>cases y<;>exact absurd (show false=true from hs) Bool.false_ne_true
theorem a5x:B5 X (compareOp .NotEq) rNe:=by
 intro pins s σ H x y v u Q I rx ry h
 obtain⟨hs,q⟩:=h
 cases x with
 | non =>
  cases rx
  cases y with
  | non=>cases ry;exact PySem.EqNone.ne_none_none (c6 I q (by simp))
  | bl j=>cases ry;exact PySem.EqNone.ne_none_bool (c6 I q (by simp))
  | int j=>obtain⟨t',rfl⟩:=ry;exact PySem.EqNone.ne_none_int (c6 I q (by simp))
  | str j=>obtain⟨t',rfl⟩:=ry;exact PySem.EqNone.ne_none_str (c6 I q (by simp))
  | _=>exact absurd (show false=true from hs) Bool.false_ne_true
 | bl i =>
  cases rx
  cases y with
  | non=>cases ry;exact PySem.EqNone.ne_bool_none (c6 I q (by simp))
  | bl j=>cases ry;exact ne_bool (c6 I q (congrArg not a3n))
  | str j=>obtain⟨t',rfl⟩:=ry;exact PySem.EqMixed.ne_bool_str (c6 I q (by simp))
  | _=>exact absurd (show false=true from hs) Bool.false_ne_true
 | int i =>
  obtain⟨t,rfl⟩:=rx
  cases y with
  | non=>cases ry;exact PySem.EqNone.ne_int_none (c6 I q (by simp))
  | int j=>obtain⟨t',rfl⟩:=ry;exact ne_int (c6 I q (congrArg not a1S))
  | str j=>obtain⟨t',rfl⟩:=ry;exact PySem.EqMixed.ne_int_str (c6 I q (by simp))
  | _=>exact absurd (show false=true from hs) Bool.false_ne_true
 | str i =>
  obtain⟨t,rfl⟩:=rx
  cases y with
  | non=>cases ry;exact PySem.EqNone.ne_str_none (c6 I q (by simp))
  | bl j=>cases ry;exact PySem.EqMixed.ne_str_bool (c6 I q (by simp))
  | int j=>obtain⟨t',rfl⟩:=ry;exact PySem.EqMixed.ne_str_int (c6 I q (by simp))
  | str j=>obtain⟨t',rfl⟩:=ry;exact ne_str (c6 I q (congrArg not a1T))
  | _=>exact absurd (show false=true from hs) Bool.false_ne_true
 | byt i =>
  obtain⟨t,rfl⟩:=rx
  cases y with
  | byt j=>obtain⟨t',rfl⟩:=ry;exact W.ne_bytes (c6 I q (congrArg not a1U))
  | _=>exact absurd (show false=true from hs) Bool.false_ne_true
 | _=>cases y<;>exact absurd (show false=true from hs) Bool.false_ne_true
theorem a8L:B5 X (compareOp .Lt) (V8 fun i j=>.bl (decide (i<j))):=a7u fun _ _ _ _ _ _ _ q=>lt_int q
theorem a8M:B5 X (compareOp .Gt) (V8 fun i j=>.bl (decide (j<i))):=a7u fun _ _ _ _ _ _ _ q=>gt_int q
theorem v3(b:Expr){op:CmpOp}(h:op≠.In:=by decide)(h2:op≠.NotIn:=by decide):behindInMarks op b=false:=by
 have e1:(op == CmpOp.In)=false:=by cases op<;>first | rfl | exact absurd rfl h
 have e2:(op == CmpOp.NotIn)=false:=by cases op<;>first | rfl | exact absurd rfl h2
 cases b<;>simp[behindInMarks,e1,e2]
theorem Y8{op:CmpOp}{r:R2}(ho:B5 X (compareOp op) r)(ha:PE X a ta)(hb:PE X b tb)(hm:behindInMarks op b=false):PE X (.Compare a [op] [b] pos) (tOp r ta tb):=by
 intro pins s σ H Q I h
 exact wpAny_Compare1 (a4k ha hb I h fun v u s2 x y H2 I2 rx ry q=>ho pins s2 σ H2 x y v u Q I2 rx ry q) hm
def a5y(t:TE):TT:=fun σ H Q=>t σ H fun x H'=>∃k,x=.bl k∧Q k H'
theorem z9{op:CmpOp}{r:R2}(ho:B5 X (compareOp op) r)(ha:PE X a ta)(hb:PE X b tb)(hm:behindInMarks op b=false):PT X (.Compare a [op] [b] pos) (a5y (tOp r ta tb)):=by
 intro pins s σ H Q I h
 refine wpAny_isTrue_Compare1 (c5 (ha pins s σ H _ I h) fun v s1 ⟨x,H1,I1,r1,q1⟩=>c5 (hb pins s1 σ H1 _ I1 q1) fun u s2 ⟨y,H2,I2,r2,q2⟩ =>
  c5 (ho pins s2 σ H2 x y v u _ I2 r1 r2 q2) fun c s3 ⟨z,H3,I3,r3,k,e,q3⟩=>?_) hm
 subst e
 cases r3
 exact wpAny_truthy_bool ⟨H3,I3,q3⟩
theorem a0T:(sizeLine:Nat)<2 ^ 63:=by rw[sizeLine_eq];decide
theorem a5z{x:V}{us:List Value}(r:Vals [x] us):∃u,us=[u]∧RelV x u:=by
 cases r with
 | cons r1 r2=>cases r2;exact⟨_,rfl,r1⟩
theorem a8N{x y:V}{us:List Value}(r:Vals [x,y] us):∃u w',us=[u,w']∧RelV x u∧RelV y w':=by
 cases r with
 | cons r1 r2 =>
  cases r2 with
  | cons r3 r4=>cases r4;exact⟨_,_,rfl,r1,r3⟩
end
structure ObjM(h:Heap)(x dx C:Addr)(mA:Str→Option Value):Prop where
 obj:h.get? x=some (W.instObj C dx)
 ns:h.Ns1 dx mA
 ne:dx≠x
theorem a3o{h:Heap}{dx:Addr}{mA:Str→Option Value}(n:h.Ns1 dx mA):∃od,h.get? dx=some od∧∀name,W.lookIn name od=some (mA name):=by
 obtain⟨o,es,ep,ho,hd,hk,_,hm⟩:=n
 refine⟨o,ho,fun name=>?_⟩
 have e:=hm name
 unfold nsFind findBy at e
 rw[← Array.find?_toList]at e
 unfold W.lookIn
 rw[hd]
 dsimp only
 split
 ·rename_i y q
  rw[q]at e
  exact congrArg some e
 ·rename_i q
  rw[q]at e
  have a:es.toList.any (·.refKey)=false:=by
   rw[List.any_eq_false]
   intro y hy
   obtain⟨z,t,hkey⟩:=hk y (Array.mem_toList_iff.mp hy)
   simp[DictEntry.refKey,hkey]
  have a':¬es.toList.any (·.refKey)=true:=by rw[a];exact Bool.false_ne_true
  rw[if_neg a']
  exact congrArg some e
theorem ObjM.look{h:Heap}{x dx C:Addr}{mA:Str→Option Value}(I:ObjM h x dx C mA):∃od,W.InstAt h x (W.instObj C dx) C (some od)∧∀name,W.lookIn name od=some (mA name) :=
 let ⟨od,ho,hl⟩:=a3o I.ns
 ⟨od,⟨I.obj,rfl,rfl,ho⟩,hl⟩
section
variable {P:Program}{w:World}{H H':Hp}{h h':Heap}{a C dx:Addr}{fs fs':List (Str×V)}
theorem a5Y(hok:HOk P w H h)(e:H a=some (.ins C dx fs)):∃mA,ObjM h a dx C mA∧(∀f,a4e (fs.lookup f) (mA f))∧PySem.Within mA (fs.map (·.1))∧fs.length≤1000∧H dx=some (.own a):=by
 obtain⟨d,z,ne,ob,mA,n,r,q⟩:=(show ObjOk P w H h a (.ins C dx fs)from hok a _ e)
 exact⟨mA,⟨ob,n,ne⟩,r,q,z,d⟩
end
structure Cls(K:W.Frag)(C:Addr):Prop where
 pg:W.plainGet K C Str.empty=true
 hd:W.hasDictIn K C=true
 po:W.plainOver K C=true
 sa:W.findIn K (.ref C) "__setattr__" = some (some (.builtin "object.__setattr__"))
theorem Cls.get{K:W.Frag}{C:Addr}(c:Cls K C)(f:Str):W.plainGet K C f=true:=c.pg
section
variable {X:Cx}{pins:List (Addr×Obj)}{σ:St}{H:Hp}{s:Shared}{a C dx:Addr}{fs:List (Str×V)}{f:Str}{v:V}{A:Around}{E:Value→Shared→Prop}
theorem Inv.made(I:Inv X pins σ H s):Inv X pins σ (upd (upd H s.heap.objs.size (.own (s.heap.objs.size+1))) (s.heap.objs.size+1) (.ins C s.heap.objs.size []))
  { s with heap:=(s.heap.push W.emptyDict).push (W.instObj C s.heap.objs.size) }:=by
 have e1:(s.heap.push W.emptyDict).get? s.heap.objs.size=some W.emptyDict:=Heap.get?_push_size s.heap rfl
 have e2:((s.heap.push W.emptyDict).push (W.instObj C s.heap.objs.size)).get? (s.heap.objs.size+1)=some (W.instObj C s.heap.objs.size):=by
  have:=Heap.get?_push_size (s.heap.push W.emptyDict) (o:=W.instObj C s.heap.objs.size) rfl
  rwa [Heap.size_push]at this
 have e3:(s.heap.push W.emptyDict).Ns s.heap.objs.size (fun _=>none):=⟨W.emptyDict,#[],_,e1,rfl,(fun e he=>absurd he (by simp)),fun _=>rfl⟩
 have I1:=I.laid (a:=s.heap.objs.size) (o:=.own (s.heap.objs.size+1)) (h':=s.heap.push W.emptyDict) (t':=s.toks) (fun b u q=>Heap.get?_push_of_some _ q) (Nat.le_refl _) ⟨_,e1⟩
 refine I1.laid (a:=s.heap.objs.size+1) (o:=.ins C s.heap.objs.size []) (t':=s.toks) (fun b u q=>Heap.get?_push_of_some _ q) (Nat.le_of_eq (Heap.size_push _ _)) ?_
 have ne:s.heap.objs.size≠s.heap.objs.size+1:=Nat.ne_of_lt (Nat.lt_succ_self _)
 refine⟨by rw[a8 ne,c7],Nat.zero_le _,ne,e2,fun _=>none,(Heap.Ns1.of_empty e3).at fun o q=>Heap.get?_push_of_some _ q,fun _=>True.intro,fun y hy=>absurd rfl hy⟩
end
section
variable {X:Cx}{pins:List (Addr×Obj)}{σ:St}{H:Hp}{s:Shared}{A:Around}{E:Value→Shared→Prop}{Q:Value→Shared→Prop}{c:Value}{b:Bool}
inductive TyOf(K:W.Frag)(H:Hp):V→Value→Prop where
 | non:TyOf K H .non (.type "NoneType")
 | bl (x:Bool):TyOf K H (.bl x) (.type "bool")
 | int (i:Int):TyOf K H (.int i) (.type "int")
 | str (x:Str):TyOf K H (.str x) (.type "str")
 | flt (x:UInt64):TyOf K H (.flt x) (.type "float")
 | lst {a:Addr} {xs:List V} (e:H a=some (.lst xs)):TyOf K H (.ref a) (.type "list")
 | frz {a:Addr} {o:Obj} {xs:List V} (e:H a=some (.frz o (.lst xs))):TyOf K H (.ref a) (.type "list")
 | tup {a:Addr} {xs:List V} (e:H a=some (.tup xs)):TyOf K H (.ref a) (.type "tuple")
 | dK {a:Addr} {kvs:List (y9×V)} (e:H a=some (.dK kvs)):TyOf K H (.ref a) (.type "dict")
 | dT {a:Addr} {kvs:List (List y9×V)} (e:H a=some (.dT kvs)):TyOf K H (.ref a) (.type "dict")
 | ins {a C dx:Addr} {fs:List (Str×V)} (e:H a=some (.ins C dx fs)) (cl:Cls K C) (ha:W.findIn K (.ref C) "__class__" = some (some (.builtin "object.__class__")))
   (hn:W.specialIn K (.builtin "object.__class__") "__get__" = some (some (.builtin "getset_descriptor.__get__"))) (htk:W.takesIn K (.builtin "object.__class__")=some true)
   (hm:W.mroIn K C (.type "object")=some true):TyOf K H (.ref a) (.ref C)
end
structure Room(k:Nat)(A:Around):Prop where
 hd:A.handled=none
 dp:A.depth+3*k+5<recursionLimit
 un:A.units+16*k+200<cLine
theorem Room.mono{j k:Nat}{A:Around}(r:Room k A)(h:j≤k):Room j A:=⟨r.hd,by have:=r.dp;omega,by have:=r.un;omega⟩
theorem Room.deeper{k:Nat}{A:Around}(r:Room (k+1) A)(env:Env):Room k (A.deeper env) :=
 ⟨r.hd,by have:=r.dp;show A.depth+1+3*k+5<_;omega,by have:=r.un;show A.units+3+16*k+200<_;omega⟩
theorem Room.in1{k:Nat}{A:Around}(r:Room (k+1) A):Room k A.in1 :=
 ⟨r.hd,by have:=r.dp;show A.depth+3*k+5<_;omega,by have:=r.un;show A.units+1+16*k+200<_;omega⟩
theorem Room.depth{k:Nat}{A:Around}(r:Room k A):A.depth<recursionLimit:=by have:=r.dp;omega
theorem Room.units{k:Nat}{A:Around}(r:Room k A):A.units+64<cLine:=by have:=r.un;omega
def T5:TA:=fun _ H Q=>Q [] H
def G8(ta:TE)(tr:TA):TA:=fun σ H Q=>ta σ H fun x H1=>tr σ H1 fun xs H2=>Q (x::xs) H2
section
variable {X:Cx}{e:Expr}{es:List Expr}{te:TE}{t:TA}{pos:Pos}
theorem b0:PA X [] T5:=fun _ _ _ _ H Q I h=>Calls.spliced_nil ⟨[],H,I,.nil,h⟩
theorem a7(ha:PE X e te)(hr:PA X es t)(hs:starEach (e::es) X.env=(false,eval e X.env)::starEach es X.env:=by rfl):PA X (e::es) (G8 te t):=by
 intro pos pins s σ H Q I h
 rw[hs]
 show wpAny _ _ (spliced ((false,eval e X.env)::backTo pos (starEach es X.env))) _ _ s
 refine Calls.spliced_cons (c5 (ha pins s σ H _ I h) fun u s1 ⟨x,H1,I1,r1,q1⟩=>?_)
 exact c5 (hr pos pins s1 σ H1 _ I1 q1) fun us s2 ⟨xs,H2,I2,r2,q2⟩=>⟨x::xs,H2,I2,.cons r1 r2,q2⟩
def a7w(t:TA):TE:=fun σ H Q=>t σ H fun xs H1=>xs.length≤sizeLine∧∀p,H1 p=none→Q (.ref p) (upd H1 p (.tup xs))
def a7x(t:TA):TE:=fun σ H Q=>t σ H fun xs H1=>xs.length≤sizeLine∧∀p,H1 p=none→Q (.ref p) (upd H1 p (.lst xs))
theorem a0U{x1}(h:PA X es t):PE X (.Tuple es x1 pos) (a7w t):=by
 intro pins s σ H Q I hq
 refine wpAny_Tuple_spliced (c5 (h pos pins s σ H _ I hq) fun us s1 ⟨xs,H1,I1,r,z,q⟩=>⟨by rw[← r.length];exact z,?_⟩)
 have hf:H1 s1.heap.objs.size=none:=I1.hok.fresh (Nat.le_refl _)
 refine⟨.ref s1.heap.objs.size,upd H1 s1.heap.objs.size (.tup xs),I1.laid (t':=s1.toks) (fun b u e=>Heap.get?_push_of_some _ e) (Nat.le_refl _) ?_,rfl,q _ hf⟩
 exact⟨z,us,r,⟨_,Heap.get?_push_size _ rfl,rfl,_,rfl⟩⟩
theorem O9(h:PA X es t):PE X (.List es pos) (a7x t):=by
 intro pins s σ H Q I hq
 refine wpAny_List_spliced (c5 (h pos pins s σ H _ I hq) fun us s1 ⟨xs,H1,I1,r,z,q⟩=>⟨by rw[← r.length];exact z,?_⟩)
 have hf:H1 s1.heap.objs.size=none:=I1.hok.fresh (Nat.le_refl _)
 refine⟨.ref s1.heap.objs.size,upd H1 s1.heap.objs.size (.lst xs),I1.laid (t':=s1.toks) (fun b u e=>Heap.get?_push_of_some _ e) (Nat.le_refl _) ?_,rfl,q _ hf⟩
 exact⟨z,us,0,r,Heap.get?_push_size _ rfl⟩
end
abbrev Sp:=List V→Hp→VK→XK→Prop
abbrev K2:=List Env→Hp→Shared→XK→Value→Shared→Prop
structure Env0(P:Program)(w:World)(K:W.Frag)(mg:Str→Option Value)(base:Heap)(A:Around)(outer:List Env)(s:Shared)(H:Hp):Prop where
 frames:A.frames=some outer
 mod:Mod K mg base
 bs:∀b o,base.get? b=some o→s.heap.get? b=some o∧H b=none
 bsz:base.objs.size≤s.heap.objs.size
 funs:s.heap.FunFrames base outer
 frf:∀b∈r6 outer,H b=none
 hok:HOk P w H s.heap
 bare:AllBare s.gens
def CE(outer:List Env)(P:Program)(w:World)(H:Hp)(s:Shared)(Q:VK)(u:Value)(s':Shared):Prop :=
 ∃v H',s'.os=s.os∧AllBare s'.gens∧Un (r6 outer) [] H H' s.heap s'.heap∧HOk P w H' s'.heap∧RelV v u∧Q v H'
def CR(CX:K2)(outer:List Env)(P:Program)(w:World)(H:Hp)(s:Shared)(Q:VK)(E:XK)(r:Result)(s':Shared):Prop :=
 match r with
 | .ok (.ret u)=>CE outer P w H s Q u s'
 | .ok _=>False
 | .error e=>CX outer H s E e s'
structure FnOk(P:Program)(w:World)(K:W.Frag)(mg:Str→Option Value)(base:Heap)(CX:K2)(k:Nat)(f:Addr)(fd:FuncData)(ps:List Str)(sp:Sp):Prop where
 len:∀vs H Q E,sp vs H Q E→vs.length=ps.length
 run:∀(A:Around) (outer:List Env) (s:Shared) (H:Hp) (args:Args) (us:List Value) (vs:List V) (Q:VK) (E:XK),Room k A→Env0 P w K mg base A outer s H→BindsTo s fd args (ps.zip us)→Vals vs us→sp vs H Q E →
  codeAny (model P w) A (.call (.ref f) args) (CR CX outer P w H s Q E) s
theorem FnOk.mono{P:Program}{w:World}{K:W.Frag}{mg:Str→Option Value}{base:Heap}{CX:K2}{j k:Nat}{f:Addr}{fd:FuncData}{ps:List Str}{sp:Sp}(F:FnOk P w K mg base CX j f fd ps sp)(h:j≤k) :
  FnOk P w K mg base CX k f fd ps sp:=⟨F.len,fun A outer s H args us vs Q E hr=>F.run A outer s H args us vs Q E (hr.mono h)⟩
theorem FnOk.imp{P:Program}{w:World}{K:W.Frag}{mg:Str→Option Value}{base:Heap}{CX:K2}{k:Nat}{f:Addr}{fd:FuncData}{ps:List Str}{sp sp':Sp}(F:FnOk P w K mg base CX k f fd ps sp)
  (h:∀vs H Q E,sp' vs H Q E→sp vs H Q E):FnOk P w K mg base CX k f fd ps sp' :=
 ⟨fun vs H Q E q=>F.len vs H Q E (h _ _ _ _ q),fun A outer s H args us vs Q E hr he hb hv hs=>F.run A outer s H args us vs Q E hr he hb hv (h _ _ _ _ hs)⟩
theorem Env0.in1{P:Program}{w:World}{K:W.Frag}{mg:Str→Option Value}{base:Heap}{A:Around}{outer:List Env}{s:Shared}{H:Hp}(e:Env0 P w K mg base A outer s H) :
  Env0 P w K mg base A.in1 outer s H:=⟨e.frames,e.mod,e.bs,e.bsz,e.funs,e.frf,e.hok,e.bare⟩
section
variable {X:Cx}{pins:List (Addr×Obj)}{σ:St}{H:Hp}{s s':Shared}
theorem Inv.env0(I:Inv X pins σ H s):Env0 X.prog X.w X.K X.mg X.base X.A X.stack s H :=
 ⟨I.ok.frames,I.ok.mod,I.bs,Nat.le_trans I.ok.bsz I.sz,I.stack,I.stkFree,I.hok,I.bare⟩
theorem Inv.after{Q:VK}{u:Value}(I:Inv X pins σ H s)(h:CE X.stack X.prog X.w H s Q u s'):EP X pins σ Q u s':=by
 obtain⟨v,H',os,bare,un,hok,r,q⟩:=h
 obtain⟨hh,g,d,t,os'⟩:=s'
 obtain rfl:os'=s.os:=os
 exact⟨v,H',I.call (h':=hh) (g':=g) (d':=d) (t':=t) (ch:=[]) un hok bare (fun b z=>absurd z (by simp)),r,q⟩
end
def R7(sp:Sp)(dvs:List V)(E:XK)(t:TA):TE:=fun σ H Q=>t σ H fun vs H1=>sp (vs++dvs) H1 Q E
def Binds(K:W.Frag)(fd:FuncData)(ps:List Str)(ds:List Value):Prop :=
 ∀(s:Shared) (us:List Value),K.In s.heap→(us++ds).length=ps.length→BindsTo s fd ⟨us,[]⟩ (ps.zip (us++ds))
theorem Binds.all{K:W.Frag}{fd:FuncData}{ps:List Str}(h:∀us:List Value,us.length=ps.length→bindArgs fd ⟨us,[]⟩=pure (ps.zip us)):Binds K fd ps []:=fun s us _ hl=>by
 rw[List.append_nil]at hl ⊢
 exact .of_eq (h us hl)
def P0(CX:K2)(X:Cx)(E:XK):Prop:=∀(pins:List (Addr×Obj)) (σ:St) (H:Hp) (s:Shared) (e:Value) (s':Shared),Inv X pins σ H s→CX X.stack H s E e s'→X.xe e s'
section
variable {X:Cx}{CX:K2}{k:Nat}{f C:Addr}{fd:FuncData}{ps:List Str}{sp:Sp}{dvs:List V}{ds:List Value}{E:XK}{x m:Str}{p pos apos:Pos}{e o:Expr}{es:List Expr}{ta:TE}{t:TA}
theorem a7y{pins:List (Addr×Obj)}{σ:St}{H:Hp}{s:Shared}{Q:VK}{us:List Value}{vs:List V}(F:FnOk X.prog X.w X.K X.mg X.base CX k f fd ps sp)(hr:Room k X.A)(hb:Binds X.K fd ps ds)(hd:Vals dvs ds)(hx:P0 CX X E)
  (I:Inv X pins σ H s) (r:Vals vs us) (h:sp (vs++dvs) H Q E):wpAny (model X.prog X.w) X.A (call (.ref f) us) (EP X pins σ Q) X.xe s:=by
 have r2:Vals (vs++dvs) (us++ds):=r.append hd
 have hl:(us++ds).length=ps.length:=by rw[← r2.length];exact F.len _ _ _ _ h
 refine wpAny_call (codeAny_mono (F.run X.A X.stack s H ⟨us,[]⟩ (us++ds) (vs++dvs) Q E hr I.env0 (hb s us I.kIn hl) r2 h) fun r s' hq=>?_)
 cases r with
 | error e=>exact hx pins σ H s e s' I hq
 | ok fl =>
  cases fl with
  | ret u=>exact I.after hq
  | next=>exact False.elim hq
  | brk=>exact False.elim hq
  | cont=>exact False.elim hq
theorem a5Z(F:FnOk X.prog X.w X.K X.mg X.base CX k f fd ps sp)(hr:Room k X.A)(hg:Gl X x)(hm:X.mg x=some (.ref f))(hk:W.keepIn X.K (.ref f)=true)(hb:Binds X.K fd ps ds)(hd:Vals dvs ds)(hx:P0 CX X E)
  (ha:PA X (e::es) t) (hdb:(x == ("__debug__" : Str))=false:=by decide) (he:starEach (e::es) X.env=(false,eval e X.env)::starEach es X.env:=by rfl) (hpl:(backTo pos (starEach es X.env)).any (·.1)=false:=by rfl) :
  PE X (.Call (.Name x p) (e::es) [] pos) (R7 sp dvs E t):=by
 intro pins s σ H Q I h
 refine wpAny_Call_Name_kw (Y5 I hg hm ?_ hdb)
 refine W.callWith_K (h₀:=X.base) I.ok.mod.kin hk (c5 (ha pos pins s σ H _ I h) fun us s1 ⟨vs,H1,I1,r,q⟩=>⟨I1.kIn,?_⟩) he hpl
 exact a7y F hr hb hd hx I1 r q
end
structure FnScope(N P:List Str)(sc:Scope):Prop where
 kind:sc.kind=.function
 co:sc.isCoroutine=false
 gen:sc.isGenerator=false
 nd:N.Nodup
 pre:N.take P.length=P
 par:∀x∈P,sc.names.lookup x=some .local∨sc.names.lookup x=some .cell
 nofree:∀y∈sc.names,y.2≠.free
theorem a0j{kindOf:Str→Option NameKind}{x:Str}:∀{binds:List (Str×Value)} {m:Str→Option Value},(∀v,(x,v) ∉ binds)→bindL kindOf binds m x=m x
 | [],_,_=>rfl
 | (n,v)::r,m,h=>by
  unfold bindL
  rw[a0j fun w hw=>h w (List.mem_cons_of_mem _ hw)]
  split
  ·have:x≠n:=by rintro rfl;exact h v List.mem_cons_self
   simp[this]
  ·rfl
theorem a0k{kindOf:Str→Option NameKind}{x:Str}:∀{binds:List (Str×Value)} {m:Str→Option Value},(∀v,(x,v) ∉ binds)→bindC kindOf binds m x=m x
 | [],_,_=>rfl
 | (n,v)::r,m,h=>by
  unfold bindC
  rw[a0k fun w hw=>h w (List.mem_cons_of_mem _ hw)]
  split
  ·rfl
  ·have:x≠n:=by rintro rfl;exact h v List.mem_cons_self
   simp[this]
theorem a0l{kindOf:Str→Option NameKind}{x:Str}{v:Value}:∀{P:List Str} {vs:List Value} {i:Nat} {m:Str→Option Value},P.Nodup→P[i]? = some x→vs[i]? = some v→kindOf x=some .local →
  bindL kindOf (P.zip vs) m x=some v
 | [],_,_,_,_,h,_,_=>by simp at h
 | _::_,[],_,_,_,_,h,_=>by simp at h
 | p::P,w::vs,0,m,nd,h1,h2,hk=>by
  simp at h1 h2;subst h1;subst h2
  show bindL kindOf ((p,w)::P.zip vs) m p=_
  unfold bindL
  rw[a0j fun v hv=>(List.nodup_cons.mp nd).1 (List.of_mem_zip hv).1,if_pos hk]
  simp
 | p::P,w::vs,i+1,m,nd,h1,h2,hk=>by
  show bindL kindOf ((p,w)::P.zip vs) m x=_
  unfold bindL
  exact a0l (i:=i) (List.nodup_cons.mp nd).2 (by simpa using h1) (by simpa using h2) hk
theorem a0m{kindOf:Str→Option NameKind}{x:Str}{v:Value}:∀{P:List Str} {vs:List Value} {i:Nat} {m:Str→Option Value},P.Nodup→P[i]? = some x→vs[i]? = some v→kindOf x≠some .local →
  bindC kindOf (P.zip vs) m x=some v
 | [],_,_,_,_,h,_,_=>by simp at h
 | _::_,[],_,_,_,_,h,_=>by simp at h
 | p::P,w::vs,0,m,nd,h1,h2,hk=>by
  simp at h1 h2;subst h1;subst h2
  show bindC kindOf ((p,w)::P.zip vs) m p=_
  unfold bindC
  rw[a0k fun v hv=>(List.nodup_cons.mp nd).1 (List.of_mem_zip hv).1,if_neg hk]
  simp
 | p::P,w::vs,i+1,m,nd,h1,h2,hk=>by
  show bindC kindOf ((p,w)::P.zip vs) m x=_
  unfold bindC
  exact a0m (i:=i) (List.nodup_cons.mp nd).2 (by simpa using h1) (by simpa using h2) hk
def start(N:List Str)(vs:List V):St:=vs.map some++List.replicate (N.length-vs.length) none
def C2(CX:K2)(P:Program)(w:World)(K:W.Frag)(mg:Str→Option Value)(base:Heap)(N:List Str)(qual:Str)(scope:Scope)(f:Addr)(cd:Value)(A:Around)(outer:List Env)(s:Shared)(H:Hp)(E:XK):Cx where
 prog:=P
 w:=w
 K:=K
 mg:=mg
 base:=base
 A:=A.deeper (envOfC qual scope s.heap.objs.size f cd)
 N:=N
 s₀:=s
 H₀:=H
 env:=envOfC qual scope s.heap.objs.size f cd
 outer:=outer
 stack:=envOfC qual scope s.heap.objs.size f cd::outer
 ex:=[]
 calm:=true
 fn:=fun _=>true
 pn:=[]
 xe:=fun e s'=>wpAny (model P w) (A.deeper (envOfC qual scope s.heap.objs.size f cd)) (leaving (envOfC qual scope s.heap.objs.size f cd) e) (fun _ s''=>CX outer H s E e s'') (fun e' s''=>CX outer H s E e' s'') s'
theorem a0V{sc:Scope}{n:Nat}{x:Str}(h:sc.names.lookup x=some .cell):∃c,(cellsFrom n sc.names []).lookup x=some c:=by
 have q:=W.cellsFrom_some sc.names n [] (.inl h)
 exact Option.isSome_iff_exists.mp q
theorem a3p{CX:K2}{P:Program}{w:World}{K:W.Frag}{mg:Str→Option Value}{base:Heap}{N ps:List Str}{qual:Str}{scope:Scope}{f:Addr}{cd:Value}{A:Around}{outer:List Env}{s s1:Shared}{H:Hp}{E:XK}{us:List Value}{vs:List V}
  (S:FnScope N ps scope) (hd:A.handled=none) (e0:Env0 P w K mg base A outer s H) (hl:vs.length=ps.length) (r:Vals vs us)
  (x:InCallC s s.heap.objs.size (bindL (envOfC qual scope s.heap.objs.size f cd).kindOf (ps.zip us) fun _=>none) (cellsFrom (s.heap.objs.size+1) scope.names []) (bindC (envOfC qual scope s.heap.objs.size f cd).kindOf (ps.zip us) fun _=>none) s1) :
  Inv (C2 CX P w K mg base N qual scope f cd A outer s H E) [] (start N vs) H s1:=by
 have hpl:ps.length≤N.length:=by have:=congrArg List.length S.pre;rw[List.length_take]at this;omega
 obtain⟨h1,tk,rfl,hk⟩:=x.done
 have noA:∀b:Addr,b ∉ (C2 CX P w K mg base N qual scope f cd A outer s H E).ex:=fun b z=>absurd (show b∈([]:List Addr)from z) (by simp)
 refine⟨⟨e0.mod,S.kind,rfl,rfl,Nat.le_refl _,fun y z c h1 h2=>?_,fun y hy=>?_,fun y c _ h=>?_,fun _=>hd,Around.frames_deeper e0.frames,.inr ⟨rfl,rfl⟩,fun b z=>absurd z (noA b),e0.bs,e0.bsz,fun b _ _=>noA b,fun b z=>absurd z (noA b),e0.funs,e0.frf⟩,
  rfl,e0.bare,Un.kept hk,⟨_,x.toInCall.ns,fun i y v h1 h2 h3=>?_⟩,fun y c h=>⟨_,x.cell y c h⟩,e0.hok.fresh (Nat.le_refl _),fun y c h=>?_,fun p hp=>absurd (show p∈([]:List (Addr×Obj))from hp) (by simp),e0.hok.kept hk,?_⟩
 ·exact name_of_addr x.apart (PySem.mem_of_lookup h1) (PySem.mem_of_lookup h2)
 ·have hy:scope.names.lookup y=some .cell∨scope.names.lookup y=some .free:=hy
  rcases hy with hy | hy
  ·exact a0V hy
  ·exact absurd rfl (S.nofree _ (PySem.mem_of_lookup hy))
 ·exact Nat.le_of_lt (x.above y c (PySem.mem_of_lookup h))
 ·have hi:i<vs.length:=by
   unfold start at h2
   by_cases hi:i<vs.length
   ·exact hi
   ·rw[List.getElem?_append_right (by simpa using hi)]at h2
    rw[List.getElem?_replicate]at h2
    split at h2<;>cases h2
  have ha:vs[i]? = some v:=by
   unfold start at h2
   rw[List.getElem?_append_left (by simpa using hi),List.getElem?_map]at h2
   cases e:vs[i]? with
   | none=>rw[e]at h2;cases h2
   | some a=>rw[e]at h2;cases h2;rfl
  obtain⟨u,hu,rv⟩:=r.get ha
  have hp:ps[i]? = some y:=by
   rw[← S.pre,List.getElem?_take_of_lt (by omega)];exact h1
  have ndP:ps.Nodup:=by rw[← S.pre];exact S.nd.sublist (List.take_sublist _ _)
  refine⟨u,rv,?_⟩
  rcases S.par y (List.mem_of_getElem? hp)with k | k
  ·exact .inl ⟨k,a0l ndP hp hu k⟩
  ·obtain⟨c,e⟩:=a0V (n:=s.heap.objs.size+1) k
   refine .inr ⟨.inl k,c,e,?_⟩
   have q:=x.cell y c e
   rw[a0m ndP hp hu (by show scope.names.lookup y≠_;rw[k];decide)]at q
   exact q
 ·exact e0.hok.fresh (Nat.le_of_lt (x.above y c (PySem.mem_of_lookup h)))
 ·unfold start
  show _=N.length
  rw[List.length_append,List.length_map,List.length_replicate]
  omega
theorem a2A{CX:K2}{P:Program}{w:World}{K:W.Frag}{mg:Str→Option Value}{base:Heap}{k:Nat}{f:Addr}{name qual:Str}{params:Arguments}{body:List Stmt}{scope:Scope}{dV kV doc pm cdv ct oc:Value}{an od:Option Addr}
  {osl:Array (Option Value)} {N ps:List Str} {sp:Sp} (lk:K.lookup f=some ⟨oc,od,.func (W.fnOf name qual params body scope dV kV doc pm an cdv ct),osl⟩) (hcd:W.codeIn K cdv qual=true) (S:FnScope N ps scope)
  (len:∀vs H Q E,sp vs H Q E→vs.length=ps.length)
  (hbody:∀(A:Around) (outer:List Env) (s:Shared) (H:Hp) (vs:List V) (Q:VK) (E:XK),Room k (A.deeper (envOfC qual scope s.heap.objs.size f cdv))→sp vs H Q E →
   ∃t,PSs (C2 CX P w K mg base N qual scope f cdv A outer s H E) body t∧t { nx:=fun _ H'=>Q .non H',rt:=Q } (start N vs) H) :
  FnOk P w K mg base CX (k+1) f (W.fnOf name qual params body scope dV kV doc pm an cdv ct) ps sp:=by
 refine⟨len,fun A outer s H args us vs Q E hr e0 hb r hsp=>?_⟩
 have hl:=len _ _ _ _ hsp
 have KX:K.In s.heap:=e0.mod.kin.keeps fun b o e=>(e0.bs b o e).1
 have lim:s.heap.NoLimit:=e0.mod.nolimit.keeps fun b o e=>(e0.bs b o e).1
 have hkind:∀y∈ps.zip us,scope.names.lookup y.1=some .local∨(scope.names.lookup y.1=some .cell∧((cellsFrom (s.heap.objs.size+1) scope.names []).lookup y.1).isSome=true):=fun⟨n,v⟩ hy=>by
  rcases S.par n (List.of_mem_zip hy).1 with q | q
  ·exact .inl q
  ·exact .inr ⟨q,W.cellsFrom_some _ _ _ (.inl q)⟩
 refine codeAny_call_function hr.depth (KX _ _ lk) rfl S.co S.gen rfl (W.codeRec_of KX hcd) (hb _ _ _ _ ?_)
 refine wpAny_newFunctionEnv_cells S.kind hkind fun env he s1 x=>?_
 subst he
 refine⟨lim.keeps x.toInCall.keep,codeAny_func ?_⟩
 obtain⟨t,ht,hq⟩:=hbody A outer s H vs Q E (hr.deeper _) hsp
 have I:Inv (C2 CX P w K mg base N qual scope f cdv A outer s H E) [] (start N vs) H s1:=a3p S hr.hd e0 hl r x
 refine wpAny_mono (ht [] s1 (start N vs) H _ I hq) (fun fl s' hs=>?_) fun e s' hs=>hs
 have fin:∀{σ':St} {H':Hp} {v:V} {u:Value},Inv (C2 CX P w K mg base N qual scope f cdv A outer s H E) [] σ' H' s'→RelV v u→Q v H'→CE outer P w H s Q u s' :=
  fun{σ' H' v u} J rv q=>⟨v,H',J.os,J.bare,J.base,J.hok,rv,q⟩
 cases fl with
 | ret u =>
  obtain⟨v,σ',H',J,rv,q⟩:=hs
  exact fin J rv q
 | next =>
  obtain⟨σ',H',J,q⟩:=hs
  exact fin (v:=V.non) (u:=Value.none) J rfl q
 | brk =>
  obtain⟨_,_,_,q⟩:=hs
  exact False.elim q
 | cont =>
  obtain⟨_,_,_,q⟩:=hs
  exact False.elim q
section
variable {X:Cx}{x:Str}{p pos:Pos}{e:Expr}{es:List Expr}{t:TA}{id T:String}{r:List V→Hp→VK→Prop}
def tCB(r:List V→Hp→VK→Prop)(t:TA):TE:=fun σ H Q=>t σ H fun vs H1=>r vs H1 Q
theorem w4(hc:D8 X (.builtin id) r)(hg:Gl X x)(hm:X.mg x=none)(hv:bootBuiltins x=some (.builtin id))(ha:PA X (e::es) t)(hn:x≠"__name__" := by decide)(hdb:(x == ("__debug__" : Str))=false:=by decide)
  (he:starEach (e::es) X.env=(false,eval e X.env)::starEach es X.env:=by rfl) (hpl:(backTo pos (starEach es X.env)).any (·.1)=false:=by rfl):PE X (.Call (.Name x p) (e::es) [] pos) (tCB r t):=by
 intro pins s σ H Q I h
 refine wpAny_Call_Name_kw (K0 I hg hm hv ?_ hn hdb)
 exact PyProof.Rows.callWith_builtin1 (c5 (ha pos pins s σ H _ I h) fun us s1 ⟨vs,H1,I1,r1,q1⟩=>hc pins s1 σ H1 vs us Q I1 r1 q1) he hpl
theorem a0n(hc:D8 X (.type T) r)(hg:Gl X x)(hm:X.mg x=none)(hv:bootBuiltins x=some (.type T))(ha:PA X (e::es) t)(hn:x≠"__name__" := by decide)(hdb:(x == ("__debug__" : Str))=false:=by decide)
  (he:starEach (e::es) X.env=(false,eval e X.env)::starEach es X.env:=by rfl) (hpl:(backTo pos (starEach es X.env)).any (·.1)=false:=by rfl):PE X (.Call (.Name x p) (e::es) [] pos) (tCB r t):=by
 intro pins s σ H Q I h
 refine wpAny_Call_Name_kw (K0 I hg hm hv ?_ hn hdb)
 exact PyProof.Rows.callWith_type1 (c5 (ha pos pins s σ H _ I h) fun us s1 ⟨vs,H1,I1,r1,q1⟩=>hc pins s1 σ H1 vs us Q I1 r1 q1) he hpl
end
end L2
namespace HT
open PySem PyProof.Rows
def lexLt:List Int→List Int→Bool
 | [],[]=>false
 | [],_::_=>true
 | _::_,[]=>false
 | x::xs,y::ys=>if x=y then lexLt xs ys else decide (x<y)
theorem lexLt_cons(x y:Int)(xs ys:List Int):lexLt (x::xs) (y::ys)=if x=y then lexLt xs ys else decide (x<y):=rfl
section
variable {prog:Program}{w:World}{A:Around}{E:Value→Shared→Prop}{s:Shared}
def sIx(n d:Nat):Option Int→Nat
 | none=>d
 | some v=>if v<0 then(v+(n:Int)).toNat else min v.toNat n
theorem sIx_none(n d:Nat):sIx n d none=d:=rfl
theorem sIx_nat(n d k:Nat):sIx n d (some (k:Int))=min k n:=by
 show(if(k:Int)<0 then((k:Int)+(n:Int)).toNat else min (k:Int).toNat n)=min k n
 rw[if_neg (by omega),Int.toNat_natCast]
end
end HT
namespace L2
open PySem PySem.Spec PyProof.Rows
abbrev TO:=St→Hp→(Option Int→Hp→Prop)→Prop
def PO(X:Cx)(e:Option Expr)(t:TO):Prop :=
 ∀(pins:List (Addr×Obj)) (s:Shared) (σ:St) (H:Hp) (Q:Option Int→Hp→Prop),Inv X pins σ H s→t σ H Q →
  wpAny (model X.prog X.w) X.A (evalPart e X.env) (fun u s'=>∃o H',Inv X pins σ H' s'∧IsPart u o∧Q o H') X.xe s
def a1W:TO:=fun _ H Q=>Q none H
def a5A(t:TE):TO:=fun σ H Q=>t σ H fun x H1=>∃i,x=.int i∧Q (some i) H1
section
variable {X:Cx}{e:Expr}{te:TE}{lo hi:Option Expr}{tl th:TO}{pos p2:Pos}
theorem a50:PO X none a1W:=by
 intro pins s σ H Q I h
 rw[evalPart_none]
 exact wpAny_pure ⟨none,H,I,.none,h⟩
theorem a51(h:PE X e te):PO X (some e) (a5A te):=by
 intro pins s σ H Q I hw
 rw[evalPart_some]
 refine c5 (h pins s σ H _ I hw) fun u s1 ⟨x,H1,I1,r1,q1⟩=>?_
 obtain⟨i,rfl,q⟩:=q1
 obtain⟨t,rfl⟩:=r1
 exact⟨some i,H1,I1,.int i t,q⟩
def SlR(X:Cx)(r:V→Option Int→Option Int→Hp→VK→Prop):Prop :=
 ∀(pins:List (Addr×Obj)) (s:Shared) (σ:St) (H:Hp) (x:V) (v vl vu:Value) (lo hi:Option Int) (sl:Addr) (Q:VK),Inv X pins σ H s→RelV x v→s.heap.IsSliceOf sl vl vu .none→IsPart vl lo→IsPart vu hi→r x lo hi H Q →
  ∃T id,typeLookup (.type T) "__getitem__" = pure (some (.builtin id))∧s.TypeIs v T∧wpAny (model X.prog X.w) X.A (getItem v (.ref sl)) (EP X pins σ Q) X.xe s
def tSl(r:V→Option Int→Option Int→Hp→VK→Prop)(te:TE)(tl th:TO):TE:=fun σ H Q=>te σ H fun x H1=>tl σ H1 fun l H2=>th σ H2 fun u H3=>r x l u H3 Q
theorem a4l{r:V→Option Int→Option Int→Hp→VK→Prop}(hr:SlR X r)(he:PE X e te)(hl:PO X lo tl)(hu:PO X hi th):PE X (.Subscript e (.Slice lo hi none p2) pos) (tSl r te tl th):=by
 intro pins s σ H Q I h
 refine Subscript_ (c5 (he pins s σ H _ I h) fun v s1 ⟨x,H1,I1,r1,q1⟩=>?_)
 refine wpAny_Slice (c5 (hl pins s1 σ H1 _ I1 q1) fun vl s2 ⟨l,H2,I2,pl,q2⟩=>c5 (hu pins s2 σ H2 _ I2 q2) fun vu s3 ⟨u,H3,I3,pu,q3⟩=>?_)
 rw[evalPart_none]
 refine wpAny_pure ?_
 have I4:Inv X pins σ H3 { s3 with heap:=s3.heap.push { cls:=.type "slice",data:=.fields #[vl,vu,.none] } }:=I3.kept (t':=s3.toks) fun b ob q=>Heap.get?_push_of_some _ q
 obtain⟨T,id,hT,ht,hg⟩:=hr pins { s3 with heap:=s3.heap.push { cls:=.type "slice",data:=.fields #[vl,vu,.none] } } σ H3 x v vl vu l u s3.heap.objs.size Q I4 r1 (Heap.IsSliceOf.new ..) pl pu q3
 show wpAny (model X.prog X.w) X.A (subscriptTail e (.Slice lo hi none p2) v (.ref s3.heap.objs.size)) (EP X pins σ Q) X.xe { s3 with heap:=s3.heap.push { cls:=.type "slice",data:=.fields #[vl,vu,.none] } }
 exact tail_any (ops:=[.ref s3.heap.objs.size,v]) ht hT hg (by with_unfolding_all rfl)
def Y9(xs:List V)(lo hi:Option Int):List V:=(xs.drop (HT.sIx xs.length 0 lo)).take (HT.sIx xs.length xs.length hi-HT.sIx xs.length 0 lo)
theorem a1A(xs:List V)(lo hi:Option Int):(Y9 xs lo hi).length≤xs.length:=by
 unfold Y9
 rw[List.length_take,List.length_drop]
 omega
end
def V9(n:Nat)(i:Int):Option Nat:=if 0≤i then(if i<n then some i.toNat else none)else if -(n:Int)≤i then some (i+n).toNat else none
def atI{α:Type}(xs:List α)(i:Int):Option α:=(V9 xs.length i).bind fun j=>xs[j]?
theorem a52{n:Nat}{i:Int}{j:Nat}(h:V9 n i=some j):seqIndex? i n=some j∧j<n∧-(n:Int)≤i∧i<n:=by
 unfold V9 at h
 by_cases h0:0≤i
 ·rw[if_pos h0]at h
  by_cases h1:i<n
  ·rw[if_pos h1]at h
   have e:i.toNat=j:=Option.some.inj h
   exact⟨by rw[seqIndex_of h0 h1,e],by omega,by omega,h1⟩
  ·rw[if_neg h1]at h;cases h
 ·rw[if_neg h0]at h
  by_cases h1 : -(n:Int)≤i
  ·rw[if_pos h1]at h
   have e:(i+n).toNat=j:=Option.some.inj h
   exact⟨by rw[seqIndex_neg (by omega) h1,e],by omega,h1,by omega⟩
  ·rw[if_neg h1]at h;cases h
theorem a1X{α:Type}{xs:List α}{i:Int}{v:α}(h:atI xs i=some v):∃j,seqIndex? i xs.length=some j∧xs[j]? = some v∧j<xs.length∧-(xs.length:Int)≤i∧i<xs.length:=by
 unfold atI at h
 cases e:V9 xs.length i with
 | none=>rw[e]at h;cases h
 | some j =>
  rw[e]at h
  obtain⟨h1,h2,h3,h4⟩:=a52 e
  exact⟨j,h1,h,h2,h3,h4⟩
def a53(b:Expr):Prop:=∀o i,subscripted b false o i=operate [o,i] (getItem o i)
def IxR(X:Cx)(r:R2):Prop :=
 ∀(value slice:Expr) (pins:List (Addr×Obj)) (s:Shared) (σ:St) (H:Hp) (x y:V) (v u:Value) (Q:VK),Inv X pins σ H s→RelV x v→RelV y u→r x y H Q →
  subscripted slice false v u=operate [v,u] (getItem v u)→wpAny (model X.prog X.w) X.A (subscriptTail value slice v u) (EP X pins σ Q) X.xe s
def MtR(X:Cx)(id:String)(r:V→List V→Hp→VK→Prop):Prop :=
 ∀(pins:List (Addr×Obj)) (s:Shared) (σ:St) (H:Hp) (x:V) (xs:List V) (v:Value) (us:List Value) (Q:VK),Inv X pins σ H s→RelV x v→Vals xs us→r x xs H Q →
  wpAny (model X.prog X.w) X.A (call (.builtin id) (v::us)) (EP X pins σ Q) X.xe s
section
variable {X:Cx}{a b:Expr}{ta tb:TE}{pos:Pos}
theorem A8{r:R2}(hr:IxR X r)(ha:PE X a ta)(hb:PE X b tb)(hs:a53 b):PE X (.Subscript a b pos) (tOp r ta tb):=by
 intro pins s σ H Q I h
 exact Subscript_ (a4k ha hb I h fun v u s2 x y H2 I2 rx ry q=>hr a b pins s2 σ H2 x y v u Q I2 rx ry q (hs _ _))
def a4m(K:W.Frag):R2:=fun x y H Q=>∃p xs i v,x=.ref p∧y=.int i∧SqL K H p xs∧atI xs i=some v∧Q v H
def a4n(K:W.Frag):R2:=fun x y H Q=>∃p xs i v,x=.ref p∧y=.int i∧SqT K H p xs∧atI xs i=some v∧Q v H
theorem a54:IxR X (a4m X.K):=by
 intro value slice pins s σ H x y v u Q I rx ry h hs
 obtain⟨p,xs,i,z,rfl,rfl,hq,he,q⟩:=h
 cases rx
 obtain⟨t,rfl⟩:=ry
 obtain⟨its,r,pl,hz⟩:=I.list hq
 obtain⟨j,h1,h2,h3,h4,h5⟩:=a1X he
 obtain⟨w,ew,rw'⟩:=r.get h2
 have hl:=r.length
 have hn:=a0T
 have fin:EP X pins σ Q w s:=⟨z,H,I,rw',q⟩
 by_cases h0:0≤i
 ·have hj:i.toNat=j:=by
   rw[seqIndex_of h0 h5]at h1
   exact Option.some.inj h1
  exact item_listR pl.isList h0 (by omega) (by rw[hj];simpa using ew) fin hs
 ·have hj:(i+(its.toArray.size:Int)).toNat=j:=by
   rw[seqIndex_neg (by omega) h4]at h1
   rw[List.size_toArray,← hl]
   exact Option.some.inj h1
  exact subscriptTail_builtinR (x:=w) pl.isList.typeIs slot_list_getitem.lookup
   (wpAny_getItem_list_neg (Q:=fun r s'=>r=w∧EP X pins σ Q r s') pl.isList (by omega) (by rw[List.size_toArray]<;>omega) (by omega) (by rw[hj];simpa using ew) ⟨rfl,fin⟩) hs
theorem a7A:IxR X (a4n X.K):=by
 intro value slice pins s σ H x y v u Q I rx ry h hs
 obtain⟨p,xs,i,z,rfl,rfl,hq,he,q⟩:=h
 cases rx
 obtain⟨t,rfl⟩:=ry
 obtain⟨its,r,pl,hz⟩:=I.tuple hq
 obtain⟨j,h1,h2,h3,h4,h5⟩:=a1X he
 obtain⟨w,ew,rw'⟩:=r.get h2
 have hl:=r.length
 have hn:=a0T
 have fin:EP X pins σ Q w s:=⟨z,H,I,rw',q⟩
 exact subscriptTail_builtinR (x:=w) pl.typeIs slot_tuple_getitem.lookup
  (getItem_tuple (j:=j) (Q:=fun r s'=>r=w∧EP X pins σ Q r s') pl (by omega) (by omega) (by rw[List.size_toArray,← hl];exact h1) (by simpa using ew) ⟨rfl,fin⟩) hs
theorem Inv.lst{pins:List (Addr×Obj)}{σ:St}{H:Hp}{s:Shared}{p:Addr}{xs:List V}(I:Inv X pins σ H s)(h:H p=some (.lst xs)) :
  ∃(its:List Value) (n:Nat),Vals xs its∧s.heap.get? p=some { cls:=.type "list",data:=.seq its.toArray n }∧xs.length≤sizeLine:=by
 obtain⟨z,its,n,r,e⟩:=I.hok p _ h
 exact⟨its,n,r,e,z⟩
theorem a0W(lo hi:Option Int)(n:Nat):(sliceBounds lo hi none n).1=((HT.sIx n 0 lo:Nat):Int)∧(sliceBounds lo hi none n).2.1=((HT.sIx n n hi:Nat):Int)∧(sliceBounds lo hi none n).2.2=1:=by
 refine⟨?_,?_,rfl⟩
 ·cases lo with
  | none=>simp[sliceBounds,HT.sIx]
  | some i =>
   simp only[sliceBounds,HT.sIx,Option.getD_none,show(1:Int) > 0 by decide,if_true]
   by_cases h:i<0
   ·simp only[h,if_true]<;>omega
   ·simp only[h,if_false]<;>omega
 ·cases hi with
  | none=>simp[sliceBounds,HT.sIx]
  | some i =>
   simp only[sliceBounds,HT.sIx,Option.getD_none,show(1:Int) > 0 by decide,if_true]
   by_cases h:i<0
   ·simp only[h,if_true]<;>omega
   ·simp only[h,if_false]<;>omega
theorem a0B(its:List Value)(lo hi:Option Int):slicePick its.toArray lo hi none=((its.drop (HT.sIx its.length 0 lo)).take (HT.sIx its.length its.length hi-HT.sIx its.length 0 lo)).toArray:=by
 obtain⟨h1,h2,h3⟩:=a0W lo hi its.toArray.size
 unfold slicePick
 rw[h1,h2,h3]
 simp only[sliceRange_one,pick_run,List.size_toArray]<;>rfl
def a4o(K:W.Frag):V→Option Int→Option Int→Hp→VK→Prop:=fun x lo hi H Q=>∃a xs,x=.ref a∧SqL K H a xs∧∀p,H p=none→Q (.ref p) (upd H p (.lst (Y9 xs lo hi)))
theorem a55:SlR X (a4o X.K):=by
 intro pins s σ H x v vl vu lo hi sl Q I rx hs pl pu h
 obtain⟨a,xs,rfl,hx,q⟩:=h
 cases rx
 obtain⟨its,r,ht,hz⟩:=I.list hx
 have hlen:=r.length
 refine⟨"list",_,slot_list_getitem.lookup,ht.isList.typeIs,?_⟩
 refine wpAny_getItem_list_slice ht.isList hs pl pu .none (by simp) ?_ (by rw[List.size_toArray]<;>omega)
 rw[a0B,← hlen]
 refine⟨.ref s.heap.objs.size,_,I.laid (t':=s.toks) (o:=.lst (Y9 xs lo hi)) (fun b ob q=>Heap.get?_push_of_some _ q) (Nat.le_refl _) ?_,rfl,q _ (I.hok.fresh (Nat.le_refl _))⟩
 exact⟨Nat.le_trans (a1A xs lo hi) hz,_,0,(r.drop (HT.sIx xs.length 0 lo)).take (HT.sIx xs.length xs.length hi-HT.sIx xs.length 0 lo),Heap.get?_push_size _ rfl⟩
def a0K:V→Bool
 | .non=>true
 | .bl _=>true
 | .int _=>true
 | .str _=>true
 | _=>false
def eqV:V→V→Bool
 | .non,.non=>true
 | .bl a,.bl b=>a == b
 | .bl a,.int b=>(if a then 1 else 0) == b
 | .int a,.bl b=>a == (if b then 1 else 0)
 | .int a,.int b=>a == b
 | .str a,.str b=>a == b
 | _,_=>false
theorem a7C{A:Around}{s:Shared}{y x:V}{u v:Value}(ry:RelV y u)(rx:RelV x v)(fy:a0K y=true)(fx:a0K x=true):SeqAt.EqAt A s u v (eqV y x):=by
 cases y with
 | non =>
  cases ry
  cases x with
  | non=>cases rx;exact SeqAt.EqAt.same _
  | bl b=>cases rx;exact SeqAt.EqAt.none_bool b
  | int b=>obtain⟨t,rfl⟩:=rx;exact SeqAt.EqAt.none_int b t
  | str b=>obtain⟨t,rfl⟩:=rx;exact SeqAt.EqAt.none_str b t
  | _=>exact absurd (show false=true from fx) Bool.false_ne_true
 | bl a =>
  cases ry
  cases x with
  | non=>cases rx;exact SeqAt.EqAt.bool_none a
  | bl b=>cases rx;exact SeqAt.EqAt.bool_bool a b
  | int b=>obtain⟨t,rfl⟩:=rx;exact SeqAt.EqAt.bool_int a b t
  | str b=>obtain⟨t,rfl⟩:=rx;exact SeqAt.EqAt.bool_str a b t
  | _=>exact absurd (show false=true from fx) Bool.false_ne_true
 | int a =>
  obtain⟨t',rfl⟩:=ry
  cases x with
  | non=>cases rx;exact SeqAt.EqAt.int_none a t'
  | bl b=>cases rx;exact SeqAt.EqAt.int_bool a t' b
  | int b=>obtain⟨t,rfl⟩:=rx;exact SeqAt.EqAt.int_int a t' b t
  | str b=>obtain⟨t,rfl⟩:=rx;exact SeqAt.EqAt.int_str a t' b t
  | _=>exact absurd (show false=true from fx) Bool.false_ne_true
 | str a =>
  obtain⟨t',rfl⟩:=ry
  cases x with
  | non=>cases rx;exact SeqAt.EqAt.str_none a t'
  | bl b=>cases rx;exact SeqAt.EqAt.str_bool a t' b
  | int b=>obtain⟨t,rfl⟩:=rx;exact SeqAt.EqAt.str_int a t' b t
  | str b=>obtain⟨t,rfl⟩:=rx;exact SeqAt.EqAt.str_str a t' b t
  | _=>exact absurd (show false=true from fx) Bool.false_ne_true
 | _=>exact absurd (show false=true from fy) Bool.false_ne_true
theorem a0X:D8 X (.builtin "len") (fun xs H Q=>∃p ys,xs=[.ref p]∧(SqL X.K H p ys∨SqT X.K H p ys)∧Q (.int ys.length) H):=by
 intro pins s σ H xs us Q I r h
 obtain⟨p,ys,rfl,hq,q⟩:=h
 obtain⟨u,rfl,rx⟩:=a5z r
 cases rx
 have hn:=a0T
 rcases hq with hq | hq
 ·obtain⟨its,r',pl,hz⟩:=I.list hq
  have hlen:=r'.length
  exact Calls.call_len_list pl.isList (by simp only[List.size_toArray]<;>omega) ⟨.int ys.length,H,I.tok _,⟨s.toks+1,by rw[List.size_toArray,hlen]⟩,q⟩
 ·obtain⟨its,r',pl,hz⟩:=I.tuple hq
  have hlen:=r'.length
  exact len_tuple pl (by simp only[List.size_toArray]<;>omega) ⟨.int ys.length,H,I.tok _,⟨s.toks+1,by rw[List.size_toArray,hlen]⟩,q⟩
theorem a0Y:D8 X (.type "list") (fun xs H Q=>∃p ys,xs=[.ref p]∧(SqL X.K H p ys∨SqT X.K H p ys)∧∀l,H l=none→Q (.ref l) (upd H l (.lst ys))):=by
 intro pins s σ H xs us Q I r h
 obtain⟨p,ys,rfl,hq,q⟩:=h
 obtain⟨u,rfl,rx⟩:=a5z r
 cases rx
 have fin:∀(its:List Value),Vals ys its→ys.length≤sizeLine→∀(h':Heap) (c':Nat),(∀b o',s.heap.get? b=some o'→h'.get? b=some o') →
   h'.get? s.heap.objs.size=some { cls:=.type "list",dict:=none,data:=.seq its.toArray c',slots := #[] }→EP X pins σ Q (.ref s.heap.objs.size) { s with heap:=h' }:=fun its r' hz h' c' kp e =>
  ⟨.ref s.heap.objs.size,_,I.laid (t':=s.toks) kp (Nat.le_refl _) (show ObjOk X.prog X.w _ h' _ (.lst ys)from⟨hz,its,c',r',e⟩),rfl,q _ (I.hok.fresh (Nat.le_refl _))⟩
 rcases hq with hq | hq
 ·obtain⟨its,r',pl,hz⟩:=I.list hq
  have hlen:=r'.length
  obtain⟨o,ho,hc,n,hd⟩:=pl.isList
  exact call_list_seq p (.inl rfl) ho hc hd (fun h' c' kp e=>fin its r' hz h' c' kp e) (by simp only[List.size_toArray]<;>omega)
 ·obtain⟨its,r',pl,hz⟩:=I.tuple hq
  have hlen:=r'.length
  obtain⟨o,ho,hc,n,hd⟩:=pl
  exact call_list_seq p (.inr rfl) ho hc hd (fun h' c' kp e=>fin its r' hz h' c' kp e) (by simp only[List.size_toArray]<;>omega)
def tyV(K:W.Frag)(T:String)(x:V)(H:Hp):Prop:=match x with
 | .str _=>T = "str"
 | .int _=>T = "int"
 | .ref p=>(T = "list"∧∃xs,SqL K H p xs)∨(T = "tuple"∧∃o,K.lookup p=some o∧o.cls=.type "tuple"∧o.dict=none) ∨
   (T = "dict"∧((∃kvs,H p=some (.dK kvs))∨∃kvs,H p=some (.dT kvs)))∨(T = "set"∧∃S n,H p=some (.set S n))
 | _=>False
theorem a7E{pins:List (Addr×Obj)}{σ:St}{H:Hp}{s:Shared}{T:String}{x:V}{v:Value}(I:Inv X pins σ H s)(r:RelV x v)(ty:tyV X.K T x H) :
  s.TypeIs v T∧∀a,v=.ref a→∃ob,s.heap.get? a=some ob∧ob.dict=none:=by
 cases x with
 | str z =>
  obtain⟨t,rfl⟩:=r
  cases (show T = "str" from ty)
  exact⟨typeIs_str s z t,fun _ e=>nomatch e⟩
 | int i =>
  obtain⟨t,rfl⟩:=r
  cases (show T = "int" from ty)
  exact⟨typeIs_int s i t,fun _ e=>nomatch e⟩
 | ref p =>
  cases r
  rcases ty with⟨rfl,xs,hq⟩ | ⟨rfl,o,hk,hc,hd⟩ | ⟨rfl,hk⟩ | ⟨rfl,S,n,hk⟩
  ·obtain⟨its,_,pl,_⟩:=I.list hq
   refine⟨pl.isList.typeIs,fun a e=>?_⟩
   cases e
   obtain⟨o,n,e,c,hd,_⟩:=pl
   exact⟨o,e,hd⟩
  ·refine⟨⟨o,I.kIn p o hk,hc⟩,fun a e=>?_⟩
   cases e
   exact⟨o,I.kIn _ o hk,hd⟩
  ·have z:∃o,s.heap.get? p=some o∧o.ExactDict:=by
    rcases hk with⟨kvs,hk⟩ | ⟨kvs,hk⟩
    ·obtain⟨_,_,_,_,o,_,_,e,ex,_⟩:=I.hok p _ hk
     exact⟨o,e,ex⟩
    ·obtain⟨_,_,_,_,o,_,_,e,ex,_⟩:=I.hok p _ hk
     exact⟨o,e,ex⟩
   obtain⟨o,e,ex⟩:=z
   refine⟨⟨o,e,ex.1⟩,fun a e2=>?_⟩
   cases e2
   exact⟨o,e,ex.2.1⟩
  ·obtain⟨o,_,_,_,e,ex,_⟩:=I.hok p _ hk
   refine⟨⟨o,e,ex.1⟩,fun a e2=>?_⟩
   cases e2
   exact⟨o,e,ex.2.1⟩
 | _=>exact False.elim ty
def tBM(K:W.Frag)(T:String)(r:V→List V→Hp→VK→Prop)(to:TE)(t:TA):TE:=fun σ H Q=>to σ H fun x H1=>tyV K T x H1∧t σ H1 fun xs H2=>r x xs H2 Q
variable {o e:Expr}{es:List Expr}{to:TE}{t:TA}{name:Str}{apos cpos:Pos}{T id:String}{r:V→List V→Hp→VK→Prop}
theorem a8O(pa:PlainAttrs T)(slot:Slot T name id)(hty:typeOf (.builtin id)=pure (.type "method_descriptor"))(hm:MtR X id r)(ho:PE X o to)(ha:PA X (e::es) t)
  (hbase:attributeBase o name X.env (eval o X.env)=eval o X.env:=by rfl)
  (hfew:((backTo cpos (starEach (e::es) X.env)).all (fun x=>!x.1) && (backToKw cpos (keywordEach [] X.env)).all (fun x=>x.1.isSome)
   && decide ((e::es).length+([]:List Keyword).length+(if([]:List Keyword).isEmpty then 0 else 1)<30))=true:=by rfl)
  (hline:(apos.endLine == cpos.line)=true:=by rfl) (hs:starEach (e::es) X.env=(false,eval e X.env)::starEach es X.env:=by rfl) (hplain:(backTo cpos (starEach es X.env)).any (·.1)=false:=by rfl) :
  PE X (.Call (.Attribute o name apos) (e::es) [] cpos) (tBM X.K T r to t):=by
 intro pins s σ H Q I h
 refine wpAny_Call_method_late hbase hfew hline rfl (c5 (ho pins s σ H _ I h) fun v s1 ⟨x,H1,I1,r1,ty,q1⟩=>?_)
 obtain⟨h1,h2⟩:=a7E I1 r1 ty
 refine⟨T,id,pa,slot,hty,h1,h2,?_⟩
 have hA:=ha cpos pins s1 σ H1 _ I1 q1
 rw[hs]at hA ⊢
 refine Calls.callWith_builtin (by show(false || (backTo cpos (starEach es X.env)).any (·.1))=false;rw[hplain]<;>rfl) (Calls.evalArgs_plain ?_)
 exact c5 hA fun us s2 ⟨vs,H2,I2,r2,q2⟩=>hm pins s2 σ H2 x vs v us Q I2 r1 r2 q2
end
def MtM(X:Cx)(id:String)(r:V→List V→Hp→VK→Prop):Prop :=
 ∀(pins:List (Addr×Obj)) (s:Shared) (σ:St) (H:Hp) (x:V) (xs:List V) (v:Value) (us:List Value) (Q:VK),Inv X pins σ H s→RelV x v→Vals xs us→r x xs H Q →
  wpAny (model X.prog X.w) X.A (call (.builtin id) (v::us)) (EP X pins σ Q) X.xe s
theorem Vals.one:∀{x:V} {us:List Value},Vals [x] us→∃u,us=[u]∧RelV x u
 | _,_,.cons r .nil=>⟨_,rfl,r⟩
theorem Vals.two:∀{x y:V} {us:List Value},Vals [x,y] us→∃u v,us=[u,v]∧RelV x u∧RelV y v
 | _,_,_,.cons r (.cons q .nil)=>⟨_,_,rfl,r,q⟩
theorem Vals.zero:∀{us:List Value},Vals [] us→us=[]
 | _,.nil=>rfl
theorem Vals.eraseIdx:∀{xs:List V} {us:List Value} (i:Nat),Vals xs us→Vals (xs.eraseIdx i) (us.eraseIdx i)
 | _,_,_,.nil=>.nil
 | _,_,0,.cons _ t=>t
 | _,_,i+1,.cons r t=>.cons r (Vals.eraseIdx i t)
theorem Vals.reverse{xs:List V}{us:List Value}(h:Vals xs us):Vals xs.reverse us.reverse:=by
 induction h with
 | nil=>exact .nil
 | cons r t ih=>rw[List.reverse_cons,List.reverse_cons];exact Vals.append ih (.cons r .nil)
section
variable {X:Cx}{pins:List (Addr×Obj)}{σ:St}{H:Hp}{s:Shared}{l b:Addr}{xs ys zs:List V}
theorem Inv.lset{its its':List Value}{n:Nat}{f:Array Value→Array Value}{t':Nat}(I:Inv X pins σ H s)(hH:H l=some (.lst xs))
  (e:s.heap.get? l=some { cls:=.type "list",data:=.seq its.toArray n }) (hf:f its.toArray=its'.toArray) (hv:Vals ys its') (hz:ys.length≤sizeLine) :
  Inv X pins σ (upd H l (.lst ys)) { s with heap:=s.heap.update l (Obj.mapSeq f),toks:=t' }:=by
 have q:=PySem.IsL.update e f
 rw[hf]at q
 refine I.write (x:=l) (e:=l) (by rw[hH];exact trivial) (.inl rfl) (fun b' u hb hu=>(Heap.get?_update_other s.heap (Obj.mapSeq f) (Ne.symm hb)).trans hu) ⟨_,q⟩ ?_
 exact⟨hz,its',_,hv,q⟩
theorem Inv.lnew{its:List Value}{t':Nat}(I:Inv X pins σ H s)(hv:Vals ys its)(hz:ys.length≤sizeLine) :
  Inv X pins σ (upd H s.heap.objs.size (.lst ys)) { s with heap:=s.heap.push { cls:=.type "list",data:=.seq its.toArray },toks:=t' } :=
 I.laid (fun _ _ q=>Heap.get?_push_of_some _ q) (Nat.le_refl _) ⟨hz,its,0,hv,Heap.get?_push_size _ rfl⟩
theorem Inv.fresh(I:Inv X pins σ H s):H s.heap.objs.size=none:=I.hok.fresh (Nat.le_refl _)
theorem Inv.lstM(I:Inv X pins σ H s)(hH:H l=some (.lst xs)):xs.length≤sizeLine∧∃(its:List Value) (n:Nat),Vals xs its∧xs.length=its.length∧s.heap.get? l=some { cls:=.type "list",data:=.seq its.toArray n }:=by
 obtain⟨z,its,n,r,e⟩:=I.hok l _ hH
 exact⟨z,its,n,r,r.length,e⟩
theorem a4p{n:Nat}(h:n≤sizeLine):Builtin.List.listTooLong n=false:=by
 unfold Builtin.List.listTooLong
 exact decide_eq_false (by omega)
end
section
variable {X:Cx}
def a1Y:V→List V→Hp→VK→Prop:=fun x vs H Q=>∃l xs y,x=.ref l∧vs=[y]∧H l=some (.lst xs)∧xs.length<sizeLine∧Q .non (upd H l (.lst (xs++[y])))
theorem P3:MtM X "list.append" a1Y:=by
 intro pins s σ H x vs v us Q I rx rv h
 obtain⟨l,xs,y,rfl,rfl,hH,hz,q⟩:=h
 cases rx
 obtain⟨u,rfl,ru⟩:=rv.one
 obtain⟨z,its,n,r,hl,e⟩:=I.lstM hH
 refine call_meets F.slot_list_append ⟨_,e,rfl⟩ F.entry_list_append (F.args_list_append_2 _ _) (PySem.list_append l its.toArray n u (by rw[List.size_toArray];omega)) ⟨e,?_⟩
 refine⟨.non,_,I.lset (its':=its++[u]) hH e (by simp) (r.append (.cons ru .nil)) ?_,rfl,q⟩
 rw[List.length_append,List.length_singleton]
 omega
def a1Z:V→List V→Hp→VK→Prop:=fun x vs H Q=>∃l b xs zs,x=.ref l∧vs=[.ref b]∧H l=some (.lst xs)∧H b=some (.lst zs)∧xs.length+zs.length≤sizeLine∧Q .non (upd H l (.lst (xs++zs)))
theorem P4:MtM X "list.extend" a1Z:=by
 intro pins s σ H x vs v us Q I rx rv h
 obtain⟨l,b,xs,zs,rfl,rfl,hH,hB,hz,q⟩:=h
 cases rx
 obtain⟨u,rfl,ru⟩:=rv.one
 cases ru
 obtain⟨z,its,n,r,hl,e⟩:=I.lstM hH
 obtain⟨z2,its2,n2,r2,hl2,e2⟩:=I.lstM hB
 have hsz:its.toArray.size+its2.toArray.size≤sizeLine:=by rw[List.size_toArray,List.size_toArray];omega
 have hlong:¬(!its.toArray.isEmpty && Builtin.List.listTooLong (its.toArray.size+its2.toArray.size))=true:=by
  rw[a4p hsz,Bool.and_false]
  exact Bool.false_ne_true
 refine call_meets F.slot_list_extend ⟨_,e,rfl⟩ F.entry_list_extend (F.args_list_extend_2 _ _)
  (AutoSeq1.list_extend_list_list_0 l its.toArray n b its2.toArray n2 hlong (by rw[List.size_toArray];omega) (by omega)) ⟨e,e2,?_⟩
 refine⟨.non,_,I.lset (its':=its++its2) hH e (by simp) (r.append r2) ?_,rfl,q⟩
 rw[List.length_append]
 omega
end
end L2
namespace Att
open PySem PySem.W PySem.Calls PyProof.Rows
theorem W0{P:Params}{h:Heap}:∀(ns:List Int) (vs:List Value),WellAll P h vs (ns.map WData.int)→IntsAre vs ns:=by
 intro ns
 induction ns with
 | nil =>
  intro vs w
  rw[List.map_nil]at w
  cases w
  exact .nil
 | cons n ns ih =>
  intro vs w
  rw[List.map_cons]at w
  cases w with
  | cons a b =>
   cases a
   exact .cons _ _ (ih _ b)
theorem script_of{l:OpenLaw}{n:Nat}(hn:l.most=some n){P:Params}{h:Heap}{args:List WData}{vals:List Value}
  (hpre:l.row.toRowW.claim.pre args=true) (hwl:WellAll P h vals args) :
  ∃a vs ns,vals=[Value.ref a]∧args=[WData.list (ns.map WData.int)]∧h.get? a=some { cls:=.type "list",data:=.seq vs.toArray }∧IntsAre vs ns∧ns.length≤n:=by
 have hsh:WShape.hasAll [] args [.list .int]=true:=(pre_splitW hpre).1
 have hc:l.pre.holds [] { args:=args }=true:=(pre_splitW hpre).2
 obtain⟨d,r,rfl,h1,h2⟩:=hasAllW_cons hsh
 obtain rfl:=hasAllW_nil h2
 obtain⟨xs,rfl,h3⟩:=hasW_list h1
 obtain⟨ns,rfl⟩:=items_int h3
 have hlen:ns.length≤n:=by
  unfold OpenLaw.pre at hc
  have h4:(WTm.not (.lt (.lit (.int (n:Int))) (.len (.arg 0)))).holds [] { args:=[.list (ns.map .int)] }=true:=by
   have h4:=(holds_andW hc).1
   rw[hn]at h4
   exact h4
  have h5:=condW_of h4 (w_not (w_lt w_lit (w_len_list (w_arg rfl))))
  rw[List.length_map]at h5
  refine Nat.le_of_not_lt fun q=>?_
  have q':(n:Int)<((ns.length:Nat):Int):=by omega
  first
   | (rw[decide_eq_true q']at h5;exact absurd h5 (by decide))
   | (simp at h5;omega)
 cases hwl with
 | cons w1 w2 =>
  cases w2
  cases w1 with
  | list ho hall=>exact⟨_,_,ns,rfl,rfl,ho,W0 ns _ hall,hlen⟩
theorem post_true(l:OpenLaw)(args:List WData):l.row.toRowW.claim.post args (.bool true) args=true :=
 postW_of (r:=l.row.toRowW) (X:=(true == true))
  (show WShape.has [] (.bool true) .bool=true by first | rfl | decide | simp[WShape.has,WShape.arms,WShape.armsAll])
  (show(WTm.eq .res (.lit (.bool true))).value [] { args:=args,res:=some (.bool true),after:=args }=some (.bool (true == true))from w_eq_bool (w_res rfl) w_lit) rfl
end Att
namespace L2
open PySem PySem.Spec PyProof.Rows
theorem a0o:∀{vs:List Value} {ns:List Int},IntsAre vs ns→Vals (ns.map V.int) vs
 | _,_,.nil=>.nil
 | _,_,.cons n t h=>.cons ⟨t,rfl⟩ (a0o h)
def a2B(H:Hp):Prop:=∀b,H b=none∨∃o xs,H b=some (.frz o (.lst xs))
theorem a4q{P:Program}{w:World}{K:W.Frag}{mg mb:Str→Option Value}{CX:K2}{k:Nat}{fa a:Addr}{fd:FuncData}{x:Str}{sp:Sp}{s₁:Shared}{vs:List Value}{ns:List Int}
  (KX:K.In s₁.heap) (hns:s₁.heap.Ns mainGlobals mg) (hb:s₁.heap.Ns builtinsNs mb) (hbb:∀x:Str,x≠"__name__"→mb x=bootBuiltins x) (hlim:s₁.heap.NoLimit) (hg:s₁.gens = #[])
  (ha:s₁.heap.get? a=some { cls:=.type "list",data:=.seq vs.toArray }) (hi:IntsAre vs ns) (hl:ns.length≤sizeLine) (hr:Room k callerA)
  (F:∀base:Heap,K.In base→base.Ns mainGlobals mg→FnOk P w K mg base CX k fa fd [x] sp) (hbind:∀(s:Shared) (u:Value),BindsTo s fd ⟨[u],[]⟩ [(x,u)])
  (hsp:∀H:Hp,a2B H→SqL K H a (ns.map V.int)→sp [.ref a] H (fun v _=>v=.bl true) fun _ _ _=>False)
  (hCX:∀H e s',CX [] H s₁ (fun _ _ _=>False) e s'→False) :
  codeAny (model P w) callerA (.call (.ref fa) ⟨[.ref a],[]⟩) (fun r s'=>r=.ok (.ret (.bool true))∧OldK s₁.heap s'.heap∧s'.os=s₁.os∧AllBare s'.gens) s₁:=by
 have rv:=a0o hi
 have lenV:=hi.length
 -- from an abstract heap in which nothing but the script may be tracked
 have core:∀H:Hp,a2B H→SqL K H a (ns.map V.int)→HOk P w H s₁.heap→(∀b,H b≠none→b=a)→(H a≠none→K.lookup a=none) →
   codeAny (model P w) callerA (.call (.ref fa) ⟨[.ref a],[]⟩) (fun r s'=>r=.ok (.ret (.bool true))∧OldK s₁.heap s'.heap∧s'.os=s₁.os∧AllBare s'.gens) s₁:=by
  intro H hO hS hok hA hK
  have base_of:∀{b:Addr} {o:Obj},s₁.heap.get? b=some o→H b=none→(L3 s₁.heap H).get? b=some o:=fun e n=>a4f e n
  have noA:∀{b:Addr} {o:Obj} {es:Array DictEntry} {ep:Nat},s₁.heap.get? b=some o→o.data=.dict es ep→H b=none:=fun{b o es ep} e d=>by
   cases q:H b with
   | none=>rfl
   | some u =>
    have e':b=a:=hA b (by rw[q];simp)
    subst e'
    rw[ha]at e;cases e
    have d':Data.seq vs.toArray _=Data.dict es ep:=d
    cases d'
  have nsK:∀{b:Addr} {m:Str→Option Value},s₁.heap.Ns b m→(L3 s₁.heap H).Ns b m:=fun{b m} ⟨o,es,ep,e,d,r⟩=>⟨o,es,ep,base_of e (noA e d),d,r⟩
  have hKb:K.In (L3 s₁.heap H):=fun b o e=>base_of (KX b o e) (by
   cases q:H b with
   | none=>rfl
   | some u =>
    have e':b=a:=hA b (by rw[q];simp)
    subst e'
    rw[hK (by rw[q];simp)]at e;cases e)
  have hM:Mod K mg (L3 s₁.heap H):=⟨hKb,nsK hns,⟨mb,nsK hb,hbb⟩,let ⟨mc,h1,h2⟩:=hlim; ⟨mc,nsK h1,h2⟩⟩
  have e0:Env0 P w K mg (L3 s₁.heap H) callerA [] s₁ H:=⟨rfl,hM,fun b o e=>a5U e,Nat.le_of_eq (a3d _ _),trivial,fun b hb=>absurd (show b∈([]:List Addr)from hb) (by simp),hok,.of_eq hg⟩
  refine codeAny_mono ((F _ hKb (nsK hns)).run callerA [] s₁ H ⟨[.ref a],[]⟩ [.ref a] [.ref a] _ _ hr e0 (hbind s₁ (.ref a)) (.cons rfl .nil) (hsp H hO hS)) fun r s' h=>?_
  cases r with
  | error e=>exact(hCX H e s' h).elim
  | ok fl =>
   cases fl with
   | next=>exact False.elim h
   | brk=>exact False.elim h
   | cont=>exact False.elim h
   | ret u =>
    obtain⟨v,H',os,bare,un,hok',r',q⟩:=h
    have q':v=.bl true:=q
    subst q'
    obtain rfl:u=Value.bool true:=r'
    refine⟨rfl,OldK.of_keep fun b o e=>?_,os,bare⟩
    cases q:H b with
    | none=>exact un.keep b o e q (by intro z;exact absurd (show b∈([]:List Addr)from z) (by simp)) (by simp)
    | some u =>
     rcases hO b with z | ⟨ob,xs,z⟩
     ·rw[q]at z;cases z
     ·have z2:=un.frzs b ob _ z
      obtain⟨e1,_⟩:=hok b _ z
      obtain⟨e2,_⟩:=hok' b _ z2
      rw[e]at e1;cases e1
      exact e2
 cases hk:K.lookup a with
 | some o =>
  -- the script is one of the module's own objects
  have e:=KX a o hk
  rw[ha]at e
  cases e
  refine core (fun _=>none) (fun _=>.inl rfl) (.inr ⟨_,vs.toArray,_,hk,rfl,rfl,rfl,by rw[List.size_toArray,lenV];exact hl,by simpa using rv⟩) (fun b u z=>by have z':(none:Option HO)=some u:=z;cases z') (fun b z=>absurd rfl z) fun z=>absurd rfl z
 | none =>
  refine core (fun b=>if b=a then some (.frz { cls:=.type "list",data:=.seq vs.toArray } (.lst (ns.map V.int)))else none) (fun b=>?_) (.inl (.inr ⟨{ cls:=.type "list",data:=.seq vs.toArray },if_pos rfl⟩)) (fun b u z=>?_) (fun b z=>?_) fun _=>hk
  ·by_cases hb:b=a
   ·exact .inr ⟨_,_,if_pos hb⟩
   ·exact .inl (if_neg hb)
  ·by_cases hb:b=a
   ·have z':=(if_pos hb).symm.trans z
    cases z'
    subst hb
    exact⟨ha,by rw[List.length_map];exact hl,vs,_,rv,ha⟩
   ·have z':=(if_neg hb).symm.trans z
    cases z'
  ·by_cases hb:b=a
   ·exact hb
   ·exact absurd (if_neg hb) z
def i9(s:Stmt):Arguments:=match s with
 | .FunctionDef _ a _ _ _ _ _ _ _ _=>a
 | _=>{ posonlyargs:=[],args:=[],vararg:=none,kwonlyargs:=[],kw_defaults:=[],kwarg:=none,defaults:=[] }
def g6(s:Stmt):List Stmt:=match s with
 | .FunctionDef _ _ b _ _ _ _ _ _ _=>b
 | _=>[]
def a6(s:Stmt):Scope:=match s with
 | .FunctionDef _ _ _ _ _ _ sc _ _ _=>sc
 | _=>{ kind:=.function,names:=[],isGenerator:=false,isCoroutine:=false }
abbrev CX0:K2:=fun _ _ _ _ _ _=>False
abbrev E0:XK:=fun _ _ _=>False
structure Fun(K:W.Frag)(x qual:Str)(st:Stmt)(f:Addr)(fd:FuncData):Prop where
 ex:∃(oc:Value) (od:Option Addr) (kV doc pm:Value) (an:Option Addr) (cdv ct:Value) (osl:Array (Option Value)),
  fd=W.fnOf x qual (i9 st) (g6 st) (a6 st) .none kV doc pm an cdv ct∧K.lookup f=some ⟨oc,od,.func fd,osl⟩∧W.codeIn K cdv qual=true
 kp:W.keepIn K (.ref f)=true
section
variable {P:Program}{w:World}{K:W.Frag}{mg:Str→Option Value}{base:Heap}
theorem Fun.ok{x qual:Str}{st:Stmt}{f:Addr}{fd:FuncData}{N ps:List Str}{k:Nat}{sp:Sp}(F:Fun K x qual st f fd)(S:FnScope N ps (a6 st))(len:∀vs H Q E,sp vs H Q E→vs.length=ps.length)
  (hbody:∀(cdv:Value) (A:Around) (outer:List Env) (s:Shared) (H:Hp) (vs:List V) (Q:VK) (E:XK),Room k (A.deeper (envOfC qual (a6 st) s.heap.objs.size f cdv))→sp vs H Q E →
   ∃t,PSs (C2 CX0 P w K mg base N qual (a6 st) f cdv A outer s H E).nox (g6 st) t∧t { nx:=fun _ H'=>Q .non H',rt:=Q } (start N vs) H):FnOk P w K mg base CX0 (k+1) f fd ps sp:=by
 obtain⟨oc,od,kV,doc,pm,an,cdv,ct,osl,rfl,lk,hcd⟩:=F.ex
 refine a2A lk hcd S len fun A outer s H vs Q E hr hsp=>?_
 obtain⟨t,h,q⟩:=hbody cdv A outer s H vs Q E hr hsp
 exact⟨t,h.nox,q⟩
theorem Fun.binds{x qual:Str}{st:Stmt}{f:Addr}{fd:FuncData}{ps:List Str}(F:Fun K x qual st f fd)
  (h:∀(kV doc pm:Value) (an:Option Addr) (cdv ct:Value) (us:List Value),us.length=ps.length→bindArgs (W.fnOf x qual (i9 st) (g6 st) (a6 st) .none kV doc pm an cdv ct) ⟨us,[]⟩=pure (ps.zip us)):Binds K fd ps []:=by
 obtain⟨oc,od,kV,doc,pm,an,cdv,ct,osl,rfl,lk,hcd⟩:=F.ex
 exact .all (h kV doc pm an cdv ct)
theorem x9{x qual:Str}{st:Stmt}{f:Addr}{oc:Value}{od an:Option Addr}{osl:Array (Option Value)}{kV doc pm cdv ct:Value}(l:K.lookup f=some ⟨oc,od,.func (W.fnOf x qual (i9 st) (g6 st) (a6 st) .none kV doc pm an cdv ct),osl⟩)
  (c:W.codeIn K cdv qual=true) (k:W.keepIn K (.ref f)=true):Fun K x qual st f (W.fnOf x qual (i9 st) (g6 st) (a6 st) .none kV doc pm an cdv ct):=⟨⟨oc,od,kV,doc,pm,an,cdv,ct,osl,rfl,l,c⟩,k⟩
end
section
variable {X:Cx}
theorem pv(i:Nat){x:Str}{pos:Pos}(hN:X.N[i]? = some x:=by rfl)(hv:Vis X.env.scope x:=by first | exact Or.inl rfl | exact Or.inr (Or.inl rfl) | exact Or.inr (Or.inr rfl))(hd:(x == ("__debug__" : Str))=false:=by decide)
  (hcd:(x == ("__classdict__" : Str))=false:=by decide):PE X (.Name x pos) (u7 i):=a7l hN hv hd hcd
end
def Same(H H':Hp):Prop:=∀b o,H b=some o→H' b=some o
theorem Same.refl(H:Hp):Same H H:=fun _ _ h=>h
theorem Same.trans{H H1 H2:Hp}(a:Same H H1)(b:Same H1 H2):Same H H2:=fun c o h=>b c o (a c o h)
theorem Same.free{H H':Hp}(e:Same H H'){l:Addr}(h:H' l=Option.none):H l=Option.none:=by
 cases q:H l with
 | none=>rfl
 | some o =>
  rw[e l o q]at h
  cases h
theorem Same.seq{K:W.Frag}{H H':Hp}{a:Addr}{xs:List V}(e:Same H H')(h:SqL K H a xs):SqL K H' a xs:=by
 rcases h with(h | ⟨o,h⟩) | h
 ·exact .inl (.inl (e _ _ h))
 ·exact .inl (.inr ⟨o,e _ _ h⟩)
 ·exact .inr h
end L2
set_option maxHeartbeats 4000000
namespace L2
open PySem PySem.Spec PyProof.Rows
theorem ObjOk.there{P:Program}{w:World}{H:Hp}{h:Heap}{a:Addr}{o:HO}(x:ObjOk P w H h a o):∃ob,h.get? a=some ob:=by
 cases o with
 | lst xs=>obtain⟨_,_,_,_,e⟩:=x;exact⟨_,e⟩
 | tup xs=>obtain⟨_,_,_,p⟩:=x;obtain⟨o,e,_⟩:=p;exact⟨_,e⟩
 | dK kvs=>obtain⟨_,_,_,_,o,_,_,e,_⟩:=x;exact⟨_,e⟩
 | dT kvs=>obtain⟨_,_,_,_,o,_,_,e,_⟩:=x;exact⟨_,e⟩
 | set S n=>obtain⟨o,_,_,_,e,_⟩:=x;exact⟨_,e⟩
 | ins C dx fs=>obtain⟨_,_,_,e,_⟩:=x;exact⟨_,e⟩
 | own y=>obtain⟨_,e⟩:=x;exact⟨_,e⟩
 | xd fs=>obtain⟨_,⟨_,_,_,e,_⟩,_⟩:=x;exact⟨_,e⟩
 | rng lo hi=>obtain⟨_,_,_,e⟩:=x;exact⟨_,e⟩
 | frz ob u=>obtain⟨e,_⟩:=x;exact⟨_,e⟩
 | tbl ps=>obtain⟨_,e,_⟩:=x;exact⟨_,e⟩
 | met f y=>exact⟨_,(show h.get? a=some _ from x)⟩
 | ext φ=>obtain⟨_,⟨_,e⟩,_⟩:=x;exact⟨_,e⟩
def Imp(X:Cx)(pins:List (Addr×Obj))(H:Hp)(b:Addr):Prop:=H b≠none∨(b ∉ X.ex∧∃o,X.s₀.heap.get? b=some o)∨∃p∈X.pn++pins,p.1=b
def T6:Option Addr→Value
 | none=>.none
 | some a=>.ref a
def W1(h B:Heap)(e:Addr)(cls:Value)(cx:Option Addr)(fl:Value):Prop :=
 ∃oe vs T oT ts,(h.get? e=some oe∧oe.cls=cls∧oe.data=.fields vs)∧(vs[1]? = some (.ref T)∧vs[2]? = some (T6 cx))∧(B.get? T=none∧T≠e)∧h.get? T=some oT∧oT.data=.fields ts∧ts[3]? = some fl
theorem F5(T:Addr):(Value.ref T != Value.none)=true:=by simp
inductive Ph where | new | fly | any
def XTr(B h:Heap)(a:Addr)(cls:Value)(cx:Option Addr):Ph→Prop
 | .new=>∃oe vs,h.get? a=some oe∧oe.cls=cls∧oe.data=.fields vs∧vs[1]? = some .none∧vs[2]? = some (T6 cx)
 | .fly=>W1 h B a cls cx .none
 | .any=>∃fl,W1 h B a cls cx fl
theorem XTr.there{B h:Heap}{a:Addr}{cls:Value}{cx:Option Addr}{ph:Ph}(x:XTr B h a cls cx ph):∃oe vs,h.get? a=some oe∧oe.cls=cls∧oe.data=.fields vs∧vs[2]? = some (T6 cx):=by
 cases ph with
 | new=>obtain⟨oe,vs,h1,h2,h3,_,h4⟩:=x;exact⟨oe,vs,h1,h2,h3,h4⟩
 | fly=>obtain⟨oe,vs,_,_,_,⟨h1,h2,h3⟩,⟨_,h4⟩,_⟩:=x;exact⟨oe,vs,h1,h2,h3,h4⟩
 | any=>obtain⟨_,oe,vs,_,_,_,⟨h1,h2,h3⟩,⟨_,h4⟩,_⟩:=x;exact⟨oe,vs,h1,h2,h3,h4⟩
section
variable {M:Model}{A:Around}{E:Value→Shared→Prop}{s:Shared}
def W2(B:Heap)(l:List Env)(e:Addr)(cls:Value)(cx:Option Addr)(fl:Value)(h h':Heap):Prop:=B.StaysIn h'∧h'.FunFrames B l∧W1 h' B e cls cx fl∧h.UpToSlots h'
theorem a10{B:Heap}{env:Env}{outer:List Env}{L e:Addr}{oe:Obj}{vs:Array Value}{head:Value}{cx:Option Addr}{nx:Bool}{Q:Unit→Shared→Prop}(fr:A.frames=some (env::outer))(ff:s.heap.FunFrames B (env::outer))(hf:env.frame=some L)
  (ge:s.heap.get? e=some oe) (st:B.StaysIn s.heap) (be:B.get? e=none) (de:oe.data=.fields vs) (z1:1<vs.size) (z2:vs[2]? = some (T6 cx)) (q:∀h',W2 B (env::outer) e oe.cls cx (rawInt L) s.heap h'→Q () { s with heap:=h' }) :
  wpAny M A (do let a ← frameOf env;let pl ← entryPlaceOf L nx;let b ← EntryCells.newEntry head a .none (rawInt L) .none pl;setField (.ref e) 1 b) Q E s:=by
 have nf:∀b o,s.heap.get? b=some o→(∀ws,o.data≠.fields ws)→b≠e:=fun b o gb nb zb=>by subst zb;rw[ge]at gb;cases gb;exact nb vs de
 have out:e ∉ (env::outer).filterMap (·.frame):=fun m=>by obtain⟨_,o,go,no⟩:=ff.mem m;exact nf e o go no rfl
 refine wpAny_bind (wpAny_frameOf_fun fr ff hf fun h1 only=>wpAny_bind (wpAny_entryPlaceOf fun pl place=>?_))
 unfold EntryCells.newEntry newFields
 refine wpAny_bind (wpAny_newObj_type ?_ (place.sizeOk5 _ _ _ _ _))
 have ge1:h1.get? e=some oe:=(only.2.1 e out).trans ge
 have st1:B.StaysIn h1:=fun b o gb=>(only.2.1 b fun m=>by have:=(ff.mem m).1;rw[this]at gb;cases gb).trans (st b o gb)
 have ne1:h1.objs.size≠e:=fun z=>absurd (Heap.lt_size ge1) (by rw[z];exact Nat.lt_irrefl _)
 refine wpAny_setField (Heap.get?_push_of_some _ ge1) de z1 (q _ ?_)
 have far:∀{ob:Obj} {g:Obj→Obj} {b:Addr} {o:Obj},b≠e→h1.get? b=some o→((h1.push ob).update e g).get? b=some o:=fun ne gb=>(Heap.get?_update_other _ _ (Ne.symm ne)).trans (Heap.get?_push_of_some _ gb)
 refine⟨fun b o gb=>far (fun z=>by rw[z,be]at gb;cases gb) (st1 b o gb),ff.of_keeps fun b o gb nb=>?_,?_,fun b o gb nb=>?_⟩
 ·obtain⟨sl,g⟩:=only.2.2 b o gb;exact⟨_,far (nf b o gb nb) g,rfl⟩
 ·have dd:=Obj.data_mapFields de (·.setIfInBounds 1 (Value.ref h1.objs.size))
  refine⟨_,_,h1.objs.size,_,_,⟨Heap.get?_update_self _ (Heap.get?_push_of_some _ ge1) (Obj.isFreed_of_fields dd),Obj.cls_mapFields _ _,dd⟩,⟨by simp[z1],by rw[Array.getElem?_setIfInBounds_ne (by decide)];exact z2⟩,⟨st1.fresh,ne1⟩,(Heap.get?_update_other _ _ (Ne.symm ne1)).trans (Heap.get?_push_size h1 rfl),rfl,?_⟩
  first | (simp;done) | (rcases place with rfl | ⟨_,_,_,_,_,_,_,rfl⟩<;>simp)
 ·obtain⟨sl,g⟩:=only.2.2 b o gb;exact⟨sl,far (nf b o gb nb) g⟩
theorem a2C{B:Heap}{env:Env}{outer:List Env}{L e:Addr}{oe:Obj}{vs:Array Value}{cx:Option Addr}{Q:Unit→Shared→Prop}(fr:A.frames=some (env::outer))(ff:s.heap.FunFrames B (env::outer))(hf:env.frame=some L)
  (ge:s.heap.get? e=some oe) (st:B.StaysIn s.heap) (be:B.get? e=none) (de:oe.data=.fields vs) (z1:vs[1]? = some .none) (z2:vs[2]? = some (T6 cx)) (q:∀h',W2 B (env::outer) e oe.cls cx (rawInt L) s.heap h'→Q () { s with heap:=h' }):wpAny M A (noteFrame (.ref e) env) Q E s:=by
 unfold noteFrame
 simp only[hf]
 refine wpAny_bind (wpAny_field ge de z1 ?_)
 rw[if_neg (by decide)]
 exact a10 fr ff hf ge st be de (Array.getElem?_eq_some_iff.mp z1).1 z2 q
theorem a56{B:Heap}{env:Env}{outer:List Env}{L e:Addr}{cls:Value}{cx:Option Addr}{Q:Unit→Shared→Prop}(fr:A.frames=some (env::outer))(ff:s.heap.FunFrames B (env::outer))(hf:env.frame=some L)
  {fl:Value} (t:W1 s.heap B e cls cx fl) (nl:¬(fl == rawInt L)=true) (st:B.StaysIn s.heap) (be:B.get? e=none) (q:∀h',W2 B (env::outer) e cls cx (rawInt L) s.heap h'→Q () { s with heap:=h' }):wpAny M A (noteFrame (.ref e) env) Q E s:=by
 obtain⟨oe,vs,T,oT,ts,⟨ge,rfl,de⟩,⟨z1,z2⟩,⟨bT,nT⟩,gT,dT,z3⟩:=t
 unfold noteFrame
 simp only[hf]
 refine wpAny_bind (wpAny_field ge de z1 ?_)
 rw[if_pos (F5 T)]
 refine wpAny_bind (wpAny_field gT dT z3 ?_)
 rw[if_neg nl]
 refine wpAny_bind (wpAny_setField gT dT (Array.getElem?_eq_some_iff.mp z3).1 ?_)
 have far:∀{g:Obj→Obj} b,b≠T→(s.heap.update T g).get? b=s.heap.get? b:=fun b ne=>Heap.get?_update_other _ _ (Ne.symm ne)
 have nf:∀b o,s.heap.get? b=some o→(∀ws,o.data≠.fields ws)→b≠T:=fun b o gb nb zb=>by subst zb;rw[gT]at gb;cases gb;exact nb ts dT
 refine a10 fr (ff.of_keeps fun b o gb nb=>⟨o,(far b (nf b o gb nb)).trans gb,rfl⟩) hf ((far e (Ne.symm nT)).trans ge) (fun b o gb=>(far b fun z=>by rw[z,bT]at gb;cases gb).trans (st b o gb)) be de (Array.getElem?_eq_some_iff.mp z1).1 z2 fun h' x=>q h' ⟨x.1,x.2.1,x.2.2.1,fun b o gb nb=>?_⟩
 exact x.2.2.2 b o ((far b (nf b o gb nb)).trans gb) nb
theorem a2D{B:Heap}{env:Env}{L e:Addr}{cls:Value}{cx:Option Addr}{fl:Value}{Q:Unit→Shared→Prop}(hf:env.frame=some L)(t:W1 s.heap B e cls cx fl)(el:(fl == rawInt L)=true)(q:Q () s):wpAny M A (noteFrame (.ref e) env) Q E s:=by
 obtain⟨oe,vs,T,oT,ts,⟨ge,rfl,de⟩,⟨z1,z2⟩,⟨bT,nT⟩,gT,dT,z3⟩:=t
 unfold noteFrame
 simp only[hf]
 refine wpAny_bind (wpAny_field ge de z1 ?_)
 rw[if_pos (F5 T)]
 refine wpAny_bind (wpAny_field gT dT z3 ?_)
 rw[if_pos el]
 exact wpAny_pure q
theorem a4r{B:Heap}{l:List Env}{e:Addr}{cls fl:Value}{cx fr:Option Addr}{Q:Unit→Shared→Prop}(st:B.StaysIn s.heap)(ff:s.heap.FunFrames B l)(t:W1 s.heap B e cls cx fl)
  (q:∀h',W2 B l e cls cx (fr.elim Value.none fun f=>rawInt f) s.heap h'→Q () { s with heap:=h' }):wpAny M A (setFlight (.ref e) fr) Q E s:=by
 obtain⟨oe,vs,T,oT,ts,⟨ge,rfl,de⟩,⟨z1,z2⟩,⟨bT,nT⟩,gT,dT,z3⟩:=t
 have z4:3<ts.size:=(Array.getElem?_eq_some_iff.mp z3).1
 have far:∀{g:Obj→Obj} b,b≠T→(s.heap.update T g).get? b=s.heap.get? b:=fun b ne=>Heap.get?_update_other _ _ (Ne.symm ne)
 have nf:∀b o,s.heap.get? b=some o→(∀ws,o.data≠.fields ws)→b≠T:=fun b o gb nb zb=>by subst zb;rw[gT]at gb;cases gb;exact nb ts dT
 unfold setFlight
 refine wpAny_bind (wpAny_field ge de z1 ?_)
 rw[if_pos (F5 T)]
 refine wpAny_setField gT dT z4 (q _ ⟨fun b o gb=>(far b fun z=>by rw[z,bT]at gb;cases gb).trans (st b o gb),ff.of_keeps fun b o gb nb=>⟨o,(far b (nf b o gb nb)).trans gb,rfl⟩,?_,fun b o gb nb=>⟨o.slots,(far b (nf b o gb nb)).trans gb⟩⟩)
 have dd:=Obj.data_mapFields dT (·.setIfInBounds 3 (fr.elim Value.none fun f=>rawInt f))
 exact⟨oe,vs,T,_,_,⟨(far e (Ne.symm nT)).trans ge,rfl,de⟩,⟨z1,z2⟩,⟨bT,nT⟩,Heap.get?_update_self _ gT (Obj.isFreed_of_fields dd),dd,by simp[z4]⟩
end
structure XAt(X:Cx)(pins:List (Addr×Obj))(H:Hp)(s:Shared)(a:Addr)(cls:Value)(cx:Option Addr)(B:Heap)(ph:Ph):Prop where
 free:H a=none
 stays:B.StaysIn s.heap
 fresh:B.get? a=none
 frames:s.heap.FunFrames B X.stack
 cov:∀b o,s.heap.get? b=some o→Imp X pins H b→b ∉ r6 X.stack→B.get? b=some o
 tr:XTr B s.heap a cls cx ph
section
variable {X:Cx}{pins:List (Addr×Obj)}{σ:St}{H:Hp}{s:Shared}{a:Addr}{cls:Value}{cx:Option Addr}{B h':Heap}{ph:Ph}
theorem Imp.there(I:Inv X pins σ H s){b:Addr}(i:Imp X pins H b):∃o,s.heap.get? b=some o:=by
 rcases i with i | ⟨hx,o,i⟩ | ⟨p,hp,e⟩
 ·cases q:H b with
  | none=>exact absurd q i
  | some u=>exact(I.hok b u q).there
 ·exact I.base.there b o i hx
 ·exact⟨p.2,by rw[← e];exact(I.pin p hp).1⟩
theorem Inv.exc(I:Inv X pins σ H s)(cov:∀b o,s.heap.get? b=some o→Imp X pins H b→b ∉ r6 X.stack→B.get? b=some o)(st:B.StaysIn h')(ups:s.heap.UpToSlots h') :
  Inv X pins σ H { s with heap:=h' }:=by
 have fr:∀b,b∈r6 X.stack→∀o,s.heap.get? b=some o→∃sl,h'.get? b=some { o with slots:=sl }:=fun b hb o e=>by
  obtain⟨_,o',e',d⟩:=I.stack.mem hb
  rw[e]at e';cases e'
  exact ups b o e d
 have nfr:∀b,b ∉ X.fs→b≠X.env.locals→b ∉ r6 X.stack:=fun b h1 h2 z=>(List.mem_cons.mp (I.stkSub b z)).elim h2 h1
 have neL:∀b o,X.s₀.heap.get? b=some o→b≠X.env.locals:=fun b o e=>Nat.ne_of_lt (Nat.lt_of_lt_of_le (Heap.lt_size e) I.ok.above)
 have cellK:∀c v,s.heap.IsCell c v→h'.IsCell c v:=fun c v ⟨o,ho,hd⟩=>by
  obtain⟨sl,q⟩:=ups c o ho (fun vs z=>by rw[hd]at z;cases z)
  exact⟨_,q,hd⟩
 refine⟨I.ok,I.os,I.bare,⟨fun b o e n hb hx=>?_,fun b o e n hb hx=>?_,I.base.free,fun b o e hx=>?_,I.base.tups,I.base.frzs,I.base.tbls⟩,?_,fun x c e=>?_,I.free,I.freeC,fun p hp=>?_,?_,I.len⟩
 ·exact st _ _ (cov b o (I.base.keep b o e n hb hx) (.inr (.inl ⟨hx,o,e⟩)) (nfr b hb (neL b o e)))
 ·obtain⟨sl,e1⟩:=I.base.slot b o e n hb hx
  have hb':b∈r6 X.stack:=by
   rcases I.ok.stk with q | ⟨q,hf⟩
   ·rw[q];exact hb
   ·rw[q];unfold r6;rw[List.filterMap_cons,hf];exact List.mem_cons_of_mem _ hb
  obtain⟨sl',e2⟩:=fr b hb' _ e1
  exact⟨sl',e2⟩
 ·obtain⟨o',e1⟩:=I.base.there b o e hx
  by_cases hb:b∈r6 X.stack
  ·obtain⟨sl,q⟩:=fr b hb _ e1
   exact⟨_,q⟩
  ·exact⟨o',st _ _ (cov b o' e1 (.inr (.inl ⟨hx,o,e⟩)) hb)⟩
 ·obtain⟨m,hn,hl⟩:=I.loc
  refine⟨m,ups.ns hn,fun i x v e1 e2 e3=>?_⟩
  obtain⟨u,r,l⟩:=hl i x v e1 e2 e3
  refine⟨u,r,?_⟩
  rcases l with l | ⟨k,c,e,z⟩
  ·exact .inl l
  ·exact .inr ⟨k,c,e,cellK c _ z⟩
 ·obtain⟨v,z⟩:=I.cell x c e
  exact⟨v,cellK c v z⟩
 ·obtain⟨e,n,ne,nf,d⟩:=I.pin p hp
  exact⟨st _ _ (cov p.1 p.2 e (.inr (.inr ⟨p,hp,rfl⟩)) (nfr p.1 nf ne)),n,ne,nf,d⟩
 ·intro b u e
  refine(I.hok b u e).stay (fun c v hc q=>?_) (fun _ q=>q) (fun _ _ q=>q) fun _ _ _ q=>q
  have hc':H c≠none:=by
   rcases hc with z | z
   ·rw[z,e];exact fun q=>nomatch q
   ·rw[z];exact fun q=>nomatch q
  exact st _ _ (cov c v q (.inl hc') fun z=>hc' (I.stkFree c z))
theorem XAt.cov'(x:XAt X pins H s a cls cx B ph)(I:Inv X pins σ H s)(st:B.StaysIn h'):∀b o,h'.get? b=some o→Imp X pins H b→b ∉ r6 X.stack→B.get? b=some o:=fun b o e i n=>by
 obtain⟨o1,e1⟩:=i.there I
 have q:=x.cov b o1 e1 i n
 have q2:=st _ _ q
 rw[e]at q2;cases q2
 exact q
variable {M:Model}{A:Around}{E:Value→Shared→Prop}{Q:Unit→Shared→Prop}
theorem a4s{e:Value}{env env0:Env}(h:env0.frame=env.frame):noteFrame e env=noteFrame e env0:=by
 unfold noteFrame PySem.frameOf
 rw[h]
theorem a57{env0:Env}{out0:List Env}{F:Addr}(hA:A.frames=some X.stack)(hs:X.stack=env0::out0)(h0:env0.frame=X.env.frame)(hf:X.env.frame=some F)(I:Inv X pins σ H s)(x:XAt X pins H s a cls cx B ph)
  (hQ:∀h',Inv X pins σ H { s with heap:=h' }→XAt X pins H { s with heap:=h' } a cls cx B .any→Q () { s with heap:=h' }):wpAny M A (noteFrame (.ref a) X.env) Q E s:=by
 have hfr:A.frames=some (env0::out0):=by rw[hA,hs]
 have hl:s.heap.FunFrames B (env0::out0):=by rw[← hs];exact x.frames
 rw[a4s h0]
 have hf:env0.frame=some F:=h0.trans hf
 have fin:∀{fl:Value} h',W2 B (env0::out0) a cls cx fl s.heap h'→Q () { s with heap:=h' }:=fun h' ⟨k1,k2,k3,k4⟩ =>
  hQ h' (I.exc x.cov k1 k4) ⟨x.free,k1,x.fresh,by rw[hs];exact k2,x.cov' I k1,_,k3⟩
 have on:∀fl,W1 s.heap B a cls cx fl→wpAny M A (noteFrame (.ref a) env0) Q E s:=fun fl t=>by
  by_cases z:(fl == rawInt F)=true
  ·exact a2D hf t z (hQ s.heap I ⟨x.free,x.stays,x.fresh,x.frames,x.cov,fl,t⟩)
  ·exact a56 hfr hl hf t z x.stays x.fresh fin
 cases ph with
 | new =>
  obtain⟨oe,vs,he,hc,hd,h1,h2⟩:=x.tr
  refine a2C hfr hl hf he x.stays x.fresh hd h1 h2 fun h' hN=>?_
  rw[hc]at hN
  exact fin h' hN
 | fly=>exact on _ x.tr
 | any=>obtain⟨fl,t⟩:=x.tr;exact on fl t
theorem a58(I:Inv X pins σ H s)(x:XAt X pins H s a cls cx B ph)(hn:ph≠.new)
  (hQ:∀h',Inv X pins σ H { s with heap:=h' }→XAt X pins H { s with heap:=h' } a cls cx B .fly→Q () { s with heap:=h' }):wpAny M A (setFlight (.ref a) none) Q E s:=by
 have go:∀fl,W1 s.heap B a cls cx fl→wpAny M A (setFlight (.ref a) none) Q E s:=fun fl ht =>
  a4r x.stays x.frames ht fun h' ⟨k1,k2,k3,k4⟩=>hQ h' (I.exc x.cov k1 k4) ⟨x.free,k1,x.fresh,k2,x.cov' I k1,k3⟩
 cases ph with
 | new=>exact absurd rfl hn
 | fly=>exact go _ x.tr
 | any=>obtain⟨fl,t⟩:=x.tr;exact go fl t
end
def l7(P:Program)(w:World):K2:=fun outer H s E e s' =>
 ∃(a:Addr) (cls:Value) (cx:Option Addr) (H':Hp) (B:Heap),e=.ref a∧s'.os=s.os∧AllBare s'.gens∧Un (r6 outer) [] H H' s.heap s'.heap∧HOk P w H' s'.heap∧B.StaysIn s'.heap∧B.get? a=none∧s'.heap.FunFrames B outer ∧
  W1 s'.heap B a cls cx .none∧H' a=none∧(∀b o,s'.heap.get? b=some o→(H' b≠none∨∃o',s.heap.get? b=some o')→b ∉ r6 outer→B.get? b=some o)∧E cls cx H'
def XAcc(X:Cx)(E:XK):Prop:=∀(pins:List (Addr×Obj)) (σ:St) (H:Hp) (s:Shared) (a:Addr) (cls:Value) (cx:Option Addr) (B:Heap) (ph:Ph),Inv X pins σ H s→XAt X pins H s a cls cx B ph→E cls cx H→X.xe (.ref a) s
theorem E6{P:Program}{w:World}{K:W.Frag}{mg:Str→Option Value}{base:Heap}{N:List Str}{qual:Str}{scope:Scope}{f:Addr}{cd:Value}{A:Around}{outer:List Env}{s:Shared}{H:Hp}{E:XK} :
  XAcc (C2 (l7 P w) P w K mg base N qual scope f cd A outer s H E) E:=by
 intro pins σ H1 s1 a cls cx B ph I x e
 show wpAny (model P w) (A.deeper (envOfC qual scope s.heap.objs.size f cd)) (leaving (envOfC qual scope s.heap.objs.size f cd) (.ref a)) _ _ s1
 unfold leaving
 refine wpAny_bind (a57 (X:=C2 (l7 P w) P w K mg base N qual scope f cd A outer s H E) I.ok.frames rfl rfl rfl I x fun h1 I1 x1=>?_)
 refine a58 I1 x1 (fun z=>nomatch z) fun h2 I2 x2=>?_
 refine⟨a,cls,cx,H1,B,rfl,I2.os,I2.bare,I2.base,I2.hok,x2.stays,x2.fresh,x2.frames.2.2,x2.tr,x2.free,fun b o e1 i n=>?_,e⟩
 have nl:b≠(envOfC qual scope s.heap.objs.size f cd).locals:=fun z=>by
  rcases i with i | ⟨o',i⟩
  ·exact i (by rw[z];exact I2.free)
  ·have:=Heap.lt_size i
   rw[z]at this
   exact absurd this (Nat.lt_irrefl _)
 refine x2.cov b o e1 (i.elim .inl fun z=>.inr (.inl ⟨List.not_mem_nil,z⟩)) fun z=>?_
 rcases List.mem_cons.mp (I2.stkSub b z)with q | q
 ·exact nl q
 ·exact n q
theorem XAcc.passes{X:Cx}{E:XK}(acc:XAcc X E):P0 (l7 X.prog X.w) X E:=by
 intro pins σ H s e s' I h
 obtain⟨a,cls,cx,H',B,rfl,os,bare,un,hok,st,fr,ff,tr,free,cov,hE⟩:=h
 have I':Inv X pins σ H' s':=I.call' (ch:=[]) os un hok bare (fun b z=>absurd z (by simp))
 refine acc pins σ H' s' a cls cx B .fly I' ⟨free,st,fr,ff,fun b o e i n=>cov b o e ?_ n,tr⟩ hE
 rcases i with i | ⟨hx,o',i⟩ | ⟨p,hp,q⟩
 ·exact .inl i
 ·exact .inr (I.base.there b o' i hx)
 ·exact .inr ⟨p.2,by rw[← q];exact(I.pin p hp).1⟩
end L2
namespace PySem.W
open PySem PySem.Spec PySem.Calls PyProof.Rows
structure ExcT(K:Frag)(C:Addr):Prop where
 ga:findIn K (.ref C) "__getattribute__" = some (some (.builtin "BaseException.__getattribute__"))
 gt:findIn K (.ref C) "__getattr__" = some none
 cl:findIn K (.ref C) "__class__" = some (some (.builtin "object.__class__"))
 mo:mroIn K C (.type "object")=some true
 sb:subIn K (.ref C) (.type "BaseException")=some true
section
variable {prog:Program}{w:World}{A:Around}{E:Value→Shared→Prop}{h:Heap}{g:Array GenState}{d:Drawn}{t:Nat}{os:OsState}{K:Frag}{x C:Addr}{o:Obj}{R:Result→Shared→Prop}
theorem a0C{tp:Value}(X:K.In h)(hx:h.get? x=some o)(hc:o.cls=.ref C)(hm:mroIn K C (.type "object")=some true)
  (q:R (.ok (.ret (.ref C))) ⟨h,g,d,t,os⟩):codeAny (model prog w) A (.call (.builtin "getset_descriptor.__get__") ⟨[.builtin "object.__class__",.ref x,tp],[]⟩) R ⟨h,g,d,t,os⟩:=by
 have L0:Looks (model prog w) h (typeOf (.ref x)) (.ref C):=hc▸(Looks.ld hx).andThen .now
 have L1:=looks_mroIn (M:=model prog w) X hm
 refine codeAny_call_builtin KF.slot_gs.plain KF.entry_gs (KF.slot_gs.check _ _ _ _ _ _ _ _ KF.type_class (KF.args_gs _ _ _) ?_)
 unfold Builtin.«getset_descriptor.__get__» Builtin.Getset_descriptor.descrGet
 rw[dga_obj]
 refine wpAny_bind (wpAny_pure ?_)
 unfold Builtin.Getset_descriptor.descrGetter Builtin.Getset_descriptor.descrCheckInstance Builtin.Getset_descriptor.descrNameAndClass isInstance
 simp only[KF.owner_class]
 repeat lk
 refine⟨Code.quiet_builtin _ (by decide +kernel),codeAny_builtin KF.entry_class ?_⟩
 unfold Builtin.«object.__class__» shownTypeOf
 repeat lk
 exact q
theorem W3{tk:Tok}{Q:Fin→Shared→Prop}(X:K.In h)(T:ExcT K C)(hx:h.get? x=some o)(hc:o.cls=.ref C)(q:Q (.done (.ret (.ref C))) ⟨h,g,d,t,os⟩) :
  wpAny (model prog w) A (Builtin.«object.__getattribute__» ⟨[.ref x,.str "__class__" tk],[]⟩) Q E ⟨h,g,d,t,os⟩:=by
 have L0:Looks (model prog w) h (typeOf (.ref x)) (.ref C):=hc▸(Looks.ld hx).andThen .now
 have L1:=looks_findIn (M:=model prog w) X T.cl
 have hT5:(⟨h,g,d,t,os⟩:Shared).TypeIs (.builtin "object.__class__") "getset_descriptor" := F.typeOf_object_class
 have f5:=F.typeOf_object_class
 have f6:=F.slot_gs_get.lookup
 have f7:=F.slot_gs_set.lookup
 repeat (any_goals (first | assumption | (with_reducible refine L0.at ?_) | (with_reducible refine wpAny_bind (L0.at ?_)) | (with_reducible refine L1.at ?_) | (with_reducible refine wpAny_bind (L1.at ?_)) | wp_step))
 refine a0C X hx hc T.mo ?_
 repeat (any_goals (first | assumption | wp_step))
theorem a0Z{M:Model}{nameV:Value}{Q:Unit→Shared→Prop}(X:K.In h)(T:ExcT K C)(hx:h.get? x=some o)(hc:o.cls=.ref C)(hq:Q () ⟨h,g,d,t,os⟩):wpAny M A (checkBuiltinCall "BaseException.__getattribute__" ⟨[.ref x,nameV],[]⟩) Q E ⟨h,g,d,t,os⟩:=by
 have hk:builtinKind "BaseException.__getattribute__" = some .slot:=by decide +kernel
 have hsplit:splitId "BaseException.__getattribute__" = some ("BaseException","__getattribute__"):=by decide +kernel
 have L0:Looks M h (typeOf (.ref x)) (.ref C):=hc▸(Looks.ld hx).andThen .now
 have L1:=looks_subIn (M:=M) X T.sb
 have L2:Looks M h (isInstance (.ref x) (.type "BaseException")) true:=L0.andThen L1
 have ha:=F.args_bexc_ga (.ref x) nameV
 simp only[checkBuiltinCall,hk,hsplit]
 refine wpAny_bind (L2.at ?_)
 repeat (first | assumption | wp_step)
theorem a00{tk:Tok}{Q:Value→Shared→Prop}(X:K.In h)(T:ExcT K C)(hx:h.get? x=some o)(hc:o.cls=.ref C)(hq:Q (.ref C) ⟨h,g,d,t,os⟩):wpAny (model prog w) A (getAttrBy (.ref x) (.str "__class__" tk) false) Q E ⟨h,g,d,t,os⟩:=by
 have L0:Looks (model prog w) h (typeOf (.ref x)) (.ref C):=hc▸(Looks.ld hx).andThen .now
 have L1:=looks_findIn (M:=model prog w) X T.ga
 have L2:=looks_findIn (M:=model prog w) X T.gt
 have f3:=F.attr_ValueError.ga.bind (.ref x)
 have hx2:(Value.builtin "BaseException.__getattribute__" == Value.builtin "object.__getattribute__")=false:=by decide +kernel
 have hx1:(onTheHeap (Value.ref C) && Value.builtin "BaseException.__getattribute__" == Value.builtin "object.__getattribute__")=false:=by rw[hx2];rfl
 repeat (any_goals (first | assumption | (with_reducible refine L0.at ?_) | (with_reducible refine wpAny_bind (L0.at ?_)) | (with_reducible refine L1.at ?_) | (with_reducible refine wpAny_bind (L1.at ?_)) | (with_reducible refine L2.at ?_) | (with_reducible refine wpAny_bind (L2.at ?_)) | wp_step))
 refine codeAny_call_builtin F.attr_ValueError.ga.plain F.entry_bexc_ga (a0Z X T hx hc (W3 X T hx hc ?_))
 repeat (any_goals (first | assumption | wp_step))
theorem Z0{Q:Option Value→Shared→Prop}(X:K.In h)(T:ExcT K C)(hx:h.get? x=some o)(hc:o.cls=.ref C)(hq:Q (some (.ref C)) ⟨h,g,d,t+1,os⟩):wpAny (model prog w) A (getAttr? (.ref x) "__class__") Q E ⟨h,g,d,t,os⟩:=by
 unfold getAttr? getAttrBy?
 repeat (any_goals (first | assumption | with_reducible apply a00 X T hx hc | wp_step))
end
def a7F(x C:Addr)(h:Heap):Prop:=∃o vs,h.get? x=some o∧o.cls=.ref C∧o.data=.fields vs
theorem kitx_exc{K:Frag}{x C:Addr}(T:ExcT K C):KitX K (.ref x) (.ref C) (a7F x C) where
 ty:=fun _ _ _ ⟨_,_,hx,hc,_⟩=>hc▸(Looks.ld hx).andThen .now
 it:=fun M h X _=>by
  have hm:=T.mo
  unfold mroIn at hm
  obtain⟨cd,hcd⟩:∃cd,clsIn K C=some cd:=by
   cases q:clsIn K C with
   | none=>rw[q]at hm;cases hm
   | some cd=>exact⟨cd,rfl⟩
  unfold clsIn at hcd
  split at hcd
  ·rename_i c' d' cd' sl' ho
   intro A' Q' E' s' k q
   unfold isType loadHead
   exact wpAny_bind (wpAny_loadPart (k _ _ (X _ _ ho)) (wpAny_pure q))
  ·cases hcd
 ne:=fun h tp dd its n sl X htp=>by
  have hm:=T.mo
  unfold mroIn at hm
  obtain⟨cd,hcd⟩:∃cd,clsIn K C=some cd:=by
   cases q:clsIn K C with
   | none=>rw[q]at hm;cases hm
   | some cd=>exact⟨cd,rfl⟩
  refine Bool.eq_false_iff.mpr fun q=>?_
  have e:C=tp:=Value.ref.inj (beq_iff_eq.mp q)
  subst e
  unfold clsIn at hcd
  split at hcd
  ·rename_i c' d' cd' sl' ho
   have z:=(X _ _ ho).symm.trans htp
   cases z
  ·cases hcd
 ca:=fun{_ _ _ _ _ s} X ⟨_,_,hx,hc,_⟩ k=>by
  obtain⟨h,g,d,t,os⟩:=s
  exact Z0 X T hx hc k
end PySem.W
namespace L2
open PySem PySem.Spec PyProof.Rows
abbrev TJ:=St→Hp→Str→(Str→Hp→Prop)→Prop
def PJ(X:Cx)(es:List Expr)(t:TJ):Prop :=
 ∀(pins:List (Addr×Obj)) (s:Shared) (σ:St) (H:Hp) (acc:Str) (Q:VK),Inv X pins σ H s→t σ H acc (fun y H1=>Q (.str y) H1)→wpAny (model X.prog X.w) X.A (joinParts acc (evalEach es X.env)) (EP X pins σ Q) X.xe s
def a5C:TJ:=fun _ H acc Q=>acc.length≤sizeLine∧Q acc H
def a3r(te:TE)(tr:TJ):TJ:=fun σ H acc Q=>te σ H fun x H1=>∃y,x=.str y∧(acc++y).length≤sizeLine∧tr σ H1 (acc++y) Q
section
variable {X:Cx}{e:Expr}{es:List Expr}{te:TE}{t:TJ}{pos:Pos}
theorem a7G:PJ X [] a5C:=fun pins s σ H acc Q I h=>joinParts_nil ⟨.str acc,H,I.tok _,⟨_,rfl⟩,h.2⟩ h.1
theorem Z1(he:PE X e te)(hr:PJ X es t):PJ X (e::es) (a3r te t):=by
 intro pins s σ H acc Q I h
 refine joinParts_cons (c5 (he pins s σ H _ I h) fun v s1 ⟨x,H1,I1,r1,q1⟩=>?_)
 obtain⟨y,rfl,z,q⟩:=q1
 obtain⟨tk,rfl⟩:=r1
 exact⟨z,hr pins s1 σ H1 _ Q I1 q⟩
def a5D(t:TJ):TE:=fun σ H Q=>t σ H Str.empty fun y H1=>Q (.str y) H1
theorem a3s{e2:Expr}(h:PJ X (e::e2::es) t):PE X (.JoinedStr (e::e2::es) pos) (a5D t):=fun pins s σ H Q I hq=>JoinedStr_many (h pins s σ H Str.empty Q I hq)
def a7H(te:TE):TE:=fun σ H Q=>te σ H fun x H1=>(∃i:Int,x=.int i∧i.natAbs.log2<1920∧Q (.str (toString i)) H1)∨∃y,x=.str y∧y.length≤sizeLine∧Q (.str y) H1
theorem a7I(he:PE X e te):PE X (.FormattedValue e (-1) none pos) (a7H te):=by
 intro pins s σ H Q I h
 refine FormattedValue_plain (c5 (he pins s σ H _ I h) fun v s1 ⟨x,H1,I1,r1,q1⟩=>?_)
 rcases q1 with⟨i,rfl,z,q⟩ | ⟨y,rfl,z,q⟩
 ·obtain⟨tk,rfl⟩:=r1
  exact formatField_int_small z ⟨.str (toString i),H1,I1.tok _,⟨_,rfl⟩,q⟩
 ·obtain⟨tk,rfl⟩:=r1
  exact formatField_str (fun t' tk=>⟨.str y,H1,I1.tok _,⟨_,rfl⟩,q⟩) z
end
def T7:List Value:=[.type "ValueError",.type "Exception",.type "BaseException",.type "object"]
theorem a59{K:W.Frag}{h₀:Heap}{C:Addr}(KX:K.In h₀)(q:W.excIn K C T7 "ValueError.__new__" = true) :
  ∃bm N nm q bs hdct sn sub ab col dd k0 k1 k2 k3 k5 mN,h₀.get? C=some (excClassObj nm q C N bs bm hdct sn sub ab col dd k0 k1 k2 k3 k5 "ValueError.__new__")∧h₀.Ns N mN∧mN "__init__" = none∧OwnTail h₀ T7 bm:=by
 unfold W.excIn at q
 split at q
 ·rename_i dd cd sl ho
  split at q
  ·rename_i C' bm k0 k1 k2 k3 n k5 hm hs
   simp only[Bool.and_eq_true,beq_iff_eq,Bool.not_eq_true']at q
   obtain⟨⟨⟨⟨⟨rfl,rfl⟩,hdel⟩,ht⟩,hok⟩,hni⟩:=q
   obtain⟨nm,bs,mro,ns,qn,hd,sn,sub,ab,col,del⟩:=cd
   dsimp only at hm hdel hok hni
   subst hm hdel
   have hsl:sl = #[k0,k1,k2,k3,some (.builtin "ValueError.__new__"),k5]:=by
    obtain⟨l⟩:=sl
    simp only at hs
    rw[hs]
   subst hsl
   exact⟨bm,ns,nm,qn,bs,hd,sn,sub,ab,col,dd,k0,k1,k2,k3,k5,_,KX _ _ ho,.of_isNs (W.isNs_of_in KX hok),W.nsMap_none_of_in KX hok hni,W.tail_of_in KX ht⟩
  ·cases q
 ·cases q
section
variable {X:Cx}{E:XK}
theorem XAt.first{pins:List (Addr×Obj)}{σ:St}{H:Hp}{s:Shared}{h':Heap}{a:Addr}{cls:Value}{cx:Option Addr}{oe:Obj}{vs:Array Value}(I:Inv X pins σ H s)(k:∀b o,s.heap.get? b=some o→h'.get? b=some o)
  (n:s.heap.get? a=none) (g:h'.get? a=some oe) (hc:oe.cls=cls) (hd:oe.data=.fields vs) (z1:vs[1]? = some .none) (z2:vs[2]? = some (T6 cx)) :
  Inv X pins σ H { s with heap:=h' }∧XAt X pins H { s with heap:=h' } a cls cx (W.hideAll s.heap (r6 X.stack)) .new:=by
 have I':Inv X pins σ H { s with heap:=h' }:=I.kept (t':=s.toks) k
 have fr:H a=none:=by
  cases q:H a with
  | none=>rfl
  | some u=>obtain⟨o,e⟩:=(I.hok a u q).there;rw[n]at e;cases e
 refine⟨I',fr,fun b o e=>k b o (W.of_hideAll _ e),?_,(W.funFrames_hide I.stack fun env he b hb=>List.mem_filterMap.mpr ⟨env,he,hb⟩).of_keeps fun b o e _=>⟨o,k b o e,rfl⟩,fun b o e i n=>?_,⟨oe,vs,g,hc,hd,z1,z2⟩⟩
 ·cases q:(W.hideAll s.heap (r6 X.stack)).get? a with
  | none=>rfl
  | some o=>have:=W.of_hideAll _ q;rw[n]at this;cases this
 ·obtain⟨o1,e1⟩:=i.there I
  have e2:=k _ _ e1
  rw[e]at e2;cases e2
  exact W.hideAll_get _ e1 n
theorem XAt.made{pins:List (Addr×Obj)}{σ:St}{H:Hp}{s:Shared}{h':Heap}{a:Addr}{cls:Value}{vs:List Value}(I:Inv X pins σ H s)(m:Heap.MadeExcOf s.heap h' a cls vs) :
  Inv X pins σ H { s with heap:=h' }∧XAt X pins H { s with heap:=h' } a cls none (W.hideAll s.heap (r6 X.stack)) .new:=by
 obtain⟨t,he,_,_⟩:=m.there
 exact XAt.first I m.keeps m.new he rfl rfl rfl rfl
def a3t(C:Addr)(E:XK)(ta:TA):TS:=fun _ σ H=>ta σ H fun vs H1=>vs.length≤sizeLine∧E (.ref C) none H1
theorem a01{x:Str}{C:Addr}{e₀:Expr}{b7:List Expr}{np cpos pos:Pos}{ta:TA}(acc:XAcc X E)(q:W.excIn X.K C T7 "ValueError.__new__" = true)(hg:Gl X x)(hm:X.mg x=some (.ref C))(ha:PA X (e₀::b7) ta)
  (hc:X.calm=true:=by rfl) (hex:X.ex=[]:=by rfl)
  (he:starEach (e₀::b7) X.env=(false,eval e₀ X.env)::starEach b7 X.env:=by rfl) (hplain:(backTo cpos (starEach b7 X.env)).any (·.1)=false:=by rfl) (hd:(x == ("__debug__" : Str))=false:=by decide) :
  PS X (.Raise (some (.Call (.Name x np) (e₀::b7) [] cpos)) none pos) (a3t C E ta):=by
 intro pins s σ H D I h
 obtain⟨tl,N,nm,qn,bs,hdct,sn,sub,ab,col,dd,k0,k1,k2,k3,k5,mN,hC,hN,hni,T⟩:=a59 I.mod.kin q
 have hp:=ha cpos pins s σ H _ I h
 rw[he]at hp
 refine wpAny_Raise_call_subT (C:=C) (nm:=nm) (q:=qn) (N:=N) (bs:=bs) (bm:=tl) (hdct:=hdct) (sn:=sn) (sub:=sub) (ab:=ab) (col:=col) (dd:=dd) (k0:=k0) (k1:=k1) (k2:=k2) (k3:=k3) (k5:=k5)
  PySem.F.excBase_ValueError (mN:=mN) (T.hasType PySem.F.excBase_ValueError.hasBase) (I.ok.hd hc) (by rw[he];show(false || (backTo cpos (starEach b7 X.env)).any (·.1))=false;rw[hplain];rfl) hni (Y5 I hg hm ⟨rfl,?_⟩ hd)
 rw[he]
 refine Calls.evalArgs_plain (c5 hp fun us s2 ⟨vs,H2,I2,rv,z,hE⟩=>⟨rfl,by rw[← rv.length];exact z,I2.bk _ _ hC,hN.keeps I2.bk,T.keeps I2.bk,fun h' e m=>?_⟩)
 obtain⟨I3,x3⟩:=XAt.made I2 m
 exact acc pins σ H2 _ e _ none _ .new I3 x3 hE
end
def a2E(a:Addr)(cls:Value)(cx:Option Addr):HO:=.ext fun h=>∃o vs,h.get? a=some o∧o.cls=cls∧o.data=.fields vs∧vs[2]? = some (T6 cx)
section
variable {X:Cx}{pins:List (Addr×Obj)}{σ:St}{H:Hp}{s:Shared}{a:Addr}{cls:Value}{cx:Option Addr}{B:Heap}{ph:Ph}
theorem XAt.nofr(x:XAt X pins H s a cls cx B ph):a ∉ r6 X.stack:=fun z=>by
 obtain⟨oe,vs,e,_,d,_⟩:=x.tr.there
 obtain⟨_,o,e',d'⟩:=x.frames.mem z
 rw[e]at e';cases e'
 exact d' vs d
end
theorem v5{X:Cx}{P:Program}{w:World}:P0 (l7 P w) X E0:=fun _ _ _ _ _ _ _ h=>by
 obtain⟨_,_,_,_,_,_,_,_,_,_,_,_,_,_,_,_,hE⟩:=h
 exact hE.elim
section
variable {P:Program}{w:World}{K:W.Frag}{mg:Str→Option Value}{base:Heap}
theorem Fun.okE{x qual:Str}{st:Stmt}{f:Addr}{fd:FuncData}{N ps:List Str}{k:Nat}{sp:Sp}(F:Fun K x qual st f fd)(S:FnScope N ps (a6 st))(len:∀vs H Q E,sp vs H Q E→vs.length=ps.length)
  (hbody:∀(cdv:Value) (A:Around) (outer:List Env) (s:Shared) (H:Hp) (vs:List V) (Q:VK) (E:XK),Room k (A.deeper (envOfC qual (a6 st) s.heap.objs.size f cdv))→sp vs H Q E →
   ∃t,PSs (C2 (l7 P w) P w K mg base N qual (a6 st) f cdv A outer s H E) (g6 st) t∧t { nx:=fun _ H'=>Q .non H',rt:=Q } (start N vs) H):FnOk P w K mg base (l7 P w) (k+1) f fd ps sp:=by
 obtain⟨oc,od,kV,doc,pm,an,cdv,ct,osl,rfl,lk,hcd⟩:=F.ex
 exact a2A lk hcd S len fun A outer s H vs Q E hr hsp=>hbody cdv A outer s H vs Q E hr hsp
structure FunD(K:W.Frag)(x qual:Str)(st:Stmt)(dT:Addr)(f:Addr)(fd:FuncData):Prop where
 ex:∃(oc:Value) (od:Option Addr) (kV doc pm:Value) (an:Option Addr) (cdv ct:Value) (osl:Array (Option Value)),
  fd=W.fnOf x qual (i9 st) (g6 st) (a6 st) (.ref dT) kV doc pm an cdv ct∧K.lookup f=some ⟨oc,od,.func fd,osl⟩∧W.codeIn K cdv qual=true
 kp:W.keepIn K (.ref f)=true
theorem FunD.okE{x qual:Str}{st:Stmt}{dT f:Addr}{fd:FuncData}{N ps:List Str}{k:Nat}{sp:Sp}(F:FunD K x qual st dT f fd)(S:FnScope N ps (a6 st))(len:∀vs H Q E,sp vs H Q E→vs.length=ps.length)
  (hbody:∀(cdv:Value) (A:Around) (outer:List Env) (s:Shared) (H:Hp) (vs:List V) (Q:VK) (E:XK),Room k (A.deeper (envOfC qual (a6 st) s.heap.objs.size f cdv))→sp vs H Q E →
   ∃t,PSs (C2 (l7 P w) P w K mg base N qual (a6 st) f cdv A outer s H E) (g6 st) t∧t { nx:=fun _ H'=>Q .non H',rt:=Q } (start N vs) H):FnOk P w K mg base (l7 P w) (k+1) f fd ps sp:=by
 obtain⟨oc,od,kV,doc,pm,an,cdv,ct,osl,rfl,lk,hcd⟩:=F.ex
 exact a2A lk hcd S len fun A outer s H vs Q E hr hsp=>hbody cdv A outer s H vs Q E hr hsp
theorem FunD.binds{x qual:Str}{st:Stmt}{dT f:Addr}{fd:FuncData}{ps:List Str}{ds:List Value}{items:List Value}{o:Obj}{nn:Nat}(F:FunD K x qual st dT f fd)(ho:K.lookup dT=some o)(hs:o.data=.seq items.toArray nn)
  (h:∀(kV doc pm:Value) (an:Option Addr) (cdv ct:Value) (us:List Value),(us++ds).length=ps.length→∃k:Option (Array Value)→Sem (List (Str×Value)),
   bindArgs (W.fnOf x qual (i9 st) (g6 st) (a6 st) (.ref dT) kV doc pm an cdv ct) ⟨us,[]⟩=seqItems? (.ref dT) >>= k∧k (some items.toArray)=pure (ps.zip (us++ds))):Binds K fd ps ds:=by
 obtain⟨oc,od,kV,doc,pm,an,cdv,ct,osl,rfl,lk,hcd⟩:=F.ex
 intro s us KX hl
 obtain⟨k,h1,h2⟩:=h kV doc pm an cdv ct us hl
 exact W.binds_K KX rfl ho hs h1 h2
end
structure RoomW(k:Nat)(A:Around):Prop where
 dp:A.depth+3*k+5<recursionLimit
 un:A.units+16*k+200<cLine
theorem Room.w{k:Nat}{A:Around}(r:Room k A)(h:Option Value):RoomW k (A.mark h):=⟨r.dp,r.un⟩
theorem RoomW.deeper{k:Nat}{A:Around}(r:RoomW (k+1) A)(env:Env):RoomW k (A.deeper env) :=
 ⟨by have:=r.dp;show A.depth+1+3*k+5<_;omega,by have:=r.un;show A.units+3+16*k+200<_;omega⟩
def a7J:V→Option Value
 | .ty n=>some (.type n)
 | .ref a=>some (.ref a)
 | _=>none
theorem a5_{y:V}{c u:Value}(e:a7J y=some c)(r:RelV y u):u=c:=by
 cases y with
 | ty n=>cases e;exact r
 | ref a=>cases e;exact r
 | _=>cases e
inductive TyX(K:W.Frag)(H:Hp):V→Value→Prop where
 | of {x:V} {t:Value} (h:TyOf K H x t):TyX K H x t
 | exc {a C:Addr} {cx:Option Addr} (h:H a=some (a2E a (.ref C) cx)) (T:W.ExcT K C):TyX K H (.ref a) (.ref C)
section
variable {X:Cx}{pins:List (Addr×Obj)}{σ:St}{H:Hp}{s:Shared}{A:Around}{E:Value→Shared→Prop}{Q:Value→Shared→Prop}
theorem TyX.kit{x:V}{u t:Value}(I:Inv X pins σ H s)(rx:RelV x u)(ty:TyX X.K H x t):∃Φ:Heap→Prop,W.KitX X.K u t Φ∧Φ s.heap∧u≠.builtin "__main__.__loader__#opaque" := by
 cases ty with
 | @exc a C cx h T =>
  cases (show u=Value.ref a from rx)
  obtain⟨⟨o,vs,h1,h2,h3,_⟩,_⟩:=(show ObjOk X.prog X.w H s.heap a (a2E a (.ref C) cx)from I.hok a _ h)
  exact⟨_,W.kitx_exc T,⟨o,vs,h1,h2,h3⟩,fun z=>nomatch z⟩
 | of h =>
 cases h with
 | non=>cases (show u=Value.none from rx);exact⟨_,W.kitx_none,True.intro,fun z=>nomatch z⟩
 | bl y=>cases (show u=Value.bool y from rx);exact⟨_,W.kitx_bool,True.intro,fun z=>nomatch z⟩
 | int i=>obtain⟨t,q⟩:=(show ∃t,u=Value.int i t from rx);cases q;exact⟨_,W.kitx_int,True.intro,fun z=>nomatch z⟩
 | str y=>obtain⟨t,q⟩:=(show ∃t,u=Value.str y t from rx);cases q;exact⟨_,W.kitx_str,True.intro,fun z=>nomatch z⟩
 | flt y=>obtain⟨t,q⟩:=(show ∃t,u=Value.float y t from rx);cases q;exact⟨_,W.kitx_float,True.intro,fun z=>nomatch z⟩
 | @lst a xs ea =>
  cases (show u=Value.ref a from rx)
  obtain⟨_,_,n,_,h1⟩:=(show ObjOk X.prog X.w H s.heap a (.lst xs)from I.hok a _ ea)
  exact⟨_,W.kitx_list,⟨_,h1,rfl⟩,fun z=>nomatch z⟩
 | @frz a ob xs ea =>
  cases (show u=Value.ref a from rx)
  obtain⟨_,_,_,n,_,h1⟩:=(show ObjOk X.prog X.w H s.heap a (.frz ob (.lst xs))from I.hok a _ ea)
  exact⟨_,W.kitx_list,⟨_,h1,rfl⟩,fun z=>nomatch z⟩
 | @tup a xs ea =>
  cases (show u=Value.ref a from rx)
  obtain⟨_,_,_,p⟩:=(show ObjOk X.prog X.w H s.heap a (.tup xs)from I.hok a _ ea)
  obtain⟨o,h1,h2,_⟩:=p
  exact⟨_,W.kitx_tuple,⟨o,h1,h2⟩,fun z=>nomatch z⟩
 | @dK a kvs ea =>
  cases (show u=Value.ref a from rx)
  obtain⟨_,_,vs,_,p⟩:=(show ObjOk X.prog X.w H s.heap a (.dK kvs)from I.hok a _ ea)
  obtain⟨o,es,ep,h1,h2,_⟩:=p
  exact⟨_,W.kitx_dict,⟨o,h1,h2.1⟩,fun z=>nomatch z⟩
 | @dT a kvs ea =>
  cases (show u=Value.ref a from rx)
  obtain⟨_,_,xs,_,o,es,ep,h1,h2,_⟩:=(show ObjOk X.prog X.w H s.heap a (.dT kvs)from I.hok a _ ea)
  exact⟨_,W.kitx_dict,⟨o,h1,h2.1⟩,fun z=>nomatch z⟩
 | @ins a C dx fs ea cl ha hn htk hm =>
  cases (show u=Value.ref a from rx)
  obtain⟨mA,O,_⟩:=a5Y I.hok ea
  obtain⟨od,J,_⟩:=O.look
  exact⟨_,W.kitx_own (cl.get _) cl.hd ha hn htk hm,J,fun z=>nomatch z⟩
def a4t(K:W.Frag):List V→Hp→VK→Prop:=fun xs H Q=>∃x y t c b,xs=[x,y]∧a7J y=some c∧TyX K H x t∧W.kitOne K t c=some b∧Q (.bl b) H
theorem a4u:D8 X (.builtin "isinstance") (a4t X.K):=by
 intro pins s σ H xs us Q I r h
 obtain⟨x,y,t,c,b,rfl,e1,e2,e3,q⟩:=h
 obtain⟨u,v,rfl,r1,r2⟩:=a8N r
 obtain rfl:=a5_ e1 r2
 obtain⟨Φ,Z,p,n⟩:=e2.kit I r1
 exact W.kia_one Z I.kIn p e3 n fun tk=>⟨.bl b,H,I.tok _,rfl,q⟩
end
def a4v:List V→List V→Bool
 | [],[]=>true
 | x::xs,y::ys=>eqV x y && a4v xs ys
 | _,_=>false
section
variable {X:Cx}{pins:List (Addr×Obj)}{σ:St}{H:Hp}{s:Shared}
theorem a11:B5 X (binaryOp .Mult) (rI IntMulOk fun i j=>.int (i*j)):=opI fun _ _ _ _ _ _ _ hc q=>mul_int q hc
theorem a4w:B5 X (binaryOp .FloorDiv) (rI (fun _ j=>0<j∧j.natAbs.log2<9000) fun i j=>.int (i/j)):=opI fun i j _ _ _ _ _ hc q=>by
 have h0:j≠0:=by have:=hc.1;omega
 refine floordiv_int h0 ?_ (.inl (PyProof.noPylong_of_log2 hc.2))
 rw[Int.fdiv_eq_ediv_of_nonneg _ (Int.le_of_lt hc.1)]
 exact q
end
open PySem.W PySem.Calls
theorem a1B{ns:List Int}(h:WData.layableAll [WData.list (ns.map WData.int)]=true):∀n∈ns,Builtin.Int.intBits n≤2 ^ 20:=fun n hn=>by
 have h1:(WData.list (ns.map WData.int)).layable=true:=layableW_arg h _ (List.mem_singleton.mpr rfl)
 have h2:=layableW_item h1 (WData.int n) (List.mem_map.mpr ⟨n,hn,rfl⟩)
 have h3:=(layableW_iff.mp h2).2.2
 simpa only[WData.weight,Builtin.Int.intBits]using h3
theorem walk_ofB{l:OpenLaw}{n k:Nat}{q:Program}{loose:List Str}{XP:(Str→Option Value)→Heap→Prop}{YP:World→Heap→Prop}{d:DefRec}{K:Params→Frag}{CX:World→K2}{sp:World→Sp}{x:Str}
  (hn:l.most=some n) (hn2:n≤sizeLine) (hdf:d.params.defaults=[]) (hr:Room k callerA)
  (hY:∀(w:World) (h:Heap),YP w h→(K w.params).In h)
  (F:∀(w:World) (mg:Str→Option Value) (fa:Addr) (h:Heap),(K w.params).In h→h.Ns mainGlobals mg→mg d.name=some (.ref fa) →
   ∃fd:FuncData,(∀(s:Shared) (u:Value),BindsTo s fd ⟨[u],[]⟩ [(x,u)]) ∧
    ∀base:Heap,(K w.params).In base→base.Ns mainGlobals mg→FnOk l.prog w (K w.params) mg base (CX w) k fa fd [x] (sp w))
  (hsp:∀(w:World) (H:Hp) (a:Addr) (ns:List Int),ns.length≤n→(∀m∈ns,Builtin.Int.intBits m≤2 ^ 20)→a2B H→SqL (K w.params) H a (ns.map V.int)→sp w [.ref a] H (fun v _=>v=.bl true) fun _ _ _=>False)
  (hCX:∀(w:World) (H:Hp) (s:Shared) (e:Value) (s':Shared),CX w [] H s (fun _ _ _=>False) e s'→False) :
  WalkO q loose XP YP l.row.toRowW d [] (fun f vs=>PySem.call f vs):=by
 intro w s₀ s₁ mg mb G Y fa o pm cd doc dV kV ho hd hcd hD hmg hg args vals as hpre hlay hrd hwl hlo
 obtain rfl:dV=.none:=Dflts.none hD hdf
 obtain rfl:kV=.none:=Dflts.noKw hD
 obtain⟨a,vs,ns,rfl,rfl,hobj,hints,hlen⟩:=Att.script_of hn hpre hwl
 have KX:=hY w _ Y
 obtain⟨fd,hb,hF⟩:=F w mg fa _ KX G.T.g hmg
 refine enter_call (codeAny_mono (a4q KX G.T.g G.T.b G.T.builtins G.T.nolimit hg hobj hints (Nat.le_trans hlen hn2) hr hF hb (fun H hO hS=>hsp w H a ns hlen (a1B hlay) hO hS) fun H e s'=>hCX w H s₁ e s') fun r s' hq=>?_)
 obtain⟨rfl,h2,h3,h4⟩:=hq
 exact⟨.inl ⟨.bool true,.bool true,[],rfl,fun _=>rfl,.bool true,Att.post_true l _,fun _=>⟨List.Pairwise.nil,fun _ hm=>(nomatch hm)⟩⟩,h2,h3,h4⟩
theorem a8P{P:Program}{w:World}{outer:List Env}(H:Hp)(s:Shared)(e:Value)(s':Shared)(h:l7 P w outer H s (fun _ _ _=>False) e s'):False:=by
 obtain⟨_,_,_,_,_,_,_,_,_,_,_,_,_,_,_,_,hE⟩:=h
 exact hE
structure Own(P:Program)(w:World)(K:W.Frag)(mg:Str→Option Value)(base:Heap)(k:Nat)(x:Str)(ps:List Str)(sp:Sp):Prop where
 ex:∃f fd,FnOk P w K mg base (l7 P w) k f fd ps sp∧Binds K fd ps []∧W.keepIn K (.ref f)=true∧mg x=some (.ref f)
structure OwnD(P:Program)(w:World)(K:W.Frag)(mg:Str→Option Value)(base:Heap)(k:Nat)(x:Str)(ps:List Str)(sp:Sp)(d:V):Prop where
 ex:∃f fd du,FnOk P w K mg base (l7 P w) k f fd ps sp∧Binds K fd ps []∧Binds K fd ps [du]∧RelV d du∧W.keepIn K (.ref f)=true∧mg x=some (.ref f)
section
variable {X:Cx}{k k':Nat}{ps:List Str}{sp:Sp}{x:Str}{p pos:Pos}{e:Expr}{es:List Expr}{t:TA}{E:XK}{d:V}
theorem n5(G:Own X.prog X.w X.K X.mg X.base k x ps sp)(hr:Room k' X.A)(hk:k≤k')(hx:P0 (l7 X.prog X.w) X E)(ha:PA X (e::es) t)(hg:Gl X x:=by rfl)
  (hdb:(x == ("__debug__" : Str))=false:=by decide) (he:starEach (e::es) X.env=(false,eval e X.env)::starEach es X.env:=by rfl) (hpl:(backTo pos (starEach es X.env)).any (·.1)=false:=by rfl) :
  PE X (.Call (.Name x p) (e::es) [] pos) (R7 sp [] E t):=by
 obtain⟨f,fd,F,b,kp,m⟩:=G.ex
 exact a5Z F (hr.mono hk) hg m kp b .nil hx ha hdb he hpl
end
theorem a7K:bootBuiltins "int" = some (.type "int"):=by decide +kernel
theorem a6a:bootBuiltins "bool" = some (.type "bool"):=by decide +kernel
theorem Z2:bootBuiltins "list" = some (.type "list"):=by decide +kernel
theorem C3:bootBuiltins "isinstance" = some (.builtin "isinstance"):=by decide +kernel
theorem a02:bootBuiltins "len" = some (.builtin "len"):=by decide +kernel
theorem F6{H:Hp}{p:Addr}(h:H p=none)(o:HO):Same H (upd H p o):=fun b u q=>by rw[a8 (g7 q h)];exact q
def Scr(K:W.Frag)(H:Hp)(a:Addr)(xs:List V):Prop:=(∃o,H a=some (.frz o (.lst xs))) ∨
  ∃(o:Obj) (its:Array Value) (n:Nat),K.lookup a=some o∧o.cls=.type "list"∧o.dict=none∧o.data=.seq its n∧its.size≤sizeLine∧Vals xs its.toList
theorem Scr.seq{K:W.Frag}{H:Hp}{a:Addr}{xs:List V}(h:Scr K H a xs):SqL K H a xs:=h.elim (fun z=>.inl (.inr z)) .inr
theorem Scr.of{K:W.Frag}{H:Hp}{a:Addr}{xs:List V}(h:SqL K H a xs)(o:a2B H):Scr K H a xs:=by
 rcases h with(h | h) | h
 ·rcases o a with z | ⟨o,ys,z⟩
  ·rw[h]at z;cases z
  ·rw[h]at z;cases z
 ·exact .inl h
 ·exact .inr h
theorem Scr.same{K:W.Frag}{H H':Hp}{a:Addr}{xs:List V}(g:Same H H')(h:Scr K H a xs):Scr K H' a xs:=h.elim (fun⟨o,z⟩=>.inl ⟨o,g _ _ z⟩) .inr
theorem Scr.upd{K:W.Frag}{H:Hp}{a l:Addr}{xs ys:List V}{o:HO}(hl:H l=some (.lst ys))(h:Scr K H a xs):Scr K (L2.upd H l o) a xs:=h.elim (fun⟨ob,z⟩=>.inl ⟨ob,by rw[a8 (a8K z hl (by intro q;cases q))];exact z⟩) .inr
section
variable {prog:Program}{w:World}{A:Around}{R:Result→Shared→Prop}{s:Shared}
theorem a1C{elt target iter:Expr}{ifs:List Expr}{scope:Scope}{pos:Pos}{it acc:Value}{env:Env}{N:Value→Shared→Prop}(hN:N=notedBy (model prog w) A env fun e s'=>R (.error e) s')(I:Nat→Shared→Prop)
  (turn:∀n s,I n s→wpAny (model prog w) A (pyNext it) (fun r s₁=>match r with
   | none=>R (.ok .next) s₁
   | some v=>wpAny (model prog w) A (letOwnedTupleGo target it v) (fun _ s₁'=>wpAny (model prog w) A (assign target env v) (fun _ s₂ =>
     wpAny (model prog w) A (forIn ifs true fun c r=>if r=true then do let ok ← isTrue c env (eval c env);pure (ForInStep.yield ok)else pure (ForInStep.yield r)) (fun ok s₃ =>
      if ok=true then wpAny (model prog w) A (eval elt env) (fun x s₄ =>
       wpAny (model prog w) A (call (.builtin "list.append") [acc,x]) (fun _ s₅=>∃m,m<n∧I m s₅) N s₄) N s₃
      else ∃m,m<n∧I m s₃) N s₂) N s₁') N s₁) N s)
  (n:Nat) (h:I n s) :
  codeAny (model prog w) A (.compLoop (.ListComp elt [⟨target,iter,ifs,0⟩] scope pos) 0 it acc env) R s:=by
 subst hN
 refine codeAny_loop rfl I (fun k z q=>?_) n h
 show wpAny _ A ((compTurn (.ListComp elt [⟨target,iter,ifs,0⟩] scope pos) 0 it acc env).onRaise (fun ex=>do noteFrame ex env;theTreesLotGoes ex)) _ _ z
 refine wpAny_noted ?_
 rw[compTurn_list]
 refine wpAny_bind (wpAny_standAt (wpAny_bind (c5 (turn k z q) fun r z1 q1=>?_)))
 cases r with
 | none=>exact wpAny_pure q1
 | some v =>
  refine wpAny_bind (c5 q1 fun _ z2 q2=>?_)
  refine wpAny_bind (c5 q2 fun _ z3 q3=>?_)
  refine wpAny_bind (c5 q3 fun ok z4 q4=>?_)
  cases ok with
  | false=>exact wpAny_pure ⟨rfl,q4⟩
  | true=>exact wpAny_bind (wpAny_bind (c5 q4 fun x z5 q5=>wpAny_bind (c5 q5 fun _ z6 q6=>wpAny_pure (wpAny_pure ⟨rfl,q6⟩))))
end
def n6(cells:List (Str×Addr)):List (Str×NameKind)→List (Str×Addr)→List (Str×Addr)
 | [],acc=>acc
 | (n,k)::r,acc=>if k == .free then(match cells.lookup n with
   | some c=>n6 cells r ((n,c)::acc)
   | none=>n6 cells r acc)else n6 cells r acc
theorem G9{cells:List (Str×Addr)}{x:Str}{c:Addr}:∀{names:List (Str×NameKind)} {acc:List (Str×Addr)},(∀d,acc.lookup x=some d→cells.lookup x=some d)→(n6 cells names acc).lookup x=some c→cells.lookup x=some c
 | [],acc,h,e=>h c e
 | (n,k)::r,acc,h,e=>by
  unfold n6 at e
  split at e
  ·split at e
   ·rename_i c' hc'
    refine G9 (fun d q=>?_) e
    rw[List.lookup_cons]at q
    split at q
    ·rename_i hx
     have hx':x=n:=by simpa using hx
     cases q
     rw[hx'];exact hc'
    ·exact h d q
   ·exact G9 h e
  ·exact G9 h e
theorem A9{cells:List (Str×Addr)}{x:Str}:∀{names:List (Str×NameKind)} {acc:List (Str×Addr)},(∃d,acc.lookup x=some d)→∃d,(n6 cells names acc).lookup x=some d
 | [],acc,h=>h
 | (n,k)::r,acc,h=>by
  unfold n6
  split
  ·split
   ·refine A9 ?_
    rw[List.lookup_cons]
    split
    ·exact⟨_,rfl⟩
    ·exact h
   ·exact A9 h
  ·exact A9 h
theorem B7{cells:List (Str×Addr)}{x:Str}:∀{names:List (Str×NameKind)} {acc:List (Str×Addr)},(x,NameKind.free)∈names→(∃c,cells.lookup x=some c)→∃d,(n6 cells names acc).lookup x=some d
 | [],acc,h,_=>by simp at h
 | (n,k)::r,acc,h,hc=>by
  unfold n6
  rcases List.mem_cons.mp h with e | h
  ·cases e
   obtain⟨c,hc⟩:=hc
   rw[if_pos (by rfl),hc]
   exact A9 ⟨c,by simp[List.lookup_cons]⟩
  ·split
   ·split
    ·exact B7 h hc
    ·exact B7 h hc
   ·exact B7 h hc
theorem L5{env:Env}:∀(names:List (Str×NameKind)) (acc:List (Str×Addr)),(∀y∈names,y.2=.free→∃c,env.cells.lookup y.1=some c) →
  (forIn names acc fun(x:Str×NameKind) (cs:List (Str×Addr))=>if(x.2 == NameKind.free)=true then do let a ← cellOf env x.1;pure (ForInStep.yield ((x.1,a)::cs))else pure (ForInStep.yield cs):Sem (List (Str×Addr)))=pure (n6 env.cells names acc)
 | [],acc,_=>rfl
 | (n,k)::r,acc,h=>by
  rw[List.forIn_cons]
  unfold n6
  by_cases hk:(k == NameKind.free)=true
  ·obtain⟨c,hc⟩:=h (n,k) List.mem_cons_self (by simpa using hk)
   have e:cellOf env n=pure c:=by unfold cellOf;rw[hc]
   rw[if_pos hk,if_pos hk,hc,e]
   exact L5 r _ fun y hy=>h y (List.mem_cons_of_mem _ hy)
  ·rw[if_neg hk,if_neg hk]
   exact L5 r acc fun y hy=>h y (List.mem_cons_of_mem _ hy)
theorem S7{scope:Scope}{env:Env}(h:∀y∈scope.names,y.2=.free→∃c,env.cells.lookup y.1=some c):closureFor scope env=pure (n6 env.cells scope.names []):=by
 have:=L5 (env:=env) scope.names [] h
 unfold closureFor
 exact(congrArg (· >>= pure) this).trans (by first | rfl | simp)
theorem u4{env:Env}:∀{names:List (Str×NameKind)} {x:Str} {k':NameKind},
  (names.map fun(n,k)=>if(k == NameKind.free && env.scope.kind == .function && env.kindOf n == some .cell)then(n,NameKind.cell)else(n,k)).lookup x=some k' →
  ∃k,names.lookup x=some k∧(k'=k∨(k=.free∧k'=.cell))
 | [],_,_,h=>by simp at h
 | (n,k)::r,x,k',h=>by
  rw[List.map_cons]at h
  dsimp only at h
  by_cases hc:(k == NameKind.free && env.scope.kind == .function && env.kindOf n == some .cell)=true
  ·rw[if_pos hc,List.lookup_cons]at h
   rw[List.lookup_cons]
   split at h
   ·rename_i hx
    cases h
    have hk:k=.free:=by
     have:=(Bool.and_eq_true _ _▸(Bool.and_eq_true _ _▸hc).1).1
     simpa using this
    exact⟨k,rfl,.inr ⟨hk,rfl⟩⟩
   ·rename_i hx
    obtain⟨k2,q1,q2⟩:=u4 h
    exact⟨k2,q1,q2⟩
  ·rw[if_neg hc,List.lookup_cons]at h
   rw[List.lookup_cons]
   split at h
   ·rename_i hx
    cases h
    exact⟨k,rfl,.inl rfl⟩
   ·rename_i hx
    obtain⟨k2,q1,q2⟩:=u4 h
    exact⟨k2,q1,q2⟩
theorem t4{env:Env}:∀{names:List (Str×NameKind)} {x:Str},names.lookup x=some .free →
  (names.map fun(n,k)=>if(k == NameKind.free && env.scope.kind == .function && env.kindOf n == some .cell)then(n,NameKind.cell)else(n,k)).lookup x=some .cell ∨
  (names.map fun(n,k)=>if(k == NameKind.free && env.scope.kind == .function && env.kindOf n == some .cell)then(n,NameKind.cell)else(n,k)).lookup x=some .free
 | [],_,h=>by simp at h
 | (n,k)::r,x,h=>by
  rw[List.map_cons]
  dsimp only
  rw[List.lookup_cons]at h
  by_cases hc:(k == NameKind.free && env.scope.kind == .function && env.kindOf n == some .cell)=true
  ·rw[if_pos hc,List.lookup_cons]
   split at h
   ·rename_i hx
    left;rfl
   ·rename_i hx
    exact t4 (env:=env) h
  ·rw[if_neg hc,List.lookup_cons]
   split at h
   ·rename_i hx
    right;exact h
   ·rename_i hx
    exact t4 (env:=env) h
structure CompSc(Sc scope:Scope)(N Nc:List Str)(k:Nat)(js:List Nat):Prop where
 cell:∀y∈scope.names,y.2≠.cell
 kind:scope.kind=.function
 names:∀y∈scope.names,y.2=.local→scope.names.lookup y.1=some .local
 free:∀y∈scope.names,y.2=.free→Sc.names.lookup y.1=some .cell∨Sc.names.lookup y.1=some .free
 nd:Nc.Nodup
 len:Nc.length=k+js.length
 cap:(Nc.drop k).map some=js.map fun j=>N[j]?
 caps:∀x∈Nc.drop k,scope.names.lookup x=some .free
def g8(k:Nat)(js:List Nat)(σ:St):St:=List.replicate k none++js.map fun j=>(σ[j]?).getD none
theorem F7{names:List (Str×NameKind)}{x:Str}{k:NameKind}(h:names.lookup x=some k):(x,k)∈names:=PySem.mem_of_lookup h
abbrev j4(X:Cx)(scope:Scope)(Nc:List Str)(C:Addr)(s3:Shared)(H3:Hp)(fp:List Addr)(xe:Value→Shared→Prop):Cx :=
 { X with N:=Nc,s₀:=s3,H₀:=H3,env:=compEnvC scope (n6 X.env.cells scope.names []) C X.env,outer:=X.stack,ex:=fp,fn:=fun _=>false,pn:=[],xe:=xe }
section
variable {X:Cx}{pins:List (Addr×Obj)}{σ:St}{H3:Hp}{s3:Shared}{scope:Scope}{Nc:List Str}{k:Nat}{js:List Nat}{fp:List Addr}{xe:Value→Shared→Prop}{h₁:Heap}{m₀:Str→Option Value}{tk:Nat}
theorem W4(I:Inv X pins σ H3 s3)(S:CompSc X.env.scope scope X.N Nc k js):∀y∈scope.names,y.2=.free→∃c,X.env.cells.lookup y.1=some c:=fun y hy hk=>I.ok.has y.1 (S.free y hy hk)
theorem w6{x:Str}{c:Addr}(e:(n6 X.env.cells scope.names []).lookup x=some c):X.env.cells.lookup x=some c:=G9 (fun d q=>by simp at q) e
theorem a4x(I:Inv X pins σ H3 s3)(S:CompSc X.env.scope scope X.N Nc k js)(hf:∀b∈fp,FpOk X pins H3 b)(hfo:∀b∈fp,b<s3.heap.objs.size)(hns:h₁.Ns s3.heap.objs.size m₀)(old:∀b o,s3.heap.get? b=some o→h₁.get? b=some o) :
  Inv (j4 X scope Nc s3.heap.objs.size s3 H3 fp xe) [] (g8 k js σ) H3 { s3 with heap:=h₁,toks:=tk }:=by
 have ok:=I.ok
 have hb0:∀b o,X.base.get? b=some o→b<X.s₀.heap.objs.size:=fun b o e=>Nat.lt_of_lt_of_le (Heap.lt_size e) ok.bsz
 refine⟨⟨ok.mod,S.kind,ok.glob,ok.blt,Nat.le_refl _,fun x y c h1 h2=>ok.inj x y c (w6 h1) (w6 h2),fun x hx=>?_,(fun x c z=>nomatch z),ok.hd,ok.frames,.inl rfl,fun b hb=>⟨Nat.ne_of_lt (hfo b hb),fun x c e=>(hf b hb).2.2.2.2.1 x c (w6 e)⟩,I.bs,Nat.le_trans ok.bsz I.sz,fun b o e hb=>?_,fun b hb z=>?_,I.stack,I.stkFree⟩,
  rfl,I.bare,Un.kept old,⟨m₀,hns,fun i x v e1 e2 e3=>?_⟩,fun x c e=>?_,I.hok.fresh (Nat.le_refl _),fun x c e=>I.freeC x c (w6 e),fun p hp=>absurd (show p∈([]:List (Addr×Obj))from hp) (by simp),I.hok.kept old,?_⟩
 ·have hx:(relabel scope X.env).names.lookup x=some .cell∨(relabel scope X.env).names.lookup x=some .free:=hx
  have hfree:scope.names.lookup x=some .free:=by
   rcases hx with hx | hx
   ·obtain⟨k2,q1,q2⟩:=u4 (env:=X.env) hx
    rcases q2 with q2 | ⟨q2,_⟩
    ·subst q2;exact absurd rfl (S.cell _ (F7 q1))
    ·rw[q2]at q1;exact q1
   ·obtain⟨k2,q1,q2⟩:=u4 (env:=X.env) hx
    rcases q2 with q2 | ⟨q2,q3⟩
    ·subst q2;exact q1
    ·cases q3
  exact B7 (F7 hfree) (ok.has x (S.free _ (F7 hfree) rfl))
 ·rcases(hf b hb).2.2.2.1 with z | z
  ·exact ok.noex b o e z
  ·exact absurd (Nat.lt_of_lt_of_le (hb0 b o e) z) (Nat.lt_irrefl _)
 ·rcases List.mem_cons.mp (I.stkSub b z)with q | q
  ·exact(hf b hb).2.1 q
  ·exact(hf b hb).2.2.1 q
 ·have hlen:(List.replicate k (none:Option V)).length=k:=List.length_replicate
  by_cases hi:i<k
  ·unfold g8 at e2
   rw[List.getElem?_append_left (by omega),List.getElem?_replicate]at e2
   split at e2<;>cases e2
  ·unfold g8 at e2
   rw[List.getElem?_append_right (by omega),hlen,List.getElem?_map]at e2
   cases hj:js[i-k]? with
   | none=>rw[hj]at e2;cases e2
   | some j =>
    rw[hj]at e2
    have e2':(σ[j]?).getD none=some v:=Option.some.inj e2
    have hσ:σ[j]? = some (some v):=by
     cases q:σ[j]? with
     | none=>rw[q]at e2';cases e2'
     | some y=>rw[q]at e2';simp at e2';rw[e2']
    have hx:(Nc.drop k)[i-k]? = some x:=by rw[List.getElem?_drop];rw[show k+(i-k)=i by omega];exact e1
    have hNj:X.N[j]? = some x:=by
     have:=congrArg (fun l=>l[i-k]?) S.cap
     simp only[List.getElem?_map,hx,hj,Option.map_some]at this
     exact(Option.some.inj this).symm
    have hfr:scope.names.lookup x=some .free:=S.caps x (List.mem_of_getElem? hx)
    have hk:=S.free _ (F7 hfr) rfl
    obtain⟨m,hn,hl⟩:=I.loc
    obtain⟨u,r,l⟩:=hl j x v hNj hσ (.inr hk)
    refine⟨u,r,.inr ⟨t4 hfr,?_⟩⟩
    rcases l with⟨l1,_⟩ | ⟨_,c,hc,hcell⟩
    ·have l1:X.env.scope.names.lookup x=some .local:=l1
     rcases hk with hk | hk
     ·rw[l1]at hk;cases hk
     ·rw[l1]at hk;cases hk
    ·obtain⟨d,hd⟩:=B7 (cells:=X.env.cells) (acc:=[]) (F7 hfr) ⟨c,hc⟩
     have:=w6 hd
     rw[hc]at this;cases this
     obtain⟨o,ho,hdd⟩:=hcell
     exact⟨c,hd,⟨o,old _ _ ho,hdd⟩⟩
 ·obtain⟨v,o,ho,hd⟩:=I.cell x c (w6 e)
  exact⟨v,o,old _ _ ho,hd⟩
 ·unfold g8
  rw[List.length_append,List.length_replicate,List.length_map]
  exact S.len.symm
end
def PF(X:Cx)(ifs:List Expr)(t:TT):Prop :=
 ∀(pins:List (Addr×Obj)) (s:Shared) (σ:St) (H:Hp) (Q:Bool→Hp→Prop),Inv X pins σ H s→t σ H Q →
  wpAny (model X.prog X.w) X.A (forIn ifs true fun c r=>if r=true then do let ok ← isTrue c X.env (eval c X.env);pure (ForInStep.yield ok)else pure (ForInStep.yield r)) (TP X pins σ Q) X.xe s
def a5E:TT:=fun _ H Q=>Q true H
theorem P5{X:Cx}:PF X [] a5E:=fun pins s σ H Q I h=>wpAny_tests_nil ⟨H,I,h⟩
def P6(J:It)(g:TG)(tf:TT)(te:TE)(k:Nat)(σ0:St)(D:Addr)(Fin:Hp→Prop)(H1:Hp):Prop :=
 ∃W:Nat→Nat→List V→Hp→Prop,(∃m,W 0 m [] (upd H1 D (.lst [])))∧∀i m ys H,W i m ys H →
  (J.stop i H∧Fin H)∨(J.go i H∧∃N:List V→Hp→Prop,(∀ys' H',N ys' H'→∃m',m'<m∧W (i+1) m' ys' H')∧∀x H',J.yld i H x H'→g x σ0 H' fun σ2 H2=>(σ2.drop k=σ0.drop k∧σ2.length=σ0.length)∧tf σ2 H2 fun b H3 =>
   if b=true then te σ2 H3 fun y H4=>H4 D=some (.lst ys)∧ys.length<sizeLine∧N (ys++[y]) (upd H4 D (.lst (ys++[y])))else N ys H3)
section
variable {X:Cx}{pins:List (Addr×Obj)}{σ:St}{H:Hp}{s:Shared}{elt tg iter:Expr}{ifs:List Expr}{scope:Scope}{pos:Pos}{Nc:List Str}{k:Nat}{js:List Nat}{g:TG}{tf:TT}{te:TE}
theorem W5{J:It}{fp:List Addr}{it:Addr}{tn:Nat→Heap→Prop}{E:Value→Shared→Prop}{RR:Value→Addr→Result→Shared→Prop}{Fin:Addr→Hp→Prop}(hc:X.calm=true)(S:CompSc X.env.scope scope X.N Nc k js)
  (hg:∀C s3 H3 fp xe,PG (j4 X scope Nc C s3 H3 fp xe) tg g) (hf:∀C s3 H3 fp xe,PF (j4 X scope Nc C s3 H3 fp xe) ifs tf)
  (he:∀C D H3,∃xe:Value→Shared→Prop,(∀e s',xe e s'→notedBy (model X.prog X.w) X.A (compEnvC scope (n6 X.env.cells scope.names []) C X.env) (fun e s'=>RR (.ref D) C (.error e) s') e s') ∧
   ∀s3,Inv X pins σ H3 s3→C=s3.heap.objs.size→(∀b∈fp,FpOk X pins H3 b)→PE (j4 X scope Nc C s3 H3 fp xe) elt te)
  (I2:Inv X pins σ H s) (T:Turn X.prog X.w X.K tg J fp it tn) (st2:tn 0 s.heap) (f2:∀b∈fp,FpOk X pins H b) (hR:∀D,H D=none→P6 J g tf te k (g8 k js σ) D (Fin D) H)
  (hRR:∀D C H' s' m',Inv X pins σ H' s'→s'.heap.Ns C m'→H' C=none→C≠X.env.locals→X.s₀.heap.objs.size≤C→(∀x c,X.env.cells.lookup x=some c→c≠C)→(∀p∈X.pn++pins,p.1≠C)→Fin D H'→RR (.ref D) C (.ok .next) s') :
  wpAny (model X.prog X.w) X.A (newList []) (fun acc s₃=>wpAny (model X.prog X.w) X.A (newFunctionEnv scope X.env.globals (n6 X.env.cells scope.names []) [] X.env.qual none .none (some X.env)) (fun cenv s₄ =>
   codeAny (model X.prog X.w) X.A (.compStart (.ListComp elt [⟨tg,iter,ifs,0⟩] scope pos) 0 (.ref it) acc { cenv with scope:=relabel scope X.env }) (RR acc cenv.locals) s₄) E s₃) E s:=by
 refine wpAny_newObj_type (wpAny_newFunctionEnv S.cell (by intro y hy;simp at hy) (fun h₁ hns₁ hsb₁=>?_) S.kind)
 dsimp only at hns₁ hsb₁ ⊢
 have I3:Inv X pins σ (upd H s.heap.objs.size (.lst [])) { s with heap:=s.heap.push { cls:=.type "list",data:=.seq ([]:List Value).toArray },toks:=s.toks }:=I2.lnew (its:=[]) .nil (Nat.zero_le _)
 have hDn:H s.heap.objs.size=none:=I2.fresh
 obtain⟨W,⟨m0,w0⟩,turn⟩:=hR _ hDn
 generalize hs3:({ s with heap:=s.heap.push { cls:=.type "list",data:=.seq ([]:List Value).toArray },toks:=s.toks }:Shared)=s3 at I3
 have e3:s3.heap=s.heap.push { cls:=.type "list",dict:=none,data:=.seq ([]:List Value).toArray }:=by rw[← hs3]
 rw[← e3]at hns₁ hsb₁ ⊢
 have fpo:∀b∈fp,b<s.heap.objs.size:=fun b hb=>by obtain⟨o,e,_⟩:=T.obj _ _ st2 b hb;exact Heap.lt_size e
 have sz3:s3.heap.objs.size=s.heap.objs.size+1:=by rw[e3,Heap.size_push]
 have fpo3:∀b∈fp,b<s3.heap.objs.size:=fun b hb=>by rw[sz3];exact Nat.lt_succ_of_lt (fpo b hb)
 have f3:∀b∈fp,FpOk X pins (upd H s.heap.objs.size (.lst [])) b:=fun b hb=>⟨by rw[a8 (Nat.ne_of_lt (fpo b hb))];exact(f2 b hb).1,(f2 b hb).2⟩
 have old:∀b o,s3.heap.get? b=some o→h₁.get? b=some o:=fun b o e=>hsb₁.extBut b o (Nat.ne_of_lt (Heap.lt_size e)) (Heap.get?_push_of_some _ e)
 have oldS:∀b o,s.heap.get? b=some o→h₁.get? b=some o:=fun b o e=>old b o (by rw[e3];exact Heap.get?_push_of_some _ e)
 obtain⟨xe,hxe,hel⟩:=he s3.heap.objs.size s.heap.objs.size (upd H s.heap.objs.size (.lst []))
 have hel:=hel s3 I3 rfl f3
 have I4:Inv (j4 X scope Nc s3.heap.objs.size s3 (upd H s.heap.objs.size (.lst [])) fp xe) [] (g8 k js σ) (upd H s.heap.objs.size (.lst [])) { s3 with heap:=h₁,toks:=s.toks+([]:List (Str×Value)).length } :=
  a4x I3 S f3 fpo3 hns₁ old
 have st4:tn 0 h₁:=T.keep _ _ _ st2 fun b hb o e=>oldS b o e
 have es3:({ s3 with heap:=h₁,toks:=s.toks+([]:List (Str×Value)).length }:Shared)={ s with heap:=h₁,toks:=s.toks+([]:List (Str×Value)).length }:=by rw[← hs3]
 rw[es3]at I4
 have ok:=I2.ok
 have lk:=I3.lt
 have hCL:s3.heap.objs.size≠X.env.locals:=Nat.ne_of_gt lk
 have stat:∀{H':Hp},(∀b∈fp,H' b=none)→∀b∈fp,FpOk (j4 X scope Nc s3.heap.objs.size s3 (upd H s.heap.objs.size (.lst [])) fp xe) [] H' b:=fun hn b hb =>
  ⟨hn b hb,Nat.ne_of_lt (fpo3 b hb),fun z=>(List.mem_cons.mp (I3.stkSub b z)).elim (fun q=>(f3 b hb).2.1 q) fun q=>(f3 b hb).2.2.1 q,.inl hb,fun x c e=>(f3 b hb).2.2.2.2.1 x c (w6 e),fun p hp=>absurd (show p∈([]:List (Addr×Obj))from hp) (by simp)⟩
 have loop:codeAny (model X.prog X.w) X.A (.compLoop (.ListComp elt [⟨tg,iter,ifs,0⟩] scope pos) 0 (.ref it) (.ref s.heap.objs.size) (compEnvC scope (n6 X.env.cells scope.names []) s3.heap.objs.size X.env))
    (RR (.ref s.heap.objs.size) s3.heap.objs.size) { s with heap:=h₁,toks:=s.toks+([]:List (Str×Value)).length }:=by
  refine a1C rfl (fun n s'=>∃i ys H',Inv (j4 X scope Nc s3.heap.objs.size s3 (upd H s.heap.objs.size (.lst [])) fp xe) [] (g8 k js σ) H' s'∧tn i s'.heap∧(∀b∈fp,H' b=none)∧W i n ys H') ?_ m0 ⟨0,[],_,I4,st4,fun b hb=>(f3 b hb).1,w0⟩
  rintro n s5 ⟨i,ys,H5,I5,st5,fr5,w5⟩
  rcases turn i n ys H5 w5 with⟨stop,fin⟩ | ⟨go,Nx,hNx,step⟩
  ·refine c5 (T.done (j4 X scope Nc s3.heap.objs.size s3 (upd H s.heap.objs.size (.lst [])) fp xe) rfl rfl rfl hc i [] s5 (g8 k js σ) H5 _ I5 (stat fr5) st5 stop) fun r s6 ⟨hr,I6⟩=>?_
   subst hr
   obtain⟨m6,hn6,_⟩:=I6.loc
   have J:Inv X pins σ H5 s6:=I3.call' (ch:=fp) (I6.os.trans rfl) I6.base I6.hok I6.bare fun b hb=>⟨(f3 b hb).2.2.2.1,(f3 b hb).2.1,(f3 b hb).2.2.2.2.1,(f3 b hb).2.2.2.2.2⟩
   refine hRR _ _ H5 s6 m6 J hn6 I6.free hCL (I3.sz) (fun x c e z=>?_) (fun p hp z=>?_) fin
   ·obtain⟨v,q⟩:=I3.cell x c e
    exact absurd q.lt (by rw[z];exact Nat.lt_irrefl _)
   ·exact absurd (Heap.lt_size (I3.pin p hp).1) (by rw[z];exact Nat.lt_irrefl _)
  ·refine c5 (T.item (j4 X scope Nc s3.heap.objs.size s3 (upd H s.heap.objs.size (.lst [])) fp xe) rfl rfl rfl hc i [] s5 (g8 k js σ) H5 _ I5 (stat fr5) st5 go) fun r s6 ⟨u,hr,h6⟩=>?_
   subst hr
   refine c5 h6 fun _ s7 ⟨x,H7,I7,r7,y7,st7,fr7⟩=>?_
   have I7':=I7.pinned (stat fr7) (T.obj _ _ st7)
   refine wpAny_mono (hg _ _ _ _ _ _ s7 _ H7 x u _ I7' r7 (step x H7 y7)) (fun _ s8 ⟨σ8,H8,I8,⟨d8,l8⟩,q8⟩=>?_) fun e s' z=>hxe e s' z
   refine wpAny_mono (hf _ _ _ _ _ _ s8 σ8 H8 _ I8 q8) (fun b s9 ⟨H9,I9,q9⟩=>?_) fun e s' z=>hxe e s' z
   have again:∀{H':Hp} {s':Shared} {ys':List V},Inv (j4 X scope Nc s3.heap.objs.size s3 (upd H s.heap.objs.size (.lst [])) fp xe) ([]++O7 fp s7.heap) σ8 H' s'→Nx ys' H' →
     ∃m,m<n∧∃i ys H',Inv (j4 X scope Nc s3.heap.objs.size s3 (upd H s.heap.objs.size (.lst [])) fp xe) [] (g8 k js σ) H' s'∧tn i s'.heap∧(∀b∈fp,H' b=none)∧W i m ys H':=fun{H' s' ys'} I' hw=>by
    obtain⟨m',hm,w'⟩:=hNx _ _ hw
    refine⟨m',hm,i+1,ys',H',(I'.unpinned).weak l8.symm fun j v e=>?_,T.keep _ _ _ st7 fun b hb o e=>(I'.pin (b,o) (List.mem_append_right _ (List.mem_append_right _ (D7 hb e)))).1,fun b hb=>?_,w'⟩
    ·by_cases hj:j<k
     ·unfold g8 at e
      rw[List.getElem?_append_left (by rw[List.length_replicate];exact hj),List.getElem?_replicate]at e
      split at e<;>cases e
     ·have e':((g8 k js σ).drop k)[j-k]? = some (some v):=by rw[List.getElem?_drop,show k+(j-k)=j by omega];exact e
      rw[← d8,List.getElem?_drop,show k+(j-k)=j by omega]at e'
      exact e'
    ·obtain⟨o,e,d⟩:=T.obj _ _ st7 b hb
     exact(I'.pin (b,o) (List.mem_append_right _ (List.mem_append_right _ (D7 hb e)))).2.1
   cases b with
   | false =>
    rw[if_neg Bool.false_ne_true]at q9 ⊢
    exact again I9 q9
   | true =>
    rw[if_pos rfl]at q9 ⊢
    refine wpAny_mono (hel _ s9 σ8 H9 _ I9 q9) (fun v s10 ⟨y,H10,I10,r10,hD,hz,w'⟩=>?_) fun e s' z=>hxe e s' z
    refine wpAny_mono (P3 (X:=j4 X scope Nc s3.heap.objs.size s3 (upd H s.heap.objs.size (.lst [])) fp xe) _ s10 σ8 H10 (.ref s.heap.objs.size) [y] (.ref s.heap.objs.size) [v] (fun _ H'=>H'=upd H10 s.heap.objs.size (.lst (ys++[y]))) I10 rfl (.cons r10 .nil)
     ⟨_,ys,y,rfl,rfl,hD,hz,rfl⟩) (fun _ s11 ⟨_,H11,I11,_,q11⟩=>?_) fun e s' z=>hxe e s' z
    subst q11
    exact again I11 w'
 exact codeAny_compStart_list loop (T.self _ 0 _ _ _ st4 loop)
end
def a2F(wi:TI)(g:TG)(tf:TT)(te:TE)(k:Nat)(js:List Nat):TE:=fun σ H Q=>wi σ H fun J H1=>∀D,H1 D=none→P6 J g tf te k (g8 k js σ) D (fun H'=>Q (.ref D) H') H1
def a03(i:Nat)(wi:TI)(g:TG)(tf:TT)(te:TE)(k:Nat)(js:List Nat):TS:=fun N σ H=>wi σ H fun J H1=>∀D,H1 D=none→P6 J g tf te k (g8 k js σ) D (fun H'=>N.nx (σ.set i (some (.ref D))) H') H1
section
variable {X:Cx}{elt tg iter:Expr}{ifs:List Expr}{scope:Scope}{pos:Pos}{Nc:List Str}{k:Nat}{js:List Nat}{wi:TI}{g:TG}{tf:TT}{te:TE}
theorem R8(hc:X.calm=true)(S:CompSc X.env.scope scope X.N Nc k js)(hi:PI X tg iter wi)(hg:∀C s3 H3 fp xe,PG (j4 X scope Nc C s3 H3 fp xe) tg g)(hf:∀C s3 H3 fp xe,PF (j4 X scope Nc C s3 H3 fp xe) ifs tf)
  (he:∀C s3 H3 fp xe,PE (j4 X scope Nc C s3 H3 fp xe) elt te) (hs:∀x,foldedSetIterable iter X.env x=pure x:=by intro _;rfl):PE X (.ListComp elt [⟨tg,iter,ifs,0⟩] scope pos) (a2F wi g tf te k js):=by
 intro pins s σ H Q I h
 rw[eval_ListComp]
 refine wpAny_comprehension_free (use:=none) rfl hs (S7 (W4 I S)) S.kind S.names (c5 (hi pins s σ H _ I h) fun v s1 h1=>c5 h1 fun itv s2 h2=>?_)
 obtain⟨it,fp,tn,J,H2,rfl,I2,T,st2,f2,hR⟩:=h2
 refine W5 (RR:=fun acc C=>compPost (model X.prog X.w) X.A X.xe none (EP X pins σ Q) acc C) (Fin:=fun D H'=>Q (.ref D) H') hc S hg hf (fun C D H3=>⟨fun _ _=>False,fun _ _ z=>z.elim,fun s3 _ _ _=>he _ _ _ _ _⟩) I2 T st2 f2 hR ?_
 intro D C H' s' m' I' hn hC hCL hsz hcl hpn q
 exact⟨m',hn,fun h' hs'=>⟨.ref D,H',I'.turned (t':=s'.toks) (fun b o hb e=>(hs'.2 b hb).trans e) hC hCL (.inr hsz) hcl hpn,rfl,q⟩⟩
theorem a2G{i:Nat}{y:Str}{py spos:Pos}(hc:X.calm=true)(S:CompSc X.env.scope scope X.N Nc k js)(hN:X.N.Nodup)(hy:X.N[i]? = some y)(hi:PI X tg iter wi)(hg:∀C s3 H3 fp xe,PG (j4 X scope Nc C s3 H3 fp xe) tg g)(hf:∀C s3 H3 fp xe,PF (j4 X scope Nc C s3 H3 fp xe) ifs tf)
  (he:∀C s3 H3 fp xe,PE (j4 X scope Nc C s3 H3 fp xe) elt te) (hl:X.env.scope.names.lookup y=some .local:=by rfl) (hs:∀x,foldedSetIterable iter X.env x=pure x:=by intro _;rfl)
  (hsw:swapsWith (.ListComp elt [⟨tg,iter,ifs,0⟩] scope pos) (some (.Name y py)) spos.line X.env=pure true:=by rfl):PS X (.Assign [.Name y py] (.ListComp elt [⟨tg,iter,ifs,0⟩] scope pos) spos) (a03 i wi g tf te k js):=by
 intro pins s σ H N I h
 rw[exec_Assign_Name_used _ _ _ _ hsw]
 refine wpAny_bind (wpAny_standAt (wpAny_bind ?_))
 show wpAny _ X.A (do let _ ← comprehension (.ListComp elt [⟨tg,iter,ifs,0⟩] scope pos) scope X.env _ (newList []) false (eval iter X.env) (some (assign (.Name y py) X.env))) _ _ s
 refine wpAny_bind (c5 (wpAny_comprehension_free (use:=some (assign (.Name y py) X.env)) (Q:=fun _ z=>SP X pins N .next z) rfl hs (S7 (W4 I S)) S.kind S.names
  (c5 (hi pins s σ H _ I h) fun v s1 h1=>c5 h1 fun itv s2 h2=>?_)) fun _ z hq=>wpAny_pure (wpAny_pure hq))
 obtain⟨it,fp,tn,J,H2,rfl,I2,T,st2,f2,hR⟩:=h2
 refine W5 (RR:=fun acc C=>compPost (model X.prog X.w) X.A X.xe (some (assign (.Name y py) X.env)) (fun _ z=>SP X pins N .next z) acc C) (Fin:=fun D H'=>N.nx (σ.set i (some (.ref D))) H') hc S hg hf
  (fun C D H3=>⟨fun _ _=>False,fun _ _ z=>z.elim,fun s3 _ _ _=>he _ _ _ _ _⟩) I2 T st2 f2 hR ?_
 intro D C H' s' m' I' hn hC hCL hsz hcl hpn q
 show wpAny _ X.A (assign (.Name y py) X.env (.ref D)) _ _ s'
 refine wpAny_assign_Name (a0h (v:=.ref D) I' hN hy (.inl hl) rfl (fun s'' I'' ⟨a,hsb,ha⟩=>?_) (.inr hl))
 have hCa:C≠a:=by
  rcases ha with ha | ha
  ·rw[ha];exact hCL
  ·exact fun z=>hcl y a ha z.symm
 exact⟨m',hn.sameBut hsb hCa,fun h' hs'=>⟨_,H',I''.turned (t':=s''.toks) (fun b o hb e=>(hs'.2 b hb).trans e) hC hCL (.inr hsz) hcl hpn,q⟩⟩
end
theorem a3u{K:W.Frag}{a:Addr}{xs:List V}{g:TG}{tf:TT}{te:TE}{k:Nat}{σ0:St}{D:Addr}{Fin:Hp→Prop}{H1:Hp}(Pv:Nat→List V→Hp→Prop)(h0:Pv 0 [] (upd H1 D (.lst [])))(hl:∀i ys H,i≤xs.length→Pv i ys H→SqL K H a xs)
  (hs:∀i x ys H,xs[i]? = some x→Pv i ys H→g x σ0 H fun σ2 H2=>(σ2.drop k=σ0.drop k∧σ2.length=σ0.length)∧tf σ2 H2 fun b H3 =>
   if b=true then te σ2 H3 fun y H4=>H4 D=some (.lst ys)∧ys.length<sizeLine∧Pv (i+1) (ys++[y]) (upd H4 D (.lst (ys++[y])))else Pv (i+1) ys H3)
  (hd:∀ys H,Pv xs.length ys H→Fin H):P6 (S6 K a) g tf te k σ0 D Fin H1:=by
 refine⟨fun i m ys H=>m=xs.length-i∧i≤xs.length∧Pv i ys H,⟨xs.length,by simp,Nat.zero_le _,h0⟩,?_⟩
 rintro i m ys H ⟨rfl,hi,p⟩
 have q:=hl i ys H hi p
 by_cases hlt:i<xs.length
 ·refine .inr ⟨⟨xs,xs[i],q,by simp[hlt]⟩,Pv (i+1),fun ys' H' z=>⟨xs.length-(i+1),by omega,rfl,hlt,z⟩,fun x H' y=>?_⟩
  obtain⟨e,y⟩:=y
  subst e
  exact hs i x ys _ (y xs q) p
 ·have e:i=xs.length:=by omega
  subst e
  exact .inl ⟨⟨xs,q,Nat.le_refl _⟩,hd ys H p⟩
section
variable {X:Cx}{K:W.Frag}
theorem L6(hK:X.K=K:=by rfl):IxR X (a4m K):=hK▸a54
theorem E7(hK:X.K=K:=by rfl):IxR X (a4n K):=hK▸a7A
theorem a4y(hK:X.K=K:=by rfl):SlR X (a4o K):=hK▸a55
def a12(K:W.Frag):List V→Hp→VK→Prop:=fun xs H Q=>∃p ys,xs=[.ref p]∧(SqL K H p ys∨SqT K H p ys)∧Q (.int ys.length) H
theorem C4(hK:X.K=K:=by rfl):D8 X (.builtin "len") (a12 K):=hK▸a0X
def a13(K:W.Frag):List V→Hp→VK→Prop:=fun xs H Q=>∃p ys,xs=[.ref p]∧(SqL K H p ys∨SqT K H p ys)∧∀l,H l=none→Q (.ref l) (upd H l (.lst ys))
theorem O2(hK:X.K=K:=by rfl):D8 X (.type "list") (a13 K):=hK▸a0Y
theorem P7(hK:X.K=K:=by rfl):D8 X (.builtin "isinstance") (a4t K):=hK▸a4u
theorem a14{es:List Expr}{k:Nat}{t:O6}{n:Nat}{pos:Pos}(hc:X.calm=true)(h:PGs X es t)(hK:X.K=K:=by rfl)(hn:(assignEach es X.env).length=n:=by rfl)(hst:(assignEach es X.env).findIdx? (·.1)=none:=by rfl) :
  PG X (.Tuple es k pos) (a4h K n t):=hK▸a7t hc h hn hst
variable {o e:Expr}{es:List Expr}{to:TE}{t:TA}{name:Str}{apos cpos:Pos}{T id:String}{r:V→List V→Hp→VK→Prop}
theorem P8(pa:PlainAttrs T)(slot:Slot T name id)(hty:typeOf (.builtin id)=pure (.type "method_descriptor"))(hm:MtR X id r)(ho:PE X o to)(ha:PA X (e::es) t)(hK:X.K=K:=by rfl)
  (hbase:attributeBase o name X.env (eval o X.env)=eval o X.env:=by rfl)
  (hfew:((backTo cpos (starEach (e::es) X.env)).all (fun x=>!x.1) && (backToKw cpos (keywordEach [] X.env)).all (fun x=>x.1.isSome)
   && decide ((e::es).length+([]:List Keyword).length+(if([]:List Keyword).isEmpty then 0 else 1)<30))=true:=by rfl)
  (hline:(apos.endLine == cpos.line)=true:=by rfl) (hs:starEach (e::es) X.env=(false,eval e X.env)::starEach es X.env:=by rfl) (hplain:(backTo cpos (starEach es X.env)).any (·.1)=false:=by rfl) :
  PE X (.Call (.Attribute o name apos) (e::es) [] cpos) (tBM K T r to t):=hK▸a8O pa slot hty hm ho ha hbase hfew hline hs hplain
end
section
variable {X:Cx}
theorem a0p:∀(bs:List Bool),(List.range bs.length).all (fun i=>bs.getD i false)=bs.all id
 | []=>rfl
 | b::r=>by
  rw[List.length_cons,List.range_succ_eq_map,List.all_cons,List.all_map,List.all_cons,← a0p r];rfl
def a7L(K:W.Frag):List V→Hp→VK→Prop:=fun xs H Q=>∃(a:Addr) (bs:List Bool),xs=[.ref a]∧SqL K H a (bs.map V.bl)∧Q (.bl (bs.all id)) H
theorem a4z{bs:List Bool}{us:List Value}(r:Vals (bs.map V.bl) us){i:Nat}{v:Value}(h:us.toArray[i]? = some v):v=.bool (bs.getD i false):=by
 have h:us[i]? = some v:=by simpa using h
 have hi:i<bs.length:=by
  have:=(List.getElem?_eq_some_iff.mp h).1
  rw[← r.length,List.length_map]at this;exact this
 obtain⟨u,hu,ru⟩:=r.get (i:=i) (x:=.bl (bs.getD i false)) (by rw[List.getElem?_map,List.getElem?_eq_getElem hi];simp[hi])
 rw[h]at hu;cases hu
 exact ru
theorem a1D{prog:Program}{w:World}{A:Around}{bs:List Bool}{us:List Value}(r:Vals (bs.map V.bl) us):TruthOf prog w A (fun i v=>us.toArray[i]? = some v) (fun i=>bs.getD i false):=fun i v s Q E hP hQ=>by
 rw[a4z r hP]
 exact wpAny_truthy_bool hQ
theorem a3v{K:W.Frag}(hc:X.calm=true:=by rfl)(hK:X.K=K:=by rfl):D8 X (.builtin "all") (a7L K):=by
 subst hK
 intro pins s σ H xs us Q I r h
 obtain⟨a,bs,rfl,hq,q⟩:=h
 obtain⟨u,rfl,ru⟩:=r.one
 cases (show u=Value.ref a from ru)
 obtain⟨its,rv,pl,hz⟩:=I.list hq
 have hlt:a<s.heap.objs.size:=by obtain⟨_,e,_⟩:=pl.isList;exact Heap.lt_size e
 refine call_all_walk (wpAny_pyIter_list pl.isList ⟨_,_,_,_,_,_,_,rfl,Walks.list (A:=X.A.in1) (I.ok.hd hc) s.heap.objs.size a (Nat.ne_of_lt hlt) its.toArray,⟨⟨_,Heap.get?_push_size _ rfl,rfl,rfl⟩,pl.isList.push _⟩,a1D rv,fun h' tk hk=>?_⟩)
 have I':Inv X pins σ H { s with heap:=h',toks:=tk }:=I.kept fun b o e=>hk b o (by simpa using Nat.ne_of_lt (Heap.lt_size e)) (Heap.get?_push_of_some _ e)
 refine⟨.bl _,H,I',rfl,?_⟩
 rw[show its.toArray.size=bs.length by rw[List.size_toArray,← rv.length,List.length_map],a0p]
 exact q
theorem a7M:bootBuiltins "all" = some (.builtin "all"):=by decide +kernel
end
theorem a3w{X:Cx}{x:Str}{v:V}{pos:Pos}(hg:Gl X x)(hm:∃u,X.mg x=some u∧RelV v u)(hd:(x == ("__debug__" : Str))=false:=by decide):PE X (.Name x pos) (tC v):=by
 obtain⟨u,h1,h2⟩:=hm
 exact a5W hg h1 h2 hd
theorem W6:∀{ns:List Int} {us:List Value},Vals (ns.map V.int) us→∃ps:List (Int×Tok),us=ps.map (fun p=>Value.int p.1 p.2)∧ps.map (·.1)=ns
 | [],_,.nil=>⟨[],rfl,rfl⟩
 | n::ns,_,.cons r t=>by
  obtain⟨tk,rfl⟩:=r
  obtain⟨ps,rfl,e⟩:=W6 t
  exact⟨(n,tk)::ps,rfl,by rw[List.map_cons,e]⟩
def Gd(n:Nat)(lt:Nat→Nat→Bool){α:Type}:KasT α→(α→Prop)→Prop
 | .ret a,P=>P a
 | .ask i j k,P=>i<n∧j<n∧Gd n lt (k (lt i j)) P
theorem Gd.mono{n:Nat}{lt:Nat→Nat→Bool}{α:Type}{P P':α→Prop}(h:∀a,P a→P' a):∀{t:KasT α},Gd n lt t P→Gd n lt t P'
 | .ret a,g=>h a g
 | .ask i j k,g=>⟨g.1,g.2.1,Gd.mono h g.2.2⟩
theorem Gd.bind{n:Nat}{lt:Nat→Nat→Bool}{α β:Type}{P:β→Prop}{f:α→KasT β}:∀{t:KasT α},Gd n lt t (fun a=>Gd n lt (f a) P)→Gd n lt (t.bind f) P
 | .ret a,g=>g
 | .ask i j k,g=>⟨g.1,g.2.1,Gd.bind (t:=k (lt i j)) g.2.2⟩
theorem Gd.wp{n:Nat}{lt:Nat→Nat→Bool}{α:Type}{cmp:Nat→Nat→(Bool→Shared→Prop)→Shared→Prop}{s:Shared}(hc:∀i j C,i<n→j<n→C (lt i j) s→cmp i j C s){P:α→Prop}{Q:α→Shared→Prop}(q:∀a,P a→Q a s):∀{t:KasT α},Gd n lt t P→t.kasWp cmp Q s
 | .ret a,g=>q a g
 | .ask i j k,g=>hc i j _ g.1 g.2.1 (Gd.wp hc q (t:=k (lt i j)) g.2.2)
def ga(p:Array Nat)(k:Nat):Nat:=p.getD k 0
theorem a5F(p:Array Nat)(k:Nat):ga p k=(p[k]?).getD 0:=by
 unfold ga;simp[Array.getD_eq_getD_getElem?]
structure TPre(lt:Nat→Nat→Bool):Prop where
 irr:∀i,lt i i=false
 tr:∀i j k,lt j i=false→lt k j=false→lt k i=false
 asy:∀i j,lt i j=true→lt j i=false
section
variable {n:Nat}{lt:Nat→Nat→Bool}
def Pmn(n:Nat)(p:Array Nat):Prop:=p.toList.Perm (List.range n)
theorem Pmn.size{p:Array Nat}(h:Pmn n p):p.size=n:=by have:=h.length_eq;simpa using this
theorem Pmn.rev{p:Array Nat}(h:Pmn n p)(i j:Nat):Pmn n (kas_rev p i j):=((Array.perm_iff_toList_perm.mp (mirror_perm p i j _)).trans h)
theorem Pmn.bub{p:Array Nat}(h:Pmn n p)(i j:Nat):Pmn n (bubble p i j):=((Array.perm_iff_toList_perm.mp (bubble_perm p i j)).trans h)
theorem a7N{p:Array Nat}{i j:Nat}(hj:j≤p.size)(k:Nat):ga (kas_rev p i j) k=if i≤k∧k<j then ga p (i+j-1-k)else ga p k:=by
 rw[a5F,kas_rev,getElem?_mirror_all hj]
 split<;>rw[a5F]
end
section
variable {prog:Program}{w:World}{A:Around}{E:Value→Shared→Prop}{s:Shared}{b fin:Bool}{Q:Bool→Shared→Prop}
theorem S8:∀{vs ws:List Value} {ns ms:List Int} (i:Nat),IntsAre vs ns→IntsAre ws ms→fin=decide (ns.length<ms.length)→Q (HT.lexLt ns ms) s→KatLex prog w A true fin Q (vs.zip ws) i s
 | _,_,_,_,i,.nil,.nil,hf,h=>by rw[List.zip_nil_left];refine kat_nil ?_;rw[hf];exact h
 | _,_,_,_,i,.nil,.cons c u t,hf,h=>by
  rw[List.zip_nil_left];refine kat_nil ?_;rw[hf,decide_eq_true (by simp)];exact h
 | _,_,_,_,i,.cons a t r,.nil,hf,h=>by
  rw[List.zip_nil_right];refine kat_nil ?_;rw[hf,decide_eq_false (by simp)];exact h
 | _,_,_,_,i,.cons (ns:=ns) a t r,.cons (ns:=ms) c u r',hf,h=>by
  rw[List.zip_cons_cons]
  rw[HT.lexLt_cons]at h
  refine kat_cons (wpAny_eqBool_int (kat_go (fun e=>?_) fun e=>?_))
  ·rw[if_pos (by simpa using e)]at h
   exact kat_yes (S8 (i+1) r r' (by rw[hf];simp) h)
  ·rw[if_neg (by simpa using e)]at h
   refine kat_no ?_
   by_cases hi:i=0
   ·subst hi
    show wpAny _ _ (oneLt' true _ _) _ _ _
    exact oneLt_int h
   ·have e0:(true && i == 0)=false:=by simpa using hi
    rw[e0]
    exact kat_one _ _ (PyProof.Rows.lt_int h)
def TupKey(h:Heap)(v:Value)(k:List Int):Prop:=∃a o xs m,v=.ref a∧h.get? a=some o∧o.cls=.type "tuple"∧o.data=.seq xs m∧IntsAre xs.toList k∧k≠[]
theorem TupKey.keeps{h h':Heap}{v:Value}{k:List Int}(t:TupKey h v k)(kp:∀a o,h.get? a=some o→h'.get? a=some o):TupKey h' v k:=by
 obtain⟨a,o,xs,m,e,ho,r⟩:=t
 exact⟨a,o,xs,m,e,kp _ _ ho,r⟩
theorem TupKey.lt{v u:Value}{k l:List Int}{C:Bool→Shared→Prop}{E:Value→Shared→Prop}(t:TupKey s.heap v k)(t':TupKey s.heap u l)(h:C (HT.lexLt k l) s):wpAny (model prog w) A (keyLt' (tuples' true) v u) C E s:=by
 obtain⟨a,o,xs,m,rfl,ho,_,hd,hi,_⟩:=t
 obtain⟨a',o',xs',m',rfl,ho',_,hd',hi',_⟩:=t'
 have z1:xs.size=k.length:=by rw[← hi.length];simp
 have z2:xs'.size=l.length:=by rw[← hi'.length];simp
 exact kat_lt ho hd ho' hd' (S8 0 hi hi' (by rw[z1,z2]) h)
def TKs(h:Heap):List Value→List (List Int)→Prop
 | [],[]=>True
 | v::vs,k::ks=>TupKey h v k∧TKs h vs ks
 | _,_=>False
theorem TKs.keeps{h h':Heap}(kp:∀a o,h.get? a=some o→h'.get? a=some o):∀{vs:List Value} {ks:List (List Int)},TKs h vs ks→TKs h' vs ks
 | [],[],_=>trivial
 | [],_::_,t=>t.elim
 | _::_,[],t=>t.elim
 | v::vs,k::ks,t=>⟨t.1.keeps kp,TKs.keeps kp t.2⟩
theorem TKs.len{h:Heap}:∀{vs:List Value} {ks:List (List Int)},TKs h vs ks→vs.length=ks.length
 | [],[],_=>rfl
 | [],_::_,t=>t.elim
 | _::_,[],t=>t.elim
 | v::vs,k::ks,t=>by simp[t.2.len]
theorem TKs.at{h:Heap}:∀{vs:List Value} {ks:List (List Int)} (i:Nat),TKs h vs ks→i<vs.length→TupKey h (vs.getD i Value.none) (ks.getD i [])
 | [],_,i,_,hi=>absurd hi (Nat.not_lt_zero _)
 | _::_,[],_,t,_=>t.elim
 | v::vs,k::ks,0,t,_=>t.1
 | v::vs,k::ks,i+1,t,hi=>TKs.at (vs:=vs) (ks:=ks) i t.2 (by simpa using hi)
end
theorem a3x:bootBuiltins "sorted" = some (.builtin "sorted"):=by decide +kernel
theorem P9:∀ps:List (Int×Tok),IntsAre (ps.map fun p=>Value.int p.1 p.2) (ps.map (·.1))
 | []=>.nil
 | p::ps=>.cons p.1 p.2 (P9 ps)
namespace F'
end F'
open PySem PySem.Spec PyProof.Rows PySem.W
section
variable {X:Cx}
def XAccAt(X:Cx)(σ:St)(E:XK):Prop:=∀(pins:List (Addr×Obj)) (H:Hp) (s:Shared) (a:Addr) (cls:Value) (cx:Option Addr) (B:Heap) (ph:Ph),Inv X pins σ H s→XAt X pins H s a cls cx B ph→E cls cx H→X.xe (.ref a) s
theorem XAccAt.passes{σ:St}{E:XK}(acc:XAccAt X σ E):∀(pins:List (Addr×Obj)) (H:Hp) (s:Shared) (e:Value) (s':Shared),Inv X pins σ H s→l7 X.prog X.w X.stack H s E e s'→X.xe e s':=by
 intro pins H s e s' I h
 obtain⟨a,cls,cx,H',B,rfl,os,bare,un,hok,st,fr,ff,tr,free,cov,hE⟩:=h
 have I':Inv X pins σ H' s':=I.call' (ch:=[]) os un hok bare (fun b z=>absurd z (by simp))
 refine acc pins H' s' a cls cx B .fly I' ⟨free,st,fr,ff,fun b o e i n=>cov b o e ?_ n,tr⟩ hE
 rcases i with i | ⟨hx,o',i⟩ | ⟨p,hp,q⟩
 ·exact .inl i
 ·exact .inr (I.base.there b o' i hx)
 ·exact .inr ⟨p.2,by rw[← q];exact(I.pin p hp).1⟩
end
section
variable {prog:Program}{w:World}{A:Around}{E:Value→Shared→Prop}{s:Shared}{fin:Bool}{Q:Bool→Shared→Prop}
theorem W7{rs rs':List Value}:∀{vs ws:List Value} {ns ms:List Int} (i:Nat),IntsAre vs ns→IntsAre ws ms→ns.length=ms.length→ns≠ms→Q (HT.lexLt ns ms) s→KatLex prog w A true fin Q ((vs++rs).zip (ws++rs')) i s
 | _,_,_,_,i,.nil,.nil,_,hn,_=>absurd rfl hn
 | _,_,_,_,i,.nil,.cons c u t,hf,_,_=>by simp at hf
 | _,_,_,_,i,.cons a t r,.nil,hf,_,_=>by simp at hf
 | _,_,_,_,i,.cons (ns:=ns) a t r,.cons (ns:=ms) c u r',hf,hn,h=>by
  rw[List.cons_append,List.cons_append,List.zip_cons_cons]
  rw[HT.lexLt_cons]at h
  refine kat_cons (wpAny_eqBool_int (kat_go (fun e=>?_) fun e=>?_))
  ·have e':a=c:=by simpa using e
   rw[if_pos e']at h
   exact kat_yes (W7 (i+1) r r' (by simpa using hf) (fun z=>hn (by rw[e',z])) h)
  ·rw[if_neg (by simpa using e)]at h
   refine kat_no ?_
   by_cases hi:i=0
   ·subst hi
    show wpAny _ _ (oneLt' true _ _) _ _ _
    exact oneLt_int h
   ·have e0:(true && i == 0)=false:=by simpa using hi
    rw[e0]
    exact kat_one _ _ (PyProof.Rows.lt_int h)
def TupPre(h:Heap)(v:Value)(k:List Int):Prop:=∃a o xs m vs rs,v=.ref a∧h.get? a=some o∧o.cls=.type "tuple"∧o.data=.seq xs m∧xs.toList=vs++rs∧IntsAre vs k∧k≠[]∧∀u∈xs.toList,(u == u)=true
theorem TupPre.keeps{h h':Heap}{v:Value}{k:List Int}(t:TupPre h v k)(kp:∀a o,h.get? a=some o→h'.get? a=some o):TupPre h' v k:=by
 obtain⟨a,o,xs,m,vs,rs,e,ho,r⟩:=t
 exact⟨a,o,xs,m,vs,rs,e,kp _ _ ho,r⟩
theorem TupPre.lt{v u:Value}{k l:List Int}{C:Bool→Shared→Prop}(t:TupPre s.heap v k)(t':TupPre s.heap u l)(hl:k.length=l.length)(hn:k≠l)(h:C (HT.lexLt k l) s):wpAny (model prog w) A (keyLt' (tuples' true) v u) C E s:=by
 obtain⟨a,o,xs,m,vs,rs,rfl,ho,_,hd,hx,hi,_⟩:=t
 obtain⟨a',o',xs',m',vs',rs',rfl,ho',_,hd',hx',hi',_⟩:=t'
 refine kat_lt ho hd ho' hd' ?_
 rw[hx,hx']
 exact W7 0 hi hi' hl hn h
def TPs(h:Heap):List Value→List (List Int)→Prop
 | [],[]=>True
 | v::vs,k::ks=>TupPre h v k∧TPs h vs ks
 | _,_=>False
theorem TPs.keeps{h h':Heap}(kp:∀a o,h.get? a=some o→h'.get? a=some o):∀{vs:List Value} {ks:List (List Int)},TPs h vs ks→TPs h' vs ks
 | [],[],_=>trivial
 | [],_::_,t=>t.elim
 | _::_,[],t=>t.elim
 | v::vs,k::ks,t=>⟨t.1.keeps kp,TPs.keeps kp t.2⟩
theorem TPs.at{h:Heap}:∀{vs:List Value} {ks:List (List Int)} (i:Nat),TPs h vs ks→i<vs.length→TupPre h (vs.getD i Value.none) (ks.getD i [])
 | [],_,i,_,hi=>absurd hi (Nat.not_lt_zero _)
 | _::_,[],_,t,_=>t.elim
 | v::vs,k::ks,0,t,_=>t.1
 | v::vs,k::ks,i+1,t,hi=>TPs.at (vs:=vs) (ks:=ks) i t.2 (by simpa using hi)
end
theorem a0D{pos:Pos}{a b:Int}{c cv:Value}(l:List Value)(h:TriplesOk l)(e:codeAmong pos (l++[rawInt a,rawInt b,c])=some cv):codeAmong pos l=some cv∨cv=c:=by
 fun_induction TriplesOk l with
 | case1 =>
  simp only[List.nil_append,codeAmong,rawInt]at e
  split at e
  ·exact .inr (Option.some.inj e).symm
  ·cases e
 | case2 a t b u x b7 ih =>
  simp only[List.cons_append,codeAmong]at e ⊢
  split at e
  ·exact .inl (by rename_i z;rw[if_pos z];exact e)
  ·rename_i z;rw[if_neg z];exact ih h e
 | case3=>exact h.elim
def a8Q(oc:Obj)(q:Str):Prop:=∃vs t,oc.data=.fields vs∧vs[1]? = some (.str q t)
section
variable {X:Cx}{pins:List (Addr×Obj)}{σ:St}{H:Hp}{s:Shared}{params:Arguments}{body:Expr}{scope:Scope}{lpos:Pos}{c P:Addr}{q:Str}{tq:Tok}{qs:Array Value}{Q:Value→Shared→Prop}{E:Value→Shared→Prop}
theorem Inv.grown{h':Heap}{tk:Nat}{c':Addr}{oc:Obj}{ps:Array Value}{a b:Int}(I:Inv X pins σ H s)(hT:H P=some (.tbl qs))(hqs:qs[0]? = some (Value.str q tq))(eP:s.heap.get? P=some (tabObj ps))(tr:TriplesOk ps.toList)
  (al:∀pos cv,codeAmong pos ps.toList=some cv→∃c oc u,cv=Value.ref c∧H c=some (.frz oc u)∧∃vs q' t t2,oc.data=.fields vs∧vs[1]? = some (Value.str q' t2)∧qs[0]? = some (Value.str q' t))
  (hx:Heap.ExtBut P s.heap h') (hge:s.heap.objs.size≤c') (hoc:h'.get? c'=some oc) (hq:a8Q oc q) (htb:h'.get? P=some (tabObj (ps ++ #[rawInt a,rawInt b,.ref c']))) :
  Inv X pins σ (upd H c' (.frz oc (.own c'))) { s with heap:=h',toks:=tk }:=by
 have hn:H c'=none:=I.hok.fresh hge
 have neP:∀b',H b'=none→b'≠P:=fun b' n z=>by rw[z,hT]at n;cases n
 refine I.un (t':=tk) ⟨fun b o e n _ _=>hx b o (neP b n) e,fun b o e n _ _=>⟨o.slots,hx b o (neP b n) e⟩,fun b o e n _=>by rw[a8 (Nat.ne_of_lt (Nat.lt_of_lt_of_le (Heap.lt_size e) hge))];exact n,fun b o e _=>?_,fun b xs e=>by rw[a8 (g7 e hn)];exact e,fun b o u e=>by rw[a8 (g7 e hn)];exact e,fun b qs e=>⟨#[],by rw[a8 (g7 e hn),e];simp⟩⟩ fun b u e=>?_
 ·by_cases z:b=P
  ·rw[z];exact⟨_,htb⟩
  ·exact⟨o,hx b o z e⟩
 ·by_cases z:b=c'
  ·subst z
   rw[c7]at e;cases e
   exact⟨hoc,oc,hoc⟩
  ·rw[a8 z]at e
   by_cases y:b=P
   ·subst y
    rw[hT]at e;cases e
    refine⟨_,htb,by rw[Array.toList_append];exact TriplesOk_snoc _ _ _ _ tr,fun pos cv e=>?_⟩
    rw[Array.toList_append]at e
    rcases a0D _ tr e with e | rfl
    ·obtain⟨c,o,u,e1,e2,r⟩:=al pos cv e
     exact⟨c,o,u,e1,by rw[a8 (g7 e2 hn)];exact e2,r⟩
    ·obtain⟨vs,t,d1,d2⟩:=hq
     exact⟨c',oc,.own c',rfl,c7,vs,q,tq,t,d1,d2,hqs⟩
   ·refine(I.hok b u e).stay (fun d v hd r=>hx d v ?_ r) (fun d r=>by rw[a8 (g7 r hn)];exact r) (fun d xs r=>by rw[a8 (g7 r hn)];exact r) fun d o u r=>by rw[a8 (g7 r hn)];exact r
    rcases hd with rfl | hd
    ·exact y
    ·intro z;rw[z,hT]at hd;cases hd
end
section
variable {X:Cx}{pins:List (Addr×Obj)}{σ:St}{H:Hp}{s:Shared}{A':Around}{E:Value→Shared→Prop}
theorem FpOk.to{H':Hp}{b:Addr}(f:FpOk X pins H b)(n:H' b=none):FpOk X pins H' b:=⟨n,f.2⟩
end
def TbAt(P:Addr)(q:Str)(H:Hp):Prop:=∃(qs:Array Value) (t:Tok),H P=some (.tbl qs)∧qs[0]? = some (Value.str q t)
theorem TbAt.now{P:Addr}{q:Str}{fs ex:List Addr}{H H':Hp}{h h':Heap}(t:TbAt P q H)(u:Un fs ex H H' h h'):TbAt P q H':=by
 obtain⟨qs,t,e,e2⟩:=t
 obtain⟨more,e3⟩:=u.tbls _ _ e
 refine⟨_,t,e3,?_⟩
 have h0:0<qs.size:=by
  by_cases z:0<qs.size
  ·exact z
  ·rw[Array.getElem?_eq_none (by omega)]at e2;cases e2
 rw[Array.getElem?_append_left h0];exact e2
def TbAll(TB:List (Addr×Str))(H:Hp):Prop:=∀P q,TB.lookup P=some q→TbAt P q H
theorem TbAll.now{TB:List (Addr×Str)}{fs ex:List Addr}{H H':Hp}{h h':Heap}(t:TbAll TB H)(u:Un fs ex H H' h h'):TbAll TB H':=fun P q e=>(t P q e).now u
end L2
namespace HT
open PySem PyProof.Rows
end HT
namespace L2
open PySem PySem.Spec PyProof.Rows
open PySem.W
def Rise(a:Array Nat):Prop:=a.toList.Pairwise (· < ·)
theorem Rise.lt{a:Array Nat}(h:Rise a){i j:Nat}(hij:i<j)(hj:j<a.size):a.getD i 0<a.getD j 0:=by
 have hi:i<a.size:=Nat.lt_trans hij hj
 have:=List.pairwise_iff_getElem.mp h i j (by simpa using hi) (by simpa using hj) hij
 simpa [Array.getD,hi,hj]using this
theorem T8(xs:Array Nat)(j:Nat)(hr:Rise xs):∀(fuel lo hi:Nat),hi-lo≤fuel→lo≤hi→hi≤xs.size→(∀i,i<lo→xs.getD i 0<j)→(∀i,hi≤i→i<xs.size→j≤xs.getD i 0) →
  SetTable.below.go xs j fuel lo hi≤xs.size∧(∀i,i<SetTable.below.go xs j fuel lo hi→xs.getD i 0<j)∧(∀i,SetTable.below.go xs j fuel lo hi≤i→i<xs.size→j≤xs.getD i 0)
 | 0,lo,hi,hf,hl,hs,h1,h2=>by
  rw[SetTable.below.go.eq_def]
  exact⟨by show lo≤_;omega,h1,fun i hi' hi2=>h2 i (by have:lo≤i:=hi';omega) hi2⟩
 | fuel+1,lo,hi,hf,hl,hs,h1,h2=>by
  rw[SetTable.below.go.eq_def]
  show(if lo<hi then(if xs.getD ((lo+hi)/2) j<j then SetTable.below.go xs j fuel ((lo+hi)/2+1) hi else SetTable.below.go xs j fuel lo ((lo+hi)/2))else lo)≤xs.size∧(∀i,i<(if lo<hi then(if xs.getD ((lo+hi)/2) j<j then SetTable.below.go xs j fuel ((lo+hi)/2+1) hi else SetTable.below.go xs j fuel lo ((lo+hi)/2))else lo)→xs.getD i 0<j)∧(∀i,(if lo<hi then(if xs.getD ((lo+hi)/2) j<j then SetTable.below.go xs j fuel ((lo+hi)/2+1) hi else SetTable.below.go xs j fuel lo ((lo+hi)/2))else lo)≤i→i<xs.size→j≤xs.getD i 0)
  by_cases c:lo<hi
  ·rw[if_pos c]
   have hm:(lo+hi)/2<xs.size:=by omega
   have e:xs.getD ((lo+hi)/2) j=xs.getD ((lo+hi)/2) 0:=by simp[Array.getD,hm]
   by_cases c2:xs.getD ((lo+hi)/2) j<j
   ·rw[if_pos c2]
    refine T8 xs j hr fuel _ hi (by omega) (by omega) hs (fun i hi'=>?_) h2
    by_cases z:i=(lo+hi)/2
    ·rw[z,← e];exact c2
    ·have:=hr.lt (i:=i) (j:=(lo+hi)/2) (by omega) hm
     omega
   ·rw[if_neg c2]
    refine T8 xs j hr fuel lo _ (by omega) (by omega) (by omega) h1 (fun i hi' hi2=>?_)
    by_cases z:i=(lo+hi)/2
    ·rw[z,← e];omega
    ·have:=hr.lt (i:=(lo+hi)/2) (j:=i) (by omega) hi2
     omega
  ·rw[if_neg c]
   exact⟨by omega,h1,fun i hi' hi2=>h2 i (by omega) hi2⟩
theorem a04{xs:Array Nat}(j:Nat)(hr:Rise xs):SetTable.below xs j≤xs.size∧(∀i,i<SetTable.below xs j→xs.getD i 0<j)∧(∀i,SetTable.below xs j≤i→i<xs.size→j≤xs.getD i 0) :=
 T8 xs j hr xs.size 0 xs.size (by omega) (by omega) (Nat.le_refl _) (fun i h=>by omega) (fun i h h2=>by omega)
theorem a4A{xs:Array Nat}{j p:Nat}(hr:Rise xs)(hp:p≤xs.size)(h1:∀i,i<p→xs.getD i 0<j)(h2:∀i,p≤i→i<xs.size→j≤xs.getD i 0):SetTable.below xs j=p:=by
 obtain⟨a,b,c⟩:=a04 j hr
 by_cases z:SetTable.below xs j<p
 ·have:=h1 _ z
  have:=c _ (Nat.le_refl _) (by omega)
  omega
 ·by_cases z2:p<SetTable.below xs j
  ·have:=b _ z2
   have:=h2 _ (Nat.le_refl _) (by omega)
   omega
  ·omega
theorem a4B{t:SetTable}{j:Nat}(hr:Rise t.place)(hj:(t.place[SetTable.below t.place j]? == some j)=false):Rise (t.put j).1.place:=by
 obtain⟨a,b,c⟩:=a04 j hr
 show(SetTable.insertAt t.place (SetTable.below t.place j) j).toList.Pairwise (· < ·)
 rw[SetTable.toList_insertAt,List.pairwise_append]
 have hn:∀i,SetTable.below t.place j≤i→i<t.place.size→j<t.place.getD i 0:=by
  intro i h1 h2
  have h3:=c i h1 h2
  by_cases z:t.place.getD i 0=j
  ·exfalso
   have:i=SetTable.below t.place j:=by
    by_cases q:SetTable.below t.place j<i
    ·have:=hr.lt q h2
     have:=c (SetTable.below t.place j) (Nat.le_refl _) (by omega)
     omega
    ·omega
   rw[← this]at hj
   have e:t.place[i]? = some j:=by rw[Array.getElem?_eq_getElem h2];congr 1;simpa [Array.getD,h2]using z
   rw[e]at hj
   simp at hj
  ·omega
 have mt:∀x∈t.place.toList.take (SetTable.below t.place j),x<j:=by
  intro x hx
  obtain⟨i,hi,e⟩:=List.getElem_of_mem hx
  rw[List.length_take]at hi
  rw[List.getElem_take]at e
  have hi3:t.place.toList.length=t.place.size:=by simp
  have hi2:i<t.place.size:=by omega
  have:=b i (by omega)
  simp[Array.getD,hi2]at this
  simp at e
  omega
 have md:∀x∈t.place.toList.drop (SetTable.below t.place j),j<x:=by
  intro x hx
  obtain⟨i,hi,e⟩:=List.getElem_of_mem hx
  rw[List.length_drop]at hi
  rw[List.getElem_drop]at e
  have hi3:t.place.toList.length=t.place.size:=by simp
  have hi2:SetTable.below t.place j+i<t.place.size:=by omega
  have:=hn (SetTable.below t.place j+i) (by omega) hi2
  simp[Array.getD,hi2]at this
  simp at e
  omega
 refine⟨List.Pairwise.sublist (List.take_sublist _ _) hr,List.pairwise_cons.mpr ⟨md,List.Pairwise.sublist (List.drop_sublist _ _) hr⟩,fun x hx y hy=>?_⟩
 rcases List.mem_cons.mp hy with rfl | hy
 ·exact mt x hx
 ·have:=mt x hx
  have:=md y hy
  omega
structure TbR(led:Bool)(t:SetTable):Prop where
 rise:Rise t.place
 dum:t.dummies = #[]
 led:t.led=led
theorem TbR.standIn{led:Bool}{t:SetTable}(T:TbR led t)(n:Nat):TbR led (t.standIn n):=by
 refine⟨?_,rfl,T.led⟩
 show(Array.range n).toList.Pairwise (· < ·)
 rw[Array.toList_range]
 exact List.pairwise_lt_range
theorem TbR.orStandIn{led:Bool}{t:SetTable}(T:TbR led t)(n:Nat):TbR led (t.orStandIn n):=by
 unfold SetTable.orStandIn
 split
 ·exact T
 ·exact T.standIn n
theorem a15(j:Nat):SetTable.has #[] j=false:=by
 unfold SetTable.has
 simp
theorem a05{t:SetTable}(hd:t.dummies = #[])(ha:Nat→Int)(h:Int):∀(fuel:Nat) (p:SetTable.Probe),p.dummy=none→∀j d,SetTable.probe.go t ha h fuel p=some (.empty j d)→d=none∧(t.place[SetTable.below t.place j]? == some j)=false
 | 0,p,_,j,d,e=>by rw[SetTable.probe.go.eq_def]at e;cases e
 | fuel+1,p,hp,j,d,e=>by
  rw[SetTable.probe.go.eq_def]at e
  have adv:(t.advance p).dummy=none:=by
   unfold SetTable.advance
   split
   ·exact hp
   ·exact hp
  have e:(match t.slot p.j with
   | SetTable.Slot.empty=>some (SetTable.Met.empty p.j p.dummy)
   | SetTable.Slot.dummy=>SetTable.probe.go t ha h fuel (t.advance { j:=p.j,more:=p.more,i:=p.i,perturb:=p.perturb,dummy:=some p.j })
   | SetTable.Slot.live i=>if(ha i == h)=true then some (SetTable.Met.candidate p.j i (t.advance p))else SetTable.probe.go t ha h fuel (t.advance p))=some (.empty j d):=e
  split at e
  ·rename_i hs
   injection e with e
   injection e with e1 e2
   subst e1
   refine⟨by rw[← e2];exact hp,?_⟩
   unfold SetTable.slot at hs
   by_cases z:(t.place[SetTable.below t.place p.j]? == some p.j)=true
   ·rw[if_pos z]at hs;cases hs
   ·simpa using z
  ·rename_i hs
   exfalso
   unfold SetTable.slot at hs
   rw[hd,a15]at hs
   by_cases z:(t.place[SetTable.below t.place p.j]? == some p.j)=true
   ·rw[if_pos z]at hs;cases hs
   ·rw[if_neg z,if_neg (by decide)]at hs;cases hs
  ·split at e
   ·cases e
   ·exact a05 hd ha h fuel _ adv j d e
theorem a3y{led:Bool}{t:SetTable}(T:TbR led t)(es:Array (Int×Value))(h:Int)(x:Value):TbR led (layNew t es h x).2.1:=by
 unfold layNew
 cases e:t.freeSlot h with
 | none=>exact T.standIn _
 | some q =>
  obtain⟨slot,wd⟩:=q
  show TbR led ((t.put slot).1.orStandIn _)
  refine TbR.orStandIn (t:=(t.put slot).1) ⟨?_,?_,T.led⟩ _
  ·unfold SetTable.freeSlot at e
   split at e
   ·rename_i j d hp
    obtain⟨h1,h2⟩:=a05 T.dum _ h _ (t.probeStart h) rfl j d hp
    subst h1
    injection e with e
    injection e with e1 e2
    have e1:j=slot:=e1
    subst e1
    exact a4B T.rise h2
   ·cases e
  ·show(if SetTable.has t.dummies slot=true then _ else t.dummies) = #[]
   rw[T.dum,a15]
   rfl
theorem a1E{led:Bool}{t:SetTable}(T:TbR led t)(es:Array (Int×Value))(wanted:Nat):TbR led (relayAll t es wanted).2.1:=by
 unfold relayAll
 cases e:t.relaid (Array.map (fun x=>x.fst) es) wanted with
 | none=>exact T.standIn _
 | some q =>
  obtain⟨t',order⟩:=q
  show TbR led (if _ then _ else _:_×_×_).2.1
  split
  ·show TbR led t'
   unfold SetTable.relaid SetTable.laid at e
   cases e2:SetTable.layClean (SetTable.sizeAbove wanted-1) (Array.map (fun x=>x.fst) es)with
   | none=>rw[e2]at e;cases e
   | some owner =>
    rw[e2]at e
    have e:=Option.some.inj e
    injection e with e1 e3
    rw[← e1]
    refine⟨?_,rfl,T.led⟩
    show(List.map (fun x=>x.fst) (List.filterMap (fun j=>Option.map (fun x=>(j,x)) (owner.getD j none)) (List.range (SetTable.sizeAbove wanted-1+1)))).toArray.toList.Pairwise (· < ·)
    rw[List.toList_toArray,List.pairwise_map]
    refine List.Pairwise.filterMap _ (R:=(· < ·)) ?_ List.pairwise_lt_range
    intro a b hab x hx y hy
    cases ea:owner.getD a none with
    | none=>simp[ea]at hx
    | some u=>cases eb:owner.getD b none with
     | none=>simp[eb]at hy
     | some v =>
      simp[ea]at hx
      simp[eb]at hy
      subst hx;subst hy
      exact hab
  ·exact T.standIn _
def t7(e:Int×Value):Int:=match e.2 with
 | .int k _=>k
 | _=>0
def W8(e:Int×Value):Prop:=∃k t,e=(hashInt k,Value.int k t)
structure SetR(w:World)(h:Heap)(a:Addr)(L:List Int):Prop where
 ex:∃o es ep t,h.get? a=some o∧o.ExactSet∧o.data=.set es ep t∧(∀e∈es.toList,W8 e)∧(es.toList.map t7).Nodup∧(∀k,k∈es.toList.map t7↔k∈L)∧es.size<scanBound∧t.fits es.size=true∧TbR (!w.params.followText "set-order") t
section
variable {prog:Program}{w:World}{A:Around}{E:Value→Shared→Prop}{s:Shared}
theorem J0(k:Int)(t:Tok):Value.isInt k (.int k t)=true:=by simp[Value.isInt]
theorem a3z{k j:Int}{t:Tok}:Value.isInt k (.int j t)=true↔j=k:=by
 constructor
 ·intro h;simp[Value.isInt]at h;exact h
 ·rintro rfl;exact J0 _ _
theorem T9{es:List (Int×Value)}(h:∀e∈es,W8 e):ElemsOf (intKind prog w) es:=by
 intro e he
 obtain⟨k,t,rfl⟩:=h e he
 exact⟨⟨k,J0 k t,rfl⟩,rfl⟩
theorem a6b{es:List (Int×Value)}(h:∀e∈es,W8 e)(k:Int):(∃j,List.findIdx? (fun e=>Value.isInt k e.snd) es=some j∧k∈es.map t7)∨(List.findIdx? (fun e=>Value.isInt k e.snd) es=none∧k ∉ es.map t7):=by
 have hi:∀e∈es,(Value.isInt k e.snd=true↔t7 e=k):=by
  intro e he
  obtain⟨j,t,rfl⟩:=h e he
  exact a3z
 cases e:List.findIdx? (fun e=>Value.isInt k e.snd) es with
 | none =>
  refine .inr ⟨rfl,fun m=>?_⟩
  obtain⟨x,hx,hk⟩:=List.mem_map.mp m
  rw[List.findIdx?_eq_none_iff]at e
  have:=e x hx
  rw[(hi x hx).mpr hk]at this
  cases this
 | some j =>
  refine .inl ⟨j,rfl,?_⟩
  rw[List.findIdx?_eq_some_iff_getElem]at e
  obtain⟨h1,h2,_⟩:=e
  exact List.mem_map.mpr ⟨es[j],List.getElem_mem h1,(hi _ (List.getElem_mem h1)).mp h2⟩
theorem a0q(prog:Program)(w:World){h:Heap}{a:Addr}{o:Obj}{es es':Array (Int×Value)}{ep:Nat}{t t':SetTable}(ho:h.get? a=some o)(hx:o.ExactSet)(hd:o.data=.set es ep t)(hI:∀e∈es'.toList,W8 e)(hs:es'.size<scanBound)(hf:t'.fits es'.size=true) :
  (h.update a (Obj.putSet es' t')).get? a=some { cls:=o.cls,dict:=o.dict,data:=.set es' (ep+1) t',slots:=o.slots }:=by
 classical
 exact(SetOf_store (knd:=intKind prog w) ho hx hd (S':=fun k=>decide (∃e,e∈es'.toList∧(intKind prog w).is k e.snd=true)) (T9 hI) (fun k=>decide_eq_true_iff) hs hf).1
theorem a4C{g:Bool→Sem Unit}(hg:∀b s₁ (Q':Unit→Shared→Prop),Q' () s₁→wpAny (model prog w) A (g b) Q' E s₁){a:Addr}{L:List Int}{k:Int}{u:Tok}{o:Obj}{es es1:Array (Int×Value)}{ep:Nat}{t t1:SetTable}{wd gave:Bool}{R:Option Bool→Shared→Prop}
  (ho:s.heap.get? a=some o) (hx:o.ExactSet) (hd:o.data=.set es ep t) (hI1:∀e∈es1.toList,W8 e) (hN1:(es1.toList.map t7).Nodup) (hL1:∀k',k'∈es1.toList.map t7↔k'∈L) (hs1:es1.size<scanBound) (hfit:t1.fits es1.size=true) (T1:TbR (!w.params.followText "set-order") t1)
  (fin1:∀h1,Heap.SameBut a s.heap h1→SetR w h1 a L→R (some true) { s with heap:=h1 }) :
  wpAny (model prog w) A (do
   g gave
   if t1.plain=true then do
    let byValue ← hashByValue 8 (.int k u)
    storeSet a es1 (if byValue=true then t1 else{ t1 with plain:=false })
    if(!wd && (if byValue=true then t1 else{ t1 with plain:=false }).tooFull)=true then do
     g (relayAll (if byValue=true then t1 else{ t1 with plain:=false }) es1 (SetTable.grown es1.size)).2.2
     storeSet a (relayAll (if byValue=true then t1 else{ t1 with plain:=false }) es1 (SetTable.grown es1.size)).1 (relayAll (if byValue=true then t1 else{ t1 with plain:=false }) es1 (SetTable.grown es1.size)).2.1
     pure (some true)
    else pure (some true)
   else do
    let byValue ← pure true
    storeSet a es1 (if byValue=true then t1 else{ t1 with plain:=false })
    if(!wd && (if byValue=true then t1 else{ t1 with plain:=false }).tooFull)=true then do
     g (relayAll (if byValue=true then t1 else{ t1 with plain:=false }) es1 (SetTable.grown es1.size)).2.2
     storeSet a (relayAll (if byValue=true then t1 else{ t1 with plain:=false }) es1 (SetTable.grown es1.size)).1 (relayAll (if byValue=true then t1 else{ t1 with plain:=false }) es1 (SetTable.grown es1.size)).2.1
     pure (some true)
    else pure (some true)) R E s:=by
 have hsl:es1.size≤sizeLine:=fits_of_scanBound hs1
 have b7:wpAny (model prog w) A (do
    storeSet a es1 t1
    if(!wd && t1.tooFull)=true then do
     g (relayAll t1 es1 (SetTable.grown es1.size)).2.2
     storeSet a (relayAll t1 es1 (SetTable.grown es1.size)).1 (relayAll t1 es1 (SetTable.grown es1.size)).2.1
     pure (some true)
    else pure (some true)) R E s:=by
  refine wpAny_bind (wpAny_storeSet_of ho hd ?_ hsl)
  have g1:=a0q prog w ho hx hd hI1 hs1 hfit
  have x1:(Obj.mk o.cls o.dict (.set es1 (ep+1) t1) o.slots).ExactSet:=hx
  have sm1:=Heap.SameBut.update s.heap a (Obj.putSet es1 t1)
  by_cases c:(!wd && t1.tooFull)=true
  ·rw[if_pos c]
   have hp2:=relayAll_perm t1 es1 (SetTable.grown es1.size)
   have hf2:=relayAll_fits t1 es1 (SetTable.grown es1.size)
   have T2:=a1E T1 es1 (SetTable.grown es1.size)
   generalize relayAll t1 es1 (SetTable.grown es1.size)=q2 at *
   obtain⟨es2,t2,gave2⟩:=q2
   have hp2:es2.toList.Perm es1.toList:=hp2
   have hI2:∀e∈es2.toList,W8 e:=fun e he=>hI1 e (hp2.mem_iff.mp he)
   have hz2:es2.size=es1.size:=by have:=hp2.length_eq;simpa using this
   have hpk2:=hp2.map t7
   refine wpAny_bind (hg _ _ _ ?_)
   refine wpAny_bind (wpAny_storeSet_of g1 rfl ?_ (by show es2.size≤_;rw[hz2];exact hsl))
   refine wpAny_pure ?_
   have g2:=a0q prog w g1 x1 rfl hI2 (by rw[hz2];exact hs1) hf2
   have sm2:=Heap.SameBut.update (s.heap.update a (Obj.putSet es1 t1)) a (Obj.putSet es2 t2)
   exact fin1 _ ⟨sm2.1.trans sm1.1,fun b hb=>(sm2.2 b hb).trans (sm1.2 b hb)⟩ ⟨_,es2,_,t2,g2,x1,rfl,hI2,hpk2.nodup_iff.mpr hN1,fun k'=>(hpk2.mem_iff).trans (hL1 k'),by rw[hz2];exact hs1,hf2,T2⟩
  ·rw[if_neg c]
   exact wpAny_pure (fin1 _ sm1 ⟨_,es1,_,t1,g1,x1,rfl,hI1,hN1,hL1,hs1,hfit,T1⟩)
 refine wpAny_bind (hg _ _ _ ?_)
 split
 ·refine wpAny_bind ?_
  rw[hashByValue.eq_3 8 k u]
  exact wpAny_pure b7
 ·exact wpAny_bind (wpAny_pure b7)
theorem a8R{a:Addr}{L:List Int}{k:Int}{u:Tok}{Q:Bool→Shared→Prop}(S:SetR w s.heap a L)(hn:∀es:List Int,es.Nodup→(∀k,k∈es↔k∈L)→es.length+1<scanBound)
  (h:∀h' b,Heap.SameBut a s.heap h'→SetR w h' a (L++[k])→Q b { s with heap:=h' }):wpAny (model prog w) A (setAddHashed a (.int k u) (hashInt k)) Q E s:=by
 obtain⟨o,es,ep,t,ho,hx,hd,hI,hN,hL,hs,hf,T⟩:=S.ex
 have hlen:es.size+1<scanBound:=by
  have:=hn _ hN hL
  simpa using this
 unfold setAddHashed
 refine wpAny_holding ?_
 rw[setAddHashedIn.eq_def]
 show wpAny _ _ (setState a >>= _) _ _ _
 refine wpAny_bind (wpAny_setState_of ho hd hf ?_)
 show wpAny _ _ (if byScan (.int k u) es=true then _ else _) _ _ _
 rw[if_pos (byScan_of (knd:=intKind prog w) rfl hs (T9 hI))]
 refine wpAny_bind ?_
 unfold setAddByScan
 refine wpAny_bind (wpAny_rule ?_)
 refine wpAny_bind (wpAny_setScan_of (knd:=intKind prog w) (k:=k) (J0 k u) ho hd hf (T9 hI) ?_)
 have hsame:Heap.SameBut a s.heap s.heap:=⟨rfl,fun b _=>rfl⟩
 rcases a6b hI k with⟨j,e,m⟩ | ⟨e,m⟩
 ·have e:List.findIdx? (fun e=>(intKind prog w).is k e.snd) es.toList=some j:=e
  rw[e]
  show wpAny _ _ (pure (some false)) _ _ _
  refine wpAny_pure ?_
  show wpAny _ _ (pure false) _ _ _
  refine wpAny_pure ?_
  refine h s.heap false hsame ⟨o,es,ep,t,ho,hx,hd,hI,hN,fun k'=>?_,hs,hf,T⟩
  rw[hL k',List.mem_append,List.mem_singleton]
  constructor
  ·exact .inl
  ·rintro(z | rfl)
   ·exact z
   ·exact(hL _).mp m
 ·have e:List.findIdx? (fun e=>(intKind prog w).is k e.snd) es.toList=none:=e
  rw[e]
  have hp:=layNew_perm t es (hashInt k) (.int k u)
  have hfit:=layNew_fits t es (hashInt k) (.int k u)
  have T1:=a3y T es (hashInt k) (.int k u)
  dsimp only
  generalize layNew t es (hashInt k) (.int k u)=q at *
  obtain⟨es1,t1,wd,gave⟩:=q
  have hI1:∀e∈es1.toList,W8 e:=fun e he=>by
   have:=(hp.mem_iff (a:=e)).mp he
   rw[Array.toList_push,List.mem_append,List.mem_singleton]at this
   rcases this with z | rfl
   ·exact hI e z
   ·exact⟨k,u,rfl⟩
  have hpk:(es1.toList.map t7).Perm (es.toList.map t7++[k]):=by
   have:=hp.map t7
   rw[Array.toList_push,List.map_append]at this
   exact this
  have hN1:(es1.toList.map t7).Nodup:=by
   rw[hpk.nodup_iff,List.nodup_append]
   exact⟨hN,by simp,fun x hx y hy=>by rw[List.mem_singleton.mp hy];rintro rfl;exact m hx⟩
  have hL1:∀k',k'∈es1.toList.map t7↔k'∈L++[k]:=fun k'=>by
   rw[hpk.mem_iff,List.mem_append,List.mem_append,hL k']
  have hz:es1.size=es.size+1:=by
   have:=hp.length_eq
   simpa using this
  have hs1:es1.size<scanBound:=by omega
  refine a4C (fun b s₁ Q' q=>?_) ho hx hd hI1 hN1 hL1 hs1 hfit T1 fun h1 sm z=>wpAny_pure (h h1 true sm z)
  cases b with
  | true=>exact wpAny_rule q
  | false=>exact wpAny_pure q
end
theorem U0:∀(es L:List Int),es.Nodup→(∀x∈es,x∈L)→es.length≤L.length
 | [],L,_,_=>Nat.zero_le _
 | x::es,L,h,m=>by
  rw[List.nodup_cons]at h
  have hx:=m x List.mem_cons_self
  have:=U0 es (L.erase x) h.2 fun y hy=>(List.mem_erase_of_ne (show y≠x from fun z=>h.1 (by rw[← z];exact hy))).mpr (m y (List.mem_cons_of_mem _ hy))
  rw[List.length_erase_of_mem hx]at this
  have:0<L.length:=List.length_pos_of_mem hx
  rw[List.length_cons]
  omega
section
variable {prog:Program}{w:World}{A:Around}{E:Value→Shared→Prop}{s:Shared}
theorem SetR.frame{h h':Heap}{a:Addr}{L:List Int}(S:SetR w h a L)(e:∀o,h.get? a=some o→h'.get? a=some o):SetR w h' a L:=by
 obtain⟨o,es,ep,t,ho,r⟩:=S.ex
 exact⟨o,es,ep,t,e o ho,r⟩
theorem a4D{a:Addr}{L:List Int}{k:Int}{u:Tok}{Q:Bool→Shared→Prop}(S:SetR w s.heap a L)(hn:L.length+1<scanBound)
  (h:∀h' b,Heap.SameBut a s.heap h'→SetR w h' a (L++[k])→Q b { s with heap:=h',toks:=s.toks+1 }):wpAny (model prog w) A (setAdd a (.int k u)) Q E s:=by
 unfold setAdd
 refine wpAny_holding ?_
 refine wpAny_bind ((intKind prog w).pyHash (k:=k) (J0 k u) ?_)
 refine a8R (s:={ s with toks:=s.toks+1 }) S (fun es hN hL=>?_) h
 have:=U0 es L hN fun x hx=>(hL x).mp hx
 omega
theorem a4E{R:Result→Shared→Prop}{I:Addr}{fp wr:List Addr}{G:Array GenState→Array GenState→Prop}{n:Nat}{P:Nat→Value→Prop}{St:Nat→Shared→Prop}(W:WalksS prog w A.in1 I fp wr G n P St)(S:Addr)(hS:S ∉ fp)(val:Nat→Int)(hv:∀i v,P i v→∃t,v=Value.int (val i) t)(hn:n+1<scanBound) :
  ∀(k i:Nat) (s:Shared),n-i=k→i≤n→St i s→SetR w s.heap S ((List.range i).map val)→(∀s',Moved (S::wr) G s s'→SetR w s'.heap S ((List.range n).map val)→R (.ok (.ret .none)) s') →
   codeAny (model prog w) A (.builtin "set.update.loop" ⟨[.ref S,.ref I],[]⟩) R s:=by
 intro k
 induction k with
 | zero =>
  intro i s hk hi st SR fin
  have e:i=n:=by omega
  subst e
  refine codeAny_builtin F.entry_set_update_loop ?_
  rw[Around.under_plainId F.plain_set_update_loop _]
  show wpAny _ A.in1 (pyNext (.ref I) >>= _) _ _ _
  refine wpAny_bind (W.done s _ _ st fun s' mv=>?_)
  refine wpAny_pure (fin s' ⟨fun b o hb e=>mv.heap b o (fun z=>hb (List.mem_cons_of_mem _ z)) e,mv.gens,mv.drawn,mv.os,mv.toks⟩ (SR.frame fun o e=>mv.heap S o (fun z=>hS (W.sub S z)) e))
 | succ k ih =>
  intro i s hk hi st SR fin
  refine codeAny_builtin F.entry_set_update_loop ?_
  rw[Around.under_plainId F.plain_set_update_loop _]
  show wpAny _ A.in1 (pyNext (.ref I) >>= _) _ _ _
  refine wpAny_bind (W.item i s _ _ (by omega) st fun v s' pv st' mv=>?_)
  obtain⟨t,rfl⟩:=hv i v pv
  refine wpAny_bind (wpAny_holding (a4D (L:=(List.range i).map val) (SR.frame fun o e=>mv.heap S o (fun z=>hS (W.sub S z)) e) (by rw[List.length_map,List.length_range];omega) fun h' b sm SR'=>?_))
  refine wpAny_pure ⟨plainId_quiet F.plain_set_update_loop _,ih (i+1) _ (by omega) (by omega) (W.frame (i+1) s' h' (s'.toks+1) st' (Nat.le_succ _) fun b hb o e=>(sm.2 b (fun z=>hS (z▸hb))).trans e) ?_ fun s'' mv2 SR2=>fin s'' ⟨fun b o hb e=>?_,W.gtrans _ _ _ mv.gens mv2.gens,mv2.drawn.trans mv.drawn,mv2.os.trans mv.os,Nat.le_trans mv.toks (Nat.le_trans (Nat.le_succ _) mv2.toks)⟩ SR2⟩
  ·rw[List.range_succ,List.map_append]
   exact SR'
  ·refine mv2.heap b o hb ((sm.2 b fun z=>hb (z▸List.mem_cons_self)).trans (mv.heap b o (fun z=>hb (List.mem_cons_of_mem _ z)) e))
theorem U1(a:Value){Q₁:Value→Shared→Prop}(h:Q₁ (.ref s.heap.objs.size) { s with heap:=s.heap.push { cls:=.type "set",data:=.set #[] 0 (SetTable.fresh 0 0 (!w.params.followText "set-order")) } }) :
  codeAny (model prog w) A (.call (.builtin "set.__new__") ⟨[.type "set",a],[]⟩) (wants Q₁ E) s:=by
 refine codeAny_call_builtin F.plain_set_new F.entry_set_new ?_
 rw[F.newCall_set_1 a]
 refine wpAny_pure ?_
 show wpAny _ _ (Builtin.Frozenset.newClass "set" ⟨[.type "set",a],[]⟩ >>= _) _ _ _
 refine wpAny_bind ?_
 unfold Builtin.Frozenset.newClass
 dsimp only
 refine wpAny_bind (m:=PySem.isType (.type "set")) (wpAny_pure ?_)
 rw[if_neg (by decide)]
 refine wpAny_bind ?_
 rw[sub_set_self]
 refine wpAny_pure ?_
 rw[if_neg (by decide)]
 refine wpAny_pure ?_
 refine wpAny_bind ?_
 show wpAny _ _ (newSet (.type "set")) _ _ _
 unfold newSet setsByText
 refine wpAny_bind ?_
 refine wpAny_bind (wpAny_askSetting ?_)
 refine wpAny_pure ?_
 refine wpAny_newObj_type ?_
 exact wpAny_pure h
theorem a2H{a l:Addr}{items:Array Value}{ns:List Int}{R:PySem.Fin→Shared→Prop}{E':Value→Shared→Prop}(hh:A.handled=none)(hl:s.heap.IsList l items)(hi:IntsAre items.toList ns)(hn:items.size+1<scanBound)(hal:a≠l)
  (ho:s.heap.get? a=some { cls:=.type "set",data:=.set #[] 0 (SetTable.fresh 0 0 (!w.params.followText "set-order")) })
  (h:∀s',SetR w s'.heap a ns→(∀b o,b≠a→s.heap.get? b=some o→s'.heap.get? b=some o)→s'.gens=s.gens→s'.drawn=s.drawn→s'.os=s.os→R (.done (.ret .none)) s') :
  wpAny (model prog w) A (Builtin.«set.__init__» ⟨[.ref a,.ref l],[]⟩) R E' s:=by
 have tset:s.TypeIs (.ref a) "set" := ⟨_,ho,rfl⟩
 have tlst:s.TypeIs (.ref l) "list" := by obtain⟨o,h1,h2,_⟩:=hl;exact⟨o,h1,h2⟩
 have hfit:(SetTable.fresh 0 0 (!w.params.followText "set-order")).fits (#[]:Array (Int×Value)).size=true:=by
  show(SetTable.fits _ 0)=true
  rw[SetTable.fits.eq_1]
  rfl
 unfold Builtin.«set.__init__»
 refine wpAny_bind (m:=noKeywords "set" _) (wpAny_pure ?_)
 dsimp only
 refine wpAny_bind ?_
 unfold typeNameOfCut shownTypeOf
 refine wpAny_bind ?_
 refine wpAny_bind (wpAny_typeOf tset ?_)
 rw[if_neg (by decide)]
 refine wpAny_pure ?_
 refine wpAny_pure ?_
 refine wpAny_bind (m:=checkCount _ 0 1 _) (wpAny_pure ?_)
 refine wpAny_bind (m:=Builtin.Frozenset.addrOf _) (wpAny_pure ?_)
 refine wpAny_bind ?_
 unfold setUsed
 refine wpAny_bind (wpAny_setState_of ho rfl hfit ?_)
 refine wpAny_pure ?_
 refine wpAny_ite_false rfl ?_
 refine wpAny_bind ?_
 unfold Builtin.Frozenset.updateFrom
 refine wpAny_bind ?_
 unfold Builtin.Frozenset.isAnySet
 refine wpAny_bind (wpAny_isInstance tlst F.sub_list_set ?_)
 show wpAny _ _ (PySem.isInstance (.ref l) (.type "frozenset")) _ _ _
 refine wpAny_isInstance tlst F.sub_list_frozenset ?_
 rw[if_neg (by decide)]
 refine wpAny_bind (wpAny_typeOf tlst ?_)
 rw[if_neg (by decide)]
 refine wpAny_bind (wpAny_pyIter_list hl ?_)
 refine wpAny_bind (wpAny_runValue ?_)
 have hI:s.heap.objs.size≠l:=by
  obtain⟨o,h1,_⟩:=hl
  exact Nat.ne_of_gt (Heap.lt_size h1)
 have hIa:s.heap.objs.size≠a:=Nat.ne_of_gt (Heap.lt_size ho)
 have W:=(Walks.list (prog:=prog) (w:=w) (A:=A.in1) hh s.heap.objs.size l (Ne.symm hI) items).toS
 refine a4E W a (by simp[Ne.symm hIa,hal]) (fun i=>ns.getD i 0) (fun i v e=>hi.int_at i v (by simpa using e)) hn items.size 0 _ rfl (Nat.zero_le _) ⟨?_,?_⟩ ?_ fun s' mv SR=>?_
 ·exact⟨_,Heap.get?_push_size _ rfl,rfl,rfl⟩
 ·exact hl.push _
 ·refine⟨_,#[],0,_,Heap.get?_push_of_some _ ho,⟨rfl,rfl,rfl⟩,rfl,fun e he=>absurd he (by simp),by simp,fun k=>by simp,by decide,hfit,⟨by simp[SetTable.fresh,Rise],rfl,rfl⟩⟩
 ·refine wpAny_pure ?_
  refine wpAny_pure (h s' ?_ (fun b o hb e=>mv.heap b o (by simp[hb];exact Nat.ne_of_lt (Heap.lt_size e)) (Heap.get?_push_of_some _ e)) mv.gens mv.drawn mv.os)
  have e:(List.range items.size).map (fun i=>ns.getD i 0)=ns:=by
   have hlen:items.size=ns.length:=by
    have:∀{vs:List Value} {ns:List Int},IntsAre vs ns→vs.length=ns.length:=by
     intro vs ns h
     induction h with
     | nil=>rfl
     | cons n t _ ih=>simp[ih]
    simpa using this hi
   rw[hlen]
   apply List.ext_getElem
   ·simp
   ·intro i h1 h2
    simp[h2]
  rw[← e]
  exact SR
theorem a2I{l:Addr}{items:Array Value}{ns:List Int}{Q:Value→Shared→Prop}(hh:A.handled=none)(hl:s.heap.IsList l items)(hi:IntsAre items.toList ns)(hn:items.size+1<scanBound)
  (h:∀s',SetR w s'.heap s.heap.objs.size ns→(∀b o,s.heap.get? b=some o→s'.heap.get? b=some o)→s'.gens=s.gens→s'.drawn=s.drawn→s'.os=s.os→Q (.ref s.heap.objs.size) s') :
  wpAny (model prog w) A (call (.type "set") [.ref l]) Q E s:=by
 have ho:(s.heap.push { cls:=.type "set",data:=.set #[] 0 (SetTable.fresh 0 0 (!w.params.followText "set-order")) }).get? s.heap.objs.size=some { cls:=.type "set",data:=.set #[] 0 (SetTable.fresh 0 0 (!w.params.followText "set-order")) }:=Heap.get?_push_size _ rfl
 have hne:s.heap.objs.size≠l:=by
  obtain⟨o,h1,_⟩:=hl
  exact Nat.ne_of_gt (Heap.lt_size h1)
 refine wpAny_call (codeAny_of_tree ?_)
 show wpAny _ _ (pure (PySem.Fin.again (.builtin "type.__call__" ⟨[.type "set",.ref l],[]⟩))) _ _ _
 refine wpAny_pure ⟨Code.quiet_builtin _ (by decide +kernel),codeAny_builtin F.entry_type_call ?_⟩
 rw[Around.under_plain (weight_type_call_type _ _ _) rfl]
 unfold Builtin.«type.__call__»
 dsimp only
 refine wpAny_ite_false (by decide) ?_
 refine wpAny_ite_false (by decide +kernel) ?_
 refine wpAny_bind (wpAny_of_eq (F.typeCall_set_1 _) ?_)
 obtain⟨c,tl,e⟩:=F.called_set.mro
 refine wpAny_bind (wpAny_of_eq e ?_)
 refine wpAny_ite_false (by rfl) ?_
 refine wpAny_bind (wpAny_of_eq F.called_set.made ?_)
 dsimp only
 refine wpAny_bind (wpAny_pure ?_)
 refine wpAny_bind (wpAny_holding (wpAny_call (U1 (Q₁:=_) _ ?_)))
 refine wpAny_bind (wpAny_isInstance (T := "set") (U := "set") ⟨_,ho,rfl⟩ sub_set_self ?_)
 refine wpAny_ite_false (by rfl) ?_
 refine wpAny_bind (wpAny_holding (wpAny_callSpecial?_slot (T := "set") ⟨_,ho,rfl⟩ F.called_set.init (wpAny_call (codeAny_call_builtin F.called_set.init.plain F.entry_set_init (check_set_init_1 ⟨_,ho,rfl⟩ ?_)))))
 refine a2H (A:=A.in1.in1) hh (hl.push _) hi hn hne ho fun s' SR kp hg hd hos=>?_
 dsimp only
 refine wpAny_ite_false (by decide) ?_
 refine wpAny_pure (h s' SR (fun b o e=>kp b o (Nat.ne_of_lt (Heap.lt_size e)) (Heap.get?_push_of_some _ e)) hg hd hos)
end
theorem Z3:entryFor table "set.__iter__" = some Builtin.«frozenset.__iter__» := entryFor_alias (by kernel_rfl) rfl (show Manifest.canonical (String.map (fun c=>if(c.isAlphanum || c == '_' || c == '.')=true then c else '_') "set.__iter__") ++ "" = "frozenset.__iter__" by decide +kernel) (by kernel_rfl)
theorem Z4:entryFor table "set_iterator.__next__" = some Builtin.«set_iterator.__next__» := entryFor_of_fast (by kernel_rfl)
theorem r8:Slot "set_iterator" (Str.ofString "__next__") "set_iterator.__next__" :=
 Slot.of (owner := "set_iterator") (n := "__next__") rfl (by decide +kernel) (by decide +kernel) (by decide +kernel) (.inl (by decide +kernel)) (by rfl) (by decide +kernel)
section
variable {prog:Program}{w:World}{A:Around}{E:Value→Shared→Prop}{s:Shared}
theorem a4F{r:Addr}{Q:Bool→Shared→Prop}(h:s.TypeIs (.ref r) "set")(q:Q false s):wpAny (model prog w) A (Builtin.List.listLengthHint (.ref r)) Q E s:=by
 unfold Builtin.List.listLengthHint
 refine wpAny_bind (wpAny_specialOf h F.slot_set_len.lookup ?_)
 dsimp only
 rw[show splitId "set.__len__" = some ("set","__len__")from by rfl]
 dsimp only
 refine wpAny_bind (wpAny_isInstance h sub_set_self ?_)
 refine wpAny_ite_false rfl ?_
 refine wpAny_ite_true (by decide +kernel) ?_
 refine wpAny_bind (wpAny_typeOf h ?_)
 exact wpAny_pure q
theorem L7{α:Type}:∀{l:List α} {i:Nat} (h:i<l.length),(l[i]::l.eraseIdx i).Perm l
 | x::l,0,_=>.refl _
 | x::l,i+1,h=>by
  have h':i<l.length:=by simpa using h
  show(l[i]::x::l.eraseIdx i).Perm (x::l)
  exact(List.Perm.swap _ _ _).trans ((L7 h').cons x)
theorem a16{α:Type}(next:Nat→Nat):∀(fuel k:Nat) (left:List α) (out:Array α),left.length≤fuel→(pickOrder.go next fuel k left out).toList.Perm (out.toList++left)
 | 0,k,left,out,h=>by
  have e:left=[]:=List.eq_nil_of_length_eq_zero (by omega)
  rw[pickOrder.go.eq_1,e,List.append_nil]
 | fuel+1,k,left,out,h=>by
  rw[pickOrder.go.eq_def]
  dsimp only
  cases e:left[next k%left.length]? with
  | none =>
   dsimp only
   have e0:left=[]:=by
    cases left with
    | nil=>rfl
    | cons x l =>
     have:next k%(x::l).length<(x::l).length:=Nat.mod_lt _ (by simp)
     rw[List.getElem?_eq_getElem this]at e
     cases e
   rw[e0,List.append_nil]
  | some x =>
   dsimp only
   obtain⟨hlt,hx⟩:=List.getElem?_eq_some_iff.mp e
   refine(a16 next fuel (k+1) (left.eraseIdx (next k%left.length)) (out.push x) ?_).trans ?_
   ·rw[List.length_eraseIdx_of_lt hlt];omega
   ·rw[Array.toList_push,List.append_assoc]
    refine List.Perm.append_left _ ?_
    have:=L7 hlt
    rw[hx]at this
    exact this
theorem a3A{α:Type}(next:Nat→Nat)(xs:Array α):(pickOrder next xs).toList.Perm xs.toList:=by
 have:=a16 next xs.size 0 xs.toList #[] (by simp)
 simpa [pickOrder]using this
theorem a0r{α:Type}:∀(n:Nat) (xs:List α) {Q:List α→Shared→Prop} {s:Shared},xs.length≤n→(∀ys d,ys.Perm xs→Q ys { s with drawn:=d })→wpAny (model prog w) A (drawOrder n xs) Q E s
 | 0,xs,Q,s,h,q=>by
  have e:xs=[]:=List.eq_nil_of_length_eq_zero (by omega)
  subst e
  rw[drawOrder.eq_1]
  exact wpAny_pure (q [] s.drawn (.refl _))
 | n+1,[],Q,s,h,q=>by
  rw[drawOrder.eq_2 _ (by omega)]
  exact wpAny_pure (q [] s.drawn (.refl _))
 | n+1,x::xs,Q,s,h,q=>by
  rw[drawOrder.eq_def]
  dsimp only
  refine wpAny_bind ?_
  intro Γ p hΓ
  unfold choose
  rw[Sem.wp_choose]
  refine⟨by simp,?_⟩
  have hlt:(model prog w).w.draws Source.order (s.drawn.get Source.order)%(x::xs).length<(x::xs).length:=Nat.mod_lt _ (by simp)
  generalize (model prog w).w.draws Source.order (s.drawn.get Source.order)%(x::xs).length=i at *
  show Sem.wp _ Γ (pure i) _ _ p _
  refine(wpAny_pure (M:=model prog w) (A:=A) (E:=E) (a:=i) (Q:=fun i s'=>wpAny (model prog w) A (match(x::xs)[i]? with
   | some x_2=>do
    let __do_lift ← drawOrder n ((x::xs).eraseIdx i)
    pure (x_2::__do_lift)
   | none=>unsupported "internal:drawOrder") Q E s') (s:={ s with drawn:=s.drawn.bump Source.order }) ?_) Γ p hΓ
  rw[List.getElem?_eq_getElem hlt]
  dsimp only
  refine wpAny_bind (a0r n _ (by rw[List.length_eraseIdx_of_lt hlt];omega) fun ys d hy=>?_)
  refine wpAny_pure (q _ d ?_)
  exact(hy.cons _).trans (L7 hlt)
end
def F8(first:Value)(i:Nat)(a:Addr)(n ep:Nat):Obj:={ cls:=.type "set_iterator",data:=.fields #[first,.int (i:Int) 0,.ref a,.int (n:Int) 0,.int (ep:Int) 0] }
section
variable {prog:Program}{w:World}{A:Around}{E:Value→Shared→Prop}{s:Shared}
theorem L8{I a:Addr}{es:Array (Int×Value)}{ep i:Nat}{first:Value}{Q:Option Value→Shared→Prop}(hI:s.heap.get? I=some (F8 first i a es.size ep))
  (h:wpAny (model prog w) A.in1 (Builtin.«set_iterator.__next__» ⟨[.ref I],[]⟩) (fun fin s'=>∃v,fin=.done (.ret v)∧Q (some v) s') (fun e s'=>(∃x o,e=.ref x∧s'.heap.get? x=some o∧o.cls=.type "StopIteration")∧Q none s') s) :
  wpAny (model prog w) A (pyNext (.ref I)) Q E s:=by
 unfold pyNext
 refine wpAny_bind (wpAny_attempt (wpAny_callSpecial?_slot (T := "set_iterator") ⟨_,hI,rfl⟩ r8 (wpAny_call_entry r8 ⟨_,hI,rfl⟩ Z4 (wpAny_mono h (fun fin s' ⟨v,e,q⟩=>⟨v,e,?_⟩) fun e s' ⟨⟨x,o,e1,e2,e3⟩,q⟩=>?_) (by rfl))))
 ·exact wpAny_pure q
 ·subst e1
  refine wpAny_bind (wpAny_isInstance (T := "StopIteration") ⟨o,e2,e3⟩ isSubtype_stop ?_)
  exact wpAny_ite_true rfl (wpAny_pure q)
theorem a4G{I a:Addr}{o:Obj}{es:Array (Int×Value)}{ep i slot nx:Nat}{t:SetTable}{x:Value}{Q:Option Value→Shared→Prop}(hI:s.heap.get? I=some (F8 (.int (slot:Int) 0) i a es.size ep))(ho:s.heap.get? a=some o)(hd:o.data=.set es ep t)(hf:t.fits es.size=true)
  (hs:∀{A':Around} {E':Value→Shared→Prop} {Q':Option (Value×Nat)→Shared→Prop},Q' (some (x,nx)) s→wpAny (model prog w) A' (setNext a slot i ep) Q' E' s)
  (q:∀h',h'.get? I=some (F8 (.int (nx:Int) 0) (i+1) a es.size ep)→Heap.SameBut I s.heap h'→Q (some x) { s with heap:=h' }):wpAny (model prog w) A (pyNext (.ref I)) Q E s:=by
 refine L8 hI ?_
 unfold Builtin.«set_iterator.__next__»
 refine wpAny_bind (m:=slotArgs "__next__" 0 _) (wpAny_pure ?_)
 dsimp only
 refine wpAny_bind (wpAny_fieldsOf hI rfl ?_)
 dsimp only
 refine wpAny_bind (wpAny_setEntries_of ho hd hf ?_)
 refine wpAny_ite_false (by simp) ?_
 simp only[Int.toNat_natCast]
 refine wpAny_bind (hs ?_)
 dsimp only
 refine wpAny_bind (wpAny_setField_rec hI (by simp) fun h1 g1 s1=>?_)
 refine wpAny_bind (wpAny_setField_rec (s:={ s with heap:=h1 }) g1 (by simp) fun h2 g2 s2=>?_)
 refine wpAny_pure ⟨x,rfl,q h2 ?_ ⟨s2.1.trans s1.1,fun b hb=>(s2.2 b hb).trans (s1.2 b hb)⟩⟩
 rw[g2]
 rfl
theorem a6c{I a:Addr}{o:Obj}{es:Array (Int×Value)}{ep i slot:Nat}{t:SetTable}{Q:Option Value→Shared→Prop}(hh:A.handled=none)(hI:s.heap.get? I=some (F8 (.int (slot:Int) 0) i a es.size ep))(ho:s.heap.get? a=some o)(hd:o.data=.set es ep t)(hf:t.fits es.size=true)
  (hs:∀{A':Around} {E':Value→Shared→Prop} {Q':Option (Value×Nat)→Shared→Prop},Q' none s→wpAny (model prog w) A' (setNext a slot i ep) Q' E' s)
  (q:∀h',(∀b o,b≠I→s.heap.get? b=some o→h'.get? b=some o)→Q none { s with heap:=h' }):wpAny (model prog w) A (pyNext (.ref I)) Q E s:=by
 refine L8 hI ?_
 unfold Builtin.«set_iterator.__next__»
 refine wpAny_bind (m:=slotArgs "__next__" 0 _) (wpAny_pure ?_)
 dsimp only
 refine wpAny_bind (wpAny_fieldsOf hI rfl ?_)
 dsimp only
 refine wpAny_bind (wpAny_setEntries_of ho hd hf ?_)
 refine wpAny_ite_false (by simp) ?_
 simp only[Int.toNat_natCast]
 refine wpAny_bind (hs ?_)
 dsimp only
 refine wpAny_bind (wpAny_setField_rec hI (by simp) fun h1 g1 s1=>?_)
 refine wpAny_bind ?_
 unfold newExc
 refine wpAny_bind (wpAny_newTuple ?_ (Nat.zero_le _))
 refine wpAny_bind ?_
 unfold firstArgMember
 dsimp only
 refine wpAny_bind (wpAny_pure ?_)
 refine wpAny_pure ?_
 refine wpAny_newObj_type ?_
 refine wpAny_raiseNew_none hh ⟨⟨_,_,rfl,Heap.get?_push_size _ rfl,rfl⟩,?_⟩
 exact q _ fun b o hb e=>Heap.get?_push_of_some _ (Heap.get?_push_of_some _ ((s1.2 b hb).trans e))
theorem a2J{I a T:Addr}{o:Obj}{es:Array (Int×Value)}{ep i j:Nat}{t:SetTable}{ps:List Nat}{e:Int×Value}{Q:Option Value→Shared→Prop}(hI:s.heap.get? I=some (F8 (.ref T) i a es.size ep))(ho:s.heap.get? a=some o)(hd:o.data=.set es ep t)(hf:t.fits es.size=true)
  (hT:s.heap.get? T=some (seqObj "tuple" (ps.map fun(i:Nat)=>rawInt (i:Int)).toArray 0)) (hj:ps[i]? = some j) (he:es[j]? = some e)
  (q:∀h',h'.get? I=some (F8 (.ref T) (i+1) a es.size ep)→Heap.SameBut I s.heap h'→Q (some e.2) { s with heap:=h' }):wpAny (model prog w) A (pyNext (.ref I)) Q E s:=by
 refine L8 hI ?_
 unfold Builtin.«set_iterator.__next__»
 refine wpAny_bind (m:=slotArgs "__next__" 0 _) (wpAny_pure ?_)
 dsimp only
 refine wpAny_bind (wpAny_fieldsOf hI rfl ?_)
 dsimp only
 refine wpAny_bind (wpAny_setEntries_of ho hd hf ?_)
 refine wpAny_ite_false (by simp) ?_
 simp only[Int.toNat_natCast]
 refine wpAny_bind (wpAny_seqItems hT rfl ?_)
 have e0:(ps.map fun(i:Nat)=>rawInt (i:Int)).toArray[i]? = some (.int (j:Int) 0):=by
  rw[List.getElem?_toArray,List.getElem?_map,hj]
  rfl
 dsimp only
 rw[e0]
 dsimp only
 refine wpAny_bind ?_
 unfold setNextDrawn
 refine wpAny_bind (wpAny_setState_of ho hd hf ?_)
 dsimp only
 refine wpAny_ite_false (by simp) ?_
 rw[Int.toNat_natCast,he]
 refine wpAny_pure ?_
 refine wpAny_bind (wpAny_setField_rec hI (by simp) fun h1 g1 s1=>?_)
 refine wpAny_pure ⟨e.2,rfl,q h1 ?_ s1⟩
 rw[g1]
 rfl
theorem a3B{I a T:Addr}{o:Obj}{es:Array (Int×Value)}{ep i:Nat}{t:SetTable}{ps:List Nat}{Q:Option Value→Shared→Prop}(hh:A.handled=none)(hI:s.heap.get? I=some (F8 (.ref T) i a es.size ep))(ho:s.heap.get? a=some o)(hd:o.data=.set es ep t)(hf:t.fits es.size=true)
  (hT:s.heap.get? T=some (seqObj "tuple" (ps.map fun(i:Nat)=>rawInt (i:Int)).toArray 0)) (hj:ps[i]? = none)
  (q:∀h',(∀b o,b≠I→s.heap.get? b=some o→h'.get? b=some o)→Q none { s with heap:=h' }):wpAny (model prog w) A (pyNext (.ref I)) Q E s:=by
 refine L8 hI ?_
 unfold Builtin.«set_iterator.__next__»
 refine wpAny_bind (m:=slotArgs "__next__" 0 _) (wpAny_pure ?_)
 dsimp only
 refine wpAny_bind (wpAny_fieldsOf hI rfl ?_)
 dsimp only
 refine wpAny_bind (wpAny_setEntries_of ho hd hf ?_)
 refine wpAny_ite_false (by simp) ?_
 simp only[Int.toNat_natCast]
 refine wpAny_bind (wpAny_seqItems hT rfl ?_)
 have e0:(ps.map fun(i:Nat)=>rawInt (i:Int)).toArray[i]? = none:=by
  rw[List.getElem?_toArray,List.getElem?_map,hj]
  rfl
 dsimp only
 rw[e0]
 dsimp only
 refine wpAny_bind (wpAny_setField_rec hI (by simp) fun h1 g1 s1=>?_)
 refine wpAny_bind (wpAny_setField_rec (s:={ s with heap:=h1 }) g1 (by simp) fun h2 g2 s2=>?_)
 refine wpAny_bind ?_
 unfold newExc
 refine wpAny_bind (wpAny_newTuple ?_ (Nat.zero_le _))
 refine wpAny_bind ?_
 unfold firstArgMember
 dsimp only
 refine wpAny_bind (wpAny_pure ?_)
 refine wpAny_pure ?_
 refine wpAny_newObj_type ?_
 refine wpAny_raiseNew_none hh ⟨⟨_,_,rfl,Heap.get?_push_size _ rfl,rfl⟩,?_⟩
 exact q _ fun b o hb e=>Heap.get?_push_of_some _ (Heap.get?_push_of_some _ ((s2.2 b hb).trans ((s1.2 b hb).trans e)))
end
theorem a0E:entryFor table "set_iterator.__iter__" = some Builtin.«dict_keyiterator.__iter__» := entryFor_alias (by kernel_rfl) rfl (show Manifest.canonical (String.map (fun c=>if(c.isAlphanum || c == '_' || c == '.')=true then c else '_') "set_iterator.__iter__") ++ "" = "dict_keyiterator.__iter__" by decide +kernel) (by kernel_rfl)
theorem Q0:Slot "set_iterator" (Str.ofString "__iter__") "set_iterator.__iter__" :=
 Slot.of (owner := "set_iterator") (n := "__iter__") rfl (by decide +kernel) (by decide +kernel) (by decide +kernel) (.inl (by decide +kernel)) (by rfl) (by decide +kernel)
section
variable {prog:Program}{w:World}{A:Around}{E:Value→Shared→Prop}{s:Shared}
theorem a06{a:Addr}{o:Obj}{es:Array (Int×Value)}{ep:Nat}{t:SetTable}(ho:s.heap.get? a=some o)(hd:o.data=.set es ep t)(hf:t.fits es.size=true)(bt:w.params.followText "set-order" = true)(slot i:Nat){Q:Option (Value×Nat)→Shared→Prop}
  (q:Q (((pickOrder (w.params.setOrder a ep) es)[i]?).map fun e=>(e.2,slot)) s):wpAny (model prog w) A (setNext a slot i ep) Q E s:=by
 unfold setNext
 refine wpAny_bind (wpAny_setState_of ho hd hf ?_)
 dsimp only
 unfold setsByText
 refine wpAny_bind (wpAny_bind (wpAny_askSetting (wpAny_pure ?_)))
 refine wpAny_ite_true (by show decide (w.params.followText "set-order" = true)=true;rw[bt];rfl) ?_
 refine wpAny_ite_false (by simp) ?_
 refine wpAny_bind ?_
 unfold setWalk
 refine wpAny_bind (wpAny_setState_of ho hd hf ?_)
 dsimp only
 unfold setsByText
 refine wpAny_bind (wpAny_bind (wpAny_askSetting (wpAny_pure ?_)))
 refine wpAny_ite_true (by show decide (w.params.followText "set-order" = true)=true;rw[bt];rfl) ?_
 refine wpAny_bind (wpAny_askSetting ?_)
 refine wpAny_pure ?_
 exact wpAny_pure q
def B8(t:SetTable)(i:Nat):Nat:=if i=0 then 0 else t.place.getD (i-1) 0+1
theorem a2K{t:SetTable}{i:Nat}(hr:Rise t.place)(hi:i≤t.place.size):SetTable.below t.place (B8 t i)=i:=by
 refine a4A hr hi (fun k hk=>?_) (fun k hk hk2=>?_)
 ·unfold B8
  rw[if_neg (by omega)]
  by_cases z:k=i-1
  ·rw[z];omega
  ·have:=hr.lt (i:=k) (j:=i-1) (by omega) (by omega)
   omega
 ·unfold B8
  by_cases z:i=0
  ·rw[if_pos z];omega
  ·rw[if_neg z]
   have:=hr.lt (i:=i-1) (j:=k) (by omega) hk2
   omega
theorem a0F{a:Addr}{o:Obj}{es:Array (Int×Value)}{ep:Nat}{t:SetTable}(ho:s.heap.get? a=some o)(hd:o.data=.set es ep t)(hf:t.fits es.size=true)(bt:w.params.followText "set-order" = false)(hp:(!t.plain && decide (es.size > 1))=false)(T:TbR true t)(i g:Nat)(hi:i≤es.size){Q:Option (Value×Nat)→Shared→Prop}
  (q:Q ((es[i]?).map fun e=>(e.2,B8 t (i+1))) s):wpAny (model prog w) A (setNext a (B8 t i) g ep) Q E s:=by
 have hps:t.place.size=es.size:=by
  rw[SetTable.fits.eq_1,Bool.and_eq_true]at hf
  exact beq_iff_eq.mp hf.1
 unfold setNext
 refine wpAny_bind (wpAny_setState_of ho hd hf ?_)
 dsimp only
 unfold setsByText
 refine wpAny_bind (wpAny_bind (wpAny_askSetting (wpAny_pure ?_)))
 refine wpAny_ite_false (by show decide (w.params.followText "set-order" = true)=false;rw[bt];rfl) ?_
 refine wpAny_ite_false (by show decide ((!t.plain && decide (es.size > 1))=true)=false;rw[hp];rfl) ?_
 show wpAny _ _ ((if(!t.led && !es.isEmpty)=true then unsupported "set:maker-not-led" else pure ()) >>= _) _ _ _
 rw[T.led]
 refine wpAny_bind (wpAny_ite_false rfl (wpAny_pure ?_))
 rw[a2K T.rise (by omega)]
 by_cases z:i<es.size
 ·rw[Array.getElem?_eq_getElem z]at q ⊢
  have z2:i<t.place.size:=by omega
  rw[Array.getElem?_eq_getElem z2]
  refine wpAny_pure ?_
  have e:B8 t (i+1)=t.place[i]+1:=by
   unfold B8
   rw[if_neg (by omega),Nat.add_sub_cancel]
   simp[Array.getD,z2]
  rw[e]at q
  exact q
 ·rw[Array.getElem?_eq_none (by omega)]at q ⊢
  exact wpAny_pure q
theorem a17{I a:Addr}{first:Value}{i n ep:Nat}{Q:Value→Shared→Prop}(hI:s.heap.get? I=some (F8 first i a n ep))(q:Q (.ref I) s):wpAny (model prog w) A (pyIter (.ref I)) Q E s:=by
 have tI:s.TypeIs (.ref I) "set_iterator" := ⟨_,hI,rfl⟩
 refine wpAny_pyIter_slot tI Q0 (wpAny_call_entry Q0 tI a0E ?_ (by rfl))
 unfold Builtin.«dict_keyiterator.__iter__»
 refine wpAny_bind (m:=slotArgs "__iter__" 0 _) (wpAny_pure ?_)
 exact wpAny_pure ⟨_,rfl,"set_iterator",_,tI,r8.lookup,q⟩
theorem a3C{I a:Addr}{o:Obj}{es:Array (Int×Value)}{ep:Nat}{t:SetTable}{ord:List (Int×Value)}{sl:Nat→Nat}(hne:I≠a)(hd:o.data=.set es ep t)(hf:t.fits es.size=true)(hl:ord.length=es.size)
  (hn:∀(s:Shared) (i:Nat) {A':Around} {E':Value→Shared→Prop} {Q':Option (Value×Nat)→Shared→Prop},s.heap.get? a=some o→i≤es.size→Q' ((ord[i]?).map fun e=>(e.2,sl (i+1))) s→wpAny (model prog w) A' (setNext a (sl i) i ep) Q' E' s) (hh:A.handled=none) :
  WalksS prog w A I [I,a] [I] (fun x y=>y=x) es.size (fun i v=>∃e,ord[i]? = some e∧v=e.2) (fun i s=>s.heap.get? I=some (F8 (.int (sl i:Int) 0) i a es.size ep)∧s.heap.get? a=some o) where
 sub:=fun b hb=>by simp only[List.mem_singleton]at hb;simp[hb]
 grefl:=fun _=>rfl
 gtrans:=fun _ _ _ h1 h2=>h2.trans h1
 frame:=fun i s h' tk ⟨h1,h2⟩ _ k=>⟨k I (by simp) _ h1,k a (by simp) _ h2⟩
 item:=fun i s Q E hi ⟨h1,h2⟩ k=>by
  have e:=List.getElem?_eq_getElem (l:=ord) (i:=i) (by omega)
  refine a4G (x:=ord[i].2) (nx:=sl (i+1)) h1 h2 hd hf (fun q'=>hn s i h2 (by omega) (by rw[e];exact q')) fun h' g' sm=>k _ { s with heap:=h' } ⟨_,e,rfl⟩ ⟨g',(sm.2 a (Ne.symm hne)).trans h2⟩ ⟨fun b o hb eb=>(sm.2 b (fun z=>hb (by simp[z]))).trans eb,rfl,rfl,rfl,Nat.le_refl _⟩
 done:=fun s Q E ⟨h1,h2⟩ k=>by
  have e:=List.getElem?_eq_none (l:=ord) (i:=es.size) (by omega)
  exact a6c hh h1 h2 hd hf (fun q'=>hn s es.size h2 (Nat.le_refl _) (by rw[e];exact q')) fun h' kp=>k { s with heap:=h' } ⟨fun b o hb eb=>kp b o (fun z=>hb (by simp[z])) eb,rfl,rfl,rfl,Nat.le_refl _⟩
 self:=fun i s Q E ⟨h1,_⟩ q=>a17 h1 q
theorem a1F{I a T:Addr}{o:Obj}{es:Array (Int×Value)}{ep:Nat}{t:SetTable}{ps:List Nat}(hne:I≠a)(hnT:I≠T)(hd:o.data=.set es ep t)(hf:t.fits es.size=true)(hp:ps.Perm (List.range es.size))(hh:A.handled=none) :
  WalksS prog w A I [I,a,T] [I] (fun x y=>y=x) es.size (fun i v=>∃e,(ps.map fun j=>es.getD j (0,.none))[i]? = some e∧v=e.2) (fun i s=>s.heap.get? I=some (F8 (.ref T) i a es.size ep)∧s.heap.get? a=some o∧s.heap.get? T=some (seqObj "tuple" (ps.map fun(i:Nat)=>rawInt (i:Int)).toArray 0)) where
 sub:=fun b hb=>by simp only[List.mem_singleton]at hb;simp[hb]
 grefl:=fun _=>rfl
 gtrans:=fun _ _ _ h1 h2=>h2.trans h1
 frame:=fun i s h' tk ⟨h1,h2,h3⟩ _ k=>⟨k I (by simp) _ h1,k a (by simp) _ h2,k T (by simp) _ h3⟩
 item:=fun i s Q E hi ⟨h1,h2,h3⟩ k=>by
  have hlen:ps.length=es.size:=by rw[hp.length_eq,List.length_range]
  have e:=List.getElem?_eq_getElem (l:=ps) (i:=i) (by omega)
  have hj:ps[i]<es.size:=List.mem_range.mp (hp.mem_iff.mp (List.getElem_mem _))
  have e2:es[ps[i]]? = some (es.getD ps[i] (0,.none)):=by rw[Array.getElem?_eq_getElem hj];simp[Array.getD,hj]
  refine a2J h1 h2 hd hf h3 e e2 fun h' g' sm=>k _ { s with heap:=h' } ⟨_,by rw[List.getElem?_map,e];rfl,rfl⟩ ⟨g',(sm.2 a (Ne.symm hne)).trans h2,(sm.2 T (Ne.symm hnT)).trans h3⟩ ⟨fun b o hb eb=>(sm.2 b (fun z=>hb (by simp[z]))).trans eb,rfl,rfl,rfl,Nat.le_refl _⟩
 done:=fun s Q E ⟨h1,h2,h3⟩ k=>by
  have hlen:ps.length=es.size:=by rw[hp.length_eq,List.length_range]
  exact a3B hh h1 h2 hd hf h3 (List.getElem?_eq_none (by omega)) fun h' kp=>k { s with heap:=h' } ⟨fun b o hb eb=>kp b o (fun z=>hb (by simp[z])) eb,rfl,rfl,rfl,Nat.le_refl _⟩
 self:=fun i s Q E ⟨h1,_⟩ q=>a17 h1 q
theorem a4H{a:Addr}{o:Obj}{es:Array (Int×Value)}{ep:Nat}{t:SetTable}{Q:Value→Shared→Prop}(ho:s.heap.get? a=some o)(hx:o.ExactSet)(hd:o.data=.set es ep t)(hf:t.fits es.size=true)(T:TbR (!w.params.followText "set-order") t)(hs:es.size<scanBound)
  (q:∀(I:Addr) (fp:List Addr) (ord:List (Int×Value)) (St:Nat→Shared→Prop) (s':Shared),(∀A',A'.handled=none→WalksS prog w A' I fp [I] (fun x y=>y=x) es.size (fun i v=>∃e,ord[i]? = some e∧v=e.2) St)→St 0 s'→ord.Perm es.toList→(∀b o,s.heap.get? b=some o→s'.heap.get? b=some o∧b≠I)→(∀b∈fp,b=a∨s.heap.get? b=none)→s'.gens=s.gens→s'.os=s.os→s.toks≤s'.toks→(∀b∈fp,∃o,s'.heap.get? b=some o)→Q (.ref I) s') :
  wpAny (model prog w) A (pyIter (.ref a)) Q E s:=by
 have tset:s.TypeIs (.ref a) "set" := ⟨o,ho,hx.1⟩
 have hsl:es.size≤sizeLine:=fits_of_scanBound hs
 refine wpAny_pyIter_slot tset F.slot_set_iter (wpAny_call_entry F.slot_set_iter tset Z3 ?_ (F.args_set_iter_1 _))
 unfold Builtin.«frozenset.__iter__»
 refine wpAny_bind (m:=Builtin.Frozenset.slot0 "__iter__" _) (wpAny_pure ?_)
 refine wpAny_bind (m:=Builtin.Frozenset.sizeOf a) (wpAny_bind (wpAny_setEntries_of ho hd hf (wpAny_pure ?_)))
 refine wpAny_bind ?_
 unfold setDrawn
 refine wpAny_bind (wpAny_setState_of ho hd hf ?_)
 dsimp only
 unfold setsByText
 refine wpAny_bind (wpAny_bind (wpAny_askSetting (wpAny_pure ?_)))
 refine wpAny_pure ?_
 show wpAny _ _ (if(!w.params.followText "set-order" && (!t.plain && decide (es.size > 1)))=true then _ else _) _ _ _
 by_cases c:(!w.params.followText "set-order" && (!t.plain && decide (es.size > 1)))=true
 ·rw[if_pos c]
  refine wpAny_bind (a0r es.size (List.range es.size) (by simp) fun ps d hps=>?_)
  have hlen:ps.length=es.size:=by rw[hps.length_eq,List.length_range]
  refine wpAny_bind (wpAny_newTuple ?_ (by rw[List.length_map,hlen];exact hsl))
  have hoT:=Heap.get?_push_of_some (seqObj "tuple" (ps.map fun(i:Nat)=>rawInt (i:Int)).toArray 0) ho
  refine wpAny_bind (wpAny_setEpoch_of hoT hd hf ?_)
  refine wpAny_bind (m:=newFields "set_iterator" _) (wpAny_newObj_type ?_ (by show 5≤_;decide))
  have hIz:(s.heap.push (seqObj "tuple" (ps.map fun(i:Nat)=>rawInt (i:Int)).toArray 0)).objs.size=s.heap.objs.size+1:=size_push' _ _
  have haz:a<s.heap.objs.size:=Heap.lt_size ho
  refine wpAny_pure ⟨_,rfl,"set_iterator",_,⟨_,Heap.get?_push_size _ rfl,rfl⟩,r8.lookup,?_⟩
  have hI:((s.heap.push (seqObj "tuple" (ps.map fun(i:Nat)=>rawInt (i:Int)).toArray 0)).push (F8 (.ref s.heap.objs.size) 0 a es.size ep)).get? (s.heap.push (seqObj "tuple" (ps.map fun(i:Nat)=>rawInt (i:Int)).toArray 0)).objs.size=some (F8 (.ref s.heap.objs.size) 0 a es.size ep):=Heap.get?_push_size _ rfl
  have hT:(s.heap.push (seqObj "tuple" (ps.map fun(i:Nat)=>rawInt (i:Int)).toArray 0)).get? s.heap.objs.size=some (seqObj "tuple" (ps.map fun(i:Nat)=>rawInt (i:Int)).toArray 0):=Heap.get?_push_size _ rfl
  refine q _ [_,a,s.heap.objs.size] (ps.map fun j=>es.getD j (0,.none)) _ _ (fun A' hA'=>a1F (Nat.ne_of_gt (by rw[hIz];exact Nat.lt_succ_of_lt haz)) (Nat.ne_of_gt (by rw[hIz];exact Nat.lt_succ_self _)) hd hf hps hA') ⟨hI,Heap.get?_push_of_some _ hoT,Heap.get?_push_of_some _ hT⟩ ?_ (fun b o e=>⟨Heap.get?_push_of_some _ (Heap.get?_push_of_some _ e),Nat.ne_of_lt (by rw[hIz];exact Nat.lt_succ_of_lt (Heap.lt_size e))⟩) ?_ rfl rfl (Nat.le_refl _) ?_
  ·have:=hps.map fun j=>es.getD j (0,Value.none)
   refine this.trans (.of_eq ?_)
   apply List.ext_getElem
   ·simp
   ·intro i h1 h2
    have:i<es.size:=by simpa using h2
    simp[Array.getD,this]
  ·intro b hb
   simp only[List.mem_cons,List.not_mem_nil,or_false]at hb
   rcases hb with rfl | rfl | rfl
   ·exact .inr (Heap.get?_none_of_le (by rw[hIz];omega))
   ·exact .inl rfl
   ·exact .inr (Heap.get?_none_of_le (Nat.le_refl _))
  ·intro b hb
   simp only[List.mem_cons,List.not_mem_nil,or_false]at hb
   rcases hb with rfl | rfl | rfl
   ·exact⟨_,hI⟩
   ·exact⟨_,Heap.get?_push_of_some _ hoT⟩
   ·exact⟨_,Heap.get?_push_of_some _ hT⟩
 ·rw[if_neg c]
  refine wpAny_bind (wpAny_pure ?_)
  refine wpAny_bind (wpAny_setEpoch_of ho hd hf ?_)
  refine wpAny_bind (m:=newFields "set_iterator" _) (wpAny_newObj_type ?_ (by show 5≤_;decide))
  have haz:a<s.heap.objs.size:=Heap.lt_size ho
  refine wpAny_pure ⟨_,rfl,"set_iterator",_,⟨_,Heap.get?_push_size _ rfl,rfl⟩,r8.lookup,?_⟩
  have hI:(s.heap.push (F8 (.int ((0:Nat):Int) 0) 0 a es.size ep)).get? s.heap.objs.size=some (F8 (.int ((0:Nat):Int) 0) 0 a es.size ep):=Heap.get?_push_size _ rfl
  have fin:∀(ord:List (Int×Value)) (sl:Nat→Nat),sl 0=0→ord.Perm es.toList→(∀(s:Shared) (i:Nat) {A':Around} {E':Value→Shared→Prop} {Q':Option (Value×Nat)→Shared→Prop},s.heap.get? a=some o→i≤es.size→Q' ((ord[i]?).map fun e=>(e.2,sl (i+1))) s→wpAny (model prog w) A' (setNext a (sl i) i ep) Q' E' s)→Q (.ref s.heap.objs.size) { s with heap:=s.heap.push (F8 (.int ((0:Nat):Int) 0) 0 a es.size ep) }:=by
   intro ord sl h0 hp hn
   refine q _ [s.heap.objs.size,a] ord _ _ (fun A' hA'=>a3C (sl:=sl) (Nat.ne_of_gt haz) hd hf (by have:=hp.length_eq;simpa using this) hn hA') ⟨by rw[h0];exact hI,Heap.get?_push_of_some _ ho⟩ hp (fun b o e=>⟨Heap.get?_push_of_some _ e,Nat.ne_of_lt (Heap.lt_size e)⟩) ?_ rfl rfl (Nat.le_refl _) ?_
   ·intro b hb
    simp only[List.mem_cons,List.not_mem_nil,or_false]at hb
    rcases hb with rfl | rfl
    ·exact .inr (Heap.get?_none_of_le (Nat.le_refl _))
    ·exact .inl rfl
   ·intro b hb
    simp only[List.mem_cons,List.not_mem_nil,or_false]at hb
    rcases hb with rfl | rfl
    ·exact⟨_,hI⟩
    ·exact⟨_,Heap.get?_push_of_some _ ho⟩
  cases bt:w.params.followText "set-order" with
  | true =>
   refine fin (pickOrder (w.params.setOrder a ep) es).toList (fun _=>0) rfl (a3A _ _) fun s i A' E' Q' h1 h2 q'=>a06 h1 hd hf bt 0 i ?_
   rw[Array.getElem?_toList]at q'
   exact q'
  | false =>
   rw[bt]at c T
   refine fin es.toList (B8 t) rfl (.refl _) fun s i A' E' Q' h1 h2 q'=>a0F h1 hd hf bt (by simpa using c) T i i h2 ?_
   rw[Array.getElem?_toList]at q'
   exact q'
end
section
variable {prog:Program}{w:World}{A:Around}{E:Value→Shared→Prop}{s:Shared}
theorem a3D{es:List (Int×Value)}(h:∀e∈es,W8 e):IntsAre (es.map (·.2)) (es.map t7):=by
 induction es with
 | nil=>exact .nil
 | cons e es ih =>
  obtain⟨k,t,rfl⟩:=h e List.mem_cons_self
  exact .cons k t (ih fun e m=>h e (List.mem_cons_of_mem _ m))
theorem a1G{a:Addr}{L:List Int}{Q:List Value→Shared→Prop}(S:SetR w s.heap a L)(hh:A.handled=none)
  (h:∀(s':Shared) (vs:List Value) (ks:List Int),(∀b o,s.heap.get? b=some o→s'.heap.get? b=some o)→s'.gens=s.gens→s'.os=s.os→s.heap.objs.size<s'.heap.objs.size→IntsAre vs ks→ks.Nodup→(∀k,k∈ks↔k∈L)→Q vs s') :
  wpAny (model prog w) A (collect (.ref a)) Q E s:=by
 obtain⟨o,es,ep,t,ho,hx,hd,hI,hN,hL,hs,hf,T⟩:=S.ex
 have hsl:es.size≤sizeLine:=fits_of_scanBound hs
 unfold collect
 refine wpAny_bind (wpAny_runValue (codeAny_builtin F.entry_proto_collect ?_))
 rw[Around.under_plainId F.plain_proto_collect _]
 show wpAny _ A.in1 (newList [] >>= fun l=>again (.builtin "list.__iadd__" ⟨[l,.ref a],[]⟩)) _ _ s
 refine wpAny_bind (wpAny_newObj_type ?_)
 refine wpAny_pure ⟨plainId_quiet F.plain_list_iadd _,codeAny_builtin F.entry_list_iadd ?_⟩
 rw[Around.under_plainId F.plain_list_iadd _]
 show wpAny _ A.in1 (Builtin.List.listExtendWith (.ref s.heap.objs.size) (.ref a) (.ref s.heap.objs.size)) _ _ _
 have hS:(s.heap.push { cls:=.type "list",data:=.seq ([]:List Value).toArray }).get? s.heap.objs.size=some (seqObj "list" #[] 0):=Heap.get?_push_size _ rfl
 have ho1:(s.heap.push { cls:=.type "list",data:=.seq ([]:List Value).toArray }).get? a=some o:=Heap.get?_push_of_some _ ho
 have hne:s.heap.objs.size≠a:=Nat.ne_of_gt (Heap.lt_size ho)
 have kp1:∀b o,s.heap.get? b=some o→(s.heap.push { cls:=.type "list",data:=.seq ([]:List Value).toArray }).get? b=some o:=fun b o e=>Heap.get?_push_of_some _ e
 generalize s.heap.push { cls:=.type "list",data:=.seq ([]:List Value).toArray }=h1 at *
 have hlt:∀b o,s.heap.get? b=some o→b≠s.heap.objs.size:=fun b o e=>Nat.ne_of_lt (Heap.lt_size e)
 generalize s.heap.objs.size=D at *
 unfold Builtin.List.listExtendWith
 have tset:({ s with heap:=h1 }:Shared).TypeIs (.ref a) "set" := ⟨o,ho1,hx.1⟩
 refine wpAny_bind (wpAny_typeOf tset ?_)
 refine wpAny_ite_false (by
  show decide ((D == a || _ || _)=true)=false
  rw[beq_false_of_ne hne]
  rfl) ?_
 refine wpAny_bind (a4H (s:={ s with heap:=h1 }) ho1 hx hd hf T hs fun I fp ord St s' W st0 hp kp2 hfp hg hos htk hfo=>?_)
 have tset2:s'.TypeIs (.ref a) "set" := ⟨o,(kp2 a o ho1).1,hx.1⟩
 refine wpAny_bind (wpAny_holding (a4F tset2 ?_))
 refine wpAny_ite_true (by decide +kernel) ?_
 refine wpAny_bind (wpAny_rule ?_)
 have hDs:s'.heap.get? D=some (seqObj "list" #[] 0):=(kp2 D _ hS).1
 have hDf:D ∉ fp:=fun z=>by
  rcases hfp D z with z | z
  ·exact hne z
  ·have z:h1.get? D=none:=z
   rw[hS]at z;cases z
 refine wpAny_bind ?_
 unfold Builtin.List.listTouch
 have sm1:=Heap.SameBut.update s'.heap D (Obj.mapSeq fun x=>x.push Value.none)
 obtain⟨c1,g1⟩:∃c1,(s'.heap.update D (Obj.mapSeq fun x=>x.push Value.none)).get? D=some (seqObj "list" (#[].push Value.none) c1):=⟨_,get?_update_seq hDs fun x=>x.push Value.none⟩
 refine wpAny_bind (listUpdate_at hDs rfl ?_ (Nat.zero_le _) (by decide))
 have sm2:=Heap.SameBut.update (s'.heap.update D (Obj.mapSeq fun x=>x.push Value.none)) D (Obj.mapSeq fun x=>x.pop)
 obtain⟨c2,g2⟩:∃c2,((s'.heap.update D (Obj.mapSeq fun x=>x.push Value.none)).update D (Obj.mapSeq fun x=>x.pop)).get? D=some (seqObj "list" (#[].push Value.none).pop c2):=⟨_,get?_update_seq g1 fun x=>x.pop⟩
 refine listUpdate_at (s:={ s' with heap:=s'.heap.update D (Obj.mapSeq fun x=>x.push Value.none) }) g1 rfl ?_ (by decide) (by decide)
 have kp3:∀b o,b≠D→s'.heap.get? b=some o→((s'.heap.update D (Obj.mapSeq fun x=>x.push Value.none)).update D (Obj.mapSeq fun x=>x.pop)).get? b=some o:=fun b o hb e=>(sm2.2 b hb).trans ((sm1.2 b hb).trans e)
 generalize (s'.heap.update D (Obj.mapSeq fun x=>x.push Value.none)).update D (Obj.mapSeq fun x=>x.pop)=h3 at *
 have hlen:ord.length=es.size:=by have:=hp.length_eq;simpa using this
 refine wpAny_pure ⟨plainId_quiet F.plain_extend_loop _,codeAny_extend_loopS (W A.in1 hh) hsl D hDf (.ref D) es.size 0 { s' with heap:=h3 } #[] c2 rfl (Nat.zero_le _) ((W A.in1 hh).frame 0 s' h3 s'.toks st0 (Nat.le_refl _) fun b hb o e=>kp3 b o (fun z=>hDf (z▸hb)) e) g2 ⟨rfl,fun j v e=>by simp at e⟩ fun s4 acc c' mv hD4 items=>?_⟩
 show wpAny _ A (load D >>= _) _ _ _
 refine wpAny_bind (wpAny_load hD4 ?_)
 have hacc:acc.toList=ord.map (·.2):=by
  apply List.ext_getElem?
  intro j
  by_cases z:j<acc.size
  ·have e:=Array.getElem?_eq_getElem z
   obtain⟨e',h1',h2'⟩:=items.2 j _ e
   rw[Array.getElem?_toList,e,List.getElem?_map,h1',h2']
   rfl
  ·rw[Array.getElem?_toList,Array.getElem?_eq_none (by omega),List.getElem?_eq_none (by rw[List.length_map,hlen,← items.1];omega)]
 have hIo:∀e∈ord,W8 e:=fun e he=>hI e (hp.mem_iff.mp he)
 refine wpAny_pure (h s4 acc.toList (ord.map t7) (fun b o e=>mv.heap b o ?_ (kp3 b o (hlt b o e) (kp2 b o (kp1 b o e)).1)) (mv.gens.trans hg) (mv.os.trans hos) (Heap.lt_size hD4) (by rw[hacc];exact a3D hIo) ((hp.map t7).nodup_iff.mpr hN) fun k=>((hp.map t7).mem_iff).trans (hL k))
 simp only[List.mem_cons,List.not_mem_nil,or_false,not_or]
 exact⟨hlt b o e,(kp2 b o (kp1 b o e)).2⟩
end
theorem Q1:∀{vs:List Value} {ns:List Int},IntsAre vs ns→vs.length=ns.length:=by
 intro vs ns h
 induction h with
 | nil=>rfl
 | cons n t _ ih=>simp[ih]
theorem B0{vs:List Value}{ns:List Int}(h:IntsAre vs ns){i:Nat}(hi:i<vs.length):∃t,vs.getD i Value.none=.int (ns.getD i 0) t:=by
 obtain⟨t,e⟩:=h.int_at i vs[i] (List.getElem?_eq_getElem hi)
 refine⟨t,?_⟩
 rw[List.getD_eq_getElem?_getD,List.getElem?_eq_getElem hi]
 exact e
theorem a07{vs:List Value}{ns:List Int}(h:IntsAre vs ns):∀v∈vs,∃n t,v=Value.int n t:=by
 induction h with
 | nil=>intro v m;cases m
 | cons n t _ ih =>
  intro v m
  rcases List.mem_cons.mp m with rfl | m
  ·exact⟨n,t,rfl⟩
  ·exact ih v m
section
variable {prog:Program}{w:World}{A:Around}{E:Value→Shared→Prop}{s:Shared}
theorem a7O{ks:List Int}{p:List Nat}(hd:ks.Nodup)(hp:p.Perm (List.range ks.length))(hs:p.Pairwise (fun i j=>decide (ks.getD j 0<ks.getD i 0)=false)):(p.map fun i=>ks.getD i 0).Pairwise (· < ·)∧∀k,k∈(p.map fun i=>ks.getD i 0)↔k∈ks:=by
 have hpm:(p.map fun i=>ks.getD i 0).Perm ks:=by
  have:=hp.map fun i=>ks.getD i 0
  refine this.trans (.of_eq ?_)
  apply List.ext_getElem
  ·simp
  ·intro i h1 h2
   simp[h2]
 have hnd:(p.map fun i=>ks.getD i 0).Nodup:=hpm.nodup_iff.mpr hd
 refine⟨?_,fun k=>hpm.mem_iff⟩
 rw[List.pairwise_map]
 rw[List.nodup_iff_pairwise_ne,List.pairwise_map]at hnd
 refine(hs.and hnd).imp ?_
 intro i j ⟨h1,h2⟩
 have:=of_decide_eq_false h1
 omega
theorem W9:∀{vs:List Value} {ks:List Int} (p:List Nat),IntsAre vs ks→(∀i∈p,i<vs.length)→Vals ((p.map fun i=>ks.getD i 0).map V.int) (p.map fun i=>vs.getD i Value.none)
 | _,_,[],_,_=>.nil
 | vs,ks,i::p,r,h=>by
  obtain⟨t,e⟩:=B0 r (h i (by simp))
  exact .cons ⟨t,e⟩ (W9 p r fun j hj=>h j (by simp[hj]))
end
theorem a7P:bootBuiltins "set" = some (.type "set"):=by decide +kernel
section
variable {X:Cx}
theorem Inv.laidD{pins:List (Addr×Obj)}{σ:St}{H:Hp}{s s':Shared}{a:Addr}{o:HO}(I:Inv X pins σ H s)(k:∀b u,s.heap.get? b=some u→s'.heap.get? b=some u)(hg:s'.gens=s.gens)(hos:s'.os=s.os)(hp:s.heap.objs.size≤a)(new:ObjOk X.prog X.w (upd H a o) s'.heap a o):Inv X pins σ (upd H a o) s':=by
 have J:=I.laid (t':=s'.toks) k hp new
 have hb:AllBare s'.gens:=by rw[hg];exact I.bare
 obtain⟨ok,os,bare,base,loc,cell,free,freeC,pin,hok,len⟩:=J
 exact⟨ok,hos.trans I.os,hb,base,loc,cell,free,freeC,pin,hok,len⟩
end
end L2
namespace HT
open PySem PyProof.Rows
inductive IB:List Value→List Value→List Int→List Int→Prop
 | nil:IB [] [] [] []
 | int (a:Int) (t:Tok) (c:Int) (u:Tok) {vs ws:List Value} {ns ms:List Int} (h:IB vs ws ns ms):IB (.int a t::vs) (.int c u::ws) (a::ns) (c::ms)
 | bl (p q:Bool) {vs ws:List Value} {ns ms:List Int} (h:IB vs ws ns ms):IB (.bool p::vs) (.bool q::ws) (b2i p::ns) (b2i q::ms)
theorem IB.len{vs ws:List Value}{ns ms:List Int}(h:IB vs ws ns ms):vs.length=ws.length:=by
 induction h with
 | nil=>rfl
 | int _ _ _ _ _ ih=>simp[ih]
 | bl _ _ _ ih=>simp[ih]
end HT
namespace L2
open PySem PySem.Spec PyProof.Rows
open PySem.W
section
variable {n:Nat}{lt:Nat→Nat→Bool}
def Prx(n:Nat)(p:Array Nat)(m:Nat):Prop:=(∀i,i<m→ga p i<m)∧∀i,m≤i→i<n→ga p i=i
theorem Prx.up{p:Array Nat}{m k:Nat}(h:Prx n p m)(hk:m≤k)(hn:k≤n):Prx n p k:=by
 refine⟨fun i hi=>?_,fun i h1 h2=>h.2 i (by omega) h2⟩
 by_cases z:i<m
 ·have:=h.1 i z;omega
 ·rw[h.2 i (by omega) (by omega)];exact hi
structure DR(n:Nat)(lt:Nat→Nat→Bool)(p:Array Nat)(k:Nat):Prop where
 pre:Prx n p k
 d1:∀i j,i<j→j<k→lt (ga p i) (ga p j)=false
 d2:∀i j,i<j→j<k→lt (ga p j) (ga p i)=false→ga p j<ga p i
structure DG(n:Nat)(lt:Nat→Nat→Bool)(p:Array Nat)(k q:Nat):Prop where
 pre:Prx n p (k-(q+1))
 d1:∀i j,i<j→j<k→lt (ga p i) (ga p j)=false
 d2:∀i j,i<j→j<k-(q+1)→lt (ga p j) (ga p i)=false→ga p j<ga p i
 d3:∀i,i<k-(q+1)→lt (ga p (k-1)) (ga p i)=true
 d4:∀i,k-(q+1)≤i→i<k→lt (ga p (k-1)) (ga p i)=false
theorem DR.snoc{p:Array Nat}{k:Nat}(T:TPre lt)(d:DR n lt p k)(h:∀i,i<k→lt (ga p k) (ga p i)=true)(hk:k<n):DG n lt p (k+1) 0:=by
 have e:k+1-(0+1)=k:=by omega
 refine⟨by rw[e];exact d.pre,fun i j hij hj=>?_,fun i j hij hj=>by rw[e]at hj;exact d.d2 i j hij hj,fun i hi=>by rw[e]at hi;rw[Nat.add_sub_cancel];exact h i hi,fun i h1 h2=>?_⟩
 ·by_cases z:j<k
  ·exact d.d1 i j hij z
  ·have e:j=k:=by omega
   subst e
   exact T.asy _ _ (h i hij)
 ·have e:i=k:=by omega
  subst e
  rw[Nat.add_sub_cancel];exact T.irr _
theorem DG.alike{p:Array Nat}{k q:Nat}(T:TPre lt)(d:DG n lt p k q)(hq:q+1≤k){i j:Nat}(h1:k-(q+1)≤i)(h2:i<k)(h3:k-(q+1)≤j)(h4:j<k):lt (ga p i) (ga p j)=false:=by
 have a:lt (ga p i) (ga p (k-1))=false:=by
  by_cases z:i=k-1
  ·rw[z];exact T.irr _
  ·exact d.d1 i (k-1) (by omega) (by omega)
 exact T.tr _ _ _ (d.d4 j h3 h4) a
theorem DG.rev{p:Array Nat}{k q:Nat}(T:TPre lt)(hp:Pmn n p)(d:DG n lt p k q)(hq:q+1≤k)(hk:k≤n):DR n lt (kas_rev p (k-(q+1)) k) k:=by
 have hps:=hp.size
 have gr:=a7N (p:=p) (i:=k-(q+1)) (j:=k) (by omega)
 have pi:∀i,k-(q+1)≤i→i<n→ga p i=i:=d.pre.2
 refine⟨⟨fun i hi=>?_,fun i h1 h2=>?_⟩,fun i j hij hj=>?_,fun i j hij hj=>?_⟩
 ·rw[gr]
  split
  ·rw[pi _ (by omega) (by omega)];omega
  ·have:=d.pre.1 i (by omega);omega
 ·rw[gr,if_neg (by omega)];exact pi i (by omega) h2
 ·rw[gr,gr]
  by_cases zj:k-(q+1)≤j
  ·rw[if_pos (show k-(q+1)≤j∧j<k by omega)]
   by_cases zi:k-(q+1)≤i
   ·rw[if_pos (by omega)]
    exact d.alike T hq (by omega) (by omega) (by omega) (by omega)
   ·rw[if_neg (by omega)]
    exact d.d1 _ _ (by omega) (by omega)
  ·rw[if_neg (show ¬(k-(q+1)≤j∧j<k) by omega),if_neg (by omega)]
   exact d.d1 _ _ hij hj
 ·rw[gr,gr]
  by_cases zj:k-(q+1)≤j
  ·rw[if_pos (show k-(q+1)≤j∧j<k by omega)]
   by_cases zi:k-(q+1)≤i
   ·rw[if_pos (by omega)]
    intro _
    rw[pi _ (by omega) (by omega),pi _ (by omega) (by omega)]
    omega
   ·rw[if_neg (by omega)]
    intro z
    have a:=d.alike T hq (i:=k-1) (j:=k-(q+1)+k-1-j) (by omega) (by omega) (by omega) (by omega)
    have b:=T.tr _ _ _ z a
    rw[d.d3 i (by omega)]at b
    cases b
  ·rw[if_neg (show ¬(k-(q+1)≤j∧j<k) by omega),if_neg (by omega)]
   exact d.d2 _ _ hij (by omega)
theorem DG.one{p:Array Nat}{k:Nat}(T:TPre lt)(d:DG n lt p k 0)(hk1:1≤k)(hk:k≤n):DR n lt p k:=by
 refine⟨d.pre.up (by omega) hk,d.d1,fun i j hij hj z=>?_⟩
 by_cases e:j=k-1
 ·subst e
  rw[d.d3 i (by omega)]at z
  cases z
 ·exact d.d2 i j hij (by omega) z
end
theorem SqL.ext{K:W.Frag}{H1 H2:Hp}{a:Addr}{xs:List V}(h:SqL K H1 a xs)(ex:∀a o,H1 a=some o→H2 a=some o):SqL K H2 a xs:=by
 rcases h with(h | ⟨o,h⟩) | h
 ·exact .inl (.inl (ex _ _ h))
 ·exact .inl (.inr ⟨o,ex _ _ h⟩)
 ·exact .inr h
def m7:Bool→Keyed→Array Keyed→Nat→Nat→Nat→StateT SortSt Sem (Option Nat):=sortPriv% PySem.Builtin.gallop
abbrev E8(left:Bool)(key:Keyed)(arr:Array Keyed)(base i:Nat):StateT SortSt Sem (Option Bool):=do
 let x ← elem' arr (base+i)
 if left then lt' x key else return (← lt' key x).map (!·)
theorem a2L(left:Bool)(key:Keyed)(arr:Array Keyed)(base n hint:Nat):m7 left key arr base n hint=(do
 let mut lastofs:=0
 let mut ofs:=1
 let mut lo:=0
 let mut hi:=0
 let some right ← E8 left key arr base hint | return none
 if right then
  let maxofs:=n-hint
  for _ in [0:n]do
   if ofs≥maxofs then break
   let some more ← E8 left key arr base (hint+ofs) | return none
   if !more then break
   lastofs:=ofs
   ofs:=2*ofs+1
  lo:=hint+lastofs+1
  hi:=hint+min ofs maxofs
 else
  let maxofs:=hint+1
  for _ in [0:n]do
   if ofs≥maxofs then break
   let some found ← E8 left key arr base (hint-ofs) | return none
   if found then break
   lastofs:=ofs
   ofs:=2*ofs+1
  lo:=hint+1-min ofs maxofs
  hi:=hint-lastofs
 for _ in [0:n]do
  if lo≥hi then break
  let m:=lo+(hi-lo)/2
  let some more ← E8 left key arr base m | return none
  if more then lo:=m+1 else hi:=m
 return some hi):=rfl
structure TPK(lt:Keyed→Keyed→Bool)(Dm:Keyed→Prop):Prop where
 irr:∀x,Dm x→lt x x=false
 tr:∀x y z,Dm x→Dm y→Dm z→lt y x=false→lt z y=false→lt z x=false
 asy:∀x y,Dm x→Dm y→lt x y=true→lt y x=false
section
variable {prog:Program}{w:World}{A:Around}{E:Value→Shared→Prop}{s:Shared}{κ:SortKind}{lt:Keyed→Keyed→Bool}{Dm:Keyed→Prop}
def l3(prog:Program)(w:World)(A:Around)(s:Shared)(κ:SortKind)(lt:Keyed→Keyed→Bool)(Dm:Keyed→Prop):Prop:=∀x y,Dm x→Dm y→∀Q:Bool→Shared→Prop,Q (lt x y) s→wpAny (model prog w) A (keyLt' κ x.1 y.1) Q (fun _ _=>False) s
theorem Q2{x y:Keyed}{st:SortSt}{Q:Option Bool→SortSt→Prop}(C:l3 prog w A s κ lt Dm)(hk:kindOf st=κ)(hx:Dm x)(hy:Dm y)(h:Q (some (lt x y)) st):wpS (model prog w) A E s (lt' x y) Q st:=by
 rw[lt'_eq]
 refine wpS_bind (wpS_get ?_)
 rw[hk]
 refine wpS_bind (wpS_lift (wpAny_attempt (wpAny_mono (C x y hx hy (fun b s'=>s'=s∧b=lt x y) ⟨rfl,rfl⟩) (fun b s' hb=>?_) fun _ _ z=>z.elim)))
 obtain⟨rfl,rfl⟩:=hb
 exact⟨rfl,wpS_pure h⟩
theorem i0{arr:Array Keyed}{i:Nat}{x:Keyed}{st:SortSt}{Q:Keyed→SortSt→Prop}(hx:arr[i]? = some x)(h:Q x st):wpS (model prog w) A E s (elem' arr i) Q st:=by
 rw[elem'_eq,hx]
 exact wpS_pure h
def bey(lt:Keyed→Keyed→Bool)(left:Bool)(key x:Keyed):Bool:=if left=true then lt x key else !lt key x
theorem a6d{left:Bool}{key x:Keyed}{arr:Array Keyed}{base i:Nat}{st:SortSt}{Q:Option Bool→SortSt→Prop}(C:l3 prog w A s κ lt Dm)(hk:kindOf st=κ)(hkey:Dm key)(hx:arr[base+i]? = some x)(dx:Dm x)(h:Q (some (bey lt left key x)) st):wpS (model prog w) A E s (E8 left key arr base i) Q st:=by
 refine wpS_bind (i0 hx ?_)
 cases left with
 | true=>exact Q2 C hk dx hkey h
 | false=>exact wpS_bind (Q2 C hk hkey dx (wpS_pure h))
theorem C5{β:Type}{n:Nat}{f:Nat→β→StateT SortSt Sem (ForInStep β)}(I:Nat→β→SortSt→Prop)(Q':β→SortSt→Prop){Q:β→SortSt→Prop}{c:β}{st:SortSt}
  (hstep:∀i c st,i<n→I i c st→wpS (model prog w) A E s (f i c) (fun r st'=>match r with | .done c'=>Q' c' st' | .yield c'=>I (i+1) c' st') st)
  (hend:∀c st,I n c st→Q' c st) (h:I 0 c st) (hq:∀c st',Q' c st'→Q c st'):wpS (model prog w) A E s (forIn [:n] c f) Q st :=
 wpS_mono (wpS_forRange I (Q:=Q') (fun i c st _ hi hI=>hstep i c st hi hI) (fun c st hI=>hend c st (by rw[show max 0 n=n by omega]at hI;exact hI)) h) hq
theorem a18{n lo hi:Nat}{st:SortSt}{B:Nat→StateT SortSt Sem (Option Bool)}{Q:Option (Option Nat)×Nat×Nat→SortSt→Prop}(b:Nat→Bool)(ask:∀i (Q':Option Bool→SortSt→Prop),i<n→Q' (some (b i)) st→wpS (model prog w) A E s (B i) Q' st)
  (mono:∀i j,i≤j→j<n→b j=true→b i=true) (h1:lo≤hi) (h2:hi≤n) (h3:∀i,i<lo→b i=true) (h4:∀i,hi≤i→i<n→b i=false) (h:∀k,k≤n→(∀i,i<k→b i=true)→(∀i,k≤i→i<n→b i=false)→∀l,Q (none,l,k) st) :
  wpS (model prog w) A E s (forIn [:n] ((none,lo,hi):Option (Option Nat)×Nat×Nat) fun x __s =>
        if __s.snd.fst≥__s.snd.snd then pure (ForInStep.done (none,__s.snd.fst,__s.snd.snd))
        else do
         let __x ← B (__s.snd.fst+(__s.snd.snd-__s.snd.fst)/2)
         match __x with
          | some more =>
           if more=true then
            pure (ForInStep.yield (none,__s.snd.fst+(__s.snd.snd-__s.snd.fst)/2+1,__s.snd.snd))
           else pure (ForInStep.yield (none,__s.snd.fst,__s.snd.fst+(__s.snd.snd-__s.snd.fst)/2))
          | x=>pure (ForInStep.done (some none,__s.snd.fst,__s.snd.snd))) Q st:=by
 refine wpS_forRange (fun i c st'=>c.1=none∧st'=st∧c.2.1≤c.2.2∧c.2.2≤n∧(∀i,i<c.2.1→b i=true)∧(∀i,c.2.2≤i→i<n→b i=false)∧c.2.2-c.2.1≤n-i) ?_ ?_ ⟨rfl,rfl,h1,h2,h3,h4,by simp;omega⟩
 ·rintro i ⟨c0,lo,hi⟩ st' _ hi2 ⟨e0,rfl,a1,a2,a3,a4,a5⟩
  dsimp only at *
  by_cases z:lo≥hi
  ·rw[if_pos z]
   refine wpS_pure ?_
   have:lo=hi:=by omega
   subst this
   exact h lo a2 a3 a4 lo
  ·rw[if_neg z]
   refine wpS_bind (ask _ _ (by omega) ?_)
   dsimp only
   cases c:b (lo+(hi-lo)/2)with
   | true =>
    rw[if_pos rfl]
    exact wpS_pure ⟨rfl,rfl,by show lo+(hi-lo)/2+1≤hi;omega,a2,fun j hj=>mono j _ (by have:j<lo+(hi-lo)/2+1:=hj;omega) (by omega) c,a4,by show hi-(lo+(hi-lo)/2+1)≤n-(i+1);omega⟩
   | false =>
    rw[if_neg (by simp)]
    refine wpS_pure ⟨rfl,rfl,by show lo≤lo+(hi-lo)/2;omega,by show lo+(hi-lo)/2≤n;omega,a3,fun j hj hn=>?_,by show lo+(hi-lo)/2-lo≤n-(i+1);omega⟩
    have hj:lo+(hi-lo)/2≤j:=hj
    cases d:b j with
    | false=>rfl
    | true=>rw[mono _ j hj hn d]at c;cases c
 ·rintro⟨c0,lo,hi⟩ st' ⟨e0,rfl,a1,a2,a3,a4,a5⟩
  dsimp only at *
  subst e0
  have:lo=hi:=by
   have:max 0 n=n:=by omega
   omega
  subst this
  exact h lo a2 a3 a4 lo
theorem u5{left:Bool}{key:Keyed}{arr:Array Keyed}{base n hint:Nat}{st:SortSt}{Q:Option Nat→SortSt→Prop}(C:l3 prog w A s κ lt Dm)(hk:kindOf st=κ)(hkey:Dm key)(hh:hint<n)(b:Nat→Bool)(hb:∀i,i<n→∃x,arr[base+i]? = some x∧Dm x∧bey lt left key x=b i)(mono:∀i j,i≤j→j<n→b j=true→b i=true)
  (h:∀k,k≤n→(∀i,i<k→b i=true)→(∀i,k≤i→i<n→b i=false)→Q (some k) st):wpS (model prog w) A E s (m7 left key arr base n hint) Q st:=by
 have ask:∀i (Q':Option Bool→SortSt→Prop),i<n→Q' (some (b i)) st→wpS (model prog w) A E s (E8 left key arr base i) Q' st:=fun i Q' hi hq=>by
  obtain⟨x,hx,dx,e⟩:=hb i hi
  exact a6d C hk hkey hx dx (by rw[e];exact hq)
 rw[a2L]
 refine wpS_bind (ask hint _ hh ?_)
 dsimp only
 have neg:∀i j,i≤j→j<n→b i=false→b j=false:=fun i j h1 h2 h3=>by
  cases d:b j with
  | false=>rfl
  | true=>rw[mono i j h1 h2 d]at h3;cases h3
 cases c:b hint with
 | true =>
  rw[if_pos rfl]
  refine wpS_bind (C5 (fun(i:Nat) (c:Option (Option Nat)×Nat×Nat) st'=>c.1=none∧st'=st∧c.2.1<c.2.2∧i+1≤c.2.2∧hint+c.2.1<n∧b (hint+c.2.1)=true) (fun(c:Option (Option Nat)×Nat×Nat) st'=>c.1=none∧st'=st∧c.2.1<c.2.2∧hint+c.2.1<n∧b (hint+c.2.1)=true∧(hint+c.2.2<n→b (hint+c.2.2)=false)) ?_ ?_ ⟨rfl,rfl,by show 0<1;omega,by show 0+1≤1;omega,by show hint+0<n;omega,c⟩ ?_)
  ·rintro i ⟨c0,l,o⟩ st' hi2 ⟨e0,rfl,a1,a2,a3,a4⟩
   dsimp only at *
   by_cases z:o≥n-hint
   ·rw[if_pos z]
    exact wpS_pure ⟨rfl,rfl,a1,a3,a4,fun y=>absurd y (by show ¬hint+o<n;omega)⟩
   ·rw[if_neg z]
    refine wpS_bind (ask _ _ (by omega) ?_)
    dsimp only
    cases d:b (hint+o)with
    | true =>
     rw[if_neg (by simp)]
     exact wpS_pure ⟨rfl,rfl,by show o<2*o+1;omega,by show i+1+1≤2*o+1;omega,by show hint+o<n;omega,d⟩
    | false =>
     rw[if_pos (by simp)]
     exact wpS_pure ⟨rfl,rfl,a1,a3,a4,fun _=>d⟩
  ·rintro⟨c0,l,o⟩ st' ⟨e0,rfl,a1,a2,a3,a4⟩
   dsimp only at *
   refine⟨e0,rfl,a1,a3,a4,fun y=>absurd y ?_⟩
   omega
  ·rintro⟨c0,l,o⟩ st' ⟨e0,rfl,a1,a3,a4,a5⟩
   dsimp only at *
   subst e0
   dsimp only
   refine wpS_bind (a18 b ask mono (by omega) (by omega) (fun j hj=>mono j (hint+l) (by omega) a3 a4) (fun j hj hn=>neg (hint+o) j (by omega) hn (a5 (by omega))) fun k k1 k2 k3 l=>wpS_pure (h k k1 k2 k3))
 | false =>
  rw[if_neg (by simp)]
  refine wpS_bind (C5 (fun(i:Nat) (c:Option (Option Nat)×Nat×Nat) st'=>c.1=none∧st'=st∧c.2.1<c.2.2∧i+1≤c.2.2∧c.2.1≤hint∧b (hint-c.2.1)=false) (fun(c:Option (Option Nat)×Nat×Nat) st'=>c.1=none∧st'=st∧c.2.1<c.2.2∧c.2.1≤hint∧b (hint-c.2.1)=false∧(c.2.2≤hint→b (hint-c.2.2)=true)) ?_ ?_ ⟨rfl,rfl,by show 0<1;omega,by show 0+1≤1;omega,by show 0≤hint;omega,c⟩ ?_)
  ·rintro i ⟨c0,l,o⟩ st' hi2 ⟨e0,rfl,a1,a2,a3,a4⟩
   dsimp only at *
   by_cases z:o≥hint+1
   ·rw[if_pos z]
    exact wpS_pure ⟨rfl,rfl,a1,a3,a4,fun y=>absurd y (by show ¬o≤hint;omega)⟩
   ·rw[if_neg z]
    refine wpS_bind (ask _ _ (by omega) ?_)
    dsimp only
    cases d:b (hint-o)with
    | true =>
     rw[if_pos rfl]
     exact wpS_pure ⟨rfl,rfl,a1,a3,a4,fun _=>d⟩
    | false =>
     rw[if_neg (by simp)]
     exact wpS_pure ⟨rfl,rfl,by show o<2*o+1;omega,by show i+1+1≤2*o+1;omega,by show o≤hint;omega,d⟩
  ·rintro⟨c0,l,o⟩ st' ⟨e0,rfl,a1,a2,a3,a4⟩
   dsimp only at *
   refine⟨e0,rfl,a1,a3,a4,fun y=>absurd y ?_⟩
   omega
  ·rintro⟨c0,l,o⟩ st' ⟨e0,rfl,a1,a3,a4,a5⟩
   dsimp only at *
   subst e0
   dsimp only
   refine wpS_bind (a18 b ask mono (by omega) (by omega) (fun j hj=>?_) (fun j hj hn=>neg (hint-l) j hj hn a4) fun k k1 k2 k3 l=>wpS_pure (h k k1 k2 k3))
   by_cases y:o≤hint
   ·exact mono j (hint-o) (by omega) (by omega) (a5 y)
   ·omega
end
def m8:Nat→StateT SortSt Sem Unit:=sortPriv% PySem.Builtin.setMinGallop
theorem U2(g:Nat):m8 g=modify fun s=>SortSt.mk' (kindOf s) (arrOf s) (pendingOf s) g (failedOf s):=rfl
def U3:Array Keyed→Array Keyed→StateT SortSt Sem (Array Keyed):=sortPriv% PySem.Builtin.mergeLo
abbrev o8(a b out:Array Keyed)(ia ib:Nat):Array Keyed:=out++a.extract ia a.size++b.extract ib b.size
abbrev L9(a b out:Array Keyed)(ia ib:Nat):Array Keyed:=out++b.extract ib b.size++a.extract ia a.size
theorem a1H(a b:Array Keyed):U3 a b=(do
 rule "list.sort.merge-lo"
 let total:=a.size+b.size
 let mut out:Array Keyed := #[← elem' b 0]
 let mut ia:=0
 let mut ib:=1
 if ib == b.size then return o8 a b out ia ib
 if ia+1 == a.size then return L9 a b out ia ib
 let mut minGallop:=gallopOf (← get)
 for _ in [0:total]do
  let mut acount:=0
  let mut bcount:=0
  for _ in [0:total]do
   let some bWins ← lt' (← elem' b ib) (← elem' a ia) | return o8 a b out ia ib
   if bWins then
    out:=out.push (← elem' b ib);ib:=ib+1;bcount:=bcount+1;acount:=0
    if ib == b.size then return o8 a b out ia ib
    if bcount≥minGallop then break
   else
    out:=out.push (← elem' a ia);ia:=ia+1;acount:=acount+1;bcount:=0
    if ia+1 == a.size then return L9 a b out ia ib
    if acount≥minGallop then break
  rule "list.sort.gallop"
  minGallop:=minGallop+1
  for _ in [0:total]do
   if minGallop > 1 then minGallop:=minGallop-1
   m8 minGallop
   let some k ← m7 false (← elem' b ib) a ia (a.size-ia) 0 | return o8 a b out ia ib
   acount:=k
   if k > 0 then
    out:=out++a.extract ia (ia+k);ia:=ia+k
    if ia+1 == a.size then return L9 a b out ia ib
    if ia == a.size then return o8 a b out ia ib
   out:=out.push (← elem' b ib);ib:=ib+1
   if ib == b.size then return o8 a b out ia ib
   let some k ← m7 true (← elem' a ia) b ib (b.size-ib) 0 | return o8 a b out ia ib
   bcount:=k
   if k > 0 then
    out:=out++b.extract ib (ib+k);ib:=ib+k
    if ib == b.size then return o8 a b out ia ib
   out:=out.push (← elem' a ia);ia:=ia+1
   if ia+1 == a.size then return L9 a b out ia ib
   if acount<7 && bcount<7 then break
  minGallop:=minGallop+1
  m8 minGallop
 unsupported "internal:list.sort.merge-bound"):=rfl
def Srt(lt:Keyed→Keyed→Bool)(l:List Keyed):Prop:=l.Pairwise fun x y=>lt y x=false
structure ML(lt:Keyed→Keyed→Bool)(aL bL o ra rb:List Keyed):Prop where
 ex:∃pa pb,aL=pa++ra∧bL=pb++rb∧o.Perm (pa++pb)
 so:Srt lt o
 oa:∀x∈o,∀y∈ra,lt y x=false
 ob:∀x∈o,∀y∈rb,lt y x=false
def g9(lt:Keyed→Keyed→Bool)(aL bL r:List Keyed):Prop:=r.Perm (aL++bL)∧Srt lt r
section
variable {lt:Keyed→Keyed→Bool}{aL bL o ra rb u:List Keyed}{x y:Keyed}
theorem Srt.app{l m:List Keyed}(h1:Srt lt l)(h2:Srt lt m)(h3:∀x∈l,∀y∈m,lt y x=false):Srt lt (l++m):=List.pairwise_append.mpr ⟨h1,h2,h3⟩
theorem Srt.drop{l:List Keyed}(h:Srt lt l)(n:Nat):Srt lt (l.drop n):=List.Pairwise.sublist (List.drop_sublist n l) h
theorem ML.addB(m:ML lt aL bL o ra (y::rb))(hs:Srt lt (y::rb))(h:∀x∈ra,lt x y=false):ML lt aL bL (o++[y]) ra rb:=by
 obtain⟨pa,pb,e1,e2,p⟩:=m.ex
 have hy:=List.pairwise_cons.mp hs
 refine⟨⟨pa,pb++[y],e1,by rw[e2];simp,?_⟩,m.so.app (List.pairwise_singleton _ _) (fun x hx z hz=>?_),fun x hx z hz=>?_,fun x hx z hz=>?_⟩
 ·rw[← List.append_assoc];exact p.append_right [y]
 ·rw[List.mem_singleton.mp hz];exact m.ob x hx y List.mem_cons_self
 ·rcases List.mem_append.mp hx with hx | hx
  ·exact m.oa x hx z hz
  ·rw[List.mem_singleton.mp hx];exact h z hz
 ·rcases List.mem_append.mp hx with hx | hx
  ·exact m.ob x hx z (List.mem_cons_of_mem _ hz)
  ·rw[List.mem_singleton.mp hx];exact hy.1 z hz
theorem ML.addA(m:ML lt aL bL o (x::ra) rb)(hs:Srt lt (x::ra))(h:∀y∈rb,lt y x=false):ML lt aL bL (o++[x]) ra rb:=by
 obtain⟨pa,pb,e1,e2,p⟩:=m.ex
 have hx':=List.pairwise_cons.mp hs
 refine⟨⟨pa++[x],pb,by rw[e1];simp,e2,?_⟩,m.so.app (List.pairwise_singleton _ _) (fun w hw z hz=>?_),fun w hw z hz=>?_,fun w hw z hz=>?_⟩
 ·refine(p.append_right [x]).trans ?_
  rw[List.append_assoc,List.append_assoc]
  exact List.Perm.append_left pa List.perm_append_comm
 ·rw[List.mem_singleton.mp hz];exact m.oa w hw x List.mem_cons_self
 ·rcases List.mem_append.mp hw with hw | hw
  ·exact m.oa w hw z (List.mem_cons_of_mem _ hz)
  ·rw[List.mem_singleton.mp hw];exact hx'.1 z hz
 ·rcases List.mem_append.mp hw with hw | hw
  ·exact m.ob w hw z hz
  ·rw[List.mem_singleton.mp hw];exact h z hz
theorem ML.addAs:∀{u o:List Keyed},ML lt aL bL o (u++ra) rb→Srt lt (u++ra)→(∀x∈u,∀y∈rb,lt y x=false)→ML lt aL bL (o++u) ra rb
 | [],o,m,_,_=>by rw[List.append_nil];exact m
 | x::u,o,m,hs,h=>by
  have:=ML.addAs (u:=u) (ML.addA m hs (h x List.mem_cons_self)) (List.pairwise_cons.mp hs).2 fun z hz=>h z (List.mem_cons_of_mem _ hz)
  rw[List.append_assoc]at this
  exact this
theorem ML.addBs:∀{u o:List Keyed},ML lt aL bL o ra (u++rb)→Srt lt (u++rb)→(∀y∈u,∀x∈ra,lt x y=false)→ML lt aL bL (o++u) ra rb
 | [],o,m,_,_=>by rw[List.append_nil];exact m
 | x::u,o,m,hs,h=>by
  have:=ML.addBs (u:=u) (ML.addB m hs (h x List.mem_cons_self)) (List.pairwise_cons.mp hs).2 fun z hz=>h z (List.mem_cons_of_mem _ hz)
  rw[List.append_assoc]at this
  exact this
theorem ML.finA(m:ML lt aL bL o ra [])(hs:Srt lt ra):g9 lt aL bL (o++ra):=by
 obtain⟨pa,pb,e1,e2,p⟩:=m.ex
 refine⟨?_,m.so.app hs m.oa⟩
 rw[e1,e2,List.append_nil]
 refine(p.append_right ra).trans ?_
 rw[List.append_assoc,List.append_assoc]
 exact List.Perm.append_left pa List.perm_append_comm
theorem ML.finB(m:ML lt aL bL o [] rb)(hs:Srt lt rb):g9 lt aL bL (o++rb):=by
 obtain⟨pa,pb,e1,e2,p⟩:=m.ex
 refine⟨?_,m.so.app hs m.ob⟩
 rw[e1,e2,List.append_nil,← List.append_assoc]
 exact p.append_right rb
theorem ML.finL(m:ML lt aL bL o [x] rb)(hs:Srt lt rb)(h:∀y∈rb,lt x y=false):g9 lt aL bL (o++rb++[x]):=by
 obtain⟨pa,pb,e1,e2,p⟩:=m.ex
 refine⟨?_,(m.so.app hs m.ob).app (List.pairwise_singleton _ _) fun w hw z hz=>?_⟩
 ·rw[e1,e2]
  refine((p.append_right rb).append_right [x]).trans ?_
  simp only[List.append_assoc]
  refine List.Perm.append_left pa ?_
  rw[← List.append_assoc]
  exact List.perm_append_comm
 ·rw[List.mem_singleton.mp hz]
  rcases List.mem_append.mp hw with hw | hw
  ·exact m.oa w hw x List.mem_cons_self
  ·exact h w hw
end
theorem A0(a:Array Keyed)(i:Nat):(a.extract i a.size).toList=a.toList.drop i:=by
 rw[Array.toList_extract,List.extract_eq_take_drop,List.take_of_length_le (by rw[List.length_drop,Array.length_toList];exact Nat.le_refl _)]
theorem a19(a:Array Keyed)(i k:Nat):(a.extract i (i+k)).toList=(a.toList.drop i).take k:=by
 rw[Array.toList_extract,List.extract_eq_take_drop]
 congr 1
 omega
def SameG(st st':SortSt):Prop:=kindOf st'=kindOf st∧arrOf st'=arrOf st∧pendingOf st'=pendingOf st∧failedOf st'=failedOf st
theorem SameG.refl(st:SortSt):SameG st st:=⟨rfl,rfl,rfl,rfl⟩
theorem SameG.trans{a b c:SortSt}(h:SameG a b)(g:SameG b c):SameG a c:=⟨g.1.trans h.1,g.2.1.trans h.2.1,g.2.2.1.trans h.2.2.1,g.2.2.2.trans h.2.2.2⟩
structure MI(lt:Keyed→Keyed→Bool)(a b out:Array Keyed)(ia ib:Nat):Prop where
 la:ia+1<a.size
 lb:ib<b.size
 ml:ML lt a.toList b.toList out.toList (a.toList.drop ia) (b.toList.drop ib)
structure MP(lt:Keyed→Keyed→Bool)(Dm:Keyed→Prop)(a b:Array Keyed):Prop where
 T:TPK lt Dm
 da:∀x∈a.toList,Dm x
 db:∀x∈b.toList,Dm x
 sa:Srt lt a.toList
 sb:Srt lt b.toList
 la:∀y∈b.toList,∀x,a.toList[a.size-1]? = some x→lt x y=false
section
variable {lt:Keyed→Keyed→Bool}{Dm:Keyed→Prop}{a b out:Array Keyed}{ia ib:Nat}{x y:Keyed}
theorem K3{l:List Keyed}{i:Nat}(h:l[i]? = some x):l.drop i=x::l.drop (i+1):=by
 obtain⟨hi,e⟩:=List.getElem?_eq_some_iff.mp h
 rw[List.drop_eq_getElem_cons hi,e]
theorem j0{a:Array Keyed}{i:Nat}(h:i<a.size):∃x,a[i]? = some x∧a.toList[i]? = some x∧x∈a.toList:=by
 refine⟨a[i],by simp[h],?_,Array.getElem_mem_toList h⟩
 rw[List.getElem?_eq_getElem (by simpa using h)]
 simp
theorem l9{l:List Keyed}{i:Nat}{z:Keyed}(h:z∈l.drop i):∃j,i≤j∧l[j]? = some z:=by
 obtain⟨j,hj⟩:=List.mem_iff_getElem?.mp h
 rw[List.getElem?_drop]at hj
 exact⟨i+j,by omega,hj⟩
theorem i6{l:List Keyed}(T:TPK lt Dm)(hD:∀x∈l,Dm x)(hs:Srt lt l){i j:Nat}(hij:i≤j)(hx:l[i]? = some x)(hy:l[j]? = some y):lt y x=false:=by
 obtain⟨hi,e1⟩:=List.getElem?_eq_some_iff.mp hx
 obtain⟨hj,e2⟩:=List.getElem?_eq_some_iff.mp hy
 by_cases z:i=j
 ·subst z
  rw[hx]at hy;cases hy
  exact T.irr _ (hD _ (List.mem_of_getElem? hx))
 ·rw[← e1,← e2]
  exact List.pairwise_iff_getElem.mp hs i j hi hj (by omega)
theorem MI.good_last{ia ib:Nat}(P:MP lt Dm a b)(m:ML lt a.toList b.toList out.toList (a.toList.drop ia) (b.toList.drop ib))(h:ia+1=a.size):g9 lt a.toList b.toList (L9 a b out ia ib).toList:=by
 obtain⟨x,_,hx,_⟩:=j0 (a:=a) (i:=ia) (by omega)
 have e1:a.toList.drop ia=[x]:=by
  rw[K3 hx,List.drop_eq_nil_of_le (by rw[Array.length_toList];omega)]
 show g9 _ _ _ (out++b.extract ib b.size++a.extract ia a.size).toList
 rw[Array.toList_append,Array.toList_append,A0,A0,e1]
 rw[e1]at m
 refine m.finL (P.sb.drop ib) fun y hy=>P.la y (List.mem_of_mem_drop hy) x ?_
 rw[show a.size-1=ia by omega]
 exact hx
theorem MI.good_doneB{ia ib:Nat}(P:MP lt Dm a b)(m:ML lt a.toList b.toList out.toList (a.toList.drop ia) (b.toList.drop ib))(h:ib=b.size):g9 lt a.toList b.toList (o8 a b out ia ib).toList:=by
 have e1:b.toList.drop ib=[]:=List.drop_eq_nil_of_le (by rw[Array.length_toList];omega)
 show g9 _ _ _ (out++a.extract ia a.size++b.extract ib b.size).toList
 rw[Array.toList_append,Array.toList_append,A0,A0,e1,List.append_nil]
 rw[e1]at m
 exact m.finA (P.sa.drop ia)
theorem MI.good_doneA{ia ib:Nat}(P:MP lt Dm a b)(m:ML lt a.toList b.toList out.toList (a.toList.drop ia) (b.toList.drop ib))(h:ia=a.size):g9 lt a.toList b.toList (o8 a b out ia ib).toList:=by
 have e1:a.toList.drop ia=[]:=List.drop_eq_nil_of_le (by rw[Array.length_toList];omega)
 show g9 _ _ _ (out++a.extract ia a.size++b.extract ib b.size).toList
 rw[Array.toList_append,Array.toList_append,A0,A0,e1,List.append_nil]
 rw[e1]at m
 exact m.finB (P.sb.drop ib)
theorem a4I(P:MP lt Dm a b)(m:ML lt a.toList b.toList out.toList (a.toList.drop ia) (b.toList.drop ib))(hy:b.toList[ib]? = some y)(h:∀x,a.toList[ia]? = some x→lt x y=false):ML lt a.toList b.toList (out.push y).toList (a.toList.drop ia) (b.toList.drop (ib+1)):=by
 rw[K3 hy]at m
 rw[Array.toList_push]
 refine m.addB (by rw[← K3 hy];exact P.sb.drop ib) fun z hz=>?_
 obtain⟨j,hj,e⟩:=l9 hz
 obtain⟨hjl,_⟩:=List.getElem?_eq_some_iff.mp e
 have ei:a.toList[ia]? = some a.toList[ia]:=List.getElem?_eq_getElem (by omega)
 exact P.T.tr _ _ _ (P.db y (List.mem_of_getElem? hy)) (P.da _ (List.mem_of_getElem? ei)) (P.da z (List.mem_of_getElem? e)) (h _ ei) (i6 P.T P.da P.sa hj ei e)
theorem a7Q(P:MP lt Dm a b)(m:ML lt a.toList b.toList out.toList (a.toList.drop ia) (b.toList.drop ib))(hx:a.toList[ia]? = some x)(h:∀y,b.toList[ib]? = some y→lt y x=false):ML lt a.toList b.toList (out.push x).toList (a.toList.drop (ia+1)) (b.toList.drop ib):=by
 rw[K3 hx]at m
 rw[Array.toList_push]
 refine m.addA (by rw[← K3 hx];exact P.sa.drop ia) fun z hz=>?_
 obtain⟨j,hj,e⟩:=l9 hz
 obtain⟨hjl,_⟩:=List.getElem?_eq_some_iff.mp e
 have ei:b.toList[ib]? = some b.toList[ib]:=List.getElem?_eq_getElem (by omega)
 exact P.T.tr _ _ _ (P.da x (List.mem_of_getElem? hx)) (P.db _ (List.mem_of_getElem? ei)) (P.db z (List.mem_of_getElem? e)) (h _ ei) (i6 P.T P.db P.sb hj ei e)
theorem M0{l:List Keyed}{i k:Nat}{z:Keyed}(h:z∈(l.drop i).take k):∃j,j<k∧l[i+j]? = some z:=by
 obtain⟨j,hj⟩:=List.mem_iff_getElem?.mp h
 by_cases hk:j<k
 ·rw[List.getElem?_take_of_lt hk,List.getElem?_drop]at hj
  exact⟨j,hk,hj⟩
 ·rw[List.getElem?_eq_none (by rw[List.length_take];omega)]at hj
  cases hj
theorem a8S(P:MP lt Dm a b)(m:ML lt a.toList b.toList out.toList (a.toList.drop ia) (b.toList.drop ib))(hy:b.toList[ib]? = some y)(k:Nat)(h:∀j x,j<k→a.toList[ia+j]? = some x→lt y x=false):ML lt a.toList b.toList (out++a.extract ia (ia+k)).toList (a.toList.drop (ia+k)) (b.toList.drop ib):=by
 have e0:a.toList.drop ia=(a.toList.drop ia).take k++a.toList.drop (ia+k):=by
  rw[show a.toList.drop (ia+k)=(a.toList.drop ia).drop k by rw[List.drop_drop],List.take_append_drop]
 rw[Array.toList_append,a19]
 refine ML.addAs (by rw[← e0];exact m) (by rw[← e0];exact P.sa.drop ia) fun z hz v hv=>?_
 obtain⟨j,hj,e⟩:=M0 hz
 obtain⟨i,hi,e2⟩:=l9 hv
 exact P.T.tr _ _ _ (P.da z (List.mem_of_getElem? e)) (P.db y (List.mem_of_getElem? hy)) (P.db v (List.mem_of_getElem? e2)) (h j z hj e) (i6 P.T P.db P.sb hi hy e2)
theorem a8T(P:MP lt Dm a b)(m:ML lt a.toList b.toList out.toList (a.toList.drop ia) (b.toList.drop ib))(hx:a.toList[ia]? = some x)(k:Nat)(h:∀j y,j<k→b.toList[ib+j]? = some y→lt x y=false):ML lt a.toList b.toList (out++b.extract ib (ib+k)).toList (a.toList.drop ia) (b.toList.drop (ib+k)):=by
 have e0:b.toList.drop ib=(b.toList.drop ib).take k++b.toList.drop (ib+k):=by
  rw[show b.toList.drop (ib+k)=(b.toList.drop ib).drop k by rw[List.drop_drop],List.take_append_drop]
 rw[Array.toList_append,a19]
 refine ML.addBs (by rw[← e0];exact m) (by rw[← e0];exact P.sb.drop ib) fun z hz v hv=>?_
 obtain⟨j,hj,e⟩:=M0 hz
 obtain⟨i,hi,e2⟩:=l9 hv
 exact P.T.tr _ _ _ (P.db z (List.mem_of_getElem? e)) (P.da x (List.mem_of_getElem? hx)) (P.da v (List.mem_of_getElem? e2)) (h j z hj e) (i6 P.T P.da P.sa hi hx e2)
end
abbrev GS:=Option (Array Keyed)×Array Keyed×Nat×Nat×Nat×Nat×Nat
abbrev loC(a b out:Array Keyed)(ia ib mg ac bc:Nat):StateT SortSt Sem (ForInStep GS):=do
 let x ← elem' a ia
 if(ia+1+1 == a.size)=true then pure (.done (some (L9 a b (out.push x) (ia+1) ib),out.push x,ia+1,ib,mg,ac,bc))
 else if(decide (ac<7) && decide (bc<7))=true then pure (.done (none,out.push x,ia+1,ib,mg,ac,bc))
 else pure (.yield (none,out.push x,ia+1,ib,mg,ac,bc))
abbrev loB(a b out:Array Keyed)(ia ib mg ac bc:Nat):StateT SortSt Sem (ForInStep GS):=do
 let y ← elem' b ib
 if(ib+1 == b.size)=true then pure (.done (some (o8 a b (out.push y) ia (ib+1)),out.push y,ia,ib+1,mg,ac,bc))
 else do
  let x ← elem' a ia
  let r ← m7 true x b (ib+1) (b.size-(ib+1)) 0
  match r with
  | some k =>
   if k > 0 then
    (if(ib+1+k == b.size)=true then pure (.done (some (o8 a b (out.push y++b.extract (ib+1) (ib+1+k)) ia (ib+1+k)),out.push y++b.extract (ib+1) (ib+1+k),ia,ib+1+k,mg,ac,k))
    else loC a b (out.push y++b.extract (ib+1) (ib+1+k)) ia (ib+1+k) mg ac k)
   else loC a b (out.push y) ia (ib+1) mg ac k
  | _=>pure (.done (some (o8 a b (out.push y) ia (ib+1)),out.push y,ia,ib+1,mg,ac,bc))
abbrev loA(a b out:Array Keyed)(ia ib mg ac bc:Nat):StateT SortSt Sem (ForInStep GS):=do
 let y ← elem' b ib
 let r ← m7 false y a ia (a.size-ia) 0
 match r with
 | some k =>
  if k > 0 then
   (if(ia+k+1 == a.size)=true then pure (.done (some (L9 a b (out++a.extract ia (ia+k)) (ia+k) ib),out++a.extract ia (ia+k),ia+k,ib,mg,k,bc))
   else if(ia+k == a.size)=true then pure (.done (some (o8 a b (out++a.extract ia (ia+k)) (ia+k) ib),out++a.extract ia (ia+k),ia+k,ib,mg,k,bc))
   else loB a b (out++a.extract ia (ia+k)) (ia+k) ib mg k bc)
  else loB a b out ia ib mg k bc
 | _=>pure (.done (some (o8 a b out ia ib),out,ia,ib,mg,ac,bc))
section
variable {prog:Program}{w:World}{A:Around}{E:Value→Shared→Prop}{s:Shared}{κ:SortKind}{lt:Keyed→Keyed→Bool}{Dm:Keyed→Prop}{a b out:Array Keyed}{ia ib mg ac bc p0:Nat}{st0 st:SortSt}
def PQ(lt:Keyed→Keyed→Bool)(a b:Array Keyed)(p0:Nat)(st0:SortSt):ForInStep GS→SortSt→Prop
 | .done c,st'=>SameG st0 st'∧((∃r,c.1=some r∧g9 lt a.toList b.toList r.toList)∨(c.1=none∧MI lt a b c.2.1 c.2.2.1 c.2.2.2.1∧p0≤c.2.2.1+c.2.2.2.1))
 | .yield c,st'=>SameG st0 st'∧c.1=none∧MI lt a b c.2.1 c.2.2.1 c.2.2.2.1∧p0≤c.2.2.1+c.2.2.2.1
theorem a7T(P:MP lt Dm a b)(hg:SameG st0 st)(m:MI lt a b out ia ib)(hp:p0≤ia+ib)(hle:∀x y,a.toList[ia]? = some x→b.toList[ib]? = some y→lt y x=false):wpS (model prog w) A E s (loC a b out ia ib mg ac bc) (PQ lt a b p0 st0) st:=by
 obtain⟨x,hx,hxl,_⟩:=j0 (a:=a) (i:=ia) (by have:=m.la;omega)
 have ml:=a7Q P m.ml hxl (fun y hy=>hle x y hxl hy)
 refine wpS_bind (i0 hx ?_)
 by_cases z:(ia+1+1 == a.size)=true
 ·rw[if_pos z]
  exact wpS_pure ⟨hg,.inl ⟨_,rfl,MI.good_last P ml (by simpa using z)⟩⟩
 ·rw[if_neg z]
  have z':ia+1+1≠a.size:=by simpa using z
  have m':MI lt a b (out.push x) (ia+1) ib:=⟨by have:=m.la;omega,m.lb,ml⟩
  split
  ·exact wpS_pure ⟨hg,.inr ⟨rfl,m',by show p0≤ia+1+ib;omega⟩⟩
  ·exact wpS_pure ⟨hg,rfl,m',by show p0≤ia+1+ib;omega⟩
theorem a7U(C:l3 prog w A s κ lt Dm)(P:MP lt Dm a b)(hk:kindOf st=κ)(hg:SameG st0 st)(m:MI lt a b out ia ib)(hp:p0≤ia+ib)(hle:∀x y,a.toList[ia]? = some x→b.toList[ib]? = some y→lt x y=false):wpS (model prog w) A E s (loB a b out ia ib mg ac bc) (PQ lt a b p0 st0) st:=by
 obtain⟨y,hy,hyl,_⟩:=j0 (a:=b) (i:=ib) m.lb
 obtain⟨x,hx,hxl,mx⟩:=j0 (a:=a) (i:=ia) (by have:=m.la;omega)
 have ml:=a4I P m.ml hyl (fun x hx=>hle x y hx hyl)
 have dx:=P.da x mx
 refine wpS_bind (i0 hy ?_)
 by_cases z:(ib+1 == b.size)=true
 ·rw[if_pos z]
  exact wpS_pure ⟨hg,.inl ⟨_,rfl,MI.good_doneB P ml (by simpa using z)⟩⟩
 ·rw[if_neg z]
  have z':ib+1≠b.size:=by simpa using z
  have hlb:ib+1<b.size:=by have:=m.lb;omega
  refine wpS_bind (i0 hx (wpS_bind ?_))
  have at_:∀i,i<b.size-(ib+1)→∃v,b[ib+1+i]? = some v∧b.toList[ib+1+i]? = some v∧v∈b.toList:=fun i hi=>j0 (by omega)
  refine u5 C hk dx (by omega) (fun i=>lt ((b.toList[ib+1+i]?).getD x) x) (fun i hi=>?_) (fun i j hij hj hb=>?_) fun k hk1 hk2 hk3=>?_
  ·obtain⟨v,h1,h2,h3⟩:=at_ i hi
   exact⟨v,h1,P.db v h3,by rw[h2];rfl⟩
  ·obtain⟨v,h1,h2,h3⟩:=at_ i (by omega)
   obtain⟨u,u1,u2,u3⟩:=at_ j hj
   rw[u2]at hb
   rw[h2]
   show lt v x=true
   cases q:lt v x with
   | true=>rfl
   | false =>
    have:=P.T.tr x v u dx (P.db v h3) (P.db u u3) q (i6 P.T P.db P.sb (by omega) h2 u2)
    have hb:lt u x=true:=hb
    rw[this]at hb;cases hb
  ·dsimp only
   have low:∀j v,j<k→b.toList[ib+1+j]? = some v→lt x v=false:=fun j v hj hv=>by
    have:=hk2 j hj
    rw[hv]at this
    exact P.T.asy _ _ (P.db v (List.mem_of_getElem? hv)) dx this
   have high:∀v,b.toList[ib+1+k]? = some v→lt v x=false:=fun v hv=>by
    obtain⟨hl,_⟩:=List.getElem?_eq_some_iff.mp hv
    rw[Array.length_toList]at hl
    have:=hk3 k (Nat.le_refl _) (by omega)
    rw[hv]at this
    exact this
   by_cases k0:k > 0
   ·rw[if_pos k0]
    have ml2:=a8T P ml hxl k low
    by_cases y1:(ib+1+k == b.size)=true
    ·rw[if_pos y1]
     exact wpS_pure ⟨hg,.inl ⟨_,rfl,MI.good_doneB P ml2 (by simpa using y1)⟩⟩
    ·rw[if_neg y1]
     have y1':ib+1+k≠b.size:=by simpa using y1
     exact a7T P hg ⟨m.la,by omega,ml2⟩ (by omega) fun x' y' e1 e2=>by
      rw[hxl]at e1;cases e1
      exact high y' e2
   ·rw[if_neg k0]
    have e0:k=0:=by omega
    subst e0
    exact a7T P hg ⟨m.la,hlb,ml⟩ (by omega) fun x' y' e1 e2=>by
     rw[hxl]at e1;cases e1
     exact high y' e2
theorem a7V(C:l3 prog w A s κ lt Dm)(P:MP lt Dm a b)(hk:kindOf st=κ)(hg:SameG st0 st)(m:MI lt a b out ia ib)(hp:p0≤ia+ib):wpS (model prog w) A E s (loA a b out ia ib mg ac bc) (PQ lt a b p0 st0) st:=by
 obtain⟨y,hy,hyl,my⟩:=j0 (a:=b) (i:=ib) m.lb
 have dy:=P.db y my
 have hla:=m.la
 refine wpS_bind (i0 hy (wpS_bind ?_))
 have at_:∀i,i<a.size-ia→∃v,a[ia+i]? = some v∧a.toList[ia+i]? = some v∧v∈a.toList:=fun i hi=>j0 (by omega)
 refine u5 C hk dy (by omega) (fun i=>!lt y ((a.toList[ia+i]?).getD y)) (fun i hi=>?_) (fun i j hij hj hb=>?_) fun k hk1 hk2 hk3=>?_
 ·obtain⟨v,h1,h2,h3⟩:=at_ i hi
  exact⟨v,h1,P.da v h3,by rw[h2];rfl⟩
 ·obtain⟨v,h1,h2,h3⟩:=at_ i (by omega)
  obtain⟨u,u1,u2,u3⟩:=at_ j hj
  rw[u2]at hb
  rw[h2]
  have hb:(!lt y u)=true:=hb
  have hb':lt y u=false:=by simpa using hb
  show(!lt y v)=true
  rw[P.T.tr v u y (P.da v h3) (P.da u u3) dy (i6 P.T P.da P.sa (by omega) h2 u2) hb']
  rfl
 ·dsimp only
  have low:∀j v,j<k→a.toList[ia+j]? = some v→lt y v=false:=fun j v hj hv=>by
   have:=hk2 j hj
   rw[hv]at this
   have this:(!lt y v)=true:=this
   simpa using this
  have high:∀v,a.toList[ia+k]? = some v→lt v y=false:=fun v hv=>by
   obtain⟨hl,_⟩:=List.getElem?_eq_some_iff.mp hv
   rw[Array.length_toList]at hl
   have:=hk3 k (Nat.le_refl _) (by omega)
   rw[hv]at this
   have this:(!lt y v)=false:=this
   exact P.T.asy _ _ dy (P.da v (List.mem_of_getElem? hv)) (by simpa using this)
  by_cases k0:k > 0
  ·rw[if_pos k0]
   have ml2:=a8S P m.ml hyl k low
   by_cases y1:(ia+k+1 == a.size)=true
   ·rw[if_pos y1]
    exact wpS_pure ⟨hg,.inl ⟨_,rfl,MI.good_last P ml2 (by simpa using y1)⟩⟩
   ·rw[if_neg y1]
    have y1':ia+k+1≠a.size:=by simpa using y1
    by_cases y2:(ia+k == a.size)=true
    ·rw[if_pos y2]
     exact wpS_pure ⟨hg,.inl ⟨_,rfl,MI.good_doneA P ml2 (by simpa using y2)⟩⟩
    ·rw[if_neg y2]
     have y2':ia+k≠a.size:=by simpa using y2
     exact a7U C P hk hg ⟨by omega,m.lb,ml2⟩ (by omega) fun x' y' e1 e2=>by
      rw[hyl]at e2;cases e2
      exact high x' e1
  ·rw[if_neg k0]
   have e0:k=0:=by omega
   subst e0
   exact a7U C P hk hg m (by omega) fun x' y' e1 e2=>by
    rw[hyl]at e2;cases e2
    exact high x' e1
theorem smg{g:Nat}{Q:Unit→SortSt→Prop}(h:∀st',SameG st st'→Q () st'):wpS (model prog w) A E s (m8 g) Q st:=by
 rw[U2]
 exact wpS_modify (h _ ⟨rfl,rfl,rfl,rfl⟩)
theorem a08{α:Type}{c:Prop} [Decidable c] {m1 m2:StateT SortSt Sem α} {Q:α→SortSt→Prop} (h1:c→wpS (model prog w) A E s m1 Q st) (h2:¬c→wpS (model prog w) A E s m2 Q st):wpS (model prog w) A E s (if c then m1 else m2) Q st:=by
 by_cases z:c
 ·rw[if_pos z];exact h1 z
 ·rw[if_neg z];exact h2 z
abbrev S1:=Option (Array Keyed)×Array Keyed×Nat×Nat×Nat×Nat
theorem a1I{Q:Array Keyed→SortSt→Prop}(C:l3 prog w A s κ lt Dm)(P:MP lt Dm a b)(hk:kindOf st=κ)(ha:1≤a.size)(hb:1≤b.size)(h0:∀x y,a.toList[0]? = some x→b.toList[0]? = some y→lt x y=false)
  (h:∀r st',SameG st st'→g9 lt a.toList b.toList r.toList→Q r st'):wpS (model prog w) A E s (U3 a b) Q st:=by
 rw[a1H]
 refine wpS_bind (wpS_lift (wpAny_rule ⟨rfl,?_⟩))
 obtain⟨y,hy,hyl,my⟩:=j0 (a:=b) (i:=0) hb
 refine wpS_bind (i0 hy ?_)
 dsimp only
 have m0:ML lt a.toList b.toList [] (a.toList.drop 0) (b.toList.drop 0):=⟨⟨[],[],rfl,rfl,.refl _⟩,.nil,fun x hx=>absurd hx List.not_mem_nil,fun x hx=>absurd hx List.not_mem_nil⟩
 have m1:ML lt a.toList b.toList (#[y]:Array Keyed).toList (a.toList.drop 0) (b.toList.drop 1):=a4I (out := #[]) P m0 hyl fun x hx=>h0 x y hx hyl
 by_cases z:(1 == b.size)=true
 ·rw[if_pos z]
  exact wpS_pure (h _ _ (.refl _) (MI.good_doneB P m1 (by simpa using z)))
 rw[if_neg z]
 have z':1≠b.size:=by simpa using z
 by_cases z2:(0+1 == a.size)=true
 ·rw[if_pos z2]
  exact wpS_pure (h _ _ (.refl _) (MI.good_last P m1 (by simpa using z2)))
 rw[if_neg z2]
 have z2':0+1≠a.size:=by simpa using z2
 refine wpS_bind (wpS_get ?_)
 refine wpS_bind (C5 (fun(i:Nat) (c:Option (Array Keyed)×Array Keyed×Nat×Nat×Nat) st'=>c.1=none∧SameG st st'∧MI lt a b c.2.1 c.2.2.1 c.2.2.2.1∧i+1≤c.2.2.1+c.2.2.2.1)
  (fun(c:Option (Array Keyed)×Array Keyed×Nat×Nat×Nat) st'=>∃r,c.1=some r∧SameG st st'∧g9 lt a.toList b.toList r.toList) ?_ ?_ ⟨rfl,.refl _,⟨by show 0+1<a.size;omega,by show 1<b.size;omega,m1⟩,by show 0+1≤0+1;omega⟩ ?_)
 ·rintro i ⟨c0,out,ia,ib,mg⟩ st1 hi ⟨e0,hg,m,hp⟩
  dsimp only at *
  refine wpS_bind (C5 (fun(j:Nat) (c:S1) st'=>c.1=none∧SameG st st'∧MI lt a b c.2.1 c.2.2.1 c.2.2.2.1∧ia+ib+j≤c.2.2.1+c.2.2.2.1)
   (fun(c:S1) st'=>SameG st st'∧((∃r,c.1=some r∧g9 lt a.toList b.toList r.toList)∨(c.1=none∧MI lt a b c.2.1 c.2.2.1 c.2.2.2.1∧ia+ib+1≤c.2.2.1+c.2.2.2.1))) ?_ ?_ ⟨rfl,hg,m,Nat.le_refl _⟩ ?_)
  ·rintro j ⟨d0,out',ja,jb,ac,bc⟩ st2 hj ⟨f0,hg2,m2,hp2⟩
   dsimp only at *
   obtain⟨y2,hy2,hyl2,my2⟩:=j0 (a:=b) (i:=jb) m2.lb
   obtain⟨x2,hx2,hxl2,mx2⟩:=j0 (a:=a) (i:=ja) (by have:=m2.la;omega)
   refine wpS_bind (i0 hy2 (wpS_bind (i0 hx2 (wpS_bind (Q2 C (hg2.1.trans hk) (P.db _ my2) (P.da _ mx2) ?_)))))
   dsimp only
   have hla:=m2.la
   have hlb:=m2.lb
   cases bw:lt y2 x2 with
   | true =>
    rw[if_pos rfl]
    have ml:=a4I P m2.ml hyl2 (fun x hx=>by rw[hxl2]at hx;cases hx;exact P.T.asy _ _ (P.db _ my2) (P.da _ mx2) bw)
    refine wpS_bind (i0 hy2 ?_)
    by_cases q:(jb+1 == b.size)=true
    ·rw[if_pos q]
     exact wpS_pure ⟨hg2,.inl ⟨_,rfl,MI.good_doneB P ml (by simpa using q)⟩⟩
    ·rw[if_neg q]
     have q':jb+1≠b.size:=by simpa using q
     have m3:MI lt a b (out'.push y2) ja (jb+1):=⟨hla,by omega,ml⟩
     split
     ·exact wpS_pure ⟨hg2,.inr ⟨rfl,m3,by show ia+ib+1≤ja+(jb+1);omega⟩⟩
     ·exact wpS_pure ⟨rfl,hg2,m3,by show ia+ib+(j+1)≤ja+(jb+1);omega⟩
   | false =>
    rw[if_neg (by simp)]
    have ml:=a7Q P m2.ml hxl2 (fun y hy=>by rw[hyl2]at hy;cases hy;exact bw)
    refine wpS_bind (i0 hx2 ?_)
    by_cases q:(ja+1+1 == a.size)=true
    ·rw[if_pos q]
     exact wpS_pure ⟨hg2,.inl ⟨_,rfl,MI.good_last P ml (by simpa using q)⟩⟩
    ·rw[if_neg q]
     have q':ja+1+1≠a.size:=by simpa using q
     have m3:MI lt a b (out'.push x2) (ja+1) jb:=⟨by omega,hlb,ml⟩
     split
     ·exact wpS_pure ⟨hg2,.inr ⟨rfl,m3,by show ia+ib+1≤ja+1+jb;omega⟩⟩
     ·exact wpS_pure ⟨rfl,hg2,m3,by show ia+ib+(j+1)≤ja+1+jb;omega⟩
  ·rintro⟨d0,out',ja,jb,ac,bc⟩ st2 ⟨f0,hg2,m2,hp2⟩
   dsimp only at *
   exact⟨hg2,.inr ⟨f0,m2,by show ia+ib+1≤ja+jb;omega⟩⟩
  ·rintro⟨d0,out',ja,jb,ac,bc⟩ st2 ⟨hg2,⟨r,f0,gr⟩ | ⟨f0,m2,hp2⟩⟩
   ·dsimp only at *
    subst f0
    exact wpS_pure ⟨r,rfl,hg2,gr⟩
   ·dsimp only at *
    subst f0
    dsimp only
    refine wpS_bind (wpS_lift (wpAny_rule ⟨rfl,?_⟩))
    refine wpS_bind (C5 (fun(j:Nat) (c:GS) st'=>SameG st st'∧c.1=none∧MI lt a b c.2.1 c.2.2.1 c.2.2.2.1∧ja+jb≤c.2.2.1+c.2.2.2.1)
     (fun(c:GS) st'=>SameG st st'∧((∃r,c.1=some r∧g9 lt a.toList b.toList r.toList)∨(c.1=none∧MI lt a b c.2.1 c.2.2.1 c.2.2.2.1∧ja+jb≤c.2.2.1+c.2.2.2.1))) ?_ ?_ ⟨hg2,rfl,m2,Nat.le_refl _⟩ ?_)
    ·rintro j ⟨g0,out2,ka,kb,mg2,ac2,bc2⟩ st3 hj ⟨hg3,f0,m3,hp3⟩
     refine a08 (fun _=>?_) (fun _=>?_)
     ·refine wpS_bind (smg fun st4 g4=>?_)
      exact wpS_mono (a7V (mg:=mg2-1) (ac:=ac2) (bc:=bc2) C P ((hg3.trans g4).1.trans hk) (hg3.trans g4) m3 hp3) (fun r st' q=>by cases r<;>exact q)
     ·refine wpS_bind (smg fun st4 g4=>?_)
      exact wpS_mono (a7V (mg:=mg2) (ac:=ac2) (bc:=bc2) C P ((hg3.trans g4).1.trans hk) (hg3.trans g4) m3 hp3) (fun r st' q=>by cases r<;>exact q)
    ·rintro⟨g0,out2,ka,kb,mg2,ac2,bc2⟩ st3 ⟨hg3,f0,m3,hp3⟩
     exact⟨hg3,.inr ⟨f0,m3,hp3⟩⟩
    ·rintro⟨g0,out2,ka,kb,mg2,ac2,bc2⟩ st3 ⟨hg3,⟨r,f0,gr⟩ | ⟨f0,m3,hp3⟩⟩
     ·have f0:g0=some r:=f0
      subst f0
      exact wpS_pure ⟨r,rfl,hg3,gr⟩
     ·have f0:g0=none:=f0
      have hp3:ja+jb≤ka+kb:=hp3
      subst f0
      refine wpS_bind (smg fun st4 g4=>?_)
      exact wpS_pure ⟨rfl,hg3.trans g4,m3,by show i+1+1≤ka+kb;omega⟩
 ·rintro⟨c0,out,ia,ib,mg⟩ st1 ⟨e0,hg,m,hp⟩
  exfalso
  have h1:=m.la
  have h2:=m.lb
  dsimp only at *
  omega
 ·rintro⟨c0,out,ia,ib,mg⟩ st1 ⟨r,e0,hg,gr⟩
  dsimp only at *
  subst e0
  exact wpS_pure (h r st1 hg gr)
end
def U4:Array Keyed→Array Keyed→StateT SortSt Sem (Array Keyed):=sortPriv% PySem.Builtin.mergeHi
abbrev o9(a b out:Array Keyed)(na nb:Nat):Array Keyed:=a.extract 0 na++b.extract 0 nb++out.reverse
abbrev F9(a b out:Array Keyed)(na nb:Nat):Array Keyed:=b.extract 0 nb++a.extract 0 na++out.reverse
theorem a1J(a b:Array Keyed):U4 a b=(do
 rule "list.sort.merge-hi"
 let total:=a.size+b.size
 let mut na:=a.size-1
 let mut nb:=b.size
 let mut out:Array Keyed := #[← elem' a na]
 if na == 0 then return o9 a b out na nb
 if nb == 1 then return F9 a b out na nb
 let mut minGallop:=gallopOf (← get)
 for _ in [0:total]do
  let mut acount:=0
  let mut bcount:=0
  for _ in [0:total]do
   let some aWins ← lt' (← elem' b (nb-1)) (← elem' a (na-1)) | return o9 a b out na nb
   if aWins then
    na:=na-1;out:=out.push (← elem' a na);acount:=acount+1;bcount:=0
    if na == 0 then return o9 a b out na nb
    if acount≥minGallop then break
   else
    nb:=nb-1;out:=out.push (← elem' b nb);bcount:=bcount+1;acount:=0
    if nb == 1 then return F9 a b out na nb
    if bcount≥minGallop then break
  rule "list.sort.gallop"
  minGallop:=minGallop+1
  for _ in [0:total]do
   if minGallop > 1 then minGallop:=minGallop-1
   m8 minGallop
   let some at_ ← m7 false (← elem' b (nb-1)) a 0 na (na-1) | return o9 a b out na nb
   let k:=na-at_
   acount:=k
   if k > 0 then
    out:=out++(a.extract at_ na).reverse;na:=at_
    if na == 0 then return o9 a b out na nb
   nb:=nb-1;out:=out.push (← elem' b nb)
   if nb == 1 then return F9 a b out na nb
   let some at_ ← m7 true (← elem' a (na-1)) b 0 nb (nb-1) | return o9 a b out na nb
   let k:=nb-at_
   bcount:=k
   if k > 0 then
    out:=out++(b.extract at_ nb).reverse;nb:=at_
    if nb == 1 then return F9 a b out na nb
    if nb == 0 then return o9 a b out na nb
   na:=na-1;out:=out.push (← elem' a na)
   if na == 0 then return o9 a b out na nb
   if acount<7 && bcount<7 then break
  minGallop:=minGallop+1
  m8 minGallop
 unsupported "internal:list.sort.merge-bound"):=rfl
structure MR(lt:Keyed→Keyed→Bool)(aL bL o ra rb:List Keyed):Prop where
 ex:∃pa pb,aL=ra++pa∧bL=rb++pb∧o.Perm (pa++pb)
 so:Srt lt o
 oa:∀x∈o,∀y∈ra,lt x y=false
 ob:∀x∈o,∀y∈rb,lt x y=false
section
variable {lt:Keyed→Keyed→Bool}{aL bL o ra rb u:List Keyed}{x y:Keyed}
theorem Srt.left{l m:List Keyed}(h:Srt lt (l++m)):Srt lt l:=(List.pairwise_append.mp h).1
theorem MR.addA(m:MR lt aL bL o (ra++[x]) rb)(hs:Srt lt (ra++[x]))(h:∀y∈rb,lt x y=false):MR lt aL bL (x::o) ra rb:=by
 obtain⟨pa,pb,e1,e2,p⟩:=m.ex
 have hx:=(List.pairwise_append.mp hs).2.2
 refine⟨⟨x::pa,pb,by rw[e1];simp,e2,p.cons x⟩,List.pairwise_cons.mpr ⟨fun z hz=>m.oa z hz x (by simp),m.so⟩,fun w hw z hz=>?_,fun w hw z hz=>?_⟩
 ·rcases List.mem_cons.mp hw with rfl | hw
  ·exact hx z hz w List.mem_cons_self
  ·exact m.oa w hw z (List.mem_append_left _ hz)
 ·rcases List.mem_cons.mp hw with rfl | hw
  ·exact h z hz
  ·exact m.ob w hw z hz
theorem MR.addB(m:MR lt aL bL o ra (rb++[y]))(hs:Srt lt (rb++[y]))(h:∀x∈ra,lt y x=false):MR lt aL bL (y::o) ra rb:=by
 obtain⟨pa,pb,e1,e2,p⟩:=m.ex
 have hy:=(List.pairwise_append.mp hs).2.2
 refine⟨⟨pa,y::pb,e1,by rw[e2];simp,(p.cons y).trans List.perm_middle.symm⟩,List.pairwise_cons.mpr ⟨fun z hz=>m.ob z hz y (by simp),m.so⟩,fun w hw z hz=>?_,fun w hw z hz=>?_⟩
 ·rcases List.mem_cons.mp hw with rfl | hw
  ·exact h z hz
  ·exact m.oa w hw z hz
 ·rcases List.mem_cons.mp hw with rfl | hw
  ·exact hy z hz w List.mem_cons_self
  ·exact m.ob w hw z (List.mem_append_left _ hz)
theorem MR.addAs:∀{u ra:List Keyed},MR lt aL bL o (ra++u) rb→Srt lt (ra++u)→(∀x∈u,∀y∈rb,lt x y=false)→MR lt aL bL (u++o) ra rb
 | [],ra,m,_,_=>by rw[List.append_nil]at m;exact m
 | x::u,ra,m,hs,h=>by
  have e:ra++x::u=(ra++[x])++u:=by simp
  rw[e]at m hs
  exact MR.addA (MR.addAs m hs fun z hz=>h z (List.mem_cons_of_mem _ hz)) hs.left (h x List.mem_cons_self)
theorem MR.addBs:∀{u rb:List Keyed},MR lt aL bL o ra (rb++u)→Srt lt (rb++u)→(∀y∈u,∀x∈ra,lt y x=false)→MR lt aL bL (u++o) ra rb
 | [],rb,m,_,_=>by rw[List.append_nil]at m;exact m
 | x::u,rb,m,hs,h=>by
  have e:rb++x::u=(rb++[x])++u:=by simp
  rw[e]at m hs
  exact MR.addB (MR.addBs m hs fun z hz=>h z (List.mem_cons_of_mem _ hz)) hs.left (h x List.mem_cons_self)
theorem MR.finB(m:MR lt aL bL o [] rb)(hs:Srt lt rb):g9 lt aL bL (rb++o):=by
 obtain⟨pa,pb,e1,e2,p⟩:=m.ex
 refine⟨?_,hs.app m.so fun x hx y hy=>m.ob y hy x hx⟩
 rw[e1,e2,List.nil_append]
 refine(p.append_left rb).trans ?_
 rw[← List.append_assoc,← List.append_assoc]
 exact List.Perm.append_right pb List.perm_append_comm
theorem MR.finA(m:MR lt aL bL o ra [])(hs:Srt lt ra):g9 lt aL bL (ra++o):=by
 obtain⟨pa,pb,e1,e2,p⟩:=m.ex
 refine⟨?_,hs.app m.so fun x hx y hy=>m.oa y hy x hx⟩
 rw[e1,e2,List.nil_append,List.append_assoc]
 exact p.append_left ra
theorem MR.finF(m:MR lt aL bL o ra [y])(hs:Srt lt ra)(h:∀x∈ra,lt x y=false):g9 lt aL bL ([y]++ra++o):=by
 obtain⟨pa,pb,e1,e2,p⟩:=m.ex
 refine⟨?_,?_⟩
 ·rw[e1,e2]
  refine(p.append_left ([y]++ra)).trans ?_
  refine List.Perm.trans ?_ (List.perm_append_comm (l₁:=ra++pa) (l₂:=[y]++pb)).symm
  simp only[List.append_assoc]
  refine List.Perm.append_left [y] ?_
  rw[← List.append_assoc]
  exact List.perm_append_comm
 ·refine Srt.app (List.pairwise_cons.mpr ⟨fun x hx=>h x hx,hs⟩:Srt lt ([y]++ra)) m.so fun x hx z hz=>?_
  rcases List.mem_append.mp hx with hx | hx
  ·rw[List.mem_singleton.mp hx];exact m.ob z hz y List.mem_cons_self
  ·exact m.oa z hz x hx
end
theorem A1(a:Array Keyed)(i:Nat):(a.extract 0 i).toList=a.toList.take i:=by
 rw[Array.toList_extract,List.extract_eq_take_drop,List.drop_zero,Nat.sub_zero]
theorem U5(a:Array Keyed)(i j:Nat):(a.extract i j).toList=(a.toList.drop i).take (j-i):=by
 rw[Array.toList_extract,List.extract_eq_take_drop]
structure MH(lt:Keyed→Keyed→Bool)(a b out:Array Keyed)(na nb:Nat):Prop where
 la:0<na∧na≤a.size
 lb:1<nb∧nb≤b.size
 mr:MR lt a.toList b.toList out.toList.reverse (a.toList.take na) (b.toList.take nb)
structure MPh(lt:Keyed→Keyed→Bool)(Dm:Keyed→Prop)(a b:Array Keyed):Prop where
 T:TPK lt Dm
 da:∀x∈a.toList,Dm x
 db:∀x∈b.toList,Dm x
 sa:Srt lt a.toList
 sb:Srt lt b.toList
 fb:∀x∈a.toList,∀y,b.toList[0]? = some y→lt x y=false
section
variable {lt:Keyed→Keyed→Bool}{Dm:Keyed→Prop}{a b out:Array Keyed}{na nb:Nat}{x y:Keyed}
theorem Srt.take{l:List Keyed}(h:Srt lt l)(n:Nat):Srt lt (l.take n):=List.Pairwise.sublist (List.take_sublist n l) h
theorem a2a{l:List Keyed}{i:Nat}(h:l[i]? = some x):l.take (i+1)=l.take i++[x]:=by
 rw[List.take_add_one,h]
 rfl
theorem j6{l:List Keyed}{n:Nat}{z:Keyed}(h:z∈l.take n):∃j,j<n∧l[j]? = some z:=by
 obtain⟨j,hj⟩:=List.mem_iff_getElem?.mp h
 by_cases hk:j<n
 ·rw[List.getElem?_take_of_lt hk]at hj
  exact⟨j,hk,hj⟩
 ·rw[List.getElem?_eq_none (by rw[List.length_take];omega)]at hj
  cases hj
theorem MH.good_doneA(P:MPh lt Dm a b)(m:MR lt a.toList b.toList out.toList.reverse (a.toList.take na) (b.toList.take nb))(h:na=0):g9 lt a.toList b.toList (o9 a b out na nb).toList:=by
 subst h
 show g9 _ _ _ (a.extract 0 0++b.extract 0 nb++out.reverse).toList
 rw[Array.toList_append,Array.toList_append,A1,A1,Array.toList_reverse,List.take_zero,List.nil_append]
 rw[List.take_zero]at m
 exact m.finB (P.sb.take nb)
theorem MH.good_doneB(P:MPh lt Dm a b)(m:MR lt a.toList b.toList out.toList.reverse (a.toList.take na) (b.toList.take nb))(h:nb=0):g9 lt a.toList b.toList (o9 a b out na nb).toList:=by
 subst h
 show g9 _ _ _ (a.extract 0 na++b.extract 0 0++out.reverse).toList
 rw[Array.toList_append,Array.toList_append,A1,A1,Array.toList_reverse,List.take_zero,List.append_nil]
 rw[List.take_zero]at m
 exact m.finA (P.sa.take na)
theorem MH.good_first(P:MPh lt Dm a b)(hb:1≤b.size)(m:MR lt a.toList b.toList out.toList.reverse (a.toList.take na) (b.toList.take nb))(h:nb=1):g9 lt a.toList b.toList (F9 a b out na nb).toList:=by
 subst h
 obtain⟨y,_,hy,_⟩:=j0 (a:=b) (i:=0) hb
 have e1:b.toList.take 1=[y]:=by rw[a2a hy,List.take_zero];rfl
 show g9 _ _ _ (b.extract 0 1++a.extract 0 na++out.reverse).toList
 rw[Array.toList_append,Array.toList_append,A1,A1,Array.toList_reverse,e1]
 rw[e1]at m
 exact m.finF (P.sa.take na) fun x hx=>P.fb x (List.mem_of_mem_take hx) y hy
theorem J1{l:List Keyed}{n:Nat}(h0:0<n)(h:l[n-1]? = some x):l.take n=l.take (n-1)++[x]:=by
 have:=a2a h
 rw[show n-1+1=n by omega]at this
 exact this
theorem a4J(P:MPh lt Dm a b)(ha:0<na)(hb:nb≤b.size)(h0:0<nb)(m:MR lt a.toList b.toList out.toList.reverse (a.toList.take na) (b.toList.take nb))(hx:a.toList[na-1]? = some x)(h:∀y,b.toList[nb-1]? = some y→lt x y=false):MR lt a.toList b.toList (out.push x).toList.reverse (a.toList.take (na-1)) (b.toList.take nb):=by
 rw[J1 ha hx]at m
 rw[Array.toList_push,List.reverse_append]
 refine m.addA (by rw[← J1 ha hx];exact P.sa.take _) fun z hz=>?_
 obtain⟨j,hj,e⟩:=j6 hz
 obtain⟨v0,_,ei,_⟩:=j0 (a:=b) (i:=nb-1) (by omega)
 exact P.T.tr _ _ _ (P.db z (List.mem_of_getElem? e)) (P.db _ (List.mem_of_getElem? ei)) (P.da x (List.mem_of_getElem? hx)) (i6 P.T P.db P.sb (by omega) e ei) (h _ ei)
theorem a7W(P:MPh lt Dm a b)(hb:0<nb)(ha:na≤a.size)(h0:0<na)(m:MR lt a.toList b.toList out.toList.reverse (a.toList.take na) (b.toList.take nb))(hy:b.toList[nb-1]? = some y)(h:∀x,a.toList[na-1]? = some x→lt y x=false):MR lt a.toList b.toList (out.push y).toList.reverse (a.toList.take na) (b.toList.take (nb-1)):=by
 rw[J1 hb hy]at m
 rw[Array.toList_push,List.reverse_append]
 refine m.addB (by rw[← J1 hb hy];exact P.sb.take _) fun z hz=>?_
 obtain⟨j,hj,e⟩:=j6 hz
 obtain⟨v0,_,ei,_⟩:=j0 (a:=a) (i:=na-1) (by omega)
 exact P.T.tr _ _ _ (P.da z (List.mem_of_getElem? e)) (P.da _ (List.mem_of_getElem? ei)) (P.db y (List.mem_of_getElem? hy)) (i6 P.T P.da P.sa (by omega) e ei) (h _ ei)
theorem D9{l:List Keyed}{i n:Nat}(h:i≤n):l.take n=l.take i++(l.drop i).take (n-i):=by
 have e1:=(List.take_append_drop i (l.take n)).symm
 rw[List.take_take,Nat.min_eq_left h,List.drop_take]at e1
 exact e1
theorem a8U(P:MPh lt Dm a b){i:Nat}(hi:i≤na)(m:MR lt a.toList b.toList out.toList.reverse (a.toList.take na) (b.toList.take nb))(hy:b.toList[nb-1]? = some y)(h0:0<nb)(h:∀j x,i≤j→j<na→a.toList[j]? = some x→lt x y=false):MR lt a.toList b.toList (out++(a.extract i na).reverse).toList.reverse (a.toList.take i) (b.toList.take nb):=by
 rw[D9 hi]at m
 rw[Array.toList_append,Array.toList_reverse,List.reverse_append,List.reverse_reverse,U5]
 refine MR.addAs m (by rw[← D9 hi];exact P.sa.take _) fun z hz v hv=>?_
 obtain⟨j,hj,e⟩:=M0 hz
 obtain⟨k,hk,e2⟩:=j6 hv
 exact P.T.tr _ _ _ (P.db v (List.mem_of_getElem? e2)) (P.db y (List.mem_of_getElem? hy)) (P.da z (List.mem_of_getElem? e)) (i6 P.T P.db P.sb (by omega) e2 hy) (h (i+j) z (by omega) (by omega) e)
theorem a8V(P:MPh lt Dm a b){i:Nat}(hi:i≤nb)(m:MR lt a.toList b.toList out.toList.reverse (a.toList.take na) (b.toList.take nb))(hx:a.toList[na-1]? = some x)(h0:0<na)(h:∀j y,i≤j→j<nb→b.toList[j]? = some y→lt y x=false):MR lt a.toList b.toList (out++(b.extract i nb).reverse).toList.reverse (a.toList.take na) (b.toList.take i):=by
 rw[D9 (l:=b.toList) hi]at m
 rw[Array.toList_append,Array.toList_reverse,List.reverse_append,List.reverse_reverse,U5]
 refine MR.addBs m (by rw[← D9 hi];exact P.sb.take _) fun z hz v hv=>?_
 obtain⟨j,hj,e⟩:=M0 hz
 obtain⟨k,hk,e2⟩:=j6 hv
 exact P.T.tr _ _ _ (P.da v (List.mem_of_getElem? e2)) (P.da x (List.mem_of_getElem? hx)) (P.db z (List.mem_of_getElem? e)) (i6 P.T P.da P.sa (by omega) e2 hx) (h (i+j) z (by omega) (by omega) e)
end
abbrev GH:=Option (Array Keyed)×Nat×Nat×Array Keyed×Nat×Nat×Nat
abbrev hiC(a b out:Array Keyed)(na nb mg ac bc:Nat):StateT SortSt Sem (ForInStep GH):=do
 let x ← elem' a (na-1)
 if(na-1 == 0)=true then pure (.done (some (o9 a b (out.push x) (na-1) nb),na-1,nb,out.push x,mg,ac,bc))
 else if(decide (ac<7) && decide (bc<7))=true then pure (.done (none,na-1,nb,out.push x,mg,ac,bc))
 else pure (.yield (none,na-1,nb,out.push x,mg,ac,bc))
abbrev hiB(a b out:Array Keyed)(na nb mg ac bc:Nat):StateT SortSt Sem (ForInStep GH):=do
 let y ← elem' b (nb-1)
 if(nb-1 == 1)=true then pure (.done (some (F9 a b (out.push y) na (nb-1)),na,nb-1,out.push y,mg,ac,bc))
 else do
  let x ← elem' a (na-1)
  let r ← m7 true x b 0 (nb-1) (nb-1-1)
  match r with
  | some i =>
   if nb-1-i > 0 then
    (if(i == 1)=true then pure (.done (some (F9 a b (out.push y++(b.extract i (nb-1)).reverse) na i),na,i,out.push y++(b.extract i (nb-1)).reverse,mg,ac,nb-1-i))
    else if(i == 0)=true then pure (.done (some (o9 a b (out.push y++(b.extract i (nb-1)).reverse) na i),na,i,out.push y++(b.extract i (nb-1)).reverse,mg,ac,nb-1-i))
    else hiC a b (out.push y++(b.extract i (nb-1)).reverse) na i mg ac (nb-1-i))
   else hiC a b (out.push y) na (nb-1) mg ac (nb-1-i)
  | _=>pure (.done (some (o9 a b (out.push y) na (nb-1)),na,nb-1,out.push y,mg,ac,bc))
abbrev hiA(a b out:Array Keyed)(na nb mg ac bc:Nat):StateT SortSt Sem (ForInStep GH):=do
 let y ← elem' b (nb-1)
 let r ← m7 false y a 0 na (na-1)
 match r with
 | some i =>
  if na-i > 0 then
   (if(i == 0)=true then pure (.done (some (o9 a b (out++(a.extract i na).reverse) i nb),i,nb,out++(a.extract i na).reverse,mg,na-i,bc))
   else hiB a b (out++(a.extract i na).reverse) i nb mg (na-i) bc)
  else hiB a b out na nb mg (na-i) bc
 | _=>pure (.done (some (o9 a b out na nb),na,nb,out,mg,ac,bc))
section
variable {prog:Program}{w:World}{A:Around}{E:Value→Shared→Prop}{s:Shared}{κ:SortKind}{lt:Keyed→Keyed→Bool}{Dm:Keyed→Prop}{a b out:Array Keyed}{na nb mg ac bc p0:Nat}{st0 st:SortSt}
def PHi(lt:Keyed→Keyed→Bool)(a b:Array Keyed)(p0:Nat)(st0:SortSt):ForInStep GH→SortSt→Prop
 | .done c,st'=>SameG st0 st'∧((∃r,c.1=some r∧g9 lt a.toList b.toList r.toList)∨(c.1=none∧MH lt a b c.2.2.2.1 c.2.1 c.2.2.1∧c.2.1+c.2.2.1≤p0))
 | .yield c,st'=>SameG st0 st'∧c.1=none∧MH lt a b c.2.2.2.1 c.2.1 c.2.2.1∧c.2.1+c.2.2.1≤p0
theorem a70(P:MPh lt Dm a b)(hg:SameG st0 st)(m:MH lt a b out na nb)(hp:na+nb≤p0)(hle:∀x y,a.toList[na-1]? = some x→b.toList[nb-1]? = some y→lt x y=false):wpS (model prog w) A E s (hiC a b out na nb mg ac bc) (PHi lt a b p0 st0) st:=by
 have la:=m.la
 have lb:=m.lb
 obtain⟨x,hx,hxl,_⟩:=j0 (a:=a) (i:=na-1) (by omega)
 have mr:=a4J P la.1 lb.2 (by omega) m.mr hxl (fun y hy=>hle x y hxl hy)
 refine wpS_bind (i0 hx ?_)
 by_cases z:(na-1 == 0)=true
 ·rw[if_pos z]
  exact wpS_pure ⟨hg,.inl ⟨_,rfl,MH.good_doneA P mr (by simpa using z)⟩⟩
 ·rw[if_neg z]
  have z':na-1≠0:=by simpa using z
  have m':MH lt a b (out.push x) (na-1) nb:=⟨⟨by omega,by omega⟩,lb,mr⟩
  split
  ·exact wpS_pure ⟨hg,.inr ⟨rfl,m',by show na-1+nb≤p0;omega⟩⟩
  ·exact wpS_pure ⟨hg,rfl,m',by show na-1+nb≤p0;omega⟩
theorem a71(C:l3 prog w A s κ lt Dm)(P:MPh lt Dm a b)(hk:kindOf st=κ)(hg:SameG st0 st)(m:MH lt a b out na nb)(hp:na+nb≤p0)(hle:∀x y,a.toList[na-1]? = some x→b.toList[nb-1]? = some y→lt y x=false):wpS (model prog w) A E s (hiB a b out na nb mg ac bc) (PHi lt a b p0 st0) st:=by
 have la:=m.la
 have lb:=m.lb
 obtain⟨y,hy,hyl,_⟩:=j0 (a:=b) (i:=nb-1) (by omega)
 obtain⟨x,hx,hxl,mx⟩:=j0 (a:=a) (i:=na-1) (by omega)
 have mr:=a7W P (by omega) la.2 la.1 m.mr hyl (fun x hx=>hle x y hx hyl)
 have dx:=P.da x mx
 refine wpS_bind (i0 hy ?_)
 by_cases z:(nb-1 == 1)=true
 ·rw[if_pos z]
  exact wpS_pure ⟨hg,.inl ⟨_,rfl,MH.good_first P (by omega) mr (by simpa using z)⟩⟩
 ·rw[if_neg z]
  have z':nb-1≠1:=by simpa using z
  refine wpS_bind (i0 hx (wpS_bind ?_))
  have at_:∀i,i<nb-1→∃v,b[0+i]? = some v∧b.toList[i]? = some v∧v∈b.toList:=fun i hi=>by
   rw[Nat.zero_add];exact j0 (by omega)
  refine u5 C hk dx (by omega) (fun i=>lt ((b.toList[i]?).getD x) x) (fun i hi=>?_) (fun i j hij hj hb=>?_) fun k hk1 hk2 hk3=>?_
  ·obtain⟨v,h1,h2,h3⟩:=at_ i hi
   exact⟨v,h1,P.db v h3,by rw[h2];rfl⟩
  ·obtain⟨v,h1,h2,h3⟩:=at_ i (by omega)
   obtain⟨u,u1,u2,u3⟩:=at_ j hj
   rw[u2]at hb
   rw[h2]
   show lt v x=true
   cases q:lt v x with
   | true=>rfl
   | false =>
    have:=P.T.tr x v u dx (P.db v h3) (P.db u u3) q (i6 P.T P.db P.sb (by omega) h2 u2)
    have hb:lt u x=true:=hb
    rw[this]at hb;cases hb
  ·dsimp only
   have low:∀j v,j<k→b.toList[j]? = some v→lt x v=false:=fun j v hj hv=>by
    have:=hk2 j hj
    rw[hv]at this
    exact P.T.asy _ _ (P.db v (List.mem_of_getElem? hv)) dx this
   have high:∀j v,k≤j→j<nb-1→b.toList[j]? = some v→lt v x=false:=fun j v h1 h2 hv=>by
    have:=hk3 j h1 h2
    rw[hv]at this
    exact this
   by_cases k0:nb-1-k > 0
   ·rw[if_pos k0]
    have mr2:=a8V P hk1 mr hxl la.1 high
    by_cases y1:(k == 1)=true
    ·rw[if_pos y1]
     exact wpS_pure ⟨hg,.inl ⟨_,rfl,MH.good_first P (by omega) mr2 (by simpa using y1)⟩⟩
    ·rw[if_neg y1]
     have y1':k≠1:=by simpa using y1
     by_cases y2:(k == 0)=true
     ·rw[if_pos y2]
      exact wpS_pure ⟨hg,.inl ⟨_,rfl,MH.good_doneB P mr2 (by simpa using y2)⟩⟩
     ·rw[if_neg y2]
      have y2':k≠0:=by simpa using y2
      exact a70 P hg ⟨la,⟨by omega,by omega⟩,mr2⟩ (by omega) fun x' y' e1 e2=>by
       rw[hxl]at e1;cases e1
       exact low _ y' (by omega) e2
   ·rw[if_neg k0]
    have e0:k=nb-1:=by omega
    subst e0
    exact a70 P hg ⟨la,⟨by omega,by omega⟩,mr⟩ (by omega) fun x' y' e1 e2=>by
     rw[hxl]at e1;cases e1
     exact low _ y' (by omega) e2
theorem a72(C:l3 prog w A s κ lt Dm)(P:MPh lt Dm a b)(hk:kindOf st=κ)(hg:SameG st0 st)(m:MH lt a b out na nb)(hp:na+nb≤p0):wpS (model prog w) A E s (hiA a b out na nb mg ac bc) (PHi lt a b p0 st0) st:=by
 have la:=m.la
 have lb:=m.lb
 obtain⟨y,hy,hyl,my⟩:=j0 (a:=b) (i:=nb-1) (by omega)
 have dy:=P.db y my
 refine wpS_bind (i0 hy (wpS_bind ?_))
 have at_:∀i,i<na→∃v,a[0+i]? = some v∧a.toList[i]? = some v∧v∈a.toList:=fun i hi=>by
  rw[Nat.zero_add];exact j0 (by omega)
 refine u5 C hk dy (by omega) (fun i=>!lt y ((a.toList[i]?).getD y)) (fun i hi=>?_) (fun i j hij hj hb=>?_) fun k hk1 hk2 hk3=>?_
 ·obtain⟨v,h1,h2,h3⟩:=at_ i hi
  exact⟨v,h1,P.da v h3,by rw[h2];rfl⟩
 ·obtain⟨v,h1,h2,h3⟩:=at_ i (by omega)
  obtain⟨u,u1,u2,u3⟩:=at_ j hj
  rw[u2]at hb
  rw[h2]
  have hb:(!lt y u)=true:=hb
  have hb':lt y u=false:=by simpa using hb
  show(!lt y v)=true
  rw[P.T.tr v u y (P.da v h3) (P.da u u3) dy (i6 P.T P.da P.sa (by omega) h2 u2) hb']
  rfl
 ·dsimp only
  have low:∀j v,j<k→a.toList[j]? = some v→lt y v=false:=fun j v hj hv=>by
   have:=hk2 j hj
   rw[hv]at this
   have this:(!lt y v)=true:=this
   simpa using this
  have high:∀j v,k≤j→j<na→a.toList[j]? = some v→lt v y=false:=fun j v h1 h2 hv=>by
   have:=hk3 j h1 h2
   rw[hv]at this
   have this:(!lt y v)=false:=this
   exact P.T.asy _ _ dy (P.da v (List.mem_of_getElem? hv)) (by simpa using this)
  by_cases k0:na-k > 0
  ·rw[if_pos k0]
   have mr2:=a8U P hk1 m.mr hyl (by omega) high
   by_cases y2:(k == 0)=true
   ·rw[if_pos y2]
    exact wpS_pure ⟨hg,.inl ⟨_,rfl,MH.good_doneA P mr2 (by simpa using y2)⟩⟩
   ·rw[if_neg y2]
    have y2':k≠0:=by simpa using y2
    exact a71 C P hk hg ⟨⟨by omega,by omega⟩,lb,mr2⟩ (by omega) fun x' y' e1 e2=>by
     rw[hyl]at e2;cases e2
     exact low _ x' (by omega) e1
  ·rw[if_neg k0]
   have e0:k=na:=by omega
   subst e0
   exact a71 C P hk hg m (by omega) fun x' y' e1 e2=>by
    rw[hyl]at e2;cases e2
    exact low _ x' (by omega) e1
abbrev S2:=Option (Array Keyed)×Nat×Nat×Array Keyed×Nat×Nat
theorem a1K{Q:Array Keyed→SortSt→Prop}(C:l3 prog w A s κ lt Dm)(P:MPh lt Dm a b)(hk:kindOf st=κ)(ha:1≤a.size)(hb:1≤b.size)(h0:∀x y,a.toList[a.size-1]? = some x→b.toList[b.size-1]? = some y→lt x y=false)
  (h:∀r st',SameG st st'→g9 lt a.toList b.toList r.toList→Q r st'):wpS (model prog w) A E s (U4 a b) Q st:=by
 rw[a1J]
 refine wpS_bind (wpS_lift (wpAny_rule ⟨rfl,?_⟩))
 obtain⟨x,hx,hxl,mx⟩:=j0 (a:=a) (i:=a.size-1) (by omega)
 refine wpS_bind (i0 hx ?_)
 dsimp only
 have m0:MR lt a.toList b.toList (#[]:Array Keyed).toList.reverse (a.toList.take a.size) (b.toList.take b.size):=⟨⟨[],[],by rw[List.take_of_length_le (by rw[Array.length_toList];exact Nat.le_refl _),List.append_nil],by rw[List.take_of_length_le (by rw[Array.length_toList];exact Nat.le_refl _),List.append_nil],.refl _⟩,.nil,fun x hx=>absurd hx List.not_mem_nil,fun x hx=>absurd hx List.not_mem_nil⟩
 have m1:MR lt a.toList b.toList (#[x]:Array Keyed).toList.reverse (a.toList.take (a.size-1)) (b.toList.take b.size):=a4J (out := #[]) P (by omega) (Nat.le_refl _) (by omega) m0 hxl fun y hy=>h0 x y hxl hy
 by_cases z:(a.size-1 == 0)=true
 ·rw[if_pos z]
  exact wpS_pure (h _ _ (.refl _) (MH.good_doneA P m1 (by simpa using z)))
 rw[if_neg z]
 have z':a.size-1≠0:=by simpa using z
 by_cases z2:(b.size == 1)=true
 ·rw[if_pos z2]
  exact wpS_pure (h _ _ (.refl _) (MH.good_first P (by omega) m1 (by simpa using z2)))
 rw[if_neg z2]
 have z2':b.size≠1:=by simpa using z2
 refine wpS_bind (wpS_get ?_)
 refine wpS_bind (C5 (fun(i:Nat) (c:Option (Array Keyed)×Nat×Nat×Array Keyed×Nat) st'=>c.1=none∧SameG st st'∧MH lt a b c.2.2.2.1 c.2.1 c.2.2.1∧c.2.1+c.2.2.1+i+1≤a.size+b.size)
  (fun(c:Option (Array Keyed)×Nat×Nat×Array Keyed×Nat) st'=>∃r,c.1=some r∧SameG st st'∧g9 lt a.toList b.toList r.toList) ?_ ?_ ⟨rfl,.refl _,⟨⟨by show 0<a.size-1;omega,by show a.size-1≤a.size;omega⟩,⟨by show 1<b.size;omega,Nat.le_refl _⟩,m1⟩,by show a.size-1+b.size+0+1≤a.size+b.size;omega⟩ ?_)
 ·rintro i ⟨c0,na,nb,out,mg⟩ st1 hi ⟨e0,hg,m,hp⟩
  dsimp only at *
  refine wpS_bind (C5 (fun(j:Nat) (c:S2) st'=>c.1=none∧SameG st st'∧MH lt a b c.2.2.2.1 c.2.1 c.2.2.1∧c.2.1+c.2.2.1+j≤na+nb)
   (fun(c:S2) st'=>SameG st st'∧((∃r,c.1=some r∧g9 lt a.toList b.toList r.toList)∨(c.1=none∧MH lt a b c.2.2.2.1 c.2.1 c.2.2.1∧c.2.1+c.2.2.1+1≤na+nb))) ?_ ?_ ⟨rfl,hg,m,Nat.le_refl _⟩ ?_)
  ·rintro j ⟨d0,ja,jb,out',ac,bc⟩ st2 hj ⟨f0,hg2,m2,hp2⟩
   dsimp only at *
   have hla:=m2.la
   have hlb:=m2.lb
   obtain⟨y2,hy2,hyl2,my2⟩:=j0 (a:=b) (i:=jb-1) (by omega)
   obtain⟨x2,hx2,hxl2,mx2⟩:=j0 (a:=a) (i:=ja-1) (by omega)
   refine wpS_bind (i0 hy2 (wpS_bind (i0 hx2 (wpS_bind (Q2 C (hg2.1.trans hk) (P.db _ my2) (P.da _ mx2) ?_)))))
   dsimp only
   cases bw:lt y2 x2 with
   | true =>
    rw[if_pos rfl]
    have mr:=a4J P hla.1 hlb.2 (by omega) m2.mr hxl2 (fun y hy=>by rw[hyl2]at hy;cases hy;exact P.T.asy _ _ (P.db _ my2) (P.da _ mx2) bw)
    refine wpS_bind (i0 hx2 ?_)
    by_cases q:(ja-1 == 0)=true
    ·rw[if_pos q]
     exact wpS_pure ⟨hg2,.inl ⟨_,rfl,MH.good_doneA P mr (by simpa using q)⟩⟩
    ·rw[if_neg q]
     have q':ja-1≠0:=by simpa using q
     have m3:MH lt a b (out'.push x2) (ja-1) jb:=⟨⟨by omega,by omega⟩,hlb,mr⟩
     split
     ·exact wpS_pure ⟨hg2,.inr ⟨rfl,m3,by show ja-1+jb+1≤na+nb;omega⟩⟩
     ·exact wpS_pure ⟨rfl,hg2,m3,by show ja-1+jb+(j+1)≤na+nb;omega⟩
   | false =>
    rw[if_neg (by simp)]
    have mr:=a7W P (by omega) hla.2 hla.1 m2.mr hyl2 (fun x hx=>by rw[hxl2]at hx;cases hx;exact bw)
    refine wpS_bind (i0 hy2 ?_)
    by_cases q:(jb-1 == 1)=true
    ·rw[if_pos q]
     exact wpS_pure ⟨hg2,.inl ⟨_,rfl,MH.good_first P (by omega) mr (by simpa using q)⟩⟩
    ·rw[if_neg q]
     have q':jb-1≠1:=by simpa using q
     have m3:MH lt a b (out'.push y2) ja (jb-1):=⟨hla,⟨by omega,by omega⟩,mr⟩
     split
     ·exact wpS_pure ⟨hg2,.inr ⟨rfl,m3,by show ja+(jb-1)+1≤na+nb;omega⟩⟩
     ·exact wpS_pure ⟨rfl,hg2,m3,by show ja+(jb-1)+(j+1)≤na+nb;omega⟩
  ·rintro⟨d0,ja,jb,out',ac,bc⟩ st2 ⟨f0,hg2,m2,hp2⟩
   dsimp only at *
   exact⟨hg2,.inr ⟨f0,m2,by show ja+jb+1≤na+nb;omega⟩⟩
  ·rintro⟨d0,ja,jb,out',ac,bc⟩ st2 ⟨hg2,⟨r,f0,gr⟩ | ⟨f0,m2,hp2⟩⟩
   ·have f0:d0=some r:=f0
    subst f0
    exact wpS_pure ⟨r,rfl,hg2,gr⟩
   ·have f0:d0=none:=f0
    have hp2:ja+jb+1≤na+nb:=hp2
    subst f0
    refine wpS_bind (wpS_lift (wpAny_rule ⟨rfl,?_⟩))
    refine wpS_bind (C5 (fun(j:Nat) (c:GH) st'=>SameG st st'∧c.1=none∧MH lt a b c.2.2.2.1 c.2.1 c.2.2.1∧c.2.1+c.2.2.1≤ja+jb)
     (fun(c:GH) st'=>SameG st st'∧((∃r,c.1=some r∧g9 lt a.toList b.toList r.toList)∨(c.1=none∧MH lt a b c.2.2.2.1 c.2.1 c.2.2.1∧c.2.1+c.2.2.1≤ja+jb))) ?_ ?_ ⟨hg2,rfl,m2,Nat.le_refl _⟩ ?_)
    ·rintro j ⟨g0,ka,kb,out2,mg2,ac2,bc2⟩ st3 hj ⟨hg3,f0,m3,hp3⟩
     refine a08 (fun _=>?_) (fun _=>?_)
     ·refine wpS_bind (smg fun st4 g4=>?_)
      exact wpS_mono (a72 (mg:=mg2-1) (ac:=ac2) (bc:=bc2) C P ((hg3.trans g4).1.trans hk) (hg3.trans g4) m3 hp3) (fun r st' q=>by cases r<;>exact q)
     ·refine wpS_bind (smg fun st4 g4=>?_)
      exact wpS_mono (a72 (mg:=mg2) (ac:=ac2) (bc:=bc2) C P ((hg3.trans g4).1.trans hk) (hg3.trans g4) m3 hp3) (fun r st' q=>by cases r<;>exact q)
    ·rintro⟨g0,ka,kb,out2,mg2,ac2,bc2⟩ st3 ⟨hg3,f0,m3,hp3⟩
     exact⟨hg3,.inr ⟨f0,m3,hp3⟩⟩
    ·rintro⟨g0,ka,kb,out2,mg2,ac2,bc2⟩ st3 ⟨hg3,⟨r,f0,gr⟩ | ⟨f0,m3,hp3⟩⟩
     ·have f0:g0=some r:=f0
      subst f0
      exact wpS_pure ⟨r,rfl,hg3,gr⟩
     ·have f0:g0=none:=f0
      have hp3:ka+kb≤ja+jb:=hp3
      subst f0
      refine wpS_bind (smg fun st4 g4=>?_)
      exact wpS_pure ⟨rfl,hg3.trans g4,m3,by show ka+kb+(i+1)+1≤a.size+b.size;omega⟩
 ·rintro⟨c0,na,nb,out,mg⟩ st1 ⟨e0,hg,m,hp⟩
  exfalso
  have h1:=m.la
  have h2:=m.lb
  dsimp only at *
  omega
 ·rintro⟨c0,na,nb,out,mg⟩ st1 ⟨r,e0,hg,gr⟩
  dsimp only at *
  subst e0
  exact wpS_pure (h r st1 hg gr)
end
theorem a1L(i:Nat):mergeAt' i=(do
 let s ← get
 let (some (sa,na,power),some (sb,nb,_)):=((pendingOf s)[i]?,(pendingOf s)[i+1]?) | unsupported "internal:list.sort.pending"
 set (setPending s (((pendingOf s).setIfInBounds i (sa,na+nb,power)).eraseIdxIfInBounds (i+1)))
 let some k ← m7 false (← elem' (arrOf s) sb) (arrOf s) sa na 0 | return false
 let (sa,na):=(sa+k,na-k)
 if na == 0 then return true
 let some nb ← m7 true (← elem' (arrOf s) (sa+na-1)) (arrOf s) sb nb (nb-1) | return false
 if nb == 0 then return true
 let x:=(arrOf s).extract sa sb
 let y:=(arrOf s).extract sb (sb+nb)
 let merged ← if na≤nb then U3 x y else U4 x y
 modify fun s=>setArr s (merged.toList.zipIdx.foldl (fun a (p,j)=>a.setIfInBounds (sa+j) p) (arrOf s))
 return (failedOf (← get)).isNone):=rfl
theorem a09(o:Nat):∀(m:List Keyed) (n:Nat) (arr:Array Keyed),o+n+m.length≤arr.size→((m.zipIdx n).foldl (fun a (q:Keyed×Nat)=>a.setIfInBounds (o+q.2) q.1) arr).toList=arr.toList.take (o+n)++m++arr.toList.drop (o+n+m.length)
 | [],n,arr,h=>by simp
 | p::m,n,arr,h=>by
  rw[List.length_cons]at h
  rw[List.zipIdx_cons,List.foldl_cons]
  have ih:=a09 o m (n+1) (arr.setIfInBounds (o+n) p) (by rw[Array.size_setIfInBounds];omega)
  rw[ih,Array.toList_setIfInBounds]
  have hl:o+n<arr.toList.length:=by rw[Array.length_toList];omega
  have e1:(arr.toList.set (o+n) p).take (o+(n+1))=arr.toList.take (o+n)++[p]:=by
   rw[show o+(n+1)=(o+n)+1 by omega]
   exact(List.take_add_one).trans (by rw[List.getElem?_set_self hl,List.take_set_of_le (Nat.le_refl _)];rfl)
  have e2:(arr.toList.set (o+n) p).drop (o+(n+1)+m.length)=arr.toList.drop (o+n+(m.length+1)):=by
   rw[List.drop_set_of_lt (by omega),show o+(n+1)+m.length=o+n+(m.length+1) by omega]
  rw[e1,e2,List.length_cons]
  simp
section
variable {prog:Program}{w:World}{A:Around}{E:Value→Shared→Prop}{s:Shared}{κ:SortKind}{lt:Keyed→Keyed→Bool}{Dm:Keyed→Prop}{st:SortSt}
theorem a0_{arr:Array Keyed}{p u q:List Keyed}{i j:Nat}(e:arr.toList=p++u++q)(hi:p.length=i)(hj:i+u.length=j):(arr.extract i j).toList=u:=by
 rw[U5,e,List.append_assoc,← hi,List.drop_left',← hj]
 ·rw[show i+u.length-p.length=u.length by omega,List.take_left']
  rfl
 ·rfl
theorem Srt.right{l m:List Keyed}(h:Srt lt (l++m)):Srt lt m:=(List.pairwise_append.mp h).2.1
theorem a3E{arr:Array Keyed}{p u q:List Keyed}{i j:Nat}(e:arr.toList=p++u++q)(hi:p.length=i)(hj:j<u.length):arr[i+j]? = some u[j]:=by
 have h1:arr.toList[i+j]? = some u[j]:=by
  rw[e,List.append_assoc,List.getElem?_append_right (by omega),show i+j-p.length=j by omega,List.getElem?_append_left hj,List.getElem?_eq_getElem hj]
 rw[← Array.getElem?_toList]
 exact h1
theorem a1M{Q:Bool→SortSt→Prop}{i sa na sb nb pw pw':Nat}{pre U V post:List Keyed}(C:l3 prog w A s κ lt Dm)(T:TPK lt Dm)(hk:kindOf st=κ)(hf:failedOf st=none)
  (hp1:(pendingOf st)[i]? = some (sa,na,pw)) (hp2:(pendingOf st)[i+1]? = some (sb,nb,pw')) (e:(arrOf st).toList=pre++U++(V++post)) (l0:pre.length=sa) (l1:U.length=na) (l2:V.length=nb) (hsb:sa+na=sb) (ha:1≤na) (hb:1≤nb)
  (dU:∀x∈U,Dm x) (dV:∀x∈V,Dm x) (sU:Srt lt U) (sV:Srt lt V)
  (h:∀(arr':Array Keyed) (g:Nat) (W:List Keyed),W.Perm (U++V)→Srt lt W→arr'.toList=pre++W++post→Q true (SortSt.mk' κ arr' (((pendingOf st).setIfInBounds i (sa,na+nb,pw)).eraseIdxIfInBounds (i+1)) g none)) :
  wpS (model prog w) A E s (mergeAt' i) Q st:=by
 rw[a1L]
 refine wpS_bind (wpS_get ?_)
 rw[hp1,hp2]
 dsimp only
 refine wpS_bind (wpS_modify (f:=fun _=>setPending st (((pendingOf st).setIfInBounds i (sa,na+nb,pw)).eraseIdxIfInBounds (i+1))) ?_)
 have e':(arrOf st).toList=(pre++U)++V++post:=by rw[e];simp
 have lU:(pre++U).length=sb:=by rw[List.length_append];omega
 have aU:∀j (hj:j<U.length),(arrOf st)[sa+j]? = some U[j]:=fun j hj=>a3E e l0 hj
 have aV:∀j (hj:j<V.length),(arrOf st)[sb+j]? = some V[j]:=fun j hj=>a3E e' lU hj
 have hV0:0<V.length:=by omega
 have hUl:U.length-1<U.length:=by omega
 have dy:Dm V[0]:=dV _ (List.getElem_mem hV0)
 have dl:Dm U[U.length-1]:=dU _ (List.getElem_mem hUl)
 have done:∀st',SameG (setPending st (((pendingOf st).setIfInBounds i (sa,na+nb,pw)).eraseIdxIfInBounds (i+1))) st'→Srt lt (U++V)→Q true st':=fun st' g hs=>by
  have:=h (arrOf st) (gallopOf st') (U++V) (.refl _) hs (by rw[e];simp)
  obtain⟨g1,g2,g3,g4⟩:=g
  have e5:st'=SortSt.mk' κ (arrOf st) (((pendingOf st).setIfInBounds i (sa,na+nb,pw)).eraseIdxIfInBounds (i+1)) (gallopOf st') none:=by
   have a1:kindOf st'=κ:=g1.trans hk
   have a2:arrOf st'=arrOf st:=g2
   have a3:pendingOf st'=(((pendingOf st).setIfInBounds i (sa,na+nb,pw)).eraseIdxIfInBounds (i+1)):=g3
   have a4:failedOf st'=none:=g4.trans hf
   rw[← a1,← a2,← a3,← a4]
  rw[e5]
  exact this
 have x0:=aV 0 hV0
 rw[Nat.add_zero]at x0
 refine wpS_bind (i0 x0 (wpS_bind ?_))
 refine u5 C hk dy (by omega) (fun j=>!lt V[0] (U[j]?.getD V[0])) (fun j hj=>?_) (fun j k hjk hkn hb=>?_) fun k hk1 hk2 hk3=>?_
 ·have hj':j<U.length:=by omega
  exact⟨U[j],aU j hj',dU _ (List.getElem_mem hj'),by rw[List.getElem?_eq_getElem hj'];rfl⟩
 ·have hk':k<U.length:=by omega
  have hj':j<U.length:=by omega
  rw[List.getElem?_eq_getElem hk']at hb
  rw[List.getElem?_eq_getElem hj']
  have hb:(!lt V[0] U[k])=true:=hb
  have hb':lt V[0] U[k]=false:=by simpa using hb
  show(!lt V[0] U[j])=true
  rw[T.tr U[j] U[k] V[0] (dU _ (List.getElem_mem hj')) (dU _ (List.getElem_mem hk')) dy (i6 T dU sU hjk (List.getElem?_eq_getElem hj') (List.getElem?_eq_getElem hk')) hb']
  rfl
 dsimp only
 have low:∀j x,j<k→U[j]? = some x→lt V[0] x=false:=fun j x hj hx=>by
  have:=hk2 j hj
  rw[hx]at this
  have this:(!lt V[0] x)=true:=this
  simpa using this
 have high:∀j x,k≤j→U[j]? = some x→lt V[0] x=true:=fun j x hj hx=>by
  have hjl:=(List.getElem?_eq_some_iff.mp hx).1
  have:=hk3 j hj (by omega)
  rw[hx]at this
  have this:(!lt V[0] x)=false:=this
  simpa using this
 have v0:V[0]? = some V[0]:=List.getElem?_eq_getElem hV0
 by_cases z1:(na-k == 0)=true
 ·rw[if_pos z1]
  have z1':na-k=0:=by simpa using z1
  refine wpS_pure (done _ (.refl _) (sU.app sV fun x hx y hy=>?_))
  obtain⟨j,hj⟩:=List.mem_iff_getElem?.mp hx
  obtain⟨j2,hj2⟩:=List.mem_iff_getElem?.mp hy
  have hjl:=(List.getElem?_eq_some_iff.mp hj).1
  exact T.tr _ _ _ (dU x hx) dy (dV y hy) (low j x (by omega) hj) (i6 T dV sV (Nat.zero_le _) v0 hj2)
 rw[if_neg z1]
 have z1':na-k≠0:=by simpa using z1
 have ul:U[U.length-1]? = some U[U.length-1]:=List.getElem?_eq_getElem hUl
 have xl:=aU (U.length-1) hUl
 rw[show sa+(U.length-1)=sa+k+(na-k)-1 by omega]at xl
 refine wpS_bind (i0 xl (wpS_bind ?_))
 refine u5 C hk dl (by omega) (fun j=>lt (V[j]?.getD U[U.length-1]) U[U.length-1]) (fun j hj=>?_) (fun j k hjk hkn hb=>?_) fun n hn1 hn2 hn3=>?_
 ·have hj':j<V.length:=by omega
  exact⟨V[j],aV j hj',dV _ (List.getElem_mem hj'),by rw[List.getElem?_eq_getElem hj'];rfl⟩
 ·have hk':k<V.length:=by omega
  have hj':j<V.length:=by omega
  rw[List.getElem?_eq_getElem hk']at hb
  rw[List.getElem?_eq_getElem hj']
  have hb:lt V[k] U[U.length-1]=true:=hb
  show lt V[j] U[U.length-1]=true
  cases q:lt V[j] U[U.length-1]with
  | true=>rfl
  | false =>
   have:=T.tr _ V[j] V[k] dl (dV _ (List.getElem_mem hj')) (dV _ (List.getElem_mem hk')) q (i6 T dV sV hjk (List.getElem?_eq_getElem hj') (List.getElem?_eq_getElem hk'))
   rw[this]at hb;cases hb
 dsimp only
 have vlow:∀j y,j<n→V[j]? = some y→lt y U[U.length-1]=true:=fun j y hj hy=>by
  have:=hn2 j hj
  rw[hy]at this
  exact this
 have vhigh:∀j y,n≤j→V[j]? = some y→lt y U[U.length-1]=false:=fun j y hj hy=>by
  have hjl:=(List.getElem?_eq_some_iff.mp hy).1
  have:=hn3 j hj (by omega)
  rw[hy]at this
  exact this
 have ulast:∀x∈U,lt U[U.length-1] x=false:=fun x hx=>by
  obtain⟨j,hj⟩:=List.mem_iff_getElem?.mp hx
  have hjl:=(List.getElem?_eq_some_iff.mp hj).1
  exact i6 T dU sU (by omega) hj ul
 by_cases z2:(n == 0)=true
 ·rw[if_pos z2]
  have z2':n=0:=by simpa using z2
  refine wpS_pure (done _ (.refl _) (sU.app sV fun x hx y hy=>?_))
  obtain⟨j2,hj2⟩:=List.mem_iff_getElem?.mp hy
  exact T.tr _ _ _ (dU x hx) dl (dV y hy) (ulast x hx) (vhigh j2 y (by omega) hj2)
 rw[if_neg z2]
 have z2':n≠0:=by simpa using z2
 -- the parts
 have eU:U=U.take k++U.drop k:=(List.take_append_drop k U).symm
 have eV:V=V.take n++V.drop n:=(List.take_append_drop n V).symm
 have lk:(U.take k).length=k:=by rw[List.length_take];omega
 have ld:(U.drop k).length=na-k:=by rw[List.length_drop];omega
 have ln:(V.take n).length=n:=by rw[List.length_take];omega
 have exl:(arrOf st).toList=(pre++U.take k)++U.drop k++(V++post):=by
  rw[List.append_assoc pre (U.take k) (U.drop k),List.take_append_drop]
  exact e
 have eyl:(arrOf st).toList=(pre++U)++V.take n++(V.drop n++post):=by
  rw[List.append_assoc (pre++U) (V.take n),← List.append_assoc (V.take n),List.take_append_drop]
  exact e
 have ex:((arrOf st).extract (sa+k) sb).toList=U.drop k:=a0_ exl (by rw[List.length_append,l0,lk]) (by rw[ld];omega)
 have ey:((arrOf st).extract sb (sb+n)).toList=V.take n:=a0_ eyl lU (by rw[ln])
 have d2U:∀x∈U.drop k,Dm x:=fun x hx=>dU x (List.mem_of_mem_drop hx)
 have d2V:∀x∈V.take n,Dm x:=fun x hx=>dV x (List.mem_of_mem_take hx)
 have gtU:∀x∈U.drop k,lt V[0] x=true:=fun x hx=>by
  obtain⟨j,hj,e⟩:=l9 hx
  exact high j x hj e
 have ltV:∀y∈V.take n,lt y U[U.length-1]=true:=fun y hy=>by
  obtain⟨j,hj,e⟩:=j6 hy
  exact vlow j y hj e
 have xlast:(U.drop k)[(U.drop k).length-1]? = some U[U.length-1]:=by
  rw[List.getElem?_drop,ld,show k+(na-k-1)=U.length-1 by omega];exact ul
 have yfst:(V.take n)[0]? = some V[0]:=by rw[List.getElem?_take_of_lt (by omega)];exact v0
 have sx:((arrOf st).extract (sa+k) sb).size=(U.drop k).length:=by rw[← Array.length_toList,ex]
 have sy:((arrOf st).extract sb (sb+n)).size=(V.take n).length:=by rw[← Array.length_toList,ey]
 have fin:∀(r:Array Keyed) (st':SortSt),SameG (setPending st (((pendingOf st).setIfInBounds i (sa,na+nb,pw)).eraseIdxIfInBounds (i+1))) st'→g9 lt ((arrOf st).extract (sa+k) sb).toList ((arrOf st).extract sb (sb+n)).toList r.toList →
   wpS (model prog w) A E s (do
    modify fun s=>setArr s (r.toList.zipIdx.foldl (fun a (p,j)=>a.setIfInBounds (sa+k+j) p) (arrOf s))
    let __do_lift ← get
    pure (failedOf __do_lift).isNone) Q st':=fun r st' g ⟨gp,gs⟩=>by
  rw[ex,ey]at gp
  obtain⟨g1,g2,g3,g4⟩:=g
  refine wpS_bind (wpS_modify ?_)
  refine wpS_bind (wpS_get (wpS_pure ?_))
  have hrl:r.toList.length=(na-k)+n:=by rw[gp.length_eq,List.length_append,ld,ln]
  have hsz:(arrOf st).size=sa+na+(nb+post.length):=by
   rw[← Array.length_toList,e];simp only[List.length_append];omega
  have fs:=a09 (sa+k) r.toList 0 (arrOf st) (by rw[hrl];omega)
  have e1:(arrOf st).toList.take (sa+k+0)=pre++U.take k:=by
   rw[Nat.add_zero,e,List.append_assoc,List.take_append,l0,show sa+k-sa=k by omega,List.take_of_length_le (by omega),List.take_append,show k-U.length=0 by omega,List.take_zero,List.append_nil]
  have e2:(arrOf st).toList.drop (sa+k+0+r.toList.length)=V.drop n++post:=by
   rw[hrl,show sa+k+0+(na-k+n)=sb+n by omega,e',List.append_assoc,List.drop_append,lU,show sb+n-sb=n by omega,List.drop_eq_nil_of_le (by omega),List.nil_append,List.drop_append,show n-V.length=0 by omega,List.drop_zero]
  rw[e1,e2]at fs
  have hW:=h ((r.toList.zipIdx.foldl (fun a (q:Keyed×Nat)=>a.setIfInBounds (sa+k+q.2) q.1) (arrOf st))) (gallopOf st') (U.take k++r.toList++V.drop n) ?_ ?_ ?_
  ·have e5:setArr st' (r.toList.zipIdx.foldl (fun a (q:Keyed×Nat)=>a.setIfInBounds (sa+k+q.2) q.1) (arrOf st'))=SortSt.mk' κ (r.toList.zipIdx.foldl (fun a (q:Keyed×Nat)=>a.setIfInBounds (sa+k+q.2) q.1) (arrOf st)) (((pendingOf st).setIfInBounds i (sa,na+nb,pw)).eraseIdxIfInBounds (i+1)) (gallopOf st') none:=by
    have a1:kindOf st'=κ:=g1.trans hk
    have a2:arrOf st'=arrOf st:=g2
    have a3:pendingOf st'=_:=g3
    have a4:failedOf st'=none:=g4.trans hf
    show SortSt.mk' (kindOf st') _ (pendingOf st') (gallopOf st') (failedOf st')=_
    rw[a1,a2,a3,a4]
   have e6:(failedOf (setArr st' (r.toList.zipIdx.foldl (fun a (q:Keyed×Nat)=>a.setIfInBounds (sa+k+q.2) q.1) (arrOf st')))).isNone=true:=by
    show(failedOf st').isNone=true
    rw[show failedOf st'=none from g4.trans hf];rfl
   show Q (failedOf (setArr st' (r.toList.zipIdx.foldl (fun a (q:Keyed×Nat)=>a.setIfInBounds (sa+k+q.2) q.1) (arrOf st')))).isNone (setArr st' (r.toList.zipIdx.foldl (fun a (q:Keyed×Nat)=>a.setIfInBounds (sa+k+q.2) q.1) (arrOf st')))
   rw[e6,e5]
   exact hW
  ·refine((gp.append_left (U.take k)).append_right (V.drop n)).trans ?_
   have e7:U.take k++(U.drop k++V.take n)++V.drop n=U++V:=by
    rw[← List.append_assoc (U.take k),List.take_append_drop,List.append_assoc,List.take_append_drop]
   rw[e7]
  ·have inR:∀x∈r.toList,x∈U.drop k∨x∈V.take n:=fun x hx=>List.mem_append.mp (gp.mem_iff.mp hx)
   refine Srt.app (Srt.app (sU.take k) gs fun x hx y hy=>?_) (sV.drop n) fun x hx y hy=>?_
   ·obtain⟨j,hj,ej⟩:=j6 hx
    have dx:=dU x (List.mem_of_mem_take hx)
    rcases inR y hy with q | q
    ·obtain⟨j2,hj2,ej2⟩:=l9 q
     exact i6 T dU sU (by omega) ej ej2
    ·obtain⟨j2,hj2,ej2⟩:=j6 q
     exact T.tr _ _ _ dx dy (d2V y q) (low j x hj ej) (i6 T dV sV (Nat.zero_le _) v0 ej2)
   ·obtain⟨j2,hj2,ej2⟩:=l9 hy
    have dY:=dV y (List.mem_of_mem_drop hy)
    rcases List.mem_append.mp hx with hx | hx
    ·have dx:=dU x (List.mem_of_mem_take hx)
     exact T.tr _ _ _ dx dl dY (ulast x (List.mem_of_mem_take hx)) (vhigh j2 y hj2 ej2)
    ·rcases inR x hx with q | q
     ·exact T.tr _ _ _ (d2U x q) dl dY (ulast x (List.mem_of_mem_drop q)) (vhigh j2 y hj2 ej2)
     ·obtain⟨j3,hj3,ej3⟩:=j6 q
      exact i6 T dV sV (by omega) ej3 ej2
  ·show(List.foldl _ (arrOf st) r.toList.zipIdx).toList=_
   refine Eq.trans fs ?_
   simp
 by_cases z3:na-k≤n
 ·rw[if_pos z3]
  refine wpS_bind (a1I C ⟨T,by rw[ex];exact d2U,by rw[ey];exact d2V,by rw[ex];exact sU.drop k,by rw[ey];exact sV.take n,fun y hy x hx=>?_⟩ hk (by rw[sx,ld];omega) (by rw[sy,ln];omega) (fun x y hx hy=>?_) fin)
  ·rw[ey]at hy
   rw[ex,sx,xlast]at hx
   cases hx
   exact T.asy _ _ (d2V y hy) dl (ltV y hy)
  ·rw[ex]at hx
   rw[ey,yfst]at hy
   cases hy
   exact T.asy _ _ dy (d2U x (List.mem_of_getElem? hx)) (gtU x (List.mem_of_getElem? hx))
 ·rw[if_neg z3]
  refine wpS_bind (a1K C ⟨T,by rw[ex];exact d2U,by rw[ey];exact d2V,by rw[ex];exact sU.drop k,by rw[ey];exact sV.take n,fun x hx y hy=>?_⟩ hk (by rw[sx,ld];omega) (by rw[sy,ln];omega) (fun x y hx hy=>?_) fin)
  ·rw[ex]at hx
   rw[ey,yfst]at hy
   cases hy
   exact T.asy _ _ dy (d2U x hx) (gtU x hx)
  ·rw[ex,sx,xlast]at hx
   cases hx
   rw[ey]at hy
   exact T.asy _ _ (d2V y (List.mem_of_getElem? hy)) dl (ltV y (List.mem_of_getElem? hy))
end
theorem a0G(lo nrem:Nat):countRun' lo nrem=(do
 let mut n:=1
 for _ in [1:nrem]do
  let some smaller ← ltAt' (lo+n) (lo+n-1) | return none
  if smaller then break
  n:=n+1
 if n == nrem then return some n
 if n > 1 then
  let some rose ← ltAt' lo (lo+n-1) | return none
  if rose then return some n
  reverseSlice' lo (lo+n)
 rule "list.sort.descending-run"
 n:=n+1
 let mut neq:=0
 for _ in [n:nrem]do
  let some smaller ← ltAt' (lo+n) (lo+n-1) | return none
  if smaller then
   if neq > 0 then reverseSlice' (lo+n-(neq+1)) (lo+n)
   neq:=0
  else
   let some larger ← ltAt' (lo+n-1) (lo+n) | return none
   if larger then break
   neq:=neq+1
  n:=n+1
 if neq > 0 then reverseSlice' (lo+n-(neq+1)) (lo+n)
 reverseSlice' lo (lo+n)
 for _ in [n:nrem]do
  let some smaller ← ltAt' (lo+n) (lo+n-1) | return none
  if smaller then break
  n:=n+1
 return some n):=rfl
theorem X0(lo n ok:Nat):binarySort' lo n ok=(do
 for k in [max ok 1:n]do
  let mut l:=0
  let mut r:=k
  for _ in [0:k]do
   if l≥r then break
   let m:=(l+r)/2
   let some less ← ltAt' (lo+k) (lo+m) | return false
   if less then r:=m else l:=m+1
  moveDown' (lo+k) (lo+l)
 return true):=rfl
def gk(p:Array Keyed)(k:Nat):Keyed:=p.getD k (Value.none,Value.none)
theorem R9{p:Array Keyed}{k:Nat}(h:k<p.size):p[k]? = some (gk p k):=by unfold gk;simp[Array.getD,h]
theorem X1(p:Array Keyed)(k:Nat):gk p k=(p[k]?).getD (Value.none,Value.none):=by unfold gk;simp[Array.getD_eq_getD_getElem?]
abbrev p6(p:Array Keyed)(i j:Nat):Array Keyed:=mirror p i j ((j-i)/2)
theorem Q3{p:Array Keyed}{i j:Nat}(hj:j≤p.size)(k:Nat):gk (p6 p i j) k=if i≤k∧k<j then gk p (i+j-1-k)else gk p k:=by
 rw[X1,p6,getElem?_mirror_all hj]
 split<;>rw[X1]
theorem a3F{p:Array Keyed}{src d:Nat}(hs:src<p.size)(hd:d≤src)(k:Nat):gk (bubble p src d) k=if k=src-d then gk p src else if src-d<k∧k≤src then gk p (k-1)else gk p k:=by
 rw[X1,getElem?_bubble hs d hd]
 split
 ·rw[X1]
 ·split<;>rw[X1]
structure Rst(a0:Array Keyed)(lo hi:Nat)(a:Array Keyed):Prop where
 pm:a.Perm a0
 out:∀x,(x<lo∨hi≤x)→gk a x=gk a0 x
theorem Rst.refl(a:Array Keyed)(lo hi:Nat):Rst a lo hi a:=⟨.refl _,fun _ _=>rfl⟩
theorem Rst.size{a0 a:Array Keyed}{lo hi:Nat}(h:Rst a0 lo hi a):a.size=a0.size:=h.pm.size_eq
theorem Rst.rev{a0 a:Array Keyed}{lo hi i j:Nat}(h:Rst a0 lo hi a)(hi':lo≤i)(hj:j≤hi)(hs:hi≤a0.size):Rst a0 lo hi (p6 a i j) :=
 ⟨(mirror_perm _ _ _ _).trans h.pm,fun x hx=>by rw[Q3 (by rw[h.size];omega),if_neg (by omega)];exact h.out x hx⟩
theorem Rst.bub{a0 a:Array Keyed}{lo hi src d:Nat}(h:Rst a0 lo hi a)(h1:lo≤src-d)(hd:d≤src)(h2:src<hi)(hs:hi≤a0.size):Rst a0 lo hi (bubble a src d) :=
 ⟨(bubble_perm _ _ _).trans h.pm,fun x hx=>by rw[a3F (by rw[h.size];omega) hd,if_neg (by omega),if_neg (by omega)];exact h.out x hx⟩
structure StR(st0:SortSt)(lo hi:Nat)(st:SortSt):Prop where
 k:kindOf st=kindOf st0
 p:pendingOf st=pendingOf st0
 f:failedOf st=failedOf st0
 r:Rst (arrOf st0) lo hi (arrOf st)
def O3(lt:Keyed→Keyed→Bool)(p:Array Keyed)(lo m:Nat):Prop:=∀i j,i≤j→j<m→lt (gk p (lo+j)) (gk p (lo+i))=false
def S9(lt:Keyed→Keyed→Bool)(p:Array Keyed)(lo m:Nat):Prop:=∀i j,i≤j→j<m→lt (gk p (lo+i)) (gk p (lo+j))=false
abbrev a9u(lo:Nat):Nat→(Option (Option Nat)×Nat)→StateT SortSt Sem (ForInStep (Option (Option Nat)×Nat)):=fun x __s=>do
 let __x ← ltAt' (lo+__s.snd) (lo+__s.snd-1)
 match __x with
  | some smaller =>
   if smaller=true then pure (ForInStep.done (none,__s.snd))
   else pure (ForInStep.yield (none,__s.snd+1))
  | x=>pure (ForInStep.done (some none,__s.snd))
abbrev a9v(lo:Nat):Nat→(Option (Option Nat)×Nat×Nat)→StateT SortSt Sem (ForInStep (Option (Option Nat)×Nat×Nat)):=fun x __s=>do
 let __x ← ltAt' (lo+__s.snd.fst) (lo+__s.snd.fst-1)
 match __x with
  | some smaller =>
   if smaller=true then
    if __s.snd.snd > 0 then do
     reverseSlice' (lo+__s.snd.fst-(__s.snd.snd+1)) (lo+__s.snd.fst)
     pure (ForInStep.yield (none,__s.snd.fst+1,0))
    else pure (ForInStep.yield (none,__s.snd.fst+1,0))
   else do
    let __x ← ltAt' (lo+__s.snd.fst-1) (lo+__s.snd.fst)
    match __x with
     | some larger =>
      if larger=true then pure (ForInStep.done (none,__s.snd.fst,__s.snd.snd))
      else pure (ForInStep.yield (none,__s.snd.fst+1,__s.snd.snd+1))
     | x=>pure (ForInStep.done (some none,__s.snd.fst,__s.snd.snd))
  | x=>pure (ForInStep.done (some none,__s.snd.fst,__s.snd.snd))
section
variable {prog:Program}{w:World}{A:Around}{E:Value→Shared→Prop}{s:Shared}{κ:SortKind}{lt:Keyed→Keyed→Bool}{Dm:Keyed→Prop}{st0 st:SortSt}{lo n m:Nat}
theorem StR.dmk(R:StR st0 lo m st)(hD:∀x∈(arrOf st0).toList,Dm x){i:Nat}(hi:i<(arrOf st0).size):Dm (gk (arrOf st) i):=by
 refine hD _ (R.r.pm.mem_iff.mp ?_ |> Array.mem_toList_iff.mpr)
 have hs:i<(arrOf st).size:=by rw[R.r.size];exact hi
 have:=R9 hs
 rw[Array.getElem?_eq_getElem hs]at this
 rw[← Option.some.inj this]
 exact Array.getElem_mem hs
theorem Q4{i j:Nat}{Q:Option Bool→SortSt→Prop}(C:l3 prog w A s κ lt Dm)(hk:kindOf st=κ)(hi:i<(arrOf st).size)(hj:j<(arrOf st).size)(di:Dm (gk (arrOf st) i))(dj:Dm (gk (arrOf st) j))(h:Q (some (lt (gk (arrOf st) i) (gk (arrOf st) j))) st):wpS (model prog w) A E s (ltAt' i j) Q st:=by
 rw[ltAt'_eq]
 refine wpS_bind (wpS_get ?_)
 exact wpS_bind (i0 (R9 hi) (wpS_bind (i0 (R9 hj) (Q2 C hk di dj h))))
theorem B9{i j:Nat}{Q:Unit→SortSt→Prop}(h:Q () (setArr st (p6 (arrOf st) i j))):wpS (model prog w) A E s (reverseSlice' i j) Q st:=by
 rw[reverseSlice'_eq]
 exact wpS_modify h
theorem StR.rev{hi i j:Nat}(R:StR st0 lo hi st)(h1:lo≤i)(h2:j≤hi)(hs:hi≤(arrOf st0).size):StR st0 lo hi (setArr st (p6 (arrOf st) i j)):=⟨R.k,R.p,R.f,R.r.rev h1 h2 hs⟩
theorem Q5{a:Nat}{Q:Option (Option Nat)×Nat→SortSt→Prop}(C:l3 prog w A s κ lt Dm)(T:TPK lt Dm)(hk:kindOf st0=κ)(hD:∀x∈(arrOf st0).toList,Dm x)(R:StR st0 lo (lo+n) st)(hs:lo+n≤(arrOf st0).size)(h1:1≤a)(h2:a≤n)(u:O3 lt (arrOf st) lo a)
  (h:∀m,a≤m→m≤n→O3 lt (arrOf st) lo m→(m<n→lt (gk (arrOf st) (lo+m)) (gk (arrOf st) (lo+m-1))=true)→Q (none,m) st):wpS (model prog w) A E s (forIn [a:n] (none,a) (a9u lo)) Q st:=by
 have dm:∀i,i<lo+n→Dm (gk (arrOf st) i):=fun i hi=>R.dmk hD (by omega)
 have sz:=R.r.size
 refine wpS_forRange (fun i (c:Option (Option Nat)×Nat) st'=>c.1=none∧c.2=i∧st'=st∧O3 lt (arrOf st) lo i) ?_ ?_ ⟨rfl,rfl,rfl,u⟩
 ·rintro i ⟨c0,c1⟩ st' hi1 hi2 ⟨e0,e1,rfl,u⟩
  dsimp only at e0 e1
  subst e0 e1
  refine wpS_bind (Q4 C (R.k.trans hk) (by show lo+c1<_;omega) (by show lo+c1-1<_;omega) (dm _ (by show lo+c1<_;omega)) (dm _ (by show lo+c1-1<_;omega)) ?_)
  dsimp only
  cases c:lt (gk (arrOf st') (lo+c1)) (gk (arrOf st') (lo+c1-1))with
  | true =>
   rw[if_pos rfl]
   exact wpS_pure (h c1 hi1 (by omega) u fun _=>c)
  | false =>
   rw[if_neg (by simp)]
   refine wpS_pure ⟨rfl,rfl,rfl,fun i j hij hj=>?_⟩
   by_cases hjk:j<c1
   ·exact u i j hij hjk
   ·have e:j=c1:=by omega
    subst e
    by_cases hik:i=j
    ·subst hik;exact T.irr _ (dm _ (by omega))
    ·have:=u i (j-1) (by omega) (by omega)
     rw[show lo+(j-1)=lo+j-1 by omega]at this
     exact T.tr _ _ _ (dm _ (by omega)) (dm _ (by omega)) (dm _ (by omega)) this c
 ·rintro⟨c0,c1⟩ st' ⟨e0,e1,rfl,u⟩
  dsimp only at e0 e1
  have e2:max a n=n:=by omega
  rw[e2]at e1 u
  subst e0 e1
  exact h c1 h2 (Nat.le_refl _) u fun z=>absurd z (by omega)
theorem M1(hs:lo+m≤(arrOf st).size)(d:S9 lt (arrOf st) lo m):O3 lt (arrOf (setArr st (p6 (arrOf st) lo (lo+m)))) lo m:=fun i j hij hj=>by
 have gr:=Q3 (p:=arrOf st) (i:=lo) (j:=lo+m) hs
 show lt (gk (p6 (arrOf st) lo (lo+m)) (lo+j)) (gk (p6 (arrOf st) lo (lo+m)) (lo+i))=false
 rw[gr,gr,if_pos (by omega),if_pos (by omega),show lo+(lo+m)-1-(lo+j)=lo+(m-1-j) by omega,show lo+(lo+m)-1-(lo+i)=lo+(m-1-i) by omega]
 exact d _ _ (by omega) (by omega)
def Alk(lt:Keyed→Keyed→Bool)(p:Array Keyed)(lo k q:Nat):Prop:=∀i,k-(q+1)≤i→i<k→lt (gk p (lo+(k-1))) (gk p (lo+i))=false∧lt (gk p (lo+i)) (gk p (lo+(k-1)))=false
theorem a1a{hi k q:Nat}(T:TPK lt Dm)(hD:∀x∈(arrOf st0).toList,Dm x)(R:StR st0 lo hi st)(hs:hi≤(arrOf st0).size)(hk:lo+k≤hi)(hq:q+1≤k)(d:S9 lt (arrOf st) lo k)(al:Alk lt (arrOf st) lo k q) :
  S9 lt (p6 (arrOf st) (lo+k-(q+1)) (lo+k)) lo k∧∀i,i<k→lt (gk (p6 (arrOf st) (lo+k-(q+1)) (lo+k)) (lo+i)) (gk (arrOf st) (lo+(k-1)))=false:=by
 have sz:=R.r.size
 have dm:∀i,i<k→Dm (gk (arrOf st) (lo+i)):=fun i hi=>R.dmk hD (by omega)
 have gr:=Q3 (p:=arrOf st) (i:=lo+k-(q+1)) (j:=lo+k) (by omega)
 have at_:∀i,i<k→∃j,j<k∧gk (p6 (arrOf st) (lo+k-(q+1)) (lo+k)) (lo+i)=gk (arrOf st) (lo+j)∧(j=i∨(k-(q+1)≤i∧k-(q+1)≤j)):=fun i hi=>by
  rw[gr]
  split
  ·exact⟨k-(q+1)+k-1-i,by omega,by congr 1;omega,.inr ⟨by omega,by omega⟩⟩
  ·exact⟨i,hi,rfl,.inl rfl⟩
 have eqv:∀i,i<k→lt (gk (p6 (arrOf st) (lo+k-(q+1)) (lo+k)) (lo+i)) (gk (arrOf st) (lo+i))=false∧lt (gk (arrOf st) (lo+i)) (gk (p6 (arrOf st) (lo+k-(q+1)) (lo+k)) (lo+i))=false:=fun i hi=>by
  obtain⟨j,hj,e,z⟩:=at_ i hi
  rw[e]
  rcases z with rfl | ⟨z1,z2⟩
  ·exact⟨T.irr _ (dm _ hi),T.irr _ (dm _ hi)⟩
  ·have a:=al i z1 hi
   have b:=al j z2 hj
   exact⟨T.tr _ _ _ (dm _ hi) (dm _ (by omega)) (dm _ hj) a.1 b.2,T.tr _ _ _ (dm _ hj) (dm _ (by omega)) (dm _ hi) b.1 a.2⟩
 have dr:∀i,i<k→Dm (gk (p6 (arrOf st) (lo+k-(q+1)) (lo+k)) (lo+i)):=fun i hi=>by
  obtain⟨j,hj,e,_⟩:=at_ i hi
  rw[e];exact dm j hj
 refine⟨fun i j hij hj=>?_,fun i hi=>?_⟩
 ·exact T.tr _ _ _ (dr j hj) (dm i (by omega)) (dr i (by omega)) (T.tr _ _ _ (dr j hj) (dm j hj) (dm i (by omega)) (eqv j hj).2 (d i j hij hj)) (eqv i (by omega)).1
 ·exact T.tr _ _ _ (dm _ (by omega)) (dm i hi) (dr i hi) (d i (k-1) (by omega) (by omega)) (eqv i hi).1
theorem a3G{a:Nat}{Q:Option (Option Nat)×Nat×Nat→SortSt→Prop}(C:l3 prog w A s κ lt Dm)(T:TPK lt Dm)(hk:kindOf st0=κ)(hD:∀x∈(arrOf st0).toList,Dm x)(R:StR st0 lo (lo+n) st)(hs:lo+n≤(arrOf st0).size)(h1:1≤a)(h2:a≤n)(d:S9 lt (arrOf st) lo a)
  (h:∀k q st',a≤k→k≤n→q+1≤k→StR st0 lo (lo+n) st'→S9 lt (arrOf st') lo k→Alk lt (arrOf st') lo k q→Q (none,k,q) st'):wpS (model prog w) A E s (forIn [a:n] (none,a,0) (a9v lo)) Q st:=by
 refine wpS_forRange (fun i (c:Option (Option Nat)×Nat×Nat) st'=>c.1=none∧c.2.1=i∧c.2.2+1≤i∧StR st0 lo (lo+n) st'∧S9 lt (arrOf st') lo i∧Alk lt (arrOf st') lo i c.2.2) ?_ ?_ ⟨rfl,rfl,h1,R,d,fun i h1 h2=>?_⟩
 ·rintro i ⟨c0,k,q⟩ st1 hi1 hi2 ⟨e0,e1,hq,R1,d1,al⟩
  dsimp only at e0 e1 hq al
  subst e0 e1
  have sz:=R1.r.size
  have dm:∀i,i<lo+n→Dm (gk (arrOf st1) i):=fun i hi=>R1.dmk hD (by omega)
  refine wpS_bind (Q4 C (R1.k.trans hk) (by show lo+k<_;omega) (by show lo+k-1<_;omega) (dm _ (by show lo+k<_;omega)) (dm _ (by show lo+k-1<_;omega)) ?_)
  dsimp only
  have ek:lo+k-1=lo+(k-1):=by omega
  rw[ek]
  have ext:∀p':Array Keyed,(∀i,i<k+1→Dm (gk p' (lo+i)))→S9 lt p' lo k→(∀i,i<k→lt (gk p' (lo+i)) (gk p' (lo+k))=false)→S9 lt p' lo (k+1):=fun p' dp d' c i j hij hj=>by
   by_cases hjk:j<k
   ·exact d' i j hij hjk
   ·have e:j=k:=by omega
    subst e
    by_cases hik:i=j
    ·subst hik;exact T.irr _ (dp _ (by omega))
    ·exact c i (by omega)
  have one:∀p':Array Keyed,(∀i,i<k+1→Dm (gk p' (lo+i)))→Alk lt p' lo (k+1) 0:=fun p' dp i h1 h2=>by
   have e:i=k+1-1:=by omega
   rw[e];exact⟨T.irr _ (dp _ (by omega)),T.irr _ (dp _ (by omega))⟩
  cases c:lt (gk (arrOf st1) (lo+k)) (gk (arrOf st1) (lo+(k-1)))with
  | true =>
   rw[if_pos rfl]
   have c':=T.asy _ _ (dm _ (by omega)) (dm _ (by omega)) c
   by_cases hq0:q > 0
   ·rw[if_pos hq0]
    obtain⟨dr,low⟩:=a1a T hD R1 hs (by omega) hq d1 al
    have R2:=R1.rev (i:=lo+k-(q+1)) (j:=lo+k) (by omega) (by omega) hs
    have gr:=Q3 (p:=arrOf st1) (i:=lo+k-(q+1)) (j:=lo+k) (by omega)
    have gkk:gk (p6 (arrOf st1) (lo+k-(q+1)) (lo+k)) (lo+k)=gk (arrOf st1) (lo+k):=by rw[gr,if_neg (by omega)]
    have dp:∀i,i<k+1→Dm (gk (p6 (arrOf st1) (lo+k-(q+1)) (lo+k)) (lo+i)):=fun i hi=>R2.dmk hD (by omega)
    refine wpS_bind (B9 (wpS_pure ⟨rfl,rfl,by show 0+1≤k+1;omega,R2,?_,one _ dp⟩))
    exact ext _ dp dr fun i hi=>by
     rw[gkk]
     exact T.tr _ _ _ (dm _ (by omega)) (dm _ (by omega)) (dp i (by omega)) c' (low i hi)
   ·rw[if_neg hq0]
    have dp:∀i,i<k+1→Dm (gk (arrOf st1) (lo+i)):=fun i hi=>dm _ (by omega)
    exact wpS_pure ⟨rfl,rfl,by show 0+1≤k+1;omega,R1,ext _ dp d1 fun i hi=>T.tr _ _ _ (dm _ (by omega)) (dm _ (by omega)) (dm _ (by omega)) c' (d1 i (k-1) (by omega) (by omega)),one _ dp⟩
  | false =>
   rw[if_neg (by simp)]
   refine wpS_bind (Q4 C (R1.k.trans hk) (by omega) (by omega) (dm _ (by omega)) (dm _ (by omega)) ?_)
   dsimp only
   cases e:lt (gk (arrOf st1) (lo+(k-1))) (gk (arrOf st1) (lo+k))with
   | true =>
    rw[if_pos rfl]
    exact wpS_pure (h k q st1 hi1 (by omega) hq R1 d1 al)
   | false =>
    rw[if_neg (by simp)]
    refine wpS_pure ⟨rfl,rfl,by show q+1+1≤k+1;omega,R1,ext _ (fun i hi=>dm _ (by omega)) d1 (fun i hi=>T.tr _ _ _ (dm _ (by omega)) (dm _ (by omega)) (dm _ (by omega)) e (d1 i (k-1) (by omega) (by omega))),fun i h1 h2=>?_⟩
    have h1:k+1-(q+1+1)≤i:=h1
    rw[Nat.add_sub_cancel]
    by_cases hik:i=k
    ·subst hik;exact⟨T.irr _ (dm _ (by omega)),T.irr _ (dm _ (by omega))⟩
    ·have a:=al i (by omega) (by omega)
     exact⟨T.tr _ _ _ (dm _ (by omega)) (dm _ (by omega)) (dm _ (by omega)) a.1 c,T.tr _ _ _ (dm _ (by omega)) (dm _ (by omega)) (dm _ (by omega)) e a.2⟩
 ·rintro⟨c0,k,q⟩ st1 ⟨e0,e1,hq,R1,d1,al⟩
  dsimp only at e0 e1 hq al
  have e2:max a n=n:=by omega
  rw[e2]at e1 hq d1 al
  subst e0 e1
  exact h k q st1 h2 (Nat.le_refl _) hq R1 d1 al
 ·have h1':a-(0+1)≤i:=h1
  have e:i=a-1:=by omega
  subst e
  exact⟨T.irr _ (R.dmk hD (by omega)),T.irr _ (R.dmk hD (by omega))⟩
theorem a3H{Q:Option Nat→SortSt→Prop}(C:l3 prog w A s κ lt Dm)(T:TPK lt Dm)(hk:kindOf st=κ)(hD:∀x∈(arrOf st).toList,Dm x)(hs:lo+n≤(arrOf st).size)(hn:1≤n)
  (h:∀k st',1≤k→k≤n→StR st lo (lo+n) st'→O3 lt (arrOf st') lo k→Q (some k) st'):wpS (model prog w) A E s (countRun' lo n) Q st:=by
 have R:StR st lo (lo+n) st:=⟨rfl,rfl,rfl,.refl _ _ _⟩
 have dm:∀i,i<lo+n→Dm (gk (arrOf st) i):=fun i hi=>R.dmk hD (by omega)
 rw[a0G]
 refine wpS_bind (Q5 C T hk hD R hs (Nat.le_refl _) hn (fun i j hij hj=>?_) fun m m1 m2 u z=>?_)
 ·have e:i=j:=by omega
  rw[e];exact T.irr _ (dm _ (by omega))
 dsimp only
 by_cases y:(m == n)=true
 ·rw[if_pos y]
  exact wpS_pure (h m st m1 m2 R u)
 rw[if_neg y]
 have y':m≠n:=by simpa using y
 have zl:=z (by omega)
 rw[show lo+m-1=lo+(m-1) by omega]at zl
 by_cases m0:m > 1
 ·rw[if_pos m0]
  refine wpS_bind (Q4 C hk (by omega) (by omega) (dm _ (by omega)) (dm _ (by omega)) ?_)
  dsimp only
  rw[show lo+m-1=lo+(m-1) by omega]
  cases c:lt (gk (arrOf st) lo) (gk (arrOf st) (lo+(m-1)))with
  | true =>
   rw[if_pos rfl]
   exact wpS_pure (h m st m1 m2 R u)
  | false =>
   rw[if_neg (by simp)]
   refine wpS_bind (B9 ?_)
   have R2:=R.rev (i:=lo) (j:=lo+m) (Nat.le_refl _) (by omega) hs
   have gr:=Q3 (p:=arrOf st) (i:=lo) (j:=lo+m) (by omega)
   have c0:lt (gk (arrOf st) (lo+0)) (gk (arrOf st) (lo+(m-1)))=false:=c
   have all:∀a b,a<m→b<m→lt (gk (arrOf st) (lo+a)) (gk (arrOf st) (lo+b))=false:=fun a b ha hb =>
    T.tr _ _ _ (dm _ (by omega)) (dm _ (by omega)) (dm _ (by omega)) (u b (m-1) (by omega) (by omega)) (T.tr _ _ _ (dm _ (by omega)) (dm _ (by omega)) (dm _ (by omega)) c0 (u 0 a (by omega) ha))
   have dn:S9 lt (arrOf (setArr st (p6 (arrOf st) lo (lo+m)))) lo (m+1):=fun i j hij hj=>by
    show lt (gk (p6 (arrOf st) lo (lo+m)) (lo+i)) (gk (p6 (arrOf st) lo (lo+m)) (lo+j))=false
    rw[gr,gr]
    by_cases hjm:j<m
    ·rw[if_pos (by omega),if_pos (by omega),show lo+(lo+m)-1-(lo+i)=lo+(m-1-i) by omega,show lo+(lo+m)-1-(lo+j)=lo+(m-1-j) by omega]
     exact all _ _ (by omega) (by omega)
    ·have e:j=m:=by omega
     subst e
     rw[if_neg (show ¬(lo≤lo+j∧lo+j<lo+j) by omega)]
     by_cases hij':i=j
     ·subst hij';rw[if_neg (by omega)];exact T.irr _ (dm _ (by omega))
     ·rw[if_pos (by omega),show lo+(lo+j)-1-(lo+i)=lo+(j-1-i) by omega]
      exact T.tr _ _ _ (dm _ (by omega)) (dm _ (by omega)) (dm _ (by omega)) (T.asy _ _ (dm _ (by omega)) (dm _ (by omega)) zl) (all _ _ (by omega) (by omega))
   refine wpS_bind (wpS_lift (wpAny_rule ⟨rfl,?_⟩))
   refine wpS_bind (a3G C T hk hD R2 hs (by omega) (by omega) dn fun k q st1 k1 k2 hq R1 d1 al=>?_)
   have sz:=R1.r.size
   dsimp only
   by_cases q0:q > 0
   ·rw[if_pos q0]
    obtain⟨dr,_⟩:=a1a T hD R1 hs (by omega) hq d1 al
    have R3:=R1.rev (i:=lo+k-(q+1)) (j:=lo+k) (by omega) (by omega) hs
    have sz3:=R3.r.size
    have R4:=R3.rev (i:=lo) (j:=lo+k) (Nat.le_refl _) (by omega) hs
    refine wpS_bind (B9 (wpS_bind (B9 (wpS_bind (Q5 C T hk hD R4 hs (by omega) k2 (M1 (by omega) dr) fun k4 a1 a2 u _=>wpS_pure (h k4 _ (by omega) a2 R4 u))))))
   ·rw[if_neg q0]
    have R4:=R1.rev (i:=lo) (j:=lo+k) (Nat.le_refl _) (by omega) hs
    refine wpS_bind (B9 (wpS_bind (Q5 C T hk hD R4 hs (by omega) k2 (M1 (by omega) d1) fun k4 a1 a2 u _=>wpS_pure (h k4 _ (by omega) a2 R4 u))))
 ·rw[if_neg m0]
  have e:m=1:=by omega
  subst e
  have dn:S9 lt (arrOf st) lo (1+1):=fun i j hij hj=>by
   by_cases hij':i=j
   ·subst hij';exact T.irr _ (dm _ (by omega))
   ·have e1:i=0:=by omega
    have e2:j=1:=by omega
    subst e1 e2
    exact T.asy _ _ (dm _ (by omega)) (dm _ (by omega)) zl
  refine wpS_bind (wpS_lift (wpAny_rule ⟨rfl,?_⟩))
  refine wpS_bind (a3G C T hk hD R hs (by omega) (by omega) dn fun k q st1 k1 k2 hq R1 d1 al=>?_)
  have sz:=R1.r.size
  dsimp only
  by_cases q0:q > 0
  ·rw[if_pos q0]
   obtain⟨dr,_⟩:=a1a T hD R1 hs (by omega) hq d1 al
   have R3:=R1.rev (i:=lo+k-(q+1)) (j:=lo+k) (by omega) (by omega) hs
   have sz3:=R3.r.size
   have R4:=R3.rev (i:=lo) (j:=lo+k) (Nat.le_refl _) (by omega) hs
   refine wpS_bind (B9 (wpS_bind (B9 (wpS_bind (Q5 C T hk hD R4 hs (by omega) k2 (M1 (by omega) dr) fun k4 a1 a2 u _=>wpS_pure (h k4 _ (by omega) a2 R4 u))))))
  ·rw[if_neg q0]
   have R4:=R1.rev (i:=lo) (j:=lo+k) (Nat.le_refl _) (by omega) hs
   refine wpS_bind (B9 (wpS_bind (Q5 C T hk hD R4 hs (by omega) k2 (M1 (by omega) d1) fun k4 a1 a2 u _=>wpS_pure (h k4 _ (by omega) a2 R4 u))))
end
section
variable {prog:Program}{w:World}{A:Around}{E:Value→Shared→Prop}{s:Shared}{κ:SortKind}{lt:Keyed→Keyed→Bool}{Dm:Keyed→Prop}{st0 st:SortSt}{lo n ok hi:Nat}
theorem a4K{Q:Bool→SortSt→Prop}(C:l3 prog w A s κ lt Dm)(T:TPK lt Dm)(hk:kindOf st0=κ)(hD:∀x∈(arrOf st0).toList,Dm x)(R:StR st0 lo hi st)(hs:hi≤(arrOf st0).size)(hn:lo+n≤hi)(h1:1≤ok)(h2:ok≤n)(u:O3 lt (arrOf st) lo ok)
  (h:∀st',StR st0 lo hi st'→O3 lt (arrOf st') lo n→Q true st'):wpS (model prog w) A E s (binarySort' lo n ok) Q st:=by
 rw[X0]
 rw[show max ok 1=ok by omega]
 refine wpS_bind (wpS_mono (wpS_forRange (fun k (c:Option Bool×Unit) st'=>c.1=none∧StR st0 lo hi st'∧O3 lt (arrOf st') lo k) (Q:=fun(c:Option Bool×Unit) st'=>c.1=none∧StR st0 lo hi st'∧O3 lt (arrOf st') lo n) ?_ ?_ ⟨rfl,R,u⟩) ?_)
 ·rintro k ⟨c0,c1⟩ st1 hk1 hk2 ⟨e0,R1,u1⟩
  have sz:=R1.r.size
  have dm:∀i,i<n→Dm (gk (arrOf st1) (lo+i)):=fun i hi=>R1.dmk hD (by omega)
  refine wpS_bind (C5 (fun(i:Nat) (c:Option Bool×Nat×Nat) st'=>c.1=none∧st'=st1∧c.2.1≤c.2.2∧c.2.2≤k∧(∀i,i<c.2.1→lt (gk (arrOf st1) (lo+k)) (gk (arrOf st1) (lo+i))=false)∧(∀i,c.2.2≤i→i<k→lt (gk (arrOf st1) (lo+i)) (gk (arrOf st1) (lo+k))=false)∧c.2.2-c.2.1≤k-i)
   (fun(c:Option Bool×Nat×Nat) st'=>c.1=none∧st'=st1∧c.2.1≤k∧(∀i,i<c.2.1→lt (gk (arrOf st1) (lo+k)) (gk (arrOf st1) (lo+i))=false)∧(∀i,c.2.1≤i→i<k→lt (gk (arrOf st1) (lo+i)) (gk (arrOf st1) (lo+k))=false)) ?_ ?_ ⟨rfl,rfl,Nat.zero_le _,Nat.le_refl _,fun i hi=>absurd hi (Nat.not_lt_zero _),fun i h1 h2=>by have h1:k≤i:=h1;omega,by show k-0≤k-0;omega⟩ ?_)
  ·rintro i ⟨d0,l,r⟩ st2 hi ⟨f0,rfl,a1,a2,a3,a4,a5⟩
   dsimp only at *
   by_cases z:l≥r
   ·rw[if_pos z]
    exact wpS_pure ⟨rfl,rfl,by show l≤k;omega,a3,fun i h1 h2=>a4 i (by have h1:l≤i:=h1;omega) h2⟩
   ·rw[if_neg z]
    refine wpS_bind (Q4 C (R1.k.trans hk) (by omega) (by omega) (dm _ (by omega)) (dm _ (by omega)) ?_)
    dsimp only
    cases c:lt (gk (arrOf st2) (lo+k)) (gk (arrOf st2) (lo+(l+r)/2))with
    | true =>
     rw[if_pos rfl]
     refine wpS_pure ⟨rfl,rfl,by show l≤(l+r)/2;omega,by show(l+r)/2≤k;omega,a3,fun i h1 h2=>?_,by show(l+r)/2-l≤k-(i+1);omega⟩
     have h1:(l+r)/2≤i:=h1
     exact T.tr _ _ _ (dm _ (by omega)) (dm _ (by omega)) (dm _ (by omega)) (T.asy _ _ (dm _ (by omega)) (dm _ (by omega)) c) (u1 ((l+r)/2) i h1 h2)
    | false =>
     rw[if_neg (by simp)]
     refine wpS_pure ⟨rfl,rfl,by show(l+r)/2+1≤r;omega,a2,fun i h1=>?_,a4,by show r-((l+r)/2+1)≤k-(i+1);omega⟩
     have h1:i<(l+r)/2+1:=h1
     exact T.tr _ _ _ (dm _ (by omega)) (dm _ (by omega)) (dm _ (by omega)) (u1 i ((l+r)/2) (by omega) (by omega)) c
  ·rintro⟨d0,l,r⟩ st2 ⟨f0,rfl,a1,a2,a3,a4,a5⟩
   dsimp only at *
   exact⟨f0,rfl,by show l≤k;omega,a3,fun i h1 h2=>a4 i (by have h1:l≤i:=h1;omega) h2⟩
  ·rintro⟨d0,l,r⟩ st2 ⟨f0,rfl,a1,a3,a4⟩
   dsimp only at *
   subst f0
   dsimp only
   rw[moveDown'_eq]
   refine wpS_bind (wpS_modify (wpS_pure ?_))
   have R2:StR st0 lo hi (setArr st2 (bubble (arrOf st2) (lo+k) (lo+k-(lo+l)))):=⟨R1.k,R1.p,R1.f,R1.r.bub (by omega) (by omega) (by omega) hs⟩
   refine⟨rfl,R2,fun i j hij hj=>?_⟩
   have gb:=a3F (p:=arrOf st2) (src:=lo+k) (d:=lo+k-(lo+l)) (by omega) (by omega)
   show lt (gk (bubble (arrOf st2) (lo+k) (lo+k-(lo+l))) (lo+j)) (gk (bubble (arrOf st2) (lo+k) (lo+k-(lo+l))) (lo+i))=false
   rw[gb,gb,show lo+k-(lo+k-(lo+l))=lo+l by omega]
   by_cases e:i=j
   ·subst e
    split
    ·exact T.irr _ (dm _ (by omega))
    ·split
     ·rw[show lo+i-1=lo+(i-1) by omega];exact T.irr _ (dm _ (by omega))
     ·exact T.irr _ (dm _ (by omega))
   by_cases hjl:j=l
   ·rw[if_pos (by omega),if_neg (by omega),if_neg (by omega)];exact a3 i (by omega)
   ·rw[if_neg (show ¬lo+j=lo+l by omega)]
    by_cases hil:i=l
    ·rw[if_pos (by omega),if_pos (by omega),show lo+j-1=lo+(j-1) by omega];exact a4 (j-1) (by omega) (by omega)
    ·rw[if_neg (show ¬lo+i=lo+l by omega)]
     by_cases h1:l<j∧j≤k
     ·rw[if_pos (show lo+l<lo+j∧lo+j≤lo+k by omega),show lo+j-1=lo+(j-1) by omega]
      by_cases h2:l<i∧i≤k
      ·rw[if_pos (show lo+l<lo+i∧lo+i≤lo+k by omega),show lo+i-1=lo+(i-1) by omega];exact u1 _ _ (by omega) (by omega)
      ·rw[if_neg (show ¬(lo+l<lo+i∧lo+i≤lo+k) by omega)];exact u1 _ _ (by omega) (by omega)
     ·rw[if_neg (show ¬(lo+l<lo+j∧lo+j≤lo+k) by omega),if_neg (show ¬(lo+l<lo+i∧lo+i≤lo+k) by omega)];exact u1 _ _ hij (by omega)
 ·rintro⟨c0,c1⟩ st1 ⟨e0,R1,u1⟩
  have e2:max ok n=n:=by omega
  rw[e2]at u1
  exact⟨e0,R1,u1⟩
 ·rintro⟨c0,c1⟩ st1 ⟨e0,R1,u1⟩
  dsimp only at e0
  subst e0
  exact wpS_pure (h st1 R1 u1)
end
def PRun(lt:Keyed→Keyed→Bool):List (Nat×Nat×Nat)→List (List Keyed)→Nat→Prop
 | [],[],_=>True
 | p::ps,S::ss,o=>p.1=o∧p.2.1=S.length∧1≤S.length∧Srt lt S∧PRun lt ps ss (o+S.length)
 | _,_,_=>False
section
variable {lt:Keyed→Keyed→Bool}
theorem PRun.len:∀{pl:List (Nat×Nat×Nat)} {segs:List (List Keyed)} {o:Nat},PRun lt pl segs o→pl.length=segs.length∧pl.length≤segs.flatten.length
 | [],[],_,_=>⟨rfl,Nat.le_refl _⟩
 | p::ps,S::ss,o,h=>by
  obtain⟨_,_,h1,_,h2⟩:=h
  have:=PRun.len h2
  simp only[List.length_cons,List.flatten_cons,List.length_append]
  omega
 | [],_::_,_,h=>h.elim
 | _::_,[],_,h=>h.elim
theorem PRun.snoc:∀{pl:List (Nat×Nat×Nat)} {segs:List (List Keyed)} {o:Nat} {c:Nat×Nat×Nat} {S:List Keyed},PRun lt pl segs o→c.1=o+segs.flatten.length→c.2.1=S.length→1≤S.length→Srt lt S→PRun lt (pl++[c]) (segs++[S]) o
 | [],[],o,c,S,_,h1,h2,h3,h4=>⟨by simpa using h1,h2,h3,h4,trivial⟩
 | p::ps,U::ss,o,c,S,h,h1,h2,h3,h4=>by
  obtain⟨a1,a2,a3,a4,a5⟩:=h
  refine⟨a1,a2,a3,a4,PRun.snoc a5 ?_ h2 h3 h4⟩
  rw[h1];simp only[List.flatten_cons,List.length_append];omega
 | [],_::_,_,_,_,h,_,_,_,_=>h.elim
 | _::_,[],_,_,_,h,_,_,_,_=>h.elim
theorem PRun.pow:∀{pl ql:List (Nat×Nat×Nat)} {segs:List (List Keyed)} {o:Nat},PRun lt pl segs o→pl.map (fun p=>(p.1,p.2.1))=ql.map (fun p=>(p.1,p.2.1))→PRun lt ql segs o
 | [],[],[],_,_,_=>trivial
 | p::ps,q::qs,S::ss,o,h,e=>by
  obtain⟨a1,a2,a3,a4,a5⟩:=h
  simp only[List.map_cons]at e
  injection e with e1 e2
  injection e1 with e1 e3
  exact⟨e1▸a1,e3▸a2,a3,a4,PRun.pow a5 e2⟩
 | [],_::_,_,_,_,e=>by cases e
 | _::_,[],_,_,_,e=>by cases e
 | [],[],_::_,_,h,_=>h.elim
 | _::_,_::_,[],_,h,_=>h.elim
theorem PRun.split:∀{pl:List (Nat×Nat×Nat)} {segs:List (List Keyed)} {o i:Nat},PRun lt pl segs o→i+1<pl.length→∃p1 a b p2 s1 U V s2,pl=p1++a::b::p2∧p1.length=i∧segs=s1++U::V::s2∧a.1=o+s1.flatten.length∧a.2.1=U.length∧b.1=a.1+U.length∧b.2.1=V.length∧1≤U.length∧1≤V.length∧Srt lt U∧Srt lt V ∧
  ∀(W:List Keyed) (c:Nat×Nat×Nat),W.length=U.length+V.length→Srt lt W→c.1=a.1→c.2.1=W.length→PRun lt (p1++c::p2) (s1++W::s2) o
 | p::q::ps,S::S'::ss,o,0,h,_=>by
  obtain⟨a1,a2,a3,a4,b1,b2,b3,b4,b5⟩:=h
  refine⟨[],p,q,ps,[],S,S',ss,rfl,rfl,rfl,by simpa using a1,a2,by omega,b2,a3,b3,a4,b4,fun W c hW hs h1 h2=>⟨by rw[h1];exact a1,h2,by omega,hs,?_⟩⟩
  rw[hW,← Nat.add_assoc]
  exact b5
 | p::ps,S::ss,o,i+1,h,hi=>by
  obtain⟨a1,a2,a3,a4,a5⟩:=h
  obtain⟨p1,a,b,p2,s1,U,V,s2,e1,e2,e3,e4,e5,e6,e7,e8,e9,e10,e11,e12⟩:=PRun.split a5 (i:=i) (by rw[List.length_cons]at hi;omega)
  refine⟨p::p1,a,b,p2,S::s1,U,V,s2,by rw[e1];rfl,by rw[List.length_cons,e2],by rw[e3];rfl,by rw[e4];simp only[List.flatten_cons,List.length_append];omega,e5,e6,e7,e8,e9,e10,e11,fun W c hW hs h1 h2=>⟨a1,a2,a3,a4,e12 W c hW hs h1 h2⟩⟩
 | [p],[S],o,0,h,hi=>by simp at hi
 | [p],S::S'::ss,o,0,h,hi=>by simp at hi
 | p::q::ps,[S],o,0,h,_=>by obtain⟨_,_,_,_,h⟩:=h;exact h.elim
 | [],[],_,_,_,hi=>by simp at hi
 | [],_::_,_,_,h,_=>h.elim
 | _::_,[],_,_,h,_=>h.elim
end
structure SI(lt:Keyed→Keyed→Bool)(st0 st:SortSt)(lo:Nat)(b7:List Keyed):Prop where
 k:kindOf st=kindOf st0
 f:failedOf st=none
 pm:(arrOf st).Perm (arrOf st0)
 run:∃segs,(arrOf st).toList=segs.flatten++b7∧segs.flatten.length=lo∧PRun lt (pendingOf st).toList segs 0
section
variable {prog:Program}{w:World}{A:Around}{E:Value→Shared→Prop}{s:Shared}{κ:SortKind}{lt:Keyed→Keyed→Bool}{Dm:Keyed→Prop}{st0 st:SortSt}{lo:Nat}{b7:List Keyed}
theorem SI.psz(I:SI lt st0 st lo b7):(pendingOf st).size≤lo:=by
 obtain⟨segs,_,e2,pr⟩:=I.run
 have:=pr.len.2
 rw[Array.length_toList]at this
 omega
theorem a5H{i:Nat}{Q:Bool→SortSt→Prop}(C:l3 prog w A s κ lt Dm)(T:TPK lt Dm)(hk:kindOf st0=κ)(hD:∀x∈(arrOf st0).toList,Dm x)(I:SI lt st0 st lo b7)(hi:i+1<(pendingOf st).size)(h:∀st',SI lt st0 st' lo b7→(pendingOf st').size+1=(pendingOf st).size→Q true st'):wpS (model prog w) A E s (mergeAt' i) Q st:=by
 obtain⟨segs,e1,e2,pr⟩:=I.run
 obtain⟨p1,a,b,p2,s1,U,V,s2,f1,f2,f3,f4,f5,f6,f7,f8,f9,f10,f11,f12⟩:=pr.split (i:=i) (by rw[Array.length_toList];exact hi)
 obtain⟨sa,na,pw⟩:=a
 obtain⟨sb,nb,pw'⟩:=b
 dsimp only at f4 f5 f6 f7 f12
 have dmA:∀x∈(arrOf st).toList,Dm x:=fun x hx=>hD x (Array.mem_toList_iff.mpr (I.pm.mem_iff.mp (Array.mem_toList_iff.mp hx)))
 have g1:(pendingOf st)[i]? = some (sa,na,pw):=by
  rw[← Array.getElem?_toList,f1,List.getElem?_append_right (by omega),f2,Nat.sub_self];rfl
 have g2:(pendingOf st)[i+1]? = some (sb,nb,pw'):=by
  rw[← Array.getElem?_toList,f1,List.getElem?_append_right (by omega),f2,show i+1-i=1 by omega];rfl
 have e:(arrOf st).toList=s1.flatten++U++(V++(s2.flatten++b7)):=by
  rw[e1,f3];simp
 refine a1M (pre:=s1.flatten) (U:=U) (V:=V) (post:=s2.flatten++b7) C T (I.k.trans hk) I.f g1 g2 e (by omega) f5.symm f7.symm (by omega) (by omega) (by omega) (fun x hx=>dmA x (by rw[e];simp[hx])) (fun x hx=>dmA x (by rw[e];simp[hx])) f10 f11 fun arr' g W hW hs ea=>?_
 have lW:W.length=U.length+V.length:=by rw[hW.length_eq,List.length_append]
 have ep:(((pendingOf st).setIfInBounds i (sa,na+nb,pw)).eraseIdxIfInBounds (i+1)).toList=p1++(sa,na+nb,pw)::p2:=by
  rw[Array.toList_eraseIdxIfInBounds,Array.toList_setIfInBounds,f1,List.set_append_right _ _ (by omega),f2,Nat.sub_self,List.set_cons_zero,List.eraseIdx_append_of_length_le (by omega),f2,show i+1-i=1 by omega]
  rfl
 refine h _ ⟨I.k.symm▸(by rw[I.k];exact hk.symm),rfl,?_,s1++W::s2,?_,?_,?_⟩ ?_
 ·refine Array.Perm.trans ?_ I.pm
  refine Array.perm_iff_toList_perm.mpr ?_
  show arr'.toList.Perm _
  rw[ea,e]
  refine List.Perm.trans ?_ (List.Perm.of_eq (by simp:s1.flatten++(U++V)++(s2.flatten++b7)=_))
  exact(hW.append_left _).append_right _
 ·show arr'.toList=_
  rw[ea];simp
 ·rw[← e2,f3]
  simp only[List.flatten_append,List.flatten_cons,List.length_append,lW]
  omega
 ·show PRun lt (((pendingOf st).setIfInBounds i (sa,na+nb,pw)).eraseIdxIfInBounds (i+1)).toList _ 0
  rw[ep]
  exact f12 W _ lW hs rfl (by show na+nb=_;omega)
 ·show(((pendingOf st).setIfInBounds i (sa,na+nb,pw)).eraseIdxIfInBounds (i+1)).size+1=_
  rw[← Array.length_toList,ep,← Array.length_toList (xs:=pendingOf st),f1]
  simp
  omega
end
abbrev a9w(pw:Nat):Nat→(Option Unit×Unit)→StateT SortSt Sem (ForInStep (Option Unit×Unit)):=fun x __s_1=>do
 let __do_lift_3 ← get
 match if(pendingOf __do_lift_3).size > 1 then(pendingOf __do_lift_3)[(pendingOf __do_lift_3).size-2]? else none with
  | some (fst,fst_1,older) =>
   if older≤pw then pure (ForInStep.done (none,()))
   else do
    let __do_lift ← mergeAt' ((pendingOf __do_lift_3).size-2)
    if(!__do_lift)=true then pure (ForInStep.done (some (),()))else pure (ForInStep.yield (none,()))
  | x=>pure (ForInStep.done (none,()))
section
variable {prog:Program}{w:World}{A:Around}{E:Value→Shared→Prop}{s:Shared}{κ:SortKind}{lt:Keyed→Keyed→Bool}{Dm:Keyed→Prop}{st0 st:SortSt}{lo n:Nat}{b7:List Keyed}
theorem a3I{N pw:Nat}{Q:Option Unit×Unit→SortSt→Prop}(C:l3 prog w A s κ lt Dm)(T:TPK lt Dm)(hk:kindOf st0=κ)(hD:∀x∈(arrOf st0).toList,Dm x)(I:SI lt st0 st lo b7)(h0:1≤(pendingOf st).size)(h:∀st',SI lt st0 st' lo b7→1≤(pendingOf st').size→Q (none,()) st'):wpS (model prog w) A E s (forIn [:N] (none,()) (a9w pw)) Q st:=by
 refine C5 (fun i (c:Option Unit×Unit) st'=>c.1=none∧SI lt st0 st' lo b7∧1≤(pendingOf st').size) (fun(c:Option Unit×Unit) st'=>c.1=none∧SI lt st0 st' lo b7∧1≤(pendingOf st').size) ?_ (fun c st h=>h) ⟨rfl,I,h0⟩ ?_
 ·rintro i ⟨c0,c1⟩ st1 hi ⟨e0,I1,h1⟩
  refine wpS_bind (wpS_get ?_)
  by_cases z:(pendingOf st1).size > 1
  ·rw[if_pos z]
   have hz:(pendingOf st1).size-2<(pendingOf st1).size:=by omega
   rw[Array.getElem?_eq_getElem hz]
   obtain⟨q1,q2,q3⟩:=(pendingOf st1)[(pendingOf st1).size-2]
   dsimp only
   refine a08 (fun _=>wpS_pure ⟨rfl,I1,h1⟩) (fun _=>?_)
   refine wpS_bind (a5H C T hk hD I1 (by omega) fun st2 I2 h2=>?_)
   exact wpS_pure ⟨rfl,I2,by omega⟩
  ·rw[if_neg z]
   exact wpS_pure ⟨rfl,I1,h1⟩
 ·rintro⟨c0,c1⟩ st1 ⟨e0,I1,h1⟩
  dsimp only at e0
  subst e0
  exact h st1 I1 h1
theorem a6e{a b:Array Keyed}{m:Nat}(hs:a.size=b.size)(h:∀x,x<m→gk a x=gk b x):a.toList.take m=b.toList.take m:=by
 apply List.ext_getElem?
 intro i
 by_cases hi:i<m
 ·rw[List.getElem?_take_of_lt hi,List.getElem?_take_of_lt hi,Array.getElem?_toList,Array.getElem?_toList]
  by_cases hz:i<a.size
  ·rw[R9 hz,R9 (by omega),h i hi]
  ·rw[Array.getElem?_eq_none (by omega),Array.getElem?_eq_none (by omega)]
 ·rw[List.getElem?_eq_none (by rw[List.length_take];omega),List.getElem?_eq_none (by rw[List.length_take];omega)]
theorem SI.add(I:SI lt st0 st lo b7){st1:SortSt}(R:StR st lo (arrOf st).size st1)(hn:1≤n)(hl:lo+n≤(arrOf st).size)(u:O3 lt (arrOf st1) lo n):∃S rest',SI lt st0 st1 lo (S++rest')∧S.length=n∧Srt lt S:=by
 obtain⟨segs,e1,e2,pr⟩:=I.run
 have sz:=R.r.size
 have et:(arrOf st1).toList.take lo=segs.flatten:=by
  rw[a6e sz (fun x hx=>R.r.out x (.inl hx)),e1,← e2,List.take_left]
 have e3:(arrOf st1).toList=segs.flatten++(arrOf st1).toList.drop lo:=by rw[← et,List.take_append_drop]
 refine⟨((arrOf st1).toList.drop lo).take n,((arrOf st1).toList.drop lo).drop n,⟨R.k.trans I.k,R.f.trans I.f,R.r.pm.trans I.pm,segs,by rw[List.take_append_drop];exact e3,e2,by rw[R.p];exact pr⟩,by rw[List.length_take,List.length_drop,Array.length_toList];omega,?_⟩
 refine List.pairwise_iff_getElem.mpr fun i j hi hj hij=>?_
 have hi':=hi
 have hj':=hj
 rw[List.length_take,List.length_drop,Array.length_toList]at hi' hj'
 have at_:∀k,k<n→∀(h:k<(((arrOf st1).toList.drop lo).take n).length),(((arrOf st1).toList.drop lo).take n)[k]=gk (arrOf st1) (lo+k):=fun k hk h=>by
  have e4:(((arrOf st1).toList.drop lo).take n)[k]? = some (gk (arrOf st1) (lo+k)):=by
   rw[List.getElem?_take_of_lt hk,List.getElem?_drop,Array.getElem?_toList,R9 (by omega)]
  rw[List.getElem?_eq_getElem h]at e4
  exact Option.some.inj e4
 rw[at_ i (by omega) hi,at_ j (by omega) hj]
 exact u i j (by omega) (by omega)
theorem SI.push{S:List Keyed}{pw:Nat}(I:SI lt st0 st lo (S++b7))(hn:S.length=n)(h1:1≤n)(hs:Srt lt S):SI lt st0 (setPending st ((pendingOf st).push (lo,n,pw))) (lo+n) b7:=by
 obtain⟨segs,e1,e2,pr⟩:=I.run
 refine⟨I.k,I.f,I.pm,segs++[S],by show(arrOf st).toList=_;rw[e1];simp,by simp only[List.flatten_append,List.flatten_cons,List.flatten_nil,List.length_append,List.length_nil];omega,?_⟩
 show PRun lt ((pendingOf st).push (lo,n,pw)).toList _ 0
 rw[Array.toList_push]
 exact pr.snoc (by show lo=_;omega) (by show n=_;omega) (by omega) hs
theorem SI.pow{f:Nat×Nat×Nat→Nat×Nat×Nat}{i:Nat}(hf:∀p,((f p).1,(f p).2.1)=(p.1,p.2.1))(I:SI lt st0 st lo b7):SI lt st0 (setPending st ((pendingOf st).modify i f)) lo b7:=by
 obtain⟨segs,e1,e2,pr⟩:=I.run
 refine⟨I.k,I.f,I.pm,segs,e1,e2,?_⟩
 show PRun lt ((pendingOf st).modify i f).toList _ 0
 refine pr.pow ?_
 apply List.ext_getElem?
 intro j
 rw[List.getElem?_map,List.getElem?_map,Array.getElem?_toList,Array.getElem?_toList,Array.getElem?_modify]
 split
 ·rename_i z
  cases q:(pendingOf st)[j]? with
  | none=>rfl
  | some p=>simp[hf p]
 ·rfl
end
section
variable {prog:Program}{w:World}{A:Around}{E:Value→Shared→Prop}{s:Shared}{κ:SortKind}{lt:Keyed→Keyed→Bool}{Dm:Keyed→Prop}{st:SortSt}
theorem a4L{p:Prop} [Decidable p] (a:Nat):(if p then a-1 else a)≤a:=by
 split<;>omega
theorem a1N{Q:Unit→SortSt→Prop}(C:l3 prog w A s κ lt Dm)(T:TPK lt Dm)(hk:kindOf st=κ)(hf:failedOf st=none)(hp:pendingOf st = #[])(hD:∀x∈(arrOf st).toList,Dm x)
  (h:∀st',(arrOf st').Perm (arrOf st)→failedOf st'=none→Srt lt (arrOf st').toList→Q () st'):wpS (model prog w) A E s sortRuns' Q st:=by
 rw[sortRuns'_eq]
 refine wpS_bind (wpS_get ?_)
 dsimp only
 have I0:SI lt st st 0 (arrOf st).toList:=⟨rfl,hf,.refl _,[],rfl,rfl,by rw[hp];trivial⟩
 refine wpS_bind (C5 (fun(i:Nat) (c:Option Unit×Nat) st'=>c.1=none∧i≤c.2∧c.2≤(arrOf st).size∧∃b7,SI lt st st' c.2 b7) (fun(c:Option Unit×Nat) st'=>c.1=none∧∃b7,SI lt st st' (arrOf st).size b7) ?_ ?_ ⟨rfl,Nat.le_refl _,Nat.zero_le _,_,I0⟩ ?_)
 ·rintro i ⟨c0,lo⟩ st1 hi ⟨e0,h1,h2,b7,I⟩
  dsimp only at e0 h1 h2 I
  by_cases z:lo≥(arrOf st).size
  ·rw[if_pos z]
   have e:lo=(arrOf st).size:=by omega
   subst e
   exact wpS_pure ⟨rfl,b7,I⟩
  ·rw[if_neg z]
   have sz:(arrOf st1).size=(arrOf st).size:=I.pm.size_eq
   have hD1:∀x∈(arrOf st1).toList,Dm x:=fun x hx=>hD x (Array.mem_toList_iff.mpr (I.pm.mem_iff.mp (Array.mem_toList_iff.mp hx)))
   refine wpS_bind (a3H C T (I.k.trans hk) hD1 (by omega) (by omega) fun k st2 k1 k2 R u=>?_)
   dsimp only
   have k2:k≤(arrOf st).size-lo:=k2
   have R:StR st1 lo (lo+((arrOf st).size-lo)) st2:=R
   have u:O3 lt (arrOf st2) lo k:=u
   rw[show lo+((arrOf st).size-lo)=(arrOf st1).size by omega]at R
   -- what follows a run of n
   have go:∀(n:Nat) (st3:SortSt),1≤n→lo+n≤(arrOf st).size→StR st1 lo (arrOf st1).size st3→O3 lt (arrOf st3) lo n →
     ∃S rest',SI lt st st3 lo (S++rest')∧S.length=n∧Srt lt S:=fun n st3 n1 n2 R3 u3=>I.add R3 n1 (by omega) u3
   by_cases zr:k<minRun' (arrOf st).size (arrOf st).size 0
   ·rw[if_pos zr]
    refine wpS_bind (wpS_lift (wpAny_rule ⟨rfl,?_⟩))
    refine wpS_bind (a4K C T (I.k.trans hk) hD1 R (Nat.le_refl _) (by omega) k1 (by omega) u fun st3 R3 u3=>?_)
    rw[if_neg (by simp)]
    obtain⟨S,rest',I3,hS,sS⟩:=go _ st3 (by omega) (by omega) R3 u3
    refine wpS_bind (wpS_get ?_)
    have n1':1≤min ((arrOf st).size-lo) (minRun' (arrOf st).size (arrOf st).size 0):=by omega
    have n2':lo+min ((arrOf st).size-lo) (minRun' (arrOf st).size (arrOf st).size 0)≤(arrOf st).size:=by omega
    generalize min ((arrOf st).size-lo) (minRun' (arrOf st).size (arrOf st).size 0)=n at *
    cases hb:(pendingOf st3).back? with
    | none =>
     dsimp only
     refine wpS_bind (wpS_modify (wpS_pure ⟨rfl,by show i+1≤lo+n;omega,by show lo+n≤_;omega,rest',I3.push hS (by omega) sS⟩))
    | some q =>
     obtain⟨s1,n1,pw0⟩:=q
     dsimp only
     have hps:1≤(pendingOf st3).size:=by
      by_cases y:(pendingOf st3).size=0
      ·rw[Array.back?_eq_getElem?,y]at hb
       rw[Array.getElem?_eq_none (by omega)]at hb
       cases hb
      ·omega
     refine wpS_bind (a3I C T hk hD I3 hps fun st4 I4 h4=>?_)
     dsimp only
     refine wpS_bind (wpS_modify (wpS_bind (wpS_modify (wpS_pure ⟨rfl,by show i+1≤lo+n;omega,by show lo+n≤_;omega,rest',SI.push (SI.pow (f:=fun x=>(x.1,x.2.1,power' (arrOf st).size (2*s1+n1) (2*s1+n1+n1+n) (arrOf st).size)) (fun p=>rfl) I4) hS (by omega) sS⟩))))
   ·rw[if_neg zr]
    obtain⟨S,rest',I3,hS,sS⟩:=go _ st2 k1 (by omega) R u
    refine wpS_bind (wpS_get ?_)
    cases hb:(pendingOf st2).back? with
    | none =>
     dsimp only
     refine wpS_bind (wpS_modify (wpS_pure ⟨rfl,by show i+1≤lo+k;omega,by show lo+k≤_;omega,rest',I3.push hS (by omega) sS⟩))
    | some q =>
     obtain⟨s1,n1,pw0⟩:=q
     dsimp only
     have hps:1≤(pendingOf st2).size:=by
      by_cases y:(pendingOf st2).size=0
      ·rw[Array.back?_eq_getElem?,y]at hb
       rw[Array.getElem?_eq_none (by omega)]at hb
       cases hb
      ·omega
     refine wpS_bind (a3I C T hk hD I3 hps fun st4 I4 h4=>?_)
     dsimp only
     refine wpS_bind (wpS_modify (wpS_bind (wpS_modify (wpS_pure ⟨rfl,by show i+1≤lo+k;omega,by show lo+k≤_;omega,rest',SI.push (SI.pow (f:=fun x=>(x.1,x.2.1,power' (arrOf st).size (2*s1+n1) (2*s1+n1+n1+k) (arrOf st).size)) (fun p=>rfl) I4) hS (by omega) sS⟩))))
 ·rintro⟨c0,lo⟩ st1 ⟨e0,h1,h2,b7,I⟩
  dsimp only at e0 h1 h2 I
  have e:lo=(arrOf st).size:=by omega
  subst e
  exact⟨e0,b7,I⟩
 ·rintro⟨c0,lo⟩ st1 ⟨e0,b7,I⟩
  dsimp only at e0
  subst e0
  dsimp only
  refine wpS_bind (C5 (fun(i:Nat) (c:Option Unit×Unit) st'=>c.1=none∧SI lt st st' (arrOf st).size b7∧(pendingOf st').size+i≤(arrOf st).size+1) (fun(c:Option Unit×Unit) st'=>c.1=none∧SI lt st st' (arrOf st).size b7∧(pendingOf st').size≤1) ?_ ?_ ⟨rfl,I,by have:=I.psz;show(pendingOf st1).size+0≤_;omega⟩ ?_)
  ·rintro i ⟨d0,d1⟩ st2 hi ⟨f0,I2,h2⟩
   dsimp only at f0 h2
   refine wpS_bind (wpS_get ?_)
   by_cases z:(pendingOf st2).size≤1
   ·rw[if_pos z]
    exact wpS_pure ⟨rfl,I2,z⟩
   ·rw[if_neg z]
    have key:∀j,j+1<(pendingOf st2).size→wpS (model prog w) A E s (do
      let __do_lift ← mergeAt' j
      if(!__do_lift)=true then pure (ForInStep.done (some (),()))else pure (ForInStep.yield (none,()))) (fun(r:ForInStep (Option Unit×Unit)) st'=>match r with
       | .done c'=>c'.1=none∧SI lt st st' (arrOf st).size b7∧(pendingOf st').size≤1
       | .yield c'=>c'.1=none∧SI lt st st' (arrOf st).size b7∧(pendingOf st').size+(i+1)≤(arrOf st).size+1) st2:=fun j hj =>
     wpS_bind (a5H C T hk hD I2 hj fun st3 I3 h3=>wpS_pure ⟨rfl,I3,by show(pendingOf st3).size+(i+1)≤_;omega⟩)
    refine wpS_mono (key _ ?_) fun r st' q=>by cases r<;>exact q
    exact Nat.lt_of_le_of_lt (Nat.add_le_add_right (a4L _) 1) (by omega)
  ·rintro⟨d0,d1⟩ st2 ⟨f0,I2,h2⟩
   dsimp only at f0 h2
   exact⟨f0,I2,by show(pendingOf st2).size≤1;omega⟩
  ·rintro⟨d0,d1⟩ st2 ⟨f0,I2,h2⟩
   dsimp only at f0
   subst f0
   refine wpS_pure (h st2 I2.pm I2.f ?_)
   obtain⟨segs,e1,e2,pr⟩:=I2.run
   have sz:(arrOf st2).toList.length=(arrOf st).size:=by rw[Array.length_toList];exact I2.pm.size_eq
   have er:b7=[]:=by
    have:=congrArg List.length e1
    rw[List.length_append,sz,e2]at this
    exact List.eq_nil_of_length_eq_zero (by omega)
   have hl:=pr.len.1
   rw[Array.length_toList]at hl
   rw[e1,er,List.append_nil]
   match segs,pr,hl with
   | [],_,_=>exact List.Pairwise.nil
   | [S],pr,_ =>
    match hq:(pendingOf st2).toList,pr with
    | p::ps,pr =>
     obtain⟨_,_,_,hs,_⟩:=pr
     simpa using hs
   | _::_::_,_,hl=>simp at hl;omega
end
theorem a3J{α β:Type}(f:α→β){a:List β}{b:List β}(h:a.Perm b):∀l:List α,b=l.map f→∃m:List α,m.Perm l∧a=m.map f:=by
 induction h with
 | nil=>intro l e;exact⟨l,.refl _,e⟩
 | cons x p ih =>
  intro l e
  cases l with
  | nil=>cases e
  | cons y l =>
   rw[List.map_cons]at e
   injection e with e1 e2
   obtain⟨m,p1,q1⟩:=ih l e2
   exact⟨y::m,p1.cons y,by rw[List.map_cons,e1,q1]⟩
 | swap x y r =>
  intro l e
  match l,e with
  | a::b::l,e =>
   rw[List.map_cons,List.map_cons]at e
   injection e with e1 e2
   injection e2 with e2 e3
   exact⟨b::a::l,.swap _ _ _,by rw[List.map_cons,List.map_cons,e1,e2,e3]⟩
 | trans p q ih1 ih2 =>
  intro l e
  obtain⟨m1,p1,q1⟩:=ih2 l e
  obtain⟨m2,p2,q2⟩:=ih1 m1 q1
  exact⟨m2,p2.trans p1,q2⟩
def C6(x:Keyed):Int:=match x.1 with
 | .int n _=>n
 | _=>0
section
variable {prog:Program}{w:World}{A:Around}{E:Value→Shared→Prop}{s:Shared}
theorem a2M{D:Addr}{h1:Heap}{vs:List Value}{ks:List Int}{Q:Value→Shared→Prop}(hoL:h1.get? D=some (seqObj "list" vs.toArray 0))(hk:IntsAre vs ks)(h64:vs.length<1000)(keep:∀b o,s.heap.get? b=some o→h1.get? b=some o)(nD:∀b o,s.heap.get? b=some o→b≠D)
  (h:∀(h':Heap) (p:List Nat) (c:Nat),(∀b o,s.heap.get? b=some o→h'.get? b=some o)→h'.get? D=some (seqObj "list" (p.map fun i=>vs.getD i Value.none).toArray c)→p.Perm (List.range vs.length) →
   p.Pairwise (fun i j=>decide (ks.getD j 0<ks.getD i 0)=false)→Q (.ref D) { s with heap:=h' }) :
  wpAny (model prog w) A.in1 (holding [.ref D] (call (.builtin "list.sort") [.ref D] []) >>= fun _=>(ret (.ref D):Sem PySem.Fin)) (fun fin s'=>∃v,fin=.done (.ret v)∧Q v s') E { s with heap:=h1 }:=by
 refine wpAny_bind (wpAny_holding (wpAny_call_entry slot_list_sort ⟨_,hoL,rfl⟩ entry_list_sort ?body (args_list_sort _)))
 case body =>
  have hD:D<h1.objs.size:=Heap.lt_size hoL
  have s1:=Heap.SameBut.update h1 D (Obj.mapSeq fun _=>(#[]:Array Value))
  obtain⟨e1,ho1⟩:∃e1,(h1.update D (Obj.mapSeq fun _=>(#[]:Array Value))).get? D=some (seqObj "list" #[] e1):=⟨_,get?_update_seq hoL fun _ => #[]⟩
  have keep2:∀b o,s.heap.get? b=some o→(((h1.update D (Obj.mapSeq fun _=>(#[]:Array Value))).push (seqObj "tuple" vs.toArray 0)).push (seqObj "list" #[] 0)).get? b=some o:=fun b o q=>by
   have hb:b≠D:=nD b o q
   exact Heap.get?_push_of_some _ (Heap.get?_push_of_some _ ((s1.2 b hb).trans (keep b o q)))
  have ho6:(((h1.update D (Obj.mapSeq fun _=>(#[]:Array Value))).push (seqObj "tuple" vs.toArray 0)).push (seqObj "list" #[] 0)).get? D=some (seqObj "list" #[] e1):=Heap.get?_push_of_some _ (Heap.get?_push_of_some _ ho1)
  rw[list_sort_plain]
  refine wpAny_bind (listItems_at (s:={ s with heap:=h1 }) hoL rfl ?_)
  refine wpAny_bind (listUpdate_at (s:={ s with heap:=h1 }) hoL rfl ?_ (by rw[List.size_toArray,sizeLine_eq];omega) (Nat.zero_le _))
  refine wpAny_bind (seqEpoch_at ho1 rfl ?_)
  refine wpAny_bind (wpAny_newTuple ?_ (by show vs.length≤_;rw[sizeLine_eq];omega))
  refine wpAny_bind (wpAny_newList ?_ (Nat.zero_le _))
  refine wpAny_holding ?_
  show wpAny (model prog w) _ _ _ E { s with heap:=((h1.update D (Obj.mapSeq fun _=>(#[]:Array Value))).push (seqObj "tuple" vs.toArray 0)).push (seqObj "list" #[] 0) }
  dsimp only
  generalize ((h1.update D (Obj.mapSeq fun _=>(#[]:Array Value))).push (seqObj "tuple" vs.toArray 0)).push (seqObj "list" #[] 0)=h2 at keep2 ho6 ⊢
  have last:∀(st':SortSt) (p:List Nat),(arrOf st').map (·.2)=(p.map fun i=>vs.getD i Value.none).toArray→failedOf st'=none→p.Perm (List.range vs.length)→p.Pairwise (fun i j=>decide (ks.getD j 0<ks.getD i 0)=false) →
    wpAny (model prog w) A.in1.in1 (do
     let touched:=(← seqEpoch D) != e1
     Builtin.List.listUpdate (.ref D) fun _=>(arrOf st').map (·.2)
     if let some e:=failedOf st' then rule "list.sort.comparison-raised";throw e
     if touched then rule "list.sort.modified";raiseError "ValueError" "list modified during sort"
     ret .none:Sem PySem.Fin) (fun fin s'=>∃v,fin=.done (.ret v)∧wpAny (model prog w) A.in1 (pure (.done (.ret (.ref D))):Sem PySem.Fin) (fun fin s'=>∃v,fin=.done (.ret v)∧Q v s') E s') E { s with heap:=h2 }:=by
   intro st' p hout hf hp hs
   have hsz3:((p.map fun i=>vs.getD i Value.none).toArray).size=vs.length:=by rw[List.size_toArray,List.length_map,hp.length_eq,List.length_range]
   have s2:=Heap.SameBut.update h2 D (Obj.mapSeq fun _=>(p.map fun i=>vs.getD i Value.none).toArray)
   obtain⟨c2,hc2⟩:∃c2,(h2.update D (Obj.mapSeq fun _=>(p.map fun i=>vs.getD i Value.none).toArray)).get? D=some (seqObj "list" (p.map fun i=>vs.getD i Value.none).toArray c2):=⟨_,get?_update_seq ho6 fun _=>_⟩
   rw[hout,hf]
   refine wpAny_bind (seqEpoch_at ho6 rfl ?_)
   refine wpAny_bind (listUpdate_at (s:={ s with heap:=h2 }) ho6 rfl ?_ (Nat.zero_le _) (Nat.le_trans (Nat.le_of_eq hsz3) (by rw[sizeLine_eq];omega)))
   simp only[bne_self_eq_false,Bool.false_eq_true,if_false]
   exact wpAny_pure ⟨_,rfl,wpAny_pure ⟨_,rfl,h _ p c2 (fun b o q=>by
    have hb:b≠D:=nD b o q
    exact(s2.2 b hb).trans (keep2 b o q)) hc2 hp hs⟩⟩
  by_cases h2':vs.toArray.size<2
  ·rw[if_pos h2',if_pos h2']
   refine wpAny_bind (wpAny_pure ?_)
   rw[StateT.run_pure]
   refine wpAny_bind (wpAny_pure ?_)
   have hlen:vs.length<2:=by simpa using h2'
   refine last (SortSt.mk' general' (vs.toArray.zip vs.toArray) #[] 7 none) (List.range vs.length) ?_ rfl (List.Perm.refl _) ?_
   ·show(vs.toArray.zip vs.toArray).map (·.2)=_
    match vs,hlen with
    | [],_=>simp
    | [_],_=>simp
   ·match hn:vs.length,hlen with
    | 0,_=>exact .nil
    | 1,_=>exact List.pairwise_singleton _ _
  ·rw[if_neg h2',if_neg h2']
   have hlen:2≤vs.length:=by simp at h2';omega
   refine wpAny_bind (kas_kind (T:=.type "int") hlen (fun v hv=>by obtain⟨i,t,rfl⟩:=a07 hk v hv;exact .of_pure rfl) (by decide +kernel) (by decide +kernel) ?_)
   have hz:(vs.toArray.zip vs.toArray).toList=(List.range vs.length).map fun i=>(vs.getD i Value.none,vs.getD i Value.none):=by
    apply List.ext_getElem?
    intro i
    rw[List.getElem?_map,ksk_zip,List.toList_toArray]
    by_cases hi:i<vs.length
    ·have h2:vs[i]? = some (vs.getD i Value.none):=by rw[List.getD_eq_getElem?_getD,List.getElem?_eq_getElem hi];rfl
     rw[List.getElem?_range hi]
     exact List.getElem?_zip_eq_some.mpr ⟨h2,h2⟩
    ·rw[List.getElem?_eq_none (by simp;omega),List.getElem?_eq_none (by simp;omega)]
     rfl
   have T:TPK (fun x y=>decide (C6 x<C6 y)) (fun x=>∃n t,x.1=Value.int n t):=⟨fun x _=>by simp,fun x y z _ _ _ h1 h2=>by
    have h1:=of_decide_eq_false h1
    have h2:=of_decide_eq_false h2
    exact decide_eq_false (by omega),fun x y _ _ h=>by
    have h:=of_decide_eq_true h
    exact decide_eq_false (by omega)⟩
   have CO:l3 prog w A.in1.in1 { s with heap:=h2 } oneType' (fun x y=>decide (C6 x<C6 y)) (fun x=>∃n t,x.1=Value.int n t):=fun x y hx hy Q hQ=>by
    obtain⟨n,t,e1⟩:=hx
    obtain⟨m,u,e2⟩:=hy
    have hQ:Q (decide (C6 x<C6 y)) { s with heap:=h2 }:=hQ
    unfold C6 at hQ
    rw[e1,e2]at hQ ⊢
    exact kat_lt_int hQ
   refine wpAny_bind (wpAny_mono (a1N (E:=E) (st:=SortSt.mk' oneType' (vs.toArray.zip vs.toArray) #[] 7 none) (Q:=fun _ st'=>(arrOf st').Perm (vs.toArray.zip vs.toArray)∧failedOf st'=none∧Srt (fun x y=>decide (C6 x<C6 y)) (arrOf st').toList) CO T rfl rfl rfl (fun x hx=>?_) fun st' a1 a2 a3=>⟨a1,a2,a3⟩) ?_ fun _ _ x=>x)
   ·have hx:x∈(vs.toArray.zip vs.toArray).toList:=hx
    rw[hz]at hx
    obtain⟨i,hi,e⟩:=List.mem_map.mp hx
    obtain⟨t,e2⟩:=B0 hk (List.mem_range.mp hi)
    exact⟨_,t,by rw[← e];exact e2⟩
   ·rintro⟨⟨⟩,st'⟩ s' ⟨rfl,hP,hf,hS⟩
    have hP':=Array.perm_iff_toList_perm.mp hP
    rw[hz]at hP'
    obtain⟨p,hp,ep⟩:=a3J (fun i=>(vs.getD i Value.none,vs.getD i Value.none)) hP' (List.range vs.length) rfl
    have hlt:∀i∈p,i<vs.length:=fun i hi=>List.mem_range.mp (hp.mem_iff.mp hi)
    refine last st' p ?_ hf hp ?_
    ·apply Array.toList_inj.mp
     rw[Array.toList_map,show(arrOf st').toList=_ from ep,List.map_map]
     rfl
    ·rw[show(arrOf st').toList=_ from ep]at hS
     have hS:=List.pairwise_map.mp hS
     exact List.Pairwise.imp_of_mem (fun{a b} ha hb hab=>by
      have hab:decide (C6 (vs.getD b Value.none,vs.getD b Value.none)<C6 (vs.getD a Value.none,vs.getD a Value.none))=false:=hab
      obtain⟨t1,e1⟩:=B0 hk (hlt a ha)
      obtain⟨t2,e2⟩:=B0 hk (hlt b hb)
      unfold C6 at hab
      rw[e1,e2]at hab
      exact hab) hS
theorem a1O{a:Addr}{L:List Int}{Q:Value→Shared→Prop}(S:SetR w s.heap a L)(hh:A.handled=none)(h64:L.length<1000)
  (h:∀(s':Shared) (D:Addr) (vs:List Value) (ks:List Int) (c:Nat),(∀b o,s.heap.get? b=some o→s'.heap.get? b=some o)→s'.gens=s.gens→s'.os=s.os→s.heap.objs.size≤D→s'.heap.get? D=some (seqObj "list" vs.toArray c)→Vals (ks.map V.int) vs→vs.length<1000→ks.Pairwise (· < ·)→(∀k,k∈ks↔k∈L)→Q (.ref D) s') :
  wpAny (model prog w) A (call (.builtin "sorted") [.ref a]) Q E s:=by
 refine Calls.call_function_entry kind_sorted plain_sorted entry_sorted (args_sorted1 _) ?_
 unfold Builtin.«sorted»
 refine wpAny_bind (m:=checkCount "sorted" 1 1 _) (wpAny_pure ?_)
 refine wpAny_bind (a1G (A:=A.in1) S hh fun s1 vs ks kp hg hos hsz hi hd hL=>?_)
 have hle:vs.length<1000:=by
  have:=U0 ks L hd fun x m=>(hL x).mp m
  rw[Q1 hi]
  omega
 refine wpAny_bind (wpAny_newList ?_ (by rw[sizeLine_eq];omega))
 refine a2M (s:=s1) (h1:=s1.heap.push (seqObj "list" vs.toArray 0)) (Heap.get?_push_size _ rfl) hi hle (fun b o e=>Heap.get?_push_of_some _ e) (fun b o e=>Nat.ne_of_lt (Heap.lt_size e)) fun h' p c kp2 hD hp hs=>?_
 have hp2:p.Perm (List.range ks.length):=by rw[← Q1 hi];exact hp
 obtain⟨q1,q2⟩:=a7O hd hp2 hs
 exact h { s1 with heap:=h' } s1.heap.objs.size _ _ c (fun b o e=>kp2 b o (kp b o e)) hg hos (Nat.le_of_lt hsz) hD (W9 p hi fun i m=>List.mem_range.mp (hp.mem_iff.mp m)) (by rw[List.length_map,hp.length_eq,List.length_range];exact hle) q1 fun k=>(q2 k).trans (hL k)
end
def a2b(K:W.Frag)(ta:TA):TE:=fun σ H Q=>ta σ H fun xs H1=>∃(a:Addr) (ns:List Int),xs=[.ref a]∧SqL K H1 a (ns.map V.int)∧ns.length<1000 ∧
 ∀l (ks:List Int),H1 l=none→ks.Pairwise (· < ·)→(∀k,k∈ks↔k∈ns)→Q (.ref l) (upd H1 l (.lst (ks.map V.int)))
section
variable {X:Cx}
theorem a0s{e:Expr}{p p2 pos pos2:Pos}{ta:TA}(hcalm:X.calm=true)(hg:Gl X "sorted")(hm:X.mg "sorted" = none)(hg2:Gl X "set")(hm2:X.mg "set" = none)(ha:PA X [e] ta)
  (he:starEach [Expr.Call (.Name "set" p2) [e] [] pos2] X.env=(false,eval (.Call (.Name "set" p2) [e] [] pos2) X.env)::starEach [] X.env:=by rfl) (hplain:(backTo pos (starEach [] X.env)).any (·.1)=false:=by rfl)
  (he2:starEach [e] X.env=(false,eval e X.env)::starEach [] X.env:=by rfl) (hpl2:(backTo pos2 (starEach [] X.env)).any (·.1)=false:=by rfl) :
  PE X (.Call (.Name "sorted" p) [.Call (.Name "set" p2) [e] [] pos2] [] pos) (a2b X.K ta):=by
 intro pins s σ H Q I h
 have hh:X.A.handled=none:=I.ok.hd hcalm
 refine wpAny_Call_Name_kw (K0 I hg hm a3x ?_)
 refine PyProof.Rows.callWith_builtin1 ?_ he hplain
 rw[he]
 show wpAny _ _ (spliced ((false,eval (.Call (.Name "set" p2) [e] [] pos2) X.env)::backTo pos (starEach [] X.env))) _ _ s
 refine Calls.spliced_cons ?_
 refine wpAny_Call_Name_kw (K0 I hg2 hm2 a7P ?_)
 refine PyProof.Rows.callWith_type1 (c5 (ha pos2 pins s σ H _ I h) fun us s1 ⟨vs,H1,I1,r1,a,ns,e1,hq,h64,q⟩=>?_) he2 hpl2
 subst e1
 obtain⟨u,rfl,ru⟩:=r1.one
 cases (show u=Value.ref a from ru)
 obtain⟨its,rv,pl,hz⟩:=I1.list hq
 obtain⟨ps,rfl,ep⟩:=W6 rv
 have hi:=P9 ps
 have hln:ps.length=ns.length:=by rw[← ep];simp
 refine a2I (A:=X.A) hh pl.isList (by simpa using hi) (by simp[hln];show _<4096;omega) fun s2 SR kp hg2 hd2 ho2=>?_
 refine Calls.spliced_nil ?_
 refine a1O SR hh (by rw[ep];exact h64) fun s3 D vs ks c kp2 hg3 ho3 hD hDo rvs hlen hpw hmem=>?_
 have hsz:s1.heap.objs.size≤D:=by
  obtain⟨o,es,ep',t,ho,_⟩:=SR.ex
  exact Nat.le_trans (Nat.le_of_lt (Heap.lt_size ho)) hD
 refine⟨.ref D,upd H1 D (.lst (ks.map V.int)),I1.laidD (s':=s3) (fun b o e=>kp2 b o (kp b o e)) (hg3.trans hg2) (ho3.trans ho2) hsz ?_,rfl,q D ks (I1.hok.fresh hsz) hpw fun k=>by rw[hmem k,ep]⟩
 refine⟨?_,vs,c,rvs,hDo⟩
 rw[rvs.length,sizeLine_eq]
 omega
end
inductive D where
 | non | bl (b:Bool) | int (i:Int) | str (x:Str) | ty (n:String) | cls (n:Str) | tup (ds:List D) | lst (ds:List D) | scr (ns:List Int) | exc (c:Str) | obj (c:Str) (ns:List Str) (ds:List D)
mutual
def Rp(K:W.Frag)(cl:Str→Addr)(F:Hp):D→V→Prop
 | .non,v=>v=.non
 | .bl b,v=>v=.bl b
 | .int i,v=>v=.int i
 | .str x,v=>v=.str x
 | .ty n,v=>v=.ty n
 | .cls n,v=>v=.ref (cl n)
 | .tup ds,v=>∃a xs,v=.ref a∧F a=some (.tup xs)∧Rps K cl F ds xs
 | .lst ds,v=>∃a xs,v=.ref a∧F a=some (.lst xs)∧Rps K cl F ds xs
 | .scr ns,v=>∃a,v=.ref a∧Scr K F a (ns.map V.int)
 | .exc c,v=>∃a cx,v=.ref a∧F a=some (a2E a (.ref (cl c)) cx)
 | .obj c ns ds,v=>∃a dx xs,v=.ref a∧F a=some (.ins (cl c) dx (ns.zip xs))∧ns.length=xs.length∧Rps K cl F ds xs
def Rps(K:W.Frag)(cl:Str→Addr)(F:Hp):List D→List V→Prop
 | [],vs=>vs=[]
 | d::ds,vs=>∃v r,vs=v::r∧Rp K cl F d v∧Rps K cl F ds r
end
section
variable {K:W.Frag}{cl:Str→Addr}{F F' H H':Hp}
mutual
theorem Rp.mono(g:Same F F'):∀(d:D) (v:V),Rp K cl F d v→Rp K cl F' d v
 | .non,_,h=>by simpa only[Rp]using h
 | .bl _,_,h=>by simpa only[Rp]using h
 | .int _,_,h=>by simpa only[Rp]using h
 | .str _,_,h=>by simpa only[Rp]using h
 | .ty _,_,h=>by simpa only[Rp]using h
 | .cls _,_,h=>by simpa only[Rp]using h
 | .tup ds,v,h=>by
  simp only[Rp]at h ⊢
  obtain⟨a,xs,e,h1,h2⟩:=h
  exact⟨a,xs,e,g _ _ h1,Rps.mono g ds xs h2⟩
 | .lst ds,v,h=>by
  simp only[Rp]at h ⊢
  obtain⟨a,xs,e,h1,h2⟩:=h
  exact⟨a,xs,e,g _ _ h1,Rps.mono g ds xs h2⟩
 | .scr ns,v,h=>by
  simp only[Rp]at h ⊢
  obtain⟨a,e,h1⟩:=h
  exact⟨a,e,h1.same g⟩
 | .exc c,v,h=>by
  simp only[Rp]at h ⊢
  obtain⟨a,cx,e,h1⟩:=h
  exact⟨a,cx,e,g _ _ h1⟩
 | .obj c ns ds,v,h=>by
  simp only[Rp]at h ⊢
  obtain⟨a,dx,xs,e,h1,hl,h2⟩:=h
  exact⟨a,dx,xs,e,g _ _ h1,hl,Rps.mono g ds xs h2⟩
theorem Rps.mono(g:Same F F'):∀(ds:List D) (vs:List V),Rps K cl F ds vs→Rps K cl F' ds vs
 | [],_,h=>by simpa only[Rps]using h
 | d::ds,vs,h=>by
  simp only[Rps]at h ⊢
  obtain⟨v,r,e,h1,h2⟩:=h
  exact⟨v,r,e,Rp.mono g d v h1,Rps.mono g ds r h2⟩
end
theorem Rps.nil:Rps K cl F [] []:=by simp only[Rps]
theorem Rps.cons{d:D}{v:V}{ds:List D}{vs:List V}(h:Rp K cl F d v)(t:Rps K cl F ds vs):Rps K cl F (d::ds) (v::vs):=by simp only[Rps];exact⟨v,vs,rfl,h,t⟩
theorem Rps.inv{d:D}{ds:List D}{vs:List V}(h:Rps K cl F (d::ds) vs):∃v r,vs=v::r∧Rp K cl F d v∧Rps K cl F ds r:=by simpa only[Rps]using h
theorem Rps.inv0{vs:List V}(h:Rps K cl F [] vs):vs=[]:=by simpa only[Rps]using h
theorem Rps.length:∀{ds:List D} {vs:List V},Rps K cl F ds vs→ds.length=vs.length
 | [],vs,h=>by rw[h.inv0];rfl
 | d::ds,vs,h=>by obtain⟨v,r,rfl,_,t⟩:=h.inv;simp[t.length]
theorem Rps.get:∀{ds:List D} {vs:List V} {i:Nat} {d:D},Rps K cl F ds vs→ds[i]? = some d→∃v,vs[i]? = some v∧Rp K cl F d v
 | [],_,_,_,_,e=>by simp at e
 | d::ds,vs,0,x,h,e=>by
  obtain⟨v,r,rfl,h1,_⟩:=h.inv
  simp at e;subst e
  exact⟨v,rfl,h1⟩
 | d::ds,vs,i+1,x,h,e=>by
  obtain⟨v,r,rfl,_,t⟩:=h.inv
  obtain⟨u,h1,h2⟩:=t.get (i:=i) (d:=x) (by simpa using e)
  exact⟨u,by simpa using h1,h2⟩
theorem Rps.get'{ds:List D}{vs:List V}{i:Nat}{v:V}(h:Rps K cl F ds vs)(e:vs[i]? = some v):∃d,ds[i]? = some d∧Rp K cl F d v:=by
 have hi:i<ds.length:=by
  have:=(List.getElem?_eq_some_iff.mp e).1
  rw[h.length];exact this
 obtain⟨u,h1,h2⟩:=h.get (List.getElem?_eq_getElem hi)
 rw[e]at h1;cases h1
 exact⟨_,List.getElem?_eq_getElem hi,h2⟩
theorem Rps.append:∀{ds es:List D} {vs us:List V},Rps K cl F ds vs→Rps K cl F es us→Rps K cl F (ds++es) (vs++us)
 | [],_,_,_,h,t=>by rw[h.inv0];exact t
 | d::ds,_,_,_,h,t=>by obtain⟨v,r,rfl,h1,h2⟩:=h.inv;exact .cons h1 (h2.append t)
theorem Rps.one{d:D}{v:V}(h:Rp K cl F d v):Rps K cl F [d] [v]:=.cons h .nil
theorem Rps.set{d:D}{v:V}(r:Rp K cl F d v):∀{ds:List D} {vs:List V} (i:Nat),Rps K cl F ds vs→Rps K cl F (ds.set i d) (vs.set i v)
 | [],_,_,h=>by rw[h.inv0];exact .nil
 | _::_,_,0,h=>by obtain⟨_,_,rfl,_,h2⟩:=h.inv;exact .cons r h2
 | _::_,_,i+1,h=>by obtain⟨_,_,rfl,h1,h2⟩:=h.inv;exact .cons h1 (h2.set r i)
theorem Rps.drop:∀{ds:List D} {vs:List V} (n:Nat),Rps K cl F ds vs→Rps K cl F (ds.drop n) (vs.drop n)
 | _,_,0,h=>h
 | [],_,_+1,h=>by rw[h.inv0];exact .nil
 | _::_,_,n+1,h=>by obtain⟨_,_,rfl,_,h2⟩:=h.inv;exact h2.drop n
theorem Rps.take:∀{ds:List D} {vs:List V} (n:Nat),Rps K cl F ds vs→Rps K cl F (ds.take n) (vs.take n)
 | _,_,0,h=>.nil
 | [],_,_+1,h=>by rw[h.inv0];exact .nil
 | _::_,_,n+1,h=>by obtain⟨_,_,rfl,h1,h2⟩:=h.inv;exact .cons h1 (h2.take n)
theorem Rps.ints:∀{ns:List Int} {vs:List V},Rps K cl F (ns.map D.int) vs→vs=ns.map V.int
 | [],_,h=>h.inv0
 | n::ns,_,h=>by
  obtain⟨v,r,rfl,h1,h2⟩:=h.inv
  rw[h2.ints]
  simp only[Rp]at h1
  rw[h1];rfl
theorem Rps.ofInts:∀{ns:List Int},Rps K cl F (ns.map D.int) (ns.map V.int)
 | []=>.nil
 | _::_=>.cons (by simp only[Rp]) Rps.ofInts
theorem Rps.bls:∀{bs:List Bool} {vs:List V},Rps K cl F (bs.map D.bl) vs→vs=bs.map V.bl
 | [],_,h=>h.inv0
 | n::ns,_,h=>by
  obtain⟨v,r,rfl,h1,h2⟩:=h.inv
  rw[h2.bls]
  simp only[Rp]at h1
  rw[h1];rfl
theorem Rps.strs:∀{bs:List Str} {vs:List V},Rps K cl F (bs.map D.str) vs→vs=bs.map V.str
 | [],_,h=>h.inv0
 | n::ns,_,h=>by
  obtain⟨v,r,rfl,h1,h2⟩:=h.inv
  rw[h2.strs]
  simp only[Rp]at h1
  rw[h1];rfl
end
inductive Sl where | no | fz (d:D) | ow (ds:List D) | hd (ds:List D)
abbrev DE:=List Sl
def Mu(env:DE)(i:Nat):Prop:=∃ds:List D,env[i]? = some (.ow ds)∨env[i]? = some (.hd ds)
def Ow(σ:St)(env:DE)(a:Addr):Prop:=∃(i:Nat) (ds:List D),env[i]? = some (Sl.ow ds)∧σ[i]? = some (some (V.ref a))
structure Rel(K:W.Frag)(cl:Str→Addr)(σ:St)(H F:Hp)(env:DE):Prop where
 sub:Same F H
 len:σ.length=env.length
 fz:∀(i:Nat) (d:D),env[i]? = some (.fz d)→∃v,σ[i]? = some (some v)∧Rp K cl F d v
 mu:∀(i:Nat) (ds:List D),(env[i]? = some (.ow ds)∨env[i]? = some (.hd ds))→∃a xs,σ[i]? = some (some (.ref a))∧H a=some (.lst xs)∧F a=none∧Rps K cl F ds xs
 inj:∀(i j:Nat) (a:Addr),Mu env i→Mu env j→σ[i]? = some (some (.ref a))→σ[j]? = some (some (.ref a))→i=j
structure Frm(σ:St)(H F:Hp)(env:DE)(σ':St)(H' F':Hp)(env':DE):Prop where
 fz:Same F F'
 hid:∀a o,H a=some o→F a=none→¬Ow σ env a→H' a=some o∧F' a=none∧¬Ow σ' env' a
 keep:∀(i:Nat) (ds:List D),env[i]? = some (.hd ds)→env'[i]? = some (.hd ds)∧σ'[i]? = σ[i]?
 dom:∀a,H' a=none→H a=none
structure Gr(H F H' F':Hp):Prop where
 fz:Same F F'
 sub:Same F' H'
 hid:∀a o,H a=some o→F a=none→H' a=some o∧F' a=none
section
variable {K:W.Frag}{cl:Str→Addr}{σ σ' σ'':St}{H H' H'' F F' F'':Hp}{env env' env'':DE}
theorem Frm.refl:Frm σ H F env σ H F env:=⟨Same.refl _,fun _ _ h f o=>⟨h,f,o⟩,fun _ _ h=>⟨h,rfl⟩,fun _ h=>h⟩
theorem Frm.trans(a:Frm σ H F env σ' H' F' env')(b:Frm σ' H' F' env' σ'' H'' F'' env''):Frm σ H F env σ'' H'' F'' env'' :=
 ⟨a.fz.trans b.fz,fun x o h f w=>by obtain⟨h1,f1,w1⟩:=a.hid x o h f w;exact b.hid x o h1 f1 w1,
  fun i ds h=>by obtain⟨h1,e1⟩:=a.keep i ds h;obtain⟨h2,e2⟩:=b.keep i ds h1;exact⟨h2,e2.trans e1⟩,fun x h=>a.dom x (b.dom x h)⟩
theorem Gr.dom(g:Gr H F H' F')(a:Addr)(h:H' a=none):H a=none:=by
 cases e:H a with
 | none=>rfl
 | some o =>
  cases f:F a with
  | none=>rw[(g.hid a o e f).1]at h;cases h
  | some u=>rw[g.sub _ _ (g.fz _ _ f)]at h;cases h
theorem Rel.gr(R:Rel K cl σ H F env)(g:Gr H F H' F'):Rel K cl σ H' F' env :=
 ⟨g.sub,R.len,fun i d h=>by obtain⟨v,e,r⟩:=R.fz i d h;exact⟨v,e,r.mono g.fz⟩,
  fun i ds h=>by obtain⟨a,xs,e,hH,hF,r⟩:=R.mu i ds h;obtain⟨h1,f1⟩:=g.hid a _ hH hF;exact⟨a,xs,e,h1,f1,r.mono g.fz⟩,R.inj⟩
theorem Rel.frm(R:Rel K cl σ H F env)(g:Gr H F H' F'):Frm σ H F env σ H' F' env :=
 ⟨g.fz,fun a o h f w=>by obtain⟨h1,f1⟩:=g.hid a o h f;exact⟨h1,f1,w⟩,fun _ _ h=>⟨h,rfl⟩,g.dom⟩
theorem Gr.refl(s:Same F H):Gr H F H F:=⟨Same.refl _,s,fun _ _ h f=>⟨h,f⟩⟩
theorem Gr.trans(a:Gr H F H' F')(b:Gr H' F' H'' F''):Gr H F H'' F'':=⟨a.fz.trans b.fz,b.sub,fun x o h f=>by obtain⟨h1,f1⟩:=a.hid x o h f;exact b.hid x o h1 f1⟩
theorem Gr.new{p:Addr}{o:HO}(s:Same F H)(hp:H p=none):Gr H F (upd H p o) (upd F p o):=by
 have fp:F p=none:=s.free hp
 refine⟨F6 fp o,fun b u e=>?_,fun a u e f=>?_⟩
 ·by_cases z:b=p
  ·subst z;rw[c7]at e ⊢;exact e
  ·rw[a8 z]at e ⊢;exact s _ _ e
 ·have z:a≠p:=fun z=>by rw[z,hp]at e;cases e
  rw[a8 z,a8 z];exact⟨e,f⟩
theorem Rel.freeze{i:Nat}{ds:List D}(R:Rel K cl σ H F env)(h:env[i]? = some (.ow ds)):∃a F',σ[i]? = some (some (.ref a))∧Frm σ H F env σ H F' (env.set i (.fz (.lst ds)))∧Rel K cl σ H F' (env.set i (.fz (.lst ds)))∧Rp K cl F' (.lst ds) (.ref a):=by
 obtain⟨a,xs,e,hH,hF,r⟩:=R.mu i ds (.inl h)
 have hi:i<env.length:=(List.getElem?_eq_some_iff.mp h).1
 have sF:Same F (upd F a (.lst xs)):=F6 hF _
 have oth:∀j,j≠i→(env.set i (.fz (.lst ds)))[j]? = env[j]?:=fun j hj=>List.getElem?_set_ne (Ne.symm hj)
 have self:(env.set i (.fz (.lst ds)))[i]? = some (.fz (.lst ds)):=List.getElem?_set_self hi
 have mui:∀j,Mu (env.set i (.fz (.lst ds))) j→j≠i∧Mu env j:=fun j ⟨es,q⟩=>by
  by_cases z:j=i
  ·subst z;rw[self]at q;rcases q with q | q<;>cases q
  ·rw[oth j z]at q;exact⟨z,es,q⟩
 have rl:Rp K cl (upd F a (.lst xs)) (.lst ds) (.ref a):=by simp only[Rp];exact⟨a,xs,rfl,c7,r.mono sF⟩
 refine⟨a,upd F a (.lst xs),e,⟨sF,fun b o hb fb w=>?_,fun j es q=>?_,fun _ h=>h⟩,⟨fun b o q=>?_,by rw[List.length_set];exact R.len,fun j d q=>?_,fun j es q=>?_,fun j k b hj hk e1 e2=>R.inj j k b (mui j hj).2 (mui k hk).2 e1 e2⟩,rl⟩
 ·have z:b≠a:=fun z=>w ⟨i,ds,h,by rw[z];exact e⟩
  refine⟨hb,by rw[a8 z];exact fb,fun⟨j,es,q,e1⟩=>?_⟩
  by_cases y:j=i
  ·subst y;rw[self]at q;cases q
  ·rw[oth j y]at q;exact w ⟨j,es,q,e1⟩
 ·have z:j≠i:=fun z=>by subst z;rw[h]at q;cases q
  exact⟨by rw[oth j z];exact q,rfl⟩
 ·by_cases z:b=a
  ·subst z;rw[c7]at q;cases q;exact hH
  ·rw[a8 z]at q;exact R.sub _ _ q
 ·by_cases z:j=i
  ·subst z;rw[self]at q;cases q;exact⟨_,e,rl⟩
  ·rw[oth j z]at q;obtain⟨v,e1,r1⟩:=R.fz j d q;exact⟨v,e1,r1.mono sF⟩
 ·have z:j≠i:=(mui j ⟨es,q⟩).1
  rw[oth j z]at q
  obtain⟨b,ys,e1,h1,f1,r1⟩:=R.mu j es q
  have nb:b≠a:=fun y=>z (R.inj j i b ⟨es,q⟩ ⟨ds,.inl h⟩ e1 (by rw[y];exact e))
  exact⟨b,ys,e1,h1,by rw[a8 nb];exact f1,r1.mono sF⟩
theorem Rel.put{i:Nat}{d:D}{v:V}(R:Rel K cl σ H F env)(hi:i<env.length)(nh:∀ds,env[i]?≠some (.hd ds))(r:Rp K cl F d v):Rel K cl (σ.set i (some v)) H F (env.set i (.fz d)):=by
 refine⟨R.sub,by rw[List.length_set,List.length_set];exact R.len,fun j e q=>?_,fun j es q=>?_,fun j k b hj hk e1 e2=>?_⟩
 ·by_cases z:j=i
  ·subst z
   rw[List.getElem?_set_self hi]at q;cases q
   exact⟨v,List.getElem?_set_self (by rw[R.len];exact hi),r⟩
  ·rw[List.getElem?_set_ne (Ne.symm z)]at q
   obtain⟨u,e1,r1⟩:=R.fz j e q
   exact⟨u,by rw[List.getElem?_set_ne (Ne.symm z)];exact e1,r1⟩
 ·have z:j≠i:=fun z=>by
   subst z
   rw[List.getElem?_set_self hi]at q
   rcases q with q | q<;>cases q
  rw[List.getElem?_set_ne (Ne.symm z)]at q
  obtain⟨a,xs,e1,h1,f1,r1⟩:=R.mu j es q
  exact⟨a,xs,by rw[List.getElem?_set_ne (Ne.symm z)];exact e1,h1,f1,r1⟩
 ·have nz:∀j,Mu (env.set i (.fz d)) j→j≠i∧Mu env j:=fun j ⟨es,q⟩=>by
   by_cases z:j=i
   ·subst z
    rw[List.getElem?_set_self hi]at q
    rcases q with q | q<;>cases q
   ·rw[List.getElem?_set_ne (Ne.symm z)]at q;exact⟨z,es,q⟩
  obtain⟨zj,mj⟩:=nz j hj
  obtain⟨zk,mk⟩:=nz k hk
  rw[List.getElem?_set_ne (Ne.symm zj)]at e1
  rw[List.getElem?_set_ne (Ne.symm zk)]at e2
  exact R.inj j k b mj mk e1 e2
theorem Rel.putO{i:Nat}{ds:List D}{a:Addr}{xs:List V}(R:Rel K cl σ H F env)(hi:i<env.length)(hH:H a=some (.lst xs))(hF:F a=none)(na:∀j,Mu env j→σ[j]?≠some (some (.ref a)))(r:Rps K cl F ds xs):Rel K cl (σ.set i (some (.ref a))) H F (env.set i (.ow ds)):=by
 have his:i<σ.length:=by rw[R.len];exact hi
 have nz:∀j,j≠i→Mu (env.set i (.ow ds)) j→Mu env j:=fun j z ⟨es,q⟩=>by
  rw[List.getElem?_set_ne (Ne.symm z)]at q;exact⟨es,q⟩
 refine⟨R.sub,by rw[List.length_set,List.length_set];exact R.len,fun j e q=>?_,fun j es q=>?_,fun j k b hj hk e1 e2=>?_⟩
 ·have z:j≠i:=fun z=>by subst z;rw[List.getElem?_set_self hi]at q;cases q
  rw[List.getElem?_set_ne (Ne.symm z)]at q
  obtain⟨u,e1,r1⟩:=R.fz j e q
  exact⟨u,by rw[List.getElem?_set_ne (Ne.symm z)];exact e1,r1⟩
 ·by_cases z:j=i
  ·subst z
   rw[List.getElem?_set_self hi]at q
   rcases q with q | q
   ·cases q;exact⟨a,xs,List.getElem?_set_self his,hH,hF,r⟩
   ·cases q
  ·rw[List.getElem?_set_ne (Ne.symm z)]at q
   obtain⟨b,ys,e1,h1,f1,r1⟩:=R.mu j es q
   exact⟨b,ys,by rw[List.getElem?_set_ne (Ne.symm z)];exact e1,h1,f1,r1⟩
 ·by_cases zj:j=i
  ·by_cases zk:k=i
   ·rw[zj,zk]
   ·subst zj
    rw[List.getElem?_set_self his]at e1
    rw[List.getElem?_set_ne (Ne.symm zk)]at e2
    cases e1
    exact absurd e2 (na k (nz k zk hk))
  ·rw[List.getElem?_set_ne (Ne.symm zj)]at e1
   by_cases zk:k=i
   ·subst zk
    rw[List.getElem?_set_self his]at e2
    cases e2
    exact absurd e1 (na j (nz j zj hj))
   ·rw[List.getElem?_set_ne (Ne.symm zk)]at e2
    exact R.inj j k b (nz j zj hj) (nz k zk hk) e1 e2
theorem Frm.put{i:Nat}{d:D}{x:Option V}(nh:∀ds,env[i]?≠some (.hd ds)):Frm σ H F env (σ.set i x) H F (env.set i (.fz d)):=by
 refine⟨Same.refl _,fun a o h f w=>⟨h,f,fun⟨j,ds,q,e⟩=>?_⟩,fun j ds q=>?_,fun _ h=>h⟩
 ·by_cases z:j=i
  ·subst z
   have hj:j<env.length:=by have:=(List.getElem?_eq_some_iff.mp q).1;rwa [List.length_set]at this
   rw[List.getElem?_set_self hj]at q
   cases q
  ·rw[List.getElem?_set_ne (Ne.symm z)]at q e
   exact w ⟨j,ds,q,e⟩
 ·have z:j≠i:=fun z=>by subst z;exact nh ds q
  rw[List.getElem?_set_ne (Ne.symm z),List.getElem?_set_ne (Ne.symm z)]
  exact⟨q,rfl⟩
theorem Frm.putO{i:Nat}{es:List D}{a:Addr}(f:Frm σ H F env σ' H' F' env')(ha:H a=none)(nh:∀ds,env'[i]?≠some (.hd ds)):Frm σ H F env (σ'.set i (some (.ref a))) H' F' (env'.set i (.ow es)):=by
 refine⟨f.fz,fun b o h g w=>?_,fun j ds q=>?_,f.dom⟩
 ·obtain⟨h1,f1,w1⟩:=f.hid b o h g w
  refine⟨h1,f1,fun⟨j,ds,q,e⟩=>?_⟩
  by_cases z:j=i
  ·subst z
   have hj:j<σ'.length:=by have:=(List.getElem?_eq_some_iff.mp e).1;rwa [List.length_set]at this
   rw[List.getElem?_set_self hj]at e
   cases e
   rw[ha]at h;cases h
  ·rw[List.getElem?_set_ne (Ne.symm z)]at q e
   exact w1 ⟨j,ds,q,e⟩
 ·obtain⟨q1,e1⟩:=f.keep j ds q
  have z:j≠i:=fun z=>by subst z;exact nh ds q1
  rw[List.getElem?_set_ne (Ne.symm z),List.getElem?_set_ne (Ne.symm z)]
  exact⟨q1,e1⟩
end
inductive R(α:Type) where | ok (a:α) (e:DE) | ex (c:Str)
inductive RS where | nx (e:DE) | rt (d:D) | ro (ds:List D) | rz (dss:List (List D)) | bk (e:DE) | ct (e:DE) | ex (c:Str)
def bnd{α β:Type}(x:Option (R α))(k:α→DE→Option (R β)):Option (R β):=match x with
 | none=>none
 | some (.ok a e)=>k a e
 | some (.ex c)=>some (.ex c)
def z0{α:Type}(x:Option (R α))(k:α→DE→Option RS):Option RS:=match x with
 | none=>none
 | some (.ok a e)=>k a e
 | some (.ex c)=>some (.ex c)
def J2{α:Type}(x:Option α)(e:DE):Option (R α):=match x with
 | none=>none
 | some a=>some (.ok a e)
@[simp] theorem K4{α β:Type}(a:α)(e:DE)(k:α→DE→Option (R β)):bnd (some (.ok a e)) k=k a e:=rfl
@[simp] theorem a73{α β:Type}(c:Str)(k:α→DE→Option (R β)):bnd (some (.ex c)) k=some (.ex c):=rfl
@[simp] theorem a74{α β:Type}(k:α→DE→Option (R β)):bnd (none:Option (R α)) k=none:=rfl
@[simp] theorem a1b{α:Type}(a:α)(e:DE)(k:α→DE→Option RS):z0 (some (.ok a e)) k=k a e:=rfl
@[simp] theorem a75{α:Type}(c:Str)(k:α→DE→Option RS):z0 (some (.ex c)) k=some (.ex c):=rfl
@[simp] theorem a76{α:Type}(k:α→DE→Option RS):z0 (none:Option (R α)) k=none:=rfl
@[simp] theorem M3{α:Type}(a:α)(e:DE):J2 (some a) e=some (.ok a e):=rfl
@[simp] theorem M4{α:Type}(e:DE):J2 (none:Option α) e=none:=rfl
structure FX(σ:St)(H F:Hp)(env:DE)(H' F':Hp):Prop where
 fz:Same F F'
 sub:Same F' H'
 hid:∀a o,H a=some o→F a=none→¬Ow σ env a→H' a=some o∧F' a=none
 dom:∀a,H' a=none→H a=none
section
variable {K:W.Frag}{cl:Str→Addr}{E:XK}{σ σ':St}{H H' H1 F F' F1:Hp}{env env' env1:DE}{α β γ δ:Type}
theorem Frm.fx{H2 F2:Hp}(a:Frm σ H F env σ' H1 F1 env1)(b:FX σ' H1 F1 env1 H2 F2):FX σ H F env H2 F2 :=
 ⟨a.fz.trans b.fz,b.sub,fun x o h f w=>by obtain⟨h1,f1,w1⟩:=a.hid x o h f w;exact b.hid x o h1 f1 w1,fun x h=>a.dom x (b.dom x h)⟩
theorem Frm.toFX(a:Frm σ H F env σ' H1 F1 env1)(s:Same F1 H1):FX σ H F env H1 F1:=⟨a.fz,s,fun x o h f w=>by obtain⟨h1,f1,_⟩:=a.hid x o h f w;exact⟨h1,f1⟩,a.dom⟩
abbrev Py(α β:Type):=α→St→Hp→Hp→Hp→DE→β→Prop
def PM(P:Py α β):Prop:=∀a σ H0 H1 H' F' e b,(∀x:Addr,H1 x=none→H0 x=none)→P a σ H1 H' F' e b→P a σ H0 H' F' e b
def Ct(K:W.Frag)(cl:Str→Addr)(E:XK)(P:Py α β)(r:Option (R α))(σ:St)(H F:Hp)(env:DE)(Q:β→Hp→Prop):Prop:=match r with
 | none=>False
 | some (.ok a e)=>∀b H' F',Frm σ H F env σ H' F' e→Rel K cl σ H' F' e→P a σ H H' F' e b→Q b H'
 | some (.ex c)=>∀H' F',FX σ H F env H' F'→E (.ref (cl c)) none H'
def Rz(K:W.Frag)(cl:Str→Addr)(F' H':Hp)(nw:Addr→Prop)(dss:List (List D))(as:List Addr):Prop:=as.Nodup∧as.length=dss.length∧∀(k:Nat) (a:Addr) (ds:List D),as[k]? = some a→dss[k]? = some ds→∃xs,H' a=some (.lst xs)∧F' a=none∧nw a∧Rps K cl F' ds xs
theorem Rz.imp{nw nw':Addr→Prop}{dss:List (List D)}{as:List Addr}(h:Rz K cl F' H' nw dss as)(i:∀a xs,H' a=some (.lst xs)→F' a=none→nw a→nw' a):Rz K cl F' H' nw' dss as :=
 ⟨h.1,h.2.1,fun k a ds e1 e2=>by obtain⟨xs,h1,h2,h3,h4⟩:=h.2.2 k a ds e1 e2;exact⟨xs,h1,h2,i a xs h1 h2 h3,h4⟩⟩
def Cs(K:W.Frag)(cl:Str→Addr)(E:XK)(r:Option RS)(σ:St)(H F:Hp)(env:DE)(N:Ends):Prop:=match r with
 | none=>False
 | some (.nx e)=>∀σ' H' F',Frm σ H F env σ' H' F' e→Rel K cl σ' H' F' e→N.nx σ' H'
 | some (.bk e)=>∀σ' H' F',Frm σ H F env σ' H' F' e→Rel K cl σ' H' F' e→N.bk σ' H'
 | some (.ct e)=>∀σ' H' F',Frm σ H F env σ' H' F' e→Rel K cl σ' H' F' e→N.ct σ' H'
 | some (.rt d)=>∀v H' F',FX σ H F env H' F'→Rp K cl F' d v→N.rt v H'
 | some (.ro ds)=>∀a xs H' F',FX σ H F env H' F'→H' a=some (.lst xs)→F' a=none→(∀o,H a=some o→Ow σ env a)→Rps K cl F' ds xs→N.rt (.ref a) H'
 | some (.rz dss)=>∀p as H' F',FX σ H F env H' F'→H p=none→H' p=some (.tup (as.map V.ref))→F' p=none→Rz K cl F' H' (fun a=>∀o,H a=some o→Ow σ env a) dss as→N.rt (.ref p) H'
 | some (.ex c)=>∀H' F',FX σ H F env H' F'→E (.ref (cl c)) none H'
theorem Ct.mono{P:Py α β}{r:Option (R α)}{Q Q':β→Hp→Prop}(h:Ct K cl E P r σ H F env Q)(q:∀b H',Q b H'→Q' b H'):Ct K cl E P r σ H F env Q':=by
 unfold Ct at h ⊢
 split at h
 ·exact h
 ·exact fun b H' F' f R p=>q _ _ (h b H' F' f R p)
 ·exact h
theorem Ct.from{P2:Py γ δ}{r:Option (R γ)}{Q:δ→Hp→Prop}(f:Frm σ H F env σ H1 F1 env1)(pm:PM P2)(h:Ct K cl E P2 r σ H F env Q):Ct K cl E P2 r σ H1 F1 env1 Q:=by
 unfold Ct at h ⊢
 split at h
 ·exact h
 ·exact fun b H' F' f2 R2 p2=>h b H' F' (f.trans f2) R2 (pm _ _ _ _ _ _ _ _ f.dom p2)
 ·exact fun H' F' x=>h H' F' (f.fx x)
theorem Ct.bnd{P1:Py α β}{P2:Py γ δ}{r:Option (R α)}{k:α→DE→Option (R γ)}{Q:δ→Hp→Prop}(h:Ct K cl E P2 (bnd r k) σ H F env Q)(pm:PM P2) :
  Ct K cl E P1 r σ H F env fun b H1=>∃F1 env1 a,Same F F1∧Rel K cl σ H1 F1 env1∧P1 a σ H H1 F1 env1 b∧Ct K cl E P2 (k a env1) σ H1 F1 env1 Q:=by
 unfold Ct
 rcases r with _ | ⟨a,e⟩ | c
 ·exact h
 ·intro b H1 F1 f R p
  refine⟨F1,e,a,f.fz,R,p,?_⟩
  have h:Ct K cl E P2 (k a e) σ H F env Q:=h
  exact Ct.from f pm h
 ·exact h
theorem Cs.from{r:Option RS}{N:Ends}(f:Frm σ H F env σ' H1 F1 env1)(h:Cs K cl E r σ H F env N):Cs K cl E r σ' H1 F1 env1 N:=by
 unfold Cs at h ⊢
 split at h
 ·exact h
 ·exact fun σ' H' F' f2 R2=>h σ' H' F' (f.trans f2) R2
 ·exact fun σ' H' F' f2 R2=>h σ' H' F' (f.trans f2) R2
 ·exact fun σ' H' F' f2 R2=>h σ' H' F' (f.trans f2) R2
 ·exact fun v H' F' x p=>h v H' F' (f.fx x) p
 ·refine fun a xs H' F' x ha fa nw p=>h a xs H' F' (f.fx x) ha fa (fun o e=>?_) p
  refine Classical.byContradiction fun w=>?_
  cases q:F a with
  | none =>
   obtain⟨h1,f1,w1⟩:=f.hid a o e q w
   exact w1 (nw o h1)
  | some u=>rw[x.fz _ _ (f.fz _ _ q)]at fa;cases fa
 ·refine fun p as H' F' x hp ht fp rz=>h p as H' F' (f.fx x) (f.dom p hp) ht fp (rz.imp fun a xs ha fa nw o e=>?_)
  refine Classical.byContradiction fun w=>?_
  cases q:F a with
  | none =>
   obtain⟨h1,f1,w1⟩:=f.hid a o e q w
   exact w1 (nw o h1)
  | some u=>rw[x.fz _ _ (f.fz _ _ q)]at fa;cases fa
 ·exact fun H' F' x=>h H' F' (f.fx x)
theorem Cs.bnd{P1:Py α β}{r:Option (R α)}{k:α→DE→Option RS}{N:Ends}(h:Cs K cl E (z0 r k) σ H F env N) :
  Ct K cl E P1 r σ H F env fun b H1=>∃F1 env1 a,Frm σ H F env σ H1 F1 env1∧Rel K cl σ H1 F1 env1∧P1 a σ H H1 F1 env1 b∧Cs K cl E (k a env1) σ H F env N:=by
 unfold Ct
 rcases r with _ | ⟨a,e⟩ | c
 ·exact h
 ·intro b H1 F1 f R p
  exact⟨F1,e,a,f,R,p,h⟩
 ·exact h
end
def PZ(K:W.Frag)(cl:Str→Addr):Py D V:=fun d _ _ _ F' _ v=>Rp K cl F' d v
def PAs(K:W.Frag)(cl:Str→Addr):Py (List D) (List V):=fun ds _ _ _ F' _ vs=>Rps K cl F' ds vs
def PB:Py Bool Bool:=fun b _ _ _ _ _ c=>c=b
def PI':Py (Option Int) (Option Int):=fun b _ _ _ _ _ c=>c=b
def PN(K:W.Frag)(cl:Str→Addr):Py (List D) V:=fun ds σ H H' F' e v=>∃a xs,v=.ref a∧H a=none∧H' a=some (.lst xs)∧F' a=none∧(∀j,Mu e j→σ[j]?≠some (some (.ref a)))∧Rps K cl F' ds xs
theorem C7{K cl}:PM (PZ K cl):=fun _ _ _ _ _ _ _ _ _ h=>h
theorem a77{K cl}:PM (PAs K cl):=fun _ _ _ _ _ _ _ _ _ h=>h
theorem a2N:PM PB:=fun _ _ _ _ _ _ _ _ _ h=>h
theorem a9x:PM PI':=fun _ _ _ _ _ _ _ _ _ h=>h
theorem a1c{K cl}:PM (PN K cl):=fun _ _ _ _ _ _ _ _ g ⟨a,xs,e,h,r⟩=>⟨a,xs,e,g a h,r⟩
abbrev ZF:=DE→Option (R D)
abbrev NF:=DE→Option (R (List D))
abbrev AF:=DE→Option (R (List D))
abbrev BF:=DE→Option (R Bool)
abbrev OF:=DE→Option (R (Option Int))
abbrev SF:=DE→Option RS
section
variable (K:W.Frag)(cl:Str→Addr)(E:XK)
def i7(t:TE)(f:ZF):Prop:=∀σ H Q env F,Rel K cl σ H F env→Ct K cl E (PZ K cl) (f env) σ H F env Q→t σ H Q
def K5(t:TE)(f:NF):Prop:=∀σ H Q env F,Rel K cl σ H F env→Ct K cl E (PN K cl) (f env) σ H F env Q→t σ H Q
def K6(t:TA)(f:AF):Prop:=∀σ H Q env F,Rel K cl σ H F env→Ct K cl E (PAs K cl) (f env) σ H F env Q→t σ H Q
def D3(t:TT)(f:BF):Prop:=∀σ H Q env F,Rel K cl σ H F env→Ct K cl E PB (f env) σ H F env Q→t σ H Q
def RfO(t:TO)(f:OF):Prop:=∀σ H Q env F,Rel K cl σ H F env→Ct K cl E PI' (f env) σ H F env Q→t σ H Q
def RfS(t:TS)(f:SF):Prop:=∀(N:Ends) σ H env F,Rel K cl σ H F env→Cs K cl E (f env) σ H F env N→t N σ H
end
def eC(d:D):ZF:=fun e=>some (.ok d e)
def eV(i:Nat):ZF:=fun e=>match e[i]? with
 | some (.fz d)=>some (.ok d e)
 | some (.ow ds)=>some (.ok (.lst ds) (e.set i (.fz (.lst ds))))
 | _=>none
def look(e:DE)(i:Nat):Option D:=match e[i]? with
 | some (.fz d)=>some d
 | some (.ow ds)=>some (.lst ds)
 | some (.hd ds)=>some (.lst ds)
 | _=>none
def Rb(K:W.Frag)(cl:Str→Addr)(F H:Hp)(d:D)(v:V):Prop:=Rp K cl F d v∨∃a xs ds,v=.ref a∧d=.lst ds∧H a=some (.lst xs)∧Rps K cl F ds xs
section
variable {K:W.Frag}{cl:Str→Addr}{E:XK}{σ:St}{H F:Hp}{env:DE}
theorem Rel.look{i:Nat}{d:D}(R:Rel K cl σ H F env)(h:look env i=some d):∃v,σ[i]? = some (some v)∧Rb K cl F H d v:=by
 unfold L2.look at h
 split at h
 ·rename_i q;cases h;obtain⟨v,e,r⟩:=R.fz i d q;exact⟨v,e,.inl r⟩
 ·rename_i ds q;cases h;obtain⟨a,xs,e,hH,_,r⟩:=R.mu i ds (.inl q);exact⟨_,e,.inr ⟨a,xs,ds,rfl,rfl,hH,r⟩⟩
 ·rename_i ds q;cases h;obtain⟨a,xs,e,hH,_,r⟩:=R.mu i ds (.inr q);exact⟨_,e,.inr ⟨a,xs,ds,rfl,rfl,hH,r⟩⟩
 ·cases h
theorem d6{v:V}{d:D}(h:∀F,Rp K cl F d v:=by intro F;simp only[Rp]):i7 K cl E (tC v) (eC d):=fun σ H Q env F R h'=>h' v H F Frm.refl R (h F)
theorem c8{i:Nat}:i7 K cl E (u7 i) (eV i):=by
 intro σ H Q env F R h
 unfold eV at h
 split at h
 ·rename_i d q
  obtain⟨v,e,r⟩:=R.fz i d q
  exact⟨v,e,h v H F Frm.refl R r⟩
 ·rename_i ds q
  obtain⟨a,F',e,fr,R',r⟩:=R.freeze q
  exact⟨_,e,h _ H F' fr R' r⟩
 ·exact h.elim
end
def OpOk(K:W.Frag)(cl:Str→Addr)(r:R2)(g:D→D→Option D):Prop:=∀x y d e z H F Q,Same F H→Rb K cl F H d x→Rb K cl F H e y→g d e=some z→(∀v H' F',Gr H F H' F'→Rp K cl F' z v→Q v H')→r x y H Q
def eB(g:D→D→Option D)(f k:ZF):ZF:=fun e=>bnd (f e) fun d e1=>bnd (k e1) fun d' e2=>J2 (g d d') e2
def O4(g:D→D→Option D)(i:Nat)(k:ZF):ZF:=fun e=>match look e i with
 | none=>none
 | some _=>bnd (k e) fun d' e2=>match look e2 i with
  | some d=>J2 (g d d') e2
  | none=>none
def eBW(g:D→D→Option D)(f:ZF)(j:Nat):ZF:=fun e=>bnd (f e) fun d e2=>match look e2 j with
 | some d'=>J2 (g d d') e2
 | none=>none
def U6(g:D→D→Option D)(i j:Nat):ZF:=fun e=>match look e i,look e j with
 | some d,some d'=>J2 (g d d') e
 | _,_=>none
section
variable {K:W.Frag}{cl:Str→Addr}{E:XK}{r:R2}{g:D→D→Option D}{ta tb:TE}{f k:ZF}{i j:Nat}
theorem OpOk.fin{σ:St}{H F:Hp}{env:DE}{x y:V}{d e:D}{Q:VK}(ok:OpOk K cl r g)(R:Rel K cl σ H F env)(hx:Rb K cl F H d x)(hy:Rb K cl F H e y)(h:Ct K cl E (PZ K cl) (J2 (g d e) env) σ H F env Q):r x y H Q:=by
 cases hz:g d e with
 | none=>rw[hz]at h;exact h.elim
 | some z =>
  rw[hz]at h
  exact ok x y d e z H F Q R.sub hx hy hz fun v H' F' gr p=>h v H' F' (R.frm gr) (R.gr gr) p
theorem d9(ok:OpOk K cl r g)(ha:i7 K cl E ta f)(hb:i7 K cl E tb k):i7 K cl E (tOp r ta tb) (eB g f k):=by
 intro σ H Q env F R h
 refine ha σ H _ env F R ((Ct.bnd h C7).mono fun x H1 ⟨F1,e1,d,s1,R1,p1,h1⟩=>?_)
 refine hb σ H1 _ e1 F1 R1 ((Ct.bnd h1 C7).mono fun y H2 ⟨F2,e2,e,s2,R2,p2,h2⟩=>?_)
 exact ok.fin R2 (.inl (Rp.mono s2 _ _ p1)) (.inl p2) h2
theorem X2(ok:OpOk K cl r g)(hb:i7 K cl E tb k):i7 K cl E (tOp r (u7 i) tb) (O4 g i k):=by
 intro σ H Q env F R h
 unfold O4 at h
 cases q:look env i with
 | none=>rw[q]at h;exact h.elim
 | some d0 =>
  rw[q]at h
  obtain⟨x,e0,_⟩:=R.look q
  refine⟨x,e0,hb σ H _ env F R ((Ct.bnd h C7).mono fun y H2 ⟨F2,e2,e,s2,R2,p2,h2⟩=>?_)⟩
  cases q2:look e2 i with
  | none=>rw[q2]at h2;exact h2.elim
  | some d =>
   rw[q2]at h2
   obtain⟨x',e',rb⟩:=R2.look q2
   rw[e0]at e';cases e'
   exact ok.fin R2 rb (.inl p2) h2
theorem a78(ok:OpOk K cl r g)(ha:i7 K cl E ta f):i7 K cl E (tOp r ta (u7 j)) (eBW g f j):=by
 intro σ H Q env F R h
 refine ha σ H _ env F R ((Ct.bnd h C7).mono fun x H1 ⟨F1,e1,d,s1,R1,p1,h1⟩=>?_)
 cases q:look e1 j with
 | none=>rw[q]at h1;exact h1.elim
 | some d' =>
  rw[q]at h1
  obtain⟨y,e,rb⟩:=R1.look q
  exact⟨y,e,ok.fin R1 (.inl p1) rb h1⟩
theorem a2c(ok:OpOk K cl r g):i7 K cl E (tOp r (u7 i) (u7 j)) (U6 g i j):=by
 intro σ H Q env F R h
 unfold U6 at h
 cases q:look env i with
 | none=>rw[q]at h;exact h.elim
 | some d =>
  cases q2:look env j with
  | none=>rw[q,q2]at h;exact h.elim
  | some d' =>
   rw[q,q2]at h
   obtain⟨x,e,rb⟩:=R.look q
   obtain⟨y,e',rb'⟩:=R.look q2
   exact⟨x,e,y,e',ok.fin R rb rb' h⟩
end
section
variable {K:W.Frag}{cl:Str→Addr}{E:XK}
theorem Rb.int{F H:Hp}{i:Int}{v:V}(h:Rb K cl F H (.int i) v):v=.int i:=by
 rcases h with h | ⟨_,_,_,_,z,_⟩
 ·simpa only[Rp]using h
 ·cases z
theorem Rb.bl{F H:Hp}{i:Bool}{v:V}(h:Rb K cl F H (.bl i) v):v=.bl i:=by
 rcases h with h | ⟨_,_,_,_,z,_⟩
 ·simpa only[Rp]using h
 ·cases z
theorem Rb.str{F H:Hp}{i:Str}{v:V}(h:Rb K cl F H (.str i) v):v=.str i:=by
 rcases h with h | ⟨_,_,_,_,z,_⟩
 ·simpa only[Rp]using h
 ·cases z
theorem Rb.non{F H:Hp}{v:V}(h:Rb K cl F H .non v):v=.non:=by
 rcases h with h | ⟨_,_,_,_,z,_⟩
 ·simpa only[Rp]using h
 ·cases z
theorem Rb.lst{F H:Hp}{ds:List D}{v:V}(s:Same F H)(h:Rb K cl F H (.lst ds) v):∃a xs,v=.ref a∧H a=some (.lst xs)∧Rps K cl F ds xs:=by
 rcases h with h | ⟨a,xs,ds',e,z,h,r⟩
 ·simp only[Rp]at h
  obtain⟨a,xs,e,h,r⟩:=h
  exact⟨a,xs,e,s _ _ h,r⟩
 ·cases z;exact⟨a,xs,e,h,r⟩
theorem Rb.tup{F H:Hp}{ds:List D}{v:V}(s:Same F H)(h:Rb K cl F H (.tup ds) v):∃a xs,v=.ref a∧H a=some (.tup xs)∧Rps K cl F ds xs:=by
 rcases h with h | ⟨_,_,_,_,z,_⟩
 ·simp only[Rp]at h
  obtain⟨a,xs,e,h,r⟩:=h
  exact⟨a,xs,e,s _ _ h,r⟩
 ·cases z
theorem Rb.scr{F H:Hp}{ns:List Int}{v:V}(s:Same F H)(h:Rb K cl F H (.scr ns) v):∃a,v=.ref a∧Scr K H a (ns.map V.int):=by
 rcases h with h | ⟨_,_,_,_,z,_⟩
 ·simp only[Rp]at h
  obtain⟨a,e,h⟩:=h
  exact⟨a,e,h.same s⟩
 ·cases z
def gI(C:Int→Int→Prop) [∀i j,Decidable (C i j)] (g:Int→Int→D):D→D→Option D
 | .int i,.int j=>if C i j then some (g i j)else none
 | _,_=>none
def gI0(g:Int→Int→D):D→D→Option D
 | .int i,.int j=>some (g i j)
 | _,_=>none
theorem a2O{C:Int→Int→Prop} [∀i j,Decidable (C i j)] {g:Int→Int→V} {g':Int→Int→D} (hg:∀F i j,Rp K cl F (g' i j) (g i j)):OpOk K cl (rI C g) (gI C g'):=by
 intro x y d e z H F Q s hx hy h q
 unfold gI at h
 split at h
 ·rename_i i j
  split at h
  ·rename_i c;cases h
   exact⟨i,j,hx.int,hy.int,c,q _ H F (.refl s) (hg F i j)⟩
  ·cases h
 ·cases h
theorem a2P{g:Int→Int→V}{g':Int→Int→D}(hg:∀F i j,Rp K cl F (g' i j) (g i j)):OpOk K cl (V8 g) (gI0 g'):=by
 intro x y d e z H F Q s hx hy h q
 unfold gI0 at h
 split at h
 ·rename_i i j
  cases h
  exact⟨i,j,hx.int,hy.int,q _ H F (.refl s) (hg F i j)⟩
 ·cases h
end
section
variable {K:W.Frag}{cl:Str→Addr}{E:XK}{σ:St}{H F:Hp}{env:DE}
theorem Rel.newN{p:Addr}{o:HO}(R:Rel K cl σ H F env)(hp:H p=none):Rel K cl σ (upd H p o) F env∧Frm σ H F env σ (upd H p o) F env:=by
 have fp:F p=none:=R.sub.free hp
 have ne:∀a u,H a=some u→a≠p:=fun a u h z=>by rw[z,hp]at h;cases h
 refine⟨⟨R.sub.trans (F6 hp _),R.len,R.fz,fun i ds h=>?_,R.inj⟩,⟨Same.refl _,fun a u h f w=>?_,fun _ _ h=>⟨h,rfl⟩,fun a h=>?_⟩⟩
 ·obtain⟨a,xs,e,hH,hF,r⟩:=R.mu i ds h
  exact⟨a,xs,e,by rw[a8 (ne _ _ hH)];exact hH,hF,r⟩
 ·exact⟨by rw[a8 (ne _ _ h)];exact h,f,w⟩
 ·by_cases z:a=p
  ·rw[z];exact hp
  ·rw[a8 z]at h;exact h
theorem Ct.newN{p:Addr}{xs:List V}{ds:List D}{Q:VK}(R:Rel K cl σ H F env)(hp:H p=none)(r:Rps K cl F ds xs)(h:Ct K cl E (PN K cl) (some (.ok ds env)) σ H F env Q):Q (.ref p) (upd H p (.lst xs)):=by
 obtain⟨R',f⟩:=R.newN (o:=.lst xs) hp
 refine h _ _ F f R' ⟨p,xs,rfl,hp,c7,R.sub.free hp,fun j mj e=>?_,r⟩
 obtain⟨ds',q⟩:=mj
 obtain⟨a,ys,e1,hH,_⟩:=R.mu j ds' q
 rw[e]at e1;cases e1
 rw[hp]at hH;cases hH
def zN(f:NF):ZF:=fun e=>bnd (f e) fun ds e1=>some (.ok (.lst ds) e1)
theorem a5K{t:TE}{f:NF}(h:K5 K cl E t f):i7 K cl E t (zN f):=by
 intro σ H Q env F R q
 refine h σ H Q env F R ?_
 unfold zN at q
 rcases hf:f env with _ | ⟨ds,e1⟩ | c
 ·rw[hf]at q;exact q
 ·rw[hf]at q
  rintro b H' F' fr R' ⟨a,xs,rfl,hn,hH,hF,nm,r⟩
  have sF:Same F' (upd F' a (.lst xs)):=F6 hF _
  refine q _ H' (upd F' a (.lst xs)) ⟨fr.fz.trans sF,fun b o hb fb w=>?_,fr.keep,fr.dom⟩ ⟨fun b o z=>?_,R'.len,fun i d z=>?_,fun i es z=>?_,R'.inj⟩ (by show Rp K cl _ (.lst ds) _;simp only[Rp];exact⟨a,xs,rfl,c7,r.mono sF⟩)
  ·obtain⟨h1,f1,w1⟩:=fr.hid b o hb fb w
   have nb:b≠a:=fun z=>by rw[z,hn]at hb;cases hb
   exact⟨h1,by rw[a8 nb];exact f1,w1⟩
  ·by_cases y:b=a
   ·subst y;rw[c7]at z;cases z;exact hH
   ·rw[a8 y]at z;exact R'.sub _ _ z
  ·obtain⟨v,e,r1⟩:=R'.fz i d z
   exact⟨v,e,r1.mono sF⟩
  ·obtain⟨b,ys,e,h1,f1,r1⟩:=R'.mu i es z
   have nb:b≠a:=fun y=>nm i ⟨es,z⟩ (by rw[e,y])
   exact⟨b,ys,e,h1,by rw[a8 nb];exact f1,r1.mono sF⟩
 ·rw[hf]at q;exact q
def aN:AF:=fun e=>some (.ok [] e)
def aC(f:ZF)(k:AF):AF:=fun e=>bnd (f e) fun d e1=>bnd (k e1) fun ds e2=>some (.ok (d::ds) e2)
theorem h9:K6 K cl E T5 aN:=fun σ H Q env F R h=>h [] H F Frm.refl R .nil
theorem c3{te:TE}{ta:TA}{f:ZF}{k:AF}(hf:i7 K cl E te f)(hk:K6 K cl E ta k):K6 K cl E (G8 te ta) (aC f k):=by
 intro σ H Q env F R h
 refine hf σ H _ env F R ((Ct.bnd h a77).mono fun x H1 ⟨F1,e1,d,s1,R1,p1,h1⟩=>?_)
 refine hk σ H1 _ e1 F1 R1 ((Ct.bnd h1 a77).mono fun xs H2 ⟨F2,e2,ds,s2,R2,p2,h2⟩=>?_)
 exact h2 (x::xs) H2 F2 Frm.refl R2 (.cons (Rp.mono s2 _ _ p1) p2)
def eT(f:AF):ZF:=fun e=>bnd (f e) fun ds e1=>if ds.length≤sizeLine then some (.ok (.tup ds) e1)else none
def eL(f:AF):NF:=fun e=>bnd (f e) fun ds e1=>if ds.length≤sizeLine then some (.ok ds e1)else none
theorem a4M{ta:TA}{f:AF}(hf:K6 K cl E ta f):i7 K cl E (a7w ta) (eT f):=by
 intro σ H Q env F R h
 refine hf σ H _ env F R ((Ct.bnd h C7).mono fun xs H1 ⟨F1,e1,ds,s1,R1,p1,h1⟩=>?_)
 have hl:ds.length=xs.length:=Rps.length p1
 split at h1
 ·rename_i z
  refine⟨by rw[← hl];exact z,fun p hp=>?_⟩
  have g:Gr H1 F1 (upd H1 p (.tup xs)) (upd F1 p (.tup xs)):=.new R1.sub hp
  exact h1 _ _ _ (R1.frm g) (R1.gr g) (by show Rp K cl _ (.tup ds) _;simp only[Rp];exact⟨p,xs,rfl,c7,Rps.mono g.fz _ _ p1⟩)
 ·exact h1.elim
theorem a1d{ta:TA}{f:AF}(hf:K6 K cl E ta f):K5 K cl E (a7x ta) (eL f):=by
 intro σ H Q env F R h
 refine hf σ H _ env F R ((Ct.bnd h a1c).mono fun xs H1 ⟨F1,e1,ds,s1,R1,p1,h1⟩=>?_)
 have hl:ds.length=xs.length:=Rps.length p1
 split at h1
 ·rename_i z
  exact⟨by rw[← hl];exact z,fun p hp=>Ct.newN R1 hp p1 h1⟩
 ·exact h1.elim
def bZ(f:ZF):BF:=fun e=>bnd (f e) fun d e1=>match d with
 | .bl b=>some (.ok b e1)
 | _=>none
theorem M5{t:TE}{f:ZF}(hf:i7 K cl E t f):D3 K cl E (tB t) (bZ f):=by
 intro σ H Q env F R h
 refine hf σ H _ env F R ((Ct.bnd h a2N).mono fun x H1 ⟨F1,e1,d,s1,R1,p1,h1⟩=>?_)
 split at h1
 ·rename_i b
  have:x=.bl b:=by have:=(show Rp K cl F1 (.bl b) x from p1);simpa only[Rp]using this
  exact⟨b,this,h1 b H1 F1 Frm.refl R1 rfl⟩
 ·exact h1.elim
theorem M6{t:TE}{f:ZF}(hf:i7 K cl E t f):D3 K cl E (a5y t) (bZ f):=M5 hf
def Q6(f:BF):BF:=fun e=>bnd (f e) fun b e1=>some (.ok (!b) e1)
def a4N(f k:BF):BF:=fun e=>bnd (f e) fun b e1=>if b=true then k e1 else some (.ok false e1)
def bOr(f k:BF):BF:=fun e=>bnd (f e) fun b e1=>if b=true then some (.ok true e1)else k e1
theorem S0{t:TT}{f:BF}(hf:D3 K cl E t f):D3 K cl E (a7n t) (Q6 f):=by
 intro σ H Q env F R h
 refine hf σ H _ env F R ((Ct.bnd h a2N).mono fun x H1 ⟨F1,e1,d,s1,R1,p1,h1⟩=>?_)
 cases (show x=d from p1)
 exact h1 _ H1 F1 Frm.refl R1 rfl
theorem a6f{t u:TT}{f k:BF}(hf:D3 K cl E t f)(hk:D3 K cl E u k):D3 K cl E (a7m t u) (a4N f k):=by
 intro σ H Q env F R h
 refine hf σ H _ env F R ((Ct.bnd h a2N).mono fun x H1 ⟨F1,e1,d,s1,R1,p1,h1⟩=>?_)
 cases (show x=d from p1)
 by_cases z:x=true
 ·rw[if_pos z]at h1 ⊢;exact hk σ H1 Q e1 F1 R1 h1
 ·rw[if_neg z]at h1 ⊢;exact h1 _ H1 F1 Frm.refl R1 rfl
theorem a3L{t u:TT}{f k:BF}(hf:D3 K cl E t f)(hk:D3 K cl E u k):D3 K cl E (tOr t u) (bOr f k):=by
 intro σ H Q env F R h
 refine hf σ H _ env F R ((Ct.bnd h a2N).mono fun x H1 ⟨F1,e1,d,s1,R1,p1,h1⟩=>?_)
 cases (show x=d from p1)
 by_cases z:x=true
 ·rw[if_pos z]at h1 ⊢;exact h1 _ H1 F1 Frm.refl R1 rfl
 ·rw[if_neg z]at h1 ⊢;exact hk σ H1 Q e1 F1 R1 h1
def a4O(f:ZF):ZF:=fun e=>bnd (f e) fun d e1=>match d with
 | .bl b=>some (.ok (.bl (!b)) e1)
 | _=>none
def a2Q(f k:ZF):ZF:=fun e=>bnd (f e) fun d e1=>match d with
 | .bl b=>if b=true then k e1 else some (.ok (.bl false) e1)
 | _=>none
theorem a79{t:TE}{f:ZF}(hf:i7 K cl E t f):i7 K cl E (a5r t) (a4O f):=by
 intro σ H Q env F R h
 refine hf σ H _ env F R ((Ct.bnd h C7).mono fun x H1 ⟨F1,e1,d,s1,R1,p1,h1⟩=>?_)
 split at h1
 ·rename_i b
  have:x=.bl b:=by have:=(show Rp K cl F1 (.bl b) x from p1);simpa only[Rp]using this
  exact⟨b,this,h1 _ H1 F1 Frm.refl R1 (by show Rp K cl F1 (.bl _) _;simp only[Rp])⟩
 ·exact h1.elim
theorem a3M{t u:TE}{f k:ZF}(hf:i7 K cl E t f)(hk:i7 K cl E u k):i7 K cl E (a5q t u) (a2Q f k):=by
 intro σ H Q env F R h
 refine hf σ H _ env F R ((Ct.bnd h C7).mono fun x H1 ⟨F1,e1,d,s1,R1,p1,h1⟩=>?_)
 split at h1
 ·rename_i b
  have:x=.bl b:=by have:=(show Rp K cl F1 (.bl b) x from p1);simpa only[Rp]using this
  refine⟨b,this,?_⟩
  by_cases z:b=true
  ·rw[if_pos z]at h1 ⊢;exact hk σ H1 Q e1 F1 R1 h1
  ·rw[if_neg z]at h1 ⊢;exact h1 _ H1 F1 Frm.refl R1 (by show Rp K cl F1 (.bl _) _;simp only[Rp])
 ·exact h1.elim
def nIf(c:BF)(f k:NF):NF:=fun e=>bnd (c e) fun b e1=>if b=true then f e1 else k e1
theorem a8a{c:TT}{t u:TE}{b:BF}{f k:NF}(hc:D3 K cl E c b)(hf:K5 K cl E t f)(hk:K5 K cl E u k):K5 K cl E (tIf c t u) (nIf b f k):=by
 intro σ H Q env F R h
 refine hc σ H _ env F R ((Ct.bnd h a1c).mono fun x H1 ⟨F1,e1,d,s1,R1,p1,h1⟩=>?_)
 cases (show x=d from p1)
 by_cases z:x=true
 ·rw[if_pos z]at h1 ⊢;exact hf σ H1 Q e1 F1 R1 h1
 ·rw[if_neg z]at h1 ⊢;exact hk σ H1 Q e1 F1 R1 h1
def a8b(K:W.Frag)(cl:Str→Addr)(r:List V→Hp→VK→Prop)(g:List D→Option D):Prop:=∀xs ds z H F Q,Same F H→Rps K cl F ds xs→g ds=some z→(∀v H' F',Gr H F H' F'→Rp K cl F' z v→Q v H')→r xs H Q
def CbOk1(K:W.Frag)(cl:Str→Addr)(r:List V→Hp→VK→Prop)(g:D→Option D):Prop:=∀x d z H F Q,Same F H→Rb K cl F H d x→g d=some z→(∀v H' F',Gr H F H' F'→Rp K cl F' z v→Q v H')→r [x] H Q
def eCB(g:List D→Option D)(f:AF):ZF:=fun e=>bnd (f e) fun ds e1=>J2 (g ds) e1
def eCV(g:D→Option D)(i:Nat):ZF:=fun e=>match look e i with
 | some d=>J2 (g d) e
 | none=>none
theorem a8W{r:List V→Hp→VK→Prop}{g:List D→Option D}{t:TA}{f:AF}(ok:a8b K cl r g)(hf:K6 K cl E t f):i7 K cl E (tCB r t) (eCB g f):=by
 intro σ H Q env F R h
 refine hf σ H _ env F R ((Ct.bnd h C7).mono fun x H1 ⟨F1,e1,d,s1,R1,p1,h1⟩=>?_)
 cases hz:g d with
 | none=>rw[hz]at h1;exact h1.elim
 | some z =>
  rw[hz]at h1
  exact ok x d z H1 F1 Q R1.sub p1 hz fun v H' F' gr p=>h1 v H' F' (R1.frm gr) (R1.gr gr) p
theorem a2R{r:List V→Hp→VK→Prop}{g:D→Option D}{i:Nat}(ok:CbOk1 K cl r g):i7 K cl E (tCB r (G8 (u7 i) T5)) (eCV g i):=by
 intro σ H Q env F R h
 unfold eCV at h
 cases q:look env i with
 | none=>rw[q]at h;exact h.elim
 | some d =>
  rw[q]at h
  obtain⟨x,e,rb⟩:=R.look q
  refine⟨x,e,?_⟩
  cases hz:g d with
  | none=>simp only[hz,M4]at h;exact h.elim
  | some z =>
   simp only[hz,M3]at h
   exact ok x d z H F Q R.sub rb hz fun v H' F' gr p=>h v H' F' (R.frm gr) (R.gr gr) p
def g1(g:D→Option D):List D→Option D
 | [d]=>g d
 | _=>none
theorem CbOk1.cb{r:List V→Hp→VK→Prop}{g:D→Option D}(ok:CbOk1 K cl r g):a8b K cl r (g1 g):=by
 intro xs ds z H F Q s hx h q
 unfold g1 at h
 split at h
 ·obtain⟨v,r,rfl,h1,h2⟩:=hx.inv
  rw[h2.inv0]
  exact ok v _ z H F Q s (.inl h1) h q
 ·cases h
def a8c(K:W.Frag)(cl:Str→Addr)(r:List V→Hp→VK→Prop)(g:D→Option (List D)):Prop:=∀x d zs H F Q,Same F H→Rb K cl F H d x→g d=some zs→(∀p xs,H p=none→Rps K cl F zs xs→Q (.ref p) (upd H p (.lst xs)))→r [x] H Q
def nCV(g:D→Option (List D))(i:Nat):NF:=fun e=>match look e i with
 | some d=>J2 (g d) e
 | none=>none
theorem a3N{r:List V→Hp→VK→Prop}{g:D→Option (List D)}{i:Nat}(ok:a8c K cl r g):K5 K cl E (tCB r (G8 (u7 i) T5)) (nCV g i):=by
 intro σ H Q env F R h
 unfold nCV at h
 cases q:look env i with
 | none=>rw[q]at h;exact h.elim
 | some d =>
  rw[q]at h
  obtain⟨x,e,rb⟩:=R.look q
  refine⟨x,e,?_⟩
  cases hz:g d with
  | none=>simp only[hz,M4]at h;exact h.elim
  | some z =>
   simp only[hz,M3]at h
   exact ok x d z H F Q R.sub rb hz fun p xs hp r=>Ct.newN R hp r h
end
section
variable {K:W.Frag}{cl:Str→Addr}{E:XK}{σ:St}{H F:Hp}{env:DE}
instance decMul(i j:Int):Decidable (IntMulOk i j):=by unfold IntMulOk;infer_instance
instance decPow(i j:Int):Decidable (Y7 i j):=by unfold Y7;infer_instance
abbrev p7:=gI0 fun i j=>.int (i+j)
abbrev U7:=gI IntMulOk fun i j=>.int (i*j)
abbrev a2S:=gI (fun _ j=>0<j∧j.natAbs.log2<9000) fun i j=>.int (i/j)
abbrev A2:=gI (fun _ j=>0<j) fun i j=>.int (i%j)
abbrev a1g:=gI Y7 fun i j=>.int (i ^ j.toNat)
abbrev gLt:=gI0 fun i j=>.bl (decide (i<j))
abbrev gGt:=gI0 fun i j=>.bl (decide (j<i))
theorem C0:OpOk K cl (V8 fun i j=>.int (i+j)) p7:=a2P fun F i j=>by simp only[Rp]
theorem a3O:OpOk K cl (rI IntMulOk fun i j=>.int (i*j)) U7:=a2O fun F i j=>by simp only[Rp]
theorem a8f:OpOk K cl (rI (fun _ j=>0<j∧j.natAbs.log2<9000) fun i j=>.int (i/j)) a2S:=a2O fun F i j=>by simp only[Rp]
theorem Q7:OpOk K cl (rI (fun _ j=>0<j) fun i j=>.int (i%j)) A2:=a2O fun F i j=>by simp only[Rp]
theorem a8g:OpOk K cl (rI Y7 fun i j=>.int (i ^ j.toNat)) a1g:=a2O fun F i j=>by simp only[Rp]
theorem a8X:OpOk K cl (V8 fun i j=>.bl (decide (i<j))) gLt:=a2P fun F i j=>by simp only[Rp]
theorem a8Y:OpOk K cl (V8 fun i j=>.bl (decide (j<i))) gGt:=a2P fun F i j=>by simp only[Rp]
def toV:D→Option V
 | .non=>some .non
 | .bl b=>some (.bl b)
 | .int i=>some (.int i)
 | .str x=>some (.str x)
 | _=>none
theorem Rb.toV{d:D}{v u:V}(h:Rb K cl F H d v)(e:toV d=some u):v=u:=by
 cases d with
 | non=>cases e;exact h.non
 | bl b=>cases e;exact h.bl
 | int i=>cases e;exact h.int
 | str x=>cases e;exact h.str
 | _=>cases e
def J3(neg:Bool)(d e:D):Option D:=match toV d,toV e with
 | some x,some y=>if a2y x y=true then some (.bl (if neg then !decide (x=y)else decide (x=y)))else none
 | _,_=>none
theorem a2T:OpOk K cl rEq (J3 false):=by
 intro x y d e z H F Q s hx hy h q
 unfold J3 at h
 split at h
 ·rename_i u w hu hw
  split at h
  ·rename_i c;cases h
   rw[hx.toV hu,hy.toV hw]
   exact⟨c,q _ H F (.refl s) (by simp only[Rp];rfl)⟩
  ·cases h
 ·cases h
theorem a5M:OpOk K cl rNe (J3 true):=by
 intro x y d e z H F Q s hx hy h q
 unfold J3 at h
 split at h
 ·rename_i u w hu hw
  split at h
  ·rename_i c;cases h
   rw[hx.toV hu,hy.toV hw]
   exact⟨c,q _ H F (.refl s) (by simp only[Rp];rfl)⟩
  ·cases h
 ·cases h
@[simp] theorem a6g(neg:Bool)(a b:Int):J3 neg (.int a) (.int b)=some (.bl (if neg then !decide (a=b)else decide (a=b))):=by
 unfold J3 toV
 simp only[a2y,if_true,V.int.injEq]
theorem Rps.atI{ds:List D}{xs:List V}{i:Int}{d:D}(h:Rps K cl F ds xs)(e:atI ds i=some d):∃v,L2.atI xs i=some v∧Rp K cl F d v:=by
 unfold L2.atI at e ⊢
 rw[← h.length]
 cases q:V9 ds.length i with
 | none=>rw[q]at e;cases e
 | some j=>rw[q]at e;exact h.get e
def y0(d e:D):Option D:=match d,e with
 | .lst ds,.int i=>atI ds i
 | .scr ns,.int i=>(atI ns i).map .int
 | _,_=>none
def w8(d e:D):Option D:=match d,e with
 | .tup ds,.int i=>atI ds i
 | _,_=>none
theorem a6h{α β:Type}(f:α→β)(xs:List α)(i:Int):atI (xs.map f) i=(atI xs i).map f:=by
 unfold L2.atI
 rw[List.length_map]
 cases V9 xs.length i with
 | none=>rfl
 | some j=>simp
theorem X3:OpOk K cl (a4m K) y0:=by
 intro x y d e z H F Q s hx hy h q
 unfold y0 at h
 split at h
 ·obtain⟨a,xs,rfl,hH,r⟩:=hx.lst s
  obtain⟨v,e,p⟩:=r.atI h
  exact⟨a,xs,_,v,rfl,hy.int,.of hH,e,q v H F (.refl s) p⟩
 ·rename_i ns i
  obtain⟨a,rfl,hS⟩:=hx.scr s
  cases hz:atI ns i with
  | none=>rw[hz]at h;cases h
  | some n =>
   rw[hz]at h;cases h
   exact⟨a,_,_,.int n,rfl,hy.int,hS.seq,by rw[a6h,hz];rfl,q _ H F (.refl s) (by simp only[Rp])⟩
 ·cases h
theorem K7:OpOk K cl (a4n K) w8:=by
 intro x y d e z H F Q s hx hy h q
 unfold w8 at h
 split at h
 ·obtain⟨a,xs,rfl,hH,r⟩:=hx.tup s
  obtain⟨v,e,p⟩:=r.atI h
  exact⟨a,xs,_,v,rfl,hy.int,.of hH,e,q v H F (.refl s) p⟩
 ·cases h
def G0:D→D→Bool
 | .non,.non=>true
 | .bl a,.bl b=>a == b
 | .bl a,.int b=>(if a then 1 else 0) == b
 | .int a,.bl b=>a == (if b then 1 else 0)
 | .int a,.int b=>a == b
 | .str a,.str b=>a == b
 | _,_=>false
def a2U:List D→List D→Bool
 | [],[]=>true
 | x::xs,y::ys=>G0 x y && a2U xs ys
 | _,_=>false
def c9:D→Bool
 | .non=>true
 | .bl _=>true
 | .int _=>true
 | .str _=>true
 | _=>false
theorem Rp.flat{d:D}{v:V}(h:Rp K cl F d v)(f:c9 d=true):toV d=some v∧a0K v=true:=by
 cases d<;>simp only[Rp]at h<;>first | (subst h;exact⟨rfl,rfl⟩) | cases f
theorem Rps.flat:∀{ds:List D} {vs:List V},Rps K cl F ds vs→ds.all c9=true→vs.all a0K=true
 | [],_,h,_=>by rw[h.inv0];rfl
 | d::ds,_,h,f=>by
  obtain⟨v,r,rfl,h1,h2⟩:=h.inv
  rw[List.all_cons,Bool.and_eq_true]at f
  rw[List.all_cons,(h1.flat f.1).2,h2.flat f.2];rfl
theorem Rp.eq{d e:D}{v u:V}(h:Rp K cl F d v)(g:Rp K cl F e u)(fd:c9 d=true)(fe:c9 e=true):eqV v u=G0 d e:=by
 have h1:=(h.flat fd).1
 have h2:=(g.flat fe).1
 cases d<;>cases e<;>first | (cases h1;cases h2;rfl) | (cases fd;done) | (cases fe;done)
theorem Rps.eq:∀{ds es:List D} {vs us:List V},Rps K cl F ds vs→Rps K cl F es us→ds.all c9=true→es.all c9=true→a4v vs us=a2U ds es
 | [],[],_,_,h,g,_,_=>by rw[h.inv0,g.inv0];rfl
 | [],_::_,_,_,h,g,_,_=>by rw[h.inv0];obtain⟨_,_,rfl,_,_⟩:=g.inv;rfl
 | _::_,[],_,_,h,g,_,_=>by rw[g.inv0];obtain⟨_,_,rfl,_,_⟩:=h.inv;rfl
 | d::ds,e::es,_,_,h,g,fd,fe=>by
  obtain⟨v,r,rfl,h1,h2⟩:=h.inv
  obtain⟨u,r',rfl,g1,g2⟩:=g.inv
  rw[List.all_cons,Bool.and_eq_true]at fd fe
  unfold a4v a2U
  rw[h1.eq g1 fd.1 fe.1,h2.eq g2 fd.2 fe.2]
def U8:D→Option D
 | .lst ds=>some (.int ds.length)
 | .tup ds=>some (.int ds.length)
 | .scr ns=>some (.int ns.length)
 | _=>none
theorem a1h:CbOk1 K cl (a12 K) U8:=by
 intro x d z H F Q s hx h q
 unfold U8 at h
 split at h
 ·cases h
  obtain⟨a,xs,rfl,hH,r⟩:=hx.lst s
  exact⟨a,xs,rfl,.inl (.of hH),q _ H F (.refl s) (by simp only[Rp];rw[r.length])⟩
 ·cases h
  obtain⟨a,xs,rfl,hH,r⟩:=hx.tup s
  exact⟨a,xs,rfl,.inr (.of hH),q _ H F (.refl s) (by simp only[Rp];rw[r.length])⟩
 ·cases h
  obtain⟨a,rfl,hS⟩:=hx.scr s
  exact⟨a,_,rfl,.inl hS.seq,q _ H F (.refl s) (by simp only[Rp];rw[List.length_map])⟩
 ·cases h
def M7:D→Option (List D)
 | .lst ds=>some ds
 | .tup ds=>some ds
 | .scr ns=>some (ns.map .int)
 | _=>none
theorem a2e:a8c K cl (a13 K) M7:=by
 intro x d zs H F Q s hx h q
 unfold M7 at h
 split at h
 ·cases h
  obtain⟨a,xs,rfl,hH,r⟩:=hx.lst s
  exact⟨a,xs,rfl,.inl (.of hH),fun p hp=>q p _ hp r⟩
 ·cases h
  obtain⟨a,xs,rfl,hH,r⟩:=hx.tup s
  exact⟨a,xs,rfl,.inr (.of hH),fun p hp=>q p _ hp r⟩
 ·cases h
  obtain⟨a,rfl,hS⟩:=hx.scr s
  exact⟨a,_,rfl,.inl hS.seq,fun p hp=>q p _ hp Rps.ofInts⟩
 ·cases h
def E1:List D→Option (List Bool)
 | []=>some []
 | .bl b::ds=>(E1 ds).map (b :: ·)
 | _=>none
theorem a1i:∀{ds:List D} {bs:List Bool},E1 ds=some bs→ds=bs.map .bl
 | [],_,h=>by cases h;rfl
 | .bl b::ds,_,h=>by
  unfold E1 at h
  cases q:E1 ds with
  | none=>rw[q]at h;cases h
  | some bs=>rw[q]at h;cases h;rw[a1i q];rfl
 | .non::_,_,h=>by cases h
 | .int _::_,_,h=>by cases h
 | .str _::_,_,h=>by cases h
 | .ty _::_,_,h=>by cases h
 | .cls _::_,_,h=>by cases h
 | .tup _::_,_,h=>by cases h
 | .lst _::_,_,h=>by cases h
 | .scr _::_,_,h=>by cases h
 | .exc _::_,_,h=>by cases h
 | .obj _ _ _::_,_,h=>by cases h
def a1j:D→Option D
 | .lst ds=>(E1 ds).map fun bs=>.bl (bs.all id)
 | _=>none
theorem a8h:CbOk1 K cl (a7L K) a1j:=by
 intro x d z H F Q s hx h q
 unfold a1j at h
 split at h
 ·rename_i ds
  cases hb:E1 ds with
  | none=>rw[hb]at h;cases h
  | some bs =>
   rw[hb]at h;cases h
   obtain⟨a,xs,rfl,hH,r⟩:=hx.lst s
   rw[a1i hb]at r
   rw[r.bls]at hH
   exact⟨a,bs,rfl,.of hH,q _ H F (.refl s) (by simp only[Rp])⟩
 ·cases h
end
inductive R1 where | ret (d:D) | own (ds:List D) | owz (dss:List (List D)) | ex (c:Str)
def i4(K:W.Frag)(cl:Str→Addr)(g:List D→Option R1):Sp:=fun vs H Q E=>∃ds F,Same F H∧Rps K cl F ds vs∧match g ds with
 | none=>False
 | some (.ret d)=>∀v H' F',Gr H F H' F'→Rp K cl F' d v→Q v H'
 | some (.own es)=>∀a xs H' F',Gr H F H' F'→H a=none→H' a=some (.lst xs)→F' a=none→Rps K cl F' es xs→Q (.ref a) H'
 | some (.owz dss)=>∀p as H' F',Gr H F H' F'→H p=none→H' p=some (.tup (as.map V.ref))→F' p=none→Rz K cl F' H' (fun a=>H a=none) dss as→Q (.ref p) H'
 | some (.ex c)=>∀H' F',Gr H F H' F'→E (.ref (cl c)) none H'
def toZ(r:Option R1)(e:DE):Option (R D):=match r with
 | none=>none
 | some (.ret d)=>some (.ok d e)
 | some (.own ds)=>some (.ok (.lst ds) e)
 | some (.owz _)=>none
 | some (.ex c)=>some (.ex c)
def M8(r:Option R1)(e:DE):Option (R D):=match r with
 | some (.ret d)=>some (.ok d e)
 | some (.own ds)=>some (.ok (.lst ds) e)
 | _=>none
def J4(g:List D→Option R1)(f:AF):ZF:=fun e=>bnd (f e) fun ds e1=>toZ (g ds) e1
def h7(g:List D→Option R1)(f:AF):ZF:=fun e=>bnd (f e) fun ds e1=>M8 (g ds) e1
def put(i:Nat)(s:Sl)(e:DE):Option RS:=match e[i]? with
 | none=>none
 | some (.hd _)=>none
 | some _=>some (.nx (e.set i s))
def X4(i:Nat)(r:Option R1)(e:DE):Option RS:=match r with
 | none=>none
 | some (.ret d)=>put i (.fz d) e
 | some (.own ds)=>put i (.ow ds) e
 | some (.owz _)=>none
 | some (.ex c)=>some (.ex c)
def X5(i:Nat)(r:Option R1)(e:DE):Option RS:=match r with
 | some (.ret d)=>put i (.fz d) e
 | some (.own ds)=>put i (.ow ds) e
 | _=>none
def a0L(r:Option R1):Option RS:=match r with
 | none=>none
 | some (.ret d)=>some (.rt d)
 | some (.own ds)=>some (.ro ds)
 | some (.owz dss)=>some (.rz dss)
 | some (.ex c)=>some (.ex c)
def a3P(r:Option R1):Option RS:=match r with
 | some (.ret d)=>some (.rt d)
 | some (.own ds)=>some (.ro ds)
 | _=>none
def D4:SF:=fun e=>some (.nx e)
def b8(f k:SF):SF:=fun e=>match f e with
 | some (.nx e1)=>k e1
 | r=>r
def C8(i:Nat)(f:ZF):SF:=fun e=>z0 (f e) fun d e1=>put i (.fz d) e1
def n9(i:Nat)(f:NF):SF:=fun e=>z0 (f e) fun ds e1=>put i (.ow ds) e1
def a0M(i:Nat)(g:List D→Option R1)(f:AF):SF:=fun e=>z0 (f e) fun ds e1=>X4 i (g ds) e1
def X6(i:Nat)(g:List D→Option R1)(f:AF):SF:=fun e=>z0 (f e) fun ds e1=>X5 i (g ds) e1
def y3(f:ZF):SF:=fun e=>z0 (f e) fun d _=>some (.rt d)
def X7(f:NF):SF:=fun e=>z0 (f e) fun ds _=>some (.ro ds)
def M9(i:Nat):SF:=fun e=>match e[i]? with
 | some (.fz d)=>some (.rt d)
 | some (.ow ds)=>some (.ro ds)
 | _=>none
def D5(c:BF)(f k:SF):SF:=fun e=>z0 (c e) fun b e1=>if b=true then f e1 else k e1
def sEx(f:ZF):SF:=fun e=>z0 (f e) fun _ e1=>some (.nx e1)
def X8(c:Str)(f:AF):SF:=fun e=>z0 (f e) fun ds _=>if ds.length≤sizeLine then some (.ex c)else none
def U9(i:Nat)(f:ZF):SF:=fun e=>match look e i with
 | some (.lst _)=>z0 (f e) fun d e1=>match e1[i]? with
  | some (.ow ds)=>if ds.length<sizeLine then some (.nx (e1.set i (.ow (ds++[d]))))else none
  | _=>none
 | _=>none
section
variable {K:W.Frag}{cl:Str→Addr}{E:XK}{σ:St}{H F:Hp}{env:DE}
theorem Gr.fx{H' F':Hp}(g:Gr H F H' F'):FX σ H F env H' F':=⟨g.fz,g.sub,fun a o h f _=>g.hid a o h f,g.dom⟩
theorem a3Q{g:List D→Option R1}{ds:List D}{vs:List V}{Q:VK}(R:Rel K cl σ H F env)(p:Rps K cl F ds vs)(h:Ct K cl E (PZ K cl) (toZ (g ds) env) σ H F env Q):i4 K cl g (vs++[]) H Q E:=by
 rw[List.append_nil]
 refine⟨ds,F,R.sub,p,?_⟩
 unfold toZ at h
 split at h
 ·exact h.elim
 ·exact fun v H' F' gr r=>h v H' F' (R.frm gr) (R.gr gr) r
 ·rename_i es _
  intro a xs H' F' gr ha hH hF r
  have sF:Same F' (upd F' a (.lst xs)):=F6 hF _
  have gr':Gr H F H' (upd F' a (.lst xs)):=by
   refine⟨gr.fz.trans sF,fun b o z=>?_,fun b o hb fb=>?_⟩
   ·by_cases y:b=a
    ·subst y;rw[c7]at z;cases z;exact hH
    ·rw[a8 y]at z;exact gr.sub _ _ z
   ·obtain⟨h1,f1⟩:=gr.hid b o hb fb
    have nb:b≠a:=fun z=>by rw[z,ha]at hb;cases hb
    exact⟨h1,by rw[a8 nb];exact f1⟩
  exact h _ H' _ (R.frm gr') (R.gr gr') (by show Rp K cl _ (.lst es) _;simp only[Rp];exact⟨a,xs,rfl,c7,r.mono sF⟩)
 ·exact h.elim
 ·exact fun H' F' gr=>h H' F' gr.fx
theorem a6i{r:Option R1}{e:DE}{P:Py D V}{Q:VK}(h:Ct K cl E P (M8 r e) σ H F env Q):toZ r e=M8 r e∧∀c,r≠some (.ex c):=by
 unfold M8 at h
 split at h
 ·exact⟨rfl,fun c z=>by cases z⟩
 ·exact⟨rfl,fun c z=>by cases z⟩
 ·exact h.elim
theorem Z5{g:List D→Option R1}{t:TA}{f:AF}(hf:K6 K cl E t f):i7 K cl E (R7 (i4 K cl g) [] E t) (J4 g f):=by
 intro σ H Q env F R h
 refine hf σ H _ env F R ((Ct.bnd h C7).mono fun vs H1 ⟨F1,e1,ds,s1,R1,p1,h1⟩=>a3Q R1 p1 h1)
theorem p8{g:List D→Option R1}{t:TA}{f:AF}(hf:K6 K cl E t f):i7 K cl E (R7 (i4 K cl g) [] E0 t) (h7 g f):=by
 intro σ H Q env F R h
 refine hf σ H _ env F R ((Ct.bnd h C7).mono fun vs H1 ⟨F1,e1,ds,s1,R1,p1,h1⟩=>?_)
 refine a3Q R1 p1 ?_
 obtain⟨z,n⟩:=a6i h1
 rw[z]
 unfold Ct at h1 ⊢
 split at h1
 ·exact h1
 ·exact h1
 ·rename_i c q
  exact absurd q (by unfold M8;split<;>intro y<;>cases y)
theorem E2:RfS K cl E a5s D4:=fun N σ H env F R h=>h σ H F Frm.refl R
theorem d5{t u:TS}{f k:SF}(hf:RfS K cl E t f)(hk:RfS K cl E u k):RfS K cl E (a7q t u) (b8 f k):=by
 intro N σ H env F R h
 refine hf _ σ H env F R ?_
 unfold b8 at h
 split at h
 ·rename_i e1 q
  rw[q]
  intro σ' H' F' fr R'
  exact hk N σ' H' e1 F' R' (h.from fr)
 ·rename_i n
  unfold Cs at h ⊢
  split at h
  ·exact h
  ·rename_i e q;exact absurd q (n e)
  all_goals exact h
theorem Z6{i:Nat}{s:Sl}{e:DE}{N:Ends}{σ0:St}{H0 F0:Hp}{env0:DE}(h:Cs K cl E (put i s e) σ0 H0 F0 env0 N):i<e.length∧(∀ds,e[i]?≠some (.hd ds))∧Cs K cl E (some (.nx (e.set i s))) σ0 H0 F0 env0 N:=by
 unfold put at h
 split at h
 ·exact h.elim
 ·exact h.elim
 ·rename_i z n q
  exact⟨(List.getElem?_eq_some_iff.mp q).1,fun ds y=>by rw[q]at y;cases y;exact n ds rfl,h⟩
theorem Q8{i:Nat}{t:TE}{f:ZF}(hf:i7 K cl E t f):RfS K cl E (T4 t (L4 i)) (C8 i f):=by
 intro N σ H env F R h
 refine hf σ H _ env F R ((Cs.bnd h).mono fun x H1 ⟨F1,e1,d,fr,R1,p1,h1⟩=>?_)
 obtain⟨hi,nh,h2⟩:=Z6 h1
 exact h2 _ H1 F1 (fr.trans (Frm.put nh)) (R1.put hi nh p1)
theorem A3{i:Nat}{t:TE}{f:NF}(hf:K5 K cl E t f):RfS K cl E (T4 t (L4 i)) (n9 i f):=by
 intro N σ H env F R h
 refine hf σ H _ env F R ((Cs.bnd h).mono fun x H1 ⟨F1,e1,ds,fr,R1,p1,h1⟩=>?_)
 obtain⟨a,xs,rfl,hn,hH,hF,nm,r⟩:=p1
 obtain⟨hi,nh,h2⟩:=Z6 h1
 exact h2 _ H1 F1 (fr.putO hn nh) (R1.putO hi hH hF nm r)
theorem y4{t:TE}{f:ZF}(hf:i7 K cl E t f):RfS K cl E (a2v t) (y3 f):=by
 intro N σ H env F R h
 exact hf σ H _ env F R ((Cs.bnd h).mono fun x H1 ⟨F1,e1,d,fr,R1,p1,h1⟩=>h1 x H1 F1 (fr.toFX R1.sub) p1)
theorem a2f{t:TE}{f:NF}(hf:K5 K cl E t f):RfS K cl E (a2v t) (X7 f):=by
 intro N σ H env F R h
 refine hf σ H _ env F R ((Cs.bnd h).mono fun x H1 ⟨F1,e1,ds,fr,R1,p1,h1⟩=>?_)
 obtain⟨a,xs,rfl,hn,hH,hF,nm,r⟩:=p1
 exact h1 a xs H1 F1 (fr.toFX R1.sub) hH hF (fun o e=>by rw[hn]at e;cases e) r
theorem a2g{i:Nat}:RfS K cl E (a2v (u7 i)) (M9 i):=by
 intro N σ H env F R h
 unfold M9 at h
 split at h
 ·rename_i d q
  obtain⟨v,e,r⟩:=R.fz i d q
  exact⟨v,e,h v H F (Frm.refl.toFX R.sub) r⟩
 ·rename_i ds q
  obtain⟨a,xs,e,hH,hF,r⟩:=R.mu i ds (.inl q)
  exact⟨_,e,h a xs H F (Frm.refl.toFX R.sub) hH hF (fun o _=>⟨i,ds,q,e⟩) r⟩
 ·exact h.elim
theorem y6{c:TT}{t u:TS}{b:BF}{f k:SF}(hc:D3 K cl E c b)(hf:RfS K cl E t f)(hk:RfS K cl E u k):RfS K cl E (a7r c t u) (D5 b f k):=by
 intro N σ H env F R h
 refine hc σ H _ env F R ((Cs.bnd h).mono fun x H1 ⟨F1,e1,d,fr,R1,p1,h1⟩=>?_)
 cases (show x=d from p1)
 by_cases z:x=true
 ·rw[if_pos z]at h1 ⊢;exact hf N σ H1 e1 F1 R1 (h1.from fr)
 ·rw[if_neg z]at h1 ⊢;exact hk N σ H1 e1 F1 R1 (h1.from fr)
theorem a8Z{t:TE}{f:ZF}(hf:i7 K cl E t f):RfS K cl E (a0I t) (sEx f):=by
 intro N σ H env F R h
 exact hf σ H _ env F R ((Cs.bnd h).mono fun x H1 ⟨F1,e1,d,fr,R1,p1,h1⟩=>h1 σ H1 F1 fr R1)
theorem a1l{c:Str}{t:TA}{f:AF}(hf:K6 K cl E t f):RfS K cl E (a3t (cl c) E t) (X8 c f):=by
 intro N σ H env F R h
 refine hf σ H _ env F R ((Cs.bnd h).mono fun xs H1 ⟨F1,e1,ds,fr,R1,p1,h1⟩=>?_)
 have hl:ds.length=xs.length:=Rps.length p1
 split at h1
 ·rename_i z
  exact⟨by rw[← hl];exact z,h1 H1 F1 (fr.toFX R1.sub)⟩
 ·exact h1.elim
theorem a6j{i:Nat}{g:List D→Option R1}{t:TA}{f:AF}(hf:K6 K cl E t f):RfS K cl E (T4 (R7 (i4 K cl g) [] E t) (L4 i)) (a0M i g f):=by
 intro N σ H env F R h
 refine hf σ H _ env F R ((Cs.bnd h).mono fun vs H1 ⟨F1,e1,ds,fr,R1,p1,h1⟩=>?_)
 show i4 K cl g (vs++[]) H1 _ E
 rw[List.append_nil]
 refine⟨ds,F1,R1.sub,p1,?_⟩
 unfold X4 at h1
 split at h1
 ·exact h1.elim
 ·obtain⟨hi,nh,h2⟩:=Z6 h1
  exact fun v H' F' gr r=>h2 _ H' F' ((fr.trans (R1.frm gr)).trans (Frm.put nh)) ((R1.gr gr).put hi nh r)
 ·obtain⟨hi,nh,h2⟩:=Z6 h1
  intro a xs H' F' gr ha hH hF r
  refine h2 _ H' F' ((fr.trans (R1.frm gr)).putO (fr.dom a ha) nh) ((R1.gr gr).putO hi hH hF (fun j mj e=>?_) r)
  obtain⟨es,q⟩:=mj
  obtain⟨b,ys,e',hb,_⟩:=R1.mu j es q
  rw[e]at e';cases e'
  rw[ha]at hb;cases hb
 ·exact h1.elim
 ·exact fun H' F' gr=>h1 H' F' (fr.fx gr.fx)
theorem a4P{i:Nat}{g:List D→Option R1}{t:TA}{f:AF}(hf:K6 K cl E t f):RfS K cl E (T4 (R7 (i4 K cl g) [] E0 t) (L4 i)) (X6 i g f):=by
 intro N σ H env F R h
 refine hf σ H _ env F R ((Cs.bnd h).mono fun vs H1 ⟨F1,e1,ds,fr,R1,p1,h1⟩=>?_)
 show i4 K cl g (vs++[]) H1 _ E0
 rw[List.append_nil]
 refine⟨ds,F1,R1.sub,p1,?_⟩
 unfold X5 at h1
 split at h1
 ·rename_i q;rw[q]
  obtain⟨hi,nh,h2⟩:=Z6 h1
  exact fun v H' F' gr r=>h2 _ H' F' ((fr.trans (R1.frm gr)).trans (Frm.put nh)) ((R1.gr gr).put hi nh r)
 ·rename_i q;rw[q]
  obtain⟨hi,nh,h2⟩:=Z6 h1
  intro a xs H' F' gr ha hH hF r
  refine h2 _ H' F' ((fr.trans (R1.frm gr)).putO (fr.dom a ha) nh) ((R1.gr gr).putO hi hH hF (fun j mj e=>?_) r)
  obtain⟨es,q⟩:=mj
  obtain⟨b,ys,e',hb,_⟩:=R1.mu j es q
  rw[e]at e';cases e'
  rw[ha]at hb;cases hb
 ·exact h1.elim
theorem Rel.change{i:Nat}{ds es:List D}{a:Addr}{ys:List V}(R:Rel K cl σ H F env)(h:env[i]? = some (.ow ds))(e:σ[i]? = some (some (.ref a)))(r:Rps K cl F es ys) :
  Rel K cl σ (upd H a (.lst ys)) F (env.set i (.ow es))∧Frm σ H F env σ (upd H a (.lst ys)) F (env.set i (.ow es)):=by
 obtain⟨a',xs,e',hH,hF,_⟩:=R.mu i ds (.inl h)
 rw[e]at e';cases e'
 have hi:i<env.length:=(List.getElem?_eq_some_iff.mp h).1
 have self:(env.set i (.ow es))[i]? = some (.ow es):=List.getElem?_set_self hi
 have oth:∀j,j≠i→(env.set i (.ow es))[j]? = env[j]?:=fun j hj=>List.getElem?_set_ne (Ne.symm hj)
 have mui:∀j,Mu (env.set i (.ow es)) j→Mu env j:=fun j ⟨fs,q⟩=>by
  by_cases z:j=i
  ·subst z;exact⟨ds,.inl h⟩
  ·rw[oth j z]at q;exact⟨fs,q⟩
 refine⟨⟨fun b o q=>?_,by rw[List.length_set];exact R.len,fun j d q=>?_,fun j fs q=>?_,fun j k b hj hk=>R.inj j k b (mui j hj) (mui k hk)⟩,⟨Same.refl _,fun b o hb fb w=>?_,fun j fs q=>?_,fun b q=>?_⟩⟩
 ·have z:b≠a:=fun z=>by rw[z,hF]at q;cases q
  rw[a8 z];exact R.sub _ _ q
 ·have z:j≠i:=fun z=>by subst z;rw[self]at q;cases q
  rw[oth j z]at q;exact R.fz j d q
 ·by_cases z:j=i
  ·subst z
   rw[self]at q
   rcases q with q | q
   ·cases q;exact⟨a,ys,e,c7,hF,r⟩
   ·cases q
  ·rw[oth j z]at q
   obtain⟨b,zs,e1,h1,f1,r1⟩:=R.mu j fs q
   have nb:b≠a:=fun y=>z (R.inj j i b ⟨fs,q⟩ ⟨ds,.inl h⟩ e1 (by rw[y];exact e))
   exact⟨b,zs,e1,by rw[a8 nb];exact h1,f1,r1⟩
 ·have z:b≠a:=fun z=>w ⟨i,ds,h,by rw[z];exact e⟩
  refine⟨by rw[a8 z];exact hb,fb,fun⟨j,fs,q,e1⟩=>?_⟩
  by_cases y:j=i
  ·subst y;rw[e]at e1;cases e1;exact z rfl
  ·rw[oth j y]at q;exact w ⟨j,fs,q,e1⟩
 ·have z:j≠i:=fun z=>by subst z;rw[h]at q;cases q
  exact⟨by rw[oth j z];exact q,rfl⟩
 ·by_cases z:b=a
  ·rw[z,c7]at q;cases q
  ·rw[a8 z]at q;exact q
theorem a3R{i:Nat}{t:TE}{f:ZF}(hf:i7 K cl E t f):RfS K cl E (a0I (tBM K "list" a1Y (u7 i) (G8 t T5))) (U9 i f):=by
 intro N σ H env F R h
 unfold U9 at h
 split at h
 ·rename_i ds0 q
  obtain⟨x,e0,rb⟩:=R.look q
  obtain⟨a0,xs0,rfl,hH0,_⟩:=rb.lst R.sub
  refine⟨_,e0,.inl ⟨rfl,xs0,.of hH0⟩,?_⟩
  ·refine hf σ H _ env F R ((Cs.bnd h).mono fun y H1 ⟨F1,e1,d,fr,R1,p1,h1⟩=>?_)
   split at h1
   ·rename_i ds q1
    split at h1
    ·rename_i c
     obtain⟨a,xs,e,hH,hF,r⟩:=R1.mu i ds (.inl q1)
     rw[e0]at e;cases e
     obtain⟨R2,f2⟩:=R1.change q1 e0 (r.append (.one p1))
     exact⟨_,xs,y,rfl,rfl,hH,by rw[← r.length];exact c,h1 σ _ F1 (fr.trans f2) R2⟩
    ·exact h1.elim
   ·exact h1.elim
 ·exact h.elim
end
abbrev GF:=D→DE→Option DE
def c4(i:Nat):GF:=fun d e=>match e[i]? with
 | none=>none
 | some (.hd _)=>none
 | some _=>some (e.set i (.fz d))
def N0:List GF→List D→DE→Option DE
 | [],[],e=>some e
 | b::bs,d::ds,e=>match b d e with
  | none=>none
  | some e1=>N0 bs ds e1
 | _,_,_=>none
def a1m(bs:List GF):GF:=fun d e=>match d with
 | .tup ds=>N0 bs ds e
 | _=>none
section
variable (K:W.Frag)(cl:Str→Addr)
def K8(k:Nat)(g:TG)(b:GF):Prop:=∀v σ H Q d env env' F,Rel K cl σ H F env→Rp K cl F d v→b d env=some env'→(∀σ',σ'.drop k=σ.drop k→σ'.length=σ.length→Frm σ H F env σ' H F env'→Rel K cl σ' H F env'→Q σ' H)→g v σ H Q
def a2V(k:Nat)(t:O6)(bs:List GF):Prop:=∀vs σ H Q ds env env' F,Rel K cl σ H F env→Rps K cl F ds vs→N0 bs ds env=some env'→(∀σ',σ'.drop k=σ.drop k→σ'.length=σ.length→Frm σ H F env σ' H F env'→Rel K cl σ' H F env'→Q σ' H)→t vs σ H Q
end
section
variable {K:W.Frag}{cl:Str→Addr}{E:XK}{σ:St}{H F:Hp}{env:DE}{k:Nat}
theorem a4Q{α:Type}{l:List α}{i k:Nat}{x:α}(h:i<k):(l.set i x).drop k=l.drop k:=by
 apply List.ext_getElem?
 intro j
 rw[List.getElem?_drop,List.getElem?_drop,List.getElem?_set_ne (by omega)]
theorem i8{i:Nat}(hi:i<k):K8 K cl k (L4 i) (c4 i):=by
 intro v σ H Q d env env' F R p h q
 unfold c4 at h
 split at h
 ·cases h
 ·cases h
 ·rename_i z n e
  cases h
  have nh:∀ds,env[i]?≠some (.hd ds):=fun ds y=>by rw[e]at y;cases y;exact n ds rfl
  exact q _ (a4Q hi) List.length_set (Frm.put nh) (R.put (List.getElem?_eq_some_iff.mp e).1 nh p)
theorem a2h:a2V K cl k a7s []:=by
 intro vs σ H Q ds env env' F R p h q
 cases ds with
 | nil=>cases h;exact⟨p.inv0,q σ rfl rfl Frm.refl R⟩
 | cons _ _=>cases h
theorem A4{t:TG}{u:O6}{b:GF}{bs:List GF}(h1:K8 K cl k t b)(h2:a2V K cl k u bs):a2V K cl k (a5t t u) (b::bs):=by
 intro vs σ H Q ds env env' F R p h q
 cases ds with
 | nil=>cases h
 | cons d ds =>
  obtain⟨v,r,rfl,p1,p2⟩:=p.inv
  unfold N0 at h
  split at h
  ·cases h
  ·rename_i e1 hb
   refine⟨v,r,rfl,h1 v σ H _ d env e1 F R p1 hb fun σ1 d1 l1 f1 R1=>?_⟩
   exact h2 r σ1 H _ ds e1 env' F R1 p2 h fun σ2 d2 l2 f2 R2=>q σ2 (d2.trans d1) (l2.trans l1) (f1.trans f2) R2
theorem a0t:∀{bs:List GF} {ds:List D} {e e':DE},N0 bs ds e=some e'→ds.length=bs.length
 | [],[],_,_,_=>rfl
 | [],_::_,_,_,h=>by cases h
 | _::_,[],_,_,h=>by cases h
 | b::bs,d::ds,e,e',h=>by
  unfold N0 at h
  split at h
  ·cases h
  ·simp[a0t h]
theorem a2i{t:O6}{bs:List GF}{n:Nat}(h:a2V K cl k t bs)(hn:bs.length=n):K8 K cl k (a4h K n t) (a1m bs):=by
 intro v σ H Q d env env' F R p e q
 unfold a1m at e
 split at e
 ·rename_i ds
  simp only[Rp]at p
  obtain⟨a,xs,rfl,hF,r⟩:=p
  exact⟨a,xs,rfl,.of (R.sub _ _ hF),by rw[← r.length,a0t e,hn],h xs σ H Q ds env env' F R r e q⟩
 ·cases e
def a2W(f:ZF)(b:GF):SF:=fun e=>z0 (f e) fun d e1=>match b d e1 with
 | none=>none
 | some e2=>some (.nx e2)
theorem a3S{t:TE}{g:TG}{f:ZF}{b:GF}(hf:i7 K cl E t f)(hg:K8 K cl k g b):RfS K cl E (T4 t g) (a2W f b):=by
 intro N σ H env F R h
 refine hf σ H _ env F R ((Cs.bnd h).mono fun x H1 ⟨F1,e1,d,fr,R1,p1,h1⟩=>?_)
 split at h1
 ·exact h1.elim
 ·rename_i e2 hb
  exact hg x σ H1 _ d e1 e2 F1 R1 p1 hb fun σ' _ _ f2 R2=>h1 σ' H1 F1 (fr.trans f2) R2
def l4(b:GF)(body:SF):List D→DE→Option RS
 | [],e=>some (.nx e)
 | d::ds,e=>match b d e with
  | none=>none
  | some e1=>match body e1 with
   | some (.nx e2)=>l4 b body ds e2
   | some (.ct e2)=>l4 b body ds e2
   | some (.bk e2)=>some (.nx e2)
   | r=>r
theorem a1n{b:GF}{body:SF}{g:TG}{tb:TS}{d:D}{x:V}{ds:List D}{e1:DE}{N:Ends}{σ1:St}{H1 F1:Hp}{Pv:St→Hp→Prop}(hb:RfS K cl E tb body)(hg:K8 K cl k g b)
  (f1:Frm σ H F env σ1 H1 F1 e1) (R1:Rel K cl σ1 H1 F1 e1) (p:Rp K cl F1 d x) (h:Cs K cl E (l4 b body (d::ds) e1) σ H F env N)
  (hP:∀σ' H' F' e',Frm σ H F env σ' H' F' e'→Rel K cl σ' H' F' e'→Cs K cl E (l4 b body ds e') σ H F env N→Pv σ' H') :
  g x σ1 H1 fun σ2 H2=>tb { N with nx:=Pv,ct:=Pv,bk:=N.nx } σ2 H2:=by
 unfold l4 at h
 split at h
 ·exact h.elim
 ·rename_i e2 hbd
  refine hg x σ1 H1 _ d e1 e2 F1 R1 p hbd fun σ2 _ _ f2 R2=>?_
  refine hb _ σ2 H1 e2 F1 R2 ?_
  split at h
  ·rename_i e3 q;rw[q]
   exact fun σ' H' F' f3 R3=>hP σ' H' F' e3 ((f1.trans f2).trans f3) R3 h
  ·rename_i e3 q;rw[q]
   exact fun σ' H' F' f3 R3=>hP σ' H' F' e3 ((f1.trans f2).trans f3) R3 h
  ·rename_i e3 q;rw[q]
   exact fun σ' H' F' f3 R3=>h σ' H' F' ((f1.trans f2).trans f3) R3
  ·rename_i n1 n2 n3
   have h2:=h.from (f1.trans f2)
   unfold Cs at h2 ⊢
   split at h2
   ·exact h2
   ·rename_i e q;exact absurd q (n1 e)
   ·rename_i e q;exact absurd q (n3 e)
   ·rename_i e q;exact absurd q (n2 e)
   ·exact h2
   ·exact h2
   ·exact h2
   ·exact h2
theorem Q9{α:Type}{l:List α}{i:Nat}{x:α}(h:l[i]? = some x):l.drop i=x::l.drop (i+1):=by
 obtain⟨hi,e⟩:=List.getElem?_eq_some_iff.mp h
 rw[← e];exact List.drop_eq_getElem_cons hi
theorem a2X{b:GF}{body:SF}{g:TG}{tb:TS}{ds:List D}{xs:List V}{a:Addr}{N:Ends}(hb:RfS K cl E tb body)(hg:K8 K cl k g b)(R:Rel K cl σ H F env)
  (hl:∀σ' H' F' e',Frm σ H F env σ' H' F' e'→Rel K cl σ' H' F' e'→SqL K H' a xs) (r:Rps K cl F ds xs) (h:Cs K cl E (l4 b body ds env) σ H F env N) :
  ∃W:Nat→Nat→St→Hp→Prop,(∃m,W 0 m σ H)∧∀i m σ H,W i m σ H →
   ((S6 K a).stop i H∧N.nx σ H)∨((S6 K a).go i H∧∃M:St→Hp→Prop,(∀σ' H',M σ' H'→∃m',m'<m∧W (i+1) m' σ' H')∧∀x H',(S6 K a).yld i H x H'→g x σ H' fun σ2 H2=>tb { N with nx:=M,ct:=M,bk:=N.nx } σ2 H2):=by
 refine a4j (xs:=xs) (fun i σ' H'=>∃F' e',Frm σ H F env σ' H' F' e'∧Rel K cl σ' H' F' e'∧Cs K cl E (l4 b body (ds.drop i) e') σ H F env N) ⟨F,env,Frm.refl,R,h⟩ (fun i σ' H' _ ⟨F',e',f,R',_⟩=>hl σ' H' F' e' f R') (fun i x σ' H' hx ⟨F',e',f,R',h'⟩=>?_) (fun σ' H' ⟨F',e',f,R',h'⟩=>?_)
 ·obtain⟨d,hd,p⟩:=r.get' hx
  rw[Q9 hd]at h'
  exact a1n hb hg f R' (Rp.mono f.fz _ _ p) h' fun σ2 H2 F2 e2 f2 R2 h2=>⟨F2,e2,f2,R2,h2⟩
 ·rw[← r.length,List.drop_length]at h'
  exact h' σ' H' F' f R'
def seqL:D→Option (List D)
 | .lst ds=>some ds
 | .scr ns=>some (ns.map .int)
 | _=>none
theorem Rp.seqL{d:D}{ds:List D}{v:V}(p:Rp K cl F d v)(s:L2.seqL d=some ds):∃a xs,v=.ref a∧Rps K cl F ds xs∧∀H',Same F H'→SqL K H' a xs:=by
 unfold L2.seqL at s
 split at s
 ·cases s;simp only[Rp]at p
  obtain⟨a,xs,e,h,r⟩:=p
  exact⟨a,xs,e,r,fun H' g=>.of (g _ _ h)⟩
 ·cases s;simp only[Rp]at p
  obtain⟨a,e,h⟩:=p
  exact⟨a,_,e,Rps.ofInts,fun H' g=>(h.same g).seq⟩
 ·cases s
def Z7(f:ZF)(b:GF)(body:SF):SF:=fun e=>z0 (f e) fun d e1=>match seqL d with
 | none=>none
 | some ds=>l4 b body ds e1
theorem a8i{t:TE}{g:TG}{tb:TS}{f:ZF}{b:GF}{body:SF}(hf:i7 K cl E t f)(hg:K8 K cl k g b)(hb:RfS K cl E tb body):RfS K cl E (a2x (a0J K t) g tb) (Z7 f b body):=by
 intro N σ H env F R h
 refine hf σ H _ env F R ((Cs.bnd h).mono fun x H1 ⟨F1,e1,d,fr,R1,p1,h1⟩=>?_)
 split at h1
 ·exact h1.elim
 ·rename_i ds hs
  obtain⟨a,xs,rfl,r,hl⟩:=Rp.seqL p1 hs
  exact⟨a,rfl,⟨xs,hl H1 R1.sub⟩,a2X hb hg R1 (fun σ' H' F' e' f2 R2=>hl H' (f2.fz.trans R2.sub)) r (h1.from fr)⟩
def C9(lo:Int)(n:Nat):List D:=(List.range n).map fun(i:Nat)=>.int (lo+(i:Int))
theorem a3T{lo:Int}{n i:Nat}(h:i<n):(C9 lo n).drop i=.int (lo+i)::(C9 lo n).drop (i+1):=Q9 (by unfold C9;rw[List.getElem?_map,List.getElem?_range h];rfl)
theorem a4R{lo:Int}{n:Nat}:(C9 lo n).length=n:=by unfold C9;rw[List.length_map,List.length_range]
theorem a9y{b:GF}{body:SF}{g:TG}{tb:TS}{lo:Int}{n:Nat}{N:Ends}(hb:RfS K cl E tb body)(hg:K8 K cl k g b)(R:Rel K cl σ H F env)(h:Cs K cl E (l4 b body (C9 lo n) env) σ H F env N) :
  ∃W:Nat→Nat→St→Hp→Prop,(∃m,W 0 m σ H)∧∀i m σ H,W i m σ H →
   ((V7 lo n).stop i H∧N.nx σ H)∨((V7 lo n).go i H∧∃M:St→Hp→Prop,(∀σ' H',M σ' H'→∃m',m'<m∧W (i+1) m' σ' H')∧∀x H',(V7 lo n).yld i H x H'→g x σ H' fun σ2 H2=>tb { N with nx:=M,ct:=M,bk:=N.nx } σ2 H2):=by
 refine a3m (fun i σ' H'=>∃F' e',Frm σ H F env σ' H' F' e'∧Rel K cl σ' H' F' e'∧Cs K cl E (l4 b body ((C9 lo n).drop i) e') σ H F env N) ⟨F,env,Frm.refl,R,h⟩ (fun i σ' H' hx ⟨F',e',f,R',h'⟩=>?_) (fun σ' H' ⟨F',e',f,R',h'⟩=>?_)
 ·rw[a3T hx]at h'
  exact a1n hb hg f R' (by simp only[Rp]) h' fun σ2 H2 F2 e2 f2 R2 h2=>⟨F2,e2,f2,R2,h2⟩
 ·rw[show(C9 lo n).drop n=[]from List.drop_eq_nil_of_le (by rw[a4R];exact Nat.le_refl _)]at h'
  exact h' σ' H' F' f R'
def V0(ds:List D):Option (Int×Nat):=match ds with
 | [.int j]=>if -(2 ^ 62)≤j∧j<2 ^ 62 then some (0,j.toNat)else none
 | _=>none
theorem a6k{ds:List D}{vs:List V}{lo:Int}{n:Nat}(h:V0 ds=some (lo,n))(p:Rps K cl F ds vs):∃j:Int,vs=[.int j]∧-(2 ^ 62)≤j∧j<2 ^ 62∧lo=0∧n=j.toNat:=by
 unfold V0 at h
 split at h
 ·rename_i j
  split at h
  ·rename_i c;cases h
   exact⟨j,(Rps.ints (ns:=[j]) p),c.1,c.2,rfl,rfl⟩
  ·cases h
 ·cases h
def S3(rg:List D→Option (Int×Nat))(f:AF)(b:GF)(body:SF):SF:=fun e=>z0 (f e) fun ds e1=>match rg ds with
 | none=>none
 | some (lo,n)=>l4 b body (C9 lo n) e1
theorem a4S{t:TA}{g:TG}{tb:TS}{f:AF}{b:GF}{body:SF}(hf:K6 K cl E t f)(hg:K8 K cl k g b)(hb:RfS K cl E tb body):RfS K cl E (a2x (a5v t) g tb) (S3 V0 f b body):=by
 intro N σ H env F R h
 refine hf σ H _ env F R ((Cs.bnd h).mono fun x H1 ⟨F1,e1,ds,fr,R1,p1,h1⟩=>?_)
 split at h1
 ·exact h1.elim
 ·rename_i lo n hs
  obtain⟨j,e,c1,c2,rfl,rfl⟩:=a6k hs p1
  exact⟨j,e,c1,c2,a9y hb hg R1 (h1.from fr)⟩
end
section
variable {K:W.Frag}{cl:Str→Addr}{E:XK}{σ:St}{H F:Hp}{env:DE}{k:Nat}
def unhide(i:Nat)(ds:List D)(r:Option RS):Option RS:=match r with
 | some (.nx e)=>some (.nx (e.set i (.ow ds)))
 | some (.bk _)=>none
 | some (.ct _)=>none
 | r=>r
theorem Rel.hide{i:Nat}{ds:List D}(R:Rel K cl σ H F env)(h:env[i]? = some (.ow ds)):Rel K cl σ H F (env.set i (.hd ds)):=by
 have hi:i<env.length:=(List.getElem?_eq_some_iff.mp h).1
 have self:(env.set i (.hd ds))[i]? = some (.hd ds):=List.getElem?_set_self hi
 have oth:∀j,j≠i→(env.set i (.hd ds))[j]? = env[j]?:=fun j hj=>List.getElem?_set_ne (Ne.symm hj)
 have mui:∀(j:Nat) (fs:List D),(env.set i (.hd ds))[j]? = some (.ow fs)∨(env.set i (.hd ds))[j]? = some (.hd fs)→env[j]? = some (.ow fs)∨env[j]? = some (.hd fs):=fun j fs q=>by
  by_cases z:j=i
  ·subst z;rw[self]at q;rcases q with q | q<;>cases q;exact .inl h
  ·rw[oth j z]at q;exact q
 refine⟨R.sub,by rw[List.length_set];exact R.len,fun j d q=>?_,fun j fs q=>R.mu j fs (mui j fs q),fun j l b ⟨fs,q⟩ ⟨gs,q'⟩=>R.inj j l b ⟨fs,mui j fs q⟩ ⟨gs,mui l gs q'⟩⟩
 have z:j≠i:=fun z=>by subst z;rw[self]at q;cases q
 rw[oth j z]at q;exact R.fz j d q
theorem Ow.hide{i:Nat}{ds:List D}{a:Addr}(w:Ow σ (env.set i (.hd ds)) a):Ow σ env a:=by
 obtain⟨j,fs,q,e⟩:=w
 by_cases z:j=i
 ·subst z
  have hj:j<env.length:=by have:=(List.getElem?_eq_some_iff.mp q).1;rwa [List.length_set]at this
  rw[List.getElem?_set_self hj]at q;cases q
 ·rw[List.getElem?_set_ne (Ne.symm z)]at q;exact⟨j,fs,q,e⟩
theorem Rel.unhide{i:Nat}{ds:List D}(R:Rel K cl σ H F env)(h:env[i]? = some (.hd ds)):Rel K cl σ H F (env.set i (.ow ds)):=by
 have hi:i<env.length:=(List.getElem?_eq_some_iff.mp h).1
 have self:(env.set i (.ow ds))[i]? = some (.ow ds):=List.getElem?_set_self hi
 have oth:∀j,j≠i→(env.set i (.ow ds))[j]? = env[j]?:=fun j hj=>List.getElem?_set_ne (Ne.symm hj)
 have mui:∀(j:Nat) (fs:List D),(env.set i (.ow ds))[j]? = some (.ow fs)∨(env.set i (.ow ds))[j]? = some (.hd fs)→env[j]? = some (.ow fs)∨env[j]? = some (.hd fs):=fun j fs q=>by
  by_cases z:j=i
  ·subst z;rw[self]at q;rcases q with q | q<;>cases q;exact .inr h
  ·rw[oth j z]at q;exact q
 refine⟨R.sub,by rw[List.length_set];exact R.len,fun j d q=>?_,fun j fs q=>R.mu j fs (mui j fs q),fun j l b ⟨fs,q⟩ ⟨gs,q'⟩=>R.inj j l b ⟨fs,mui j fs q⟩ ⟨gs,mui l gs q'⟩⟩
 have z:j≠i:=fun z=>by subst z;rw[self]at q;cases q
 rw[oth j z]at q;exact R.fz j d q
theorem Cs.hide{i:Nat}{ds:List D}{r:Option RS}{N:Ends}(R:Rel K cl σ H F env)(h:env[i]? = some (.ow ds))(c:Cs K cl E (unhide i ds r) σ H F env N):Cs K cl E r σ H F (env.set i (.hd ds)) N:=by
 have hi:i<env.length:=(List.getElem?_eq_some_iff.mp h).1
 have self:(env.set i (.hd ds))[i]? = some (.hd ds):=List.getElem?_set_self hi
 have fx:∀{H' F'},FX σ H F (env.set i (.hd ds)) H' F'→FX σ H F env H' F':=fun x=>⟨x.fz,x.sub,fun a o h f w=>x.hid a o h f fun y=>w y.hide,x.dom⟩
 rcases r with _ | r
 ·exact c
 cases r with
 | nx e =>
  intro σ' H' F' f R'
  obtain⟨q,eσ⟩:=f.keep i ds self
  refine c σ' H' F' ⟨f.fz,fun a o ha fa w=>?_,fun j fs q'=>?_,f.dom⟩ (R'.unhide q)
  ·obtain⟨h1,f1,w1⟩:=f.hid a o ha fa fun y=>w y.hide
   refine⟨h1,f1,fun⟨j,fs,q2,e2⟩=>?_⟩
   by_cases z:j=i
   ·subst z
    rw[eσ]at e2
    exact w ⟨j,ds,h,e2⟩
   ·rw[List.getElem?_set_ne (Ne.symm z)]at q2
    exact w1 ⟨j,fs,q2,e2⟩
  ·have z:j≠i:=fun z=>by subst z;rw[h]at q';cases q'
   obtain⟨q2,e2⟩:=f.keep j fs (by rw[List.getElem?_set_ne (Ne.symm z)];exact q')
   exact⟨by rw[List.getElem?_set_ne (Ne.symm z)];exact q2,e2⟩
 | bk e=>exact c.elim
 | ct e=>exact c.elim
 | rt d=>exact fun v H' F' x p=>c v H' F' (fx x) p
 | ro es=>exact fun a xs H' F' x ha fa nw p=>c a xs H' F' (fx x) ha fa (fun o e=>(nw o e).hide) p
 | rz dss=>exact fun p as H' F' x hp ht fp rz=>c p as H' F' (fx x) hp ht fp (rz.imp fun a xs ha fa nw o e=>(nw o e).hide)
 | ex n=>exact fun H' F' x=>c H' F' (fx x)
def a0N(i:Nat)(b:GF)(body:SF):SF:=fun e=>match e[i]? with
 | some (.fz d)=>(match seqL d with
  | none=>none
  | some ds=>l4 b body ds e)
 | some (.ow ds)=>unhide i ds (l4 b body ds (e.set i (.hd ds)))
 | some (.hd ds)=>l4 b body ds e
 | _=>none
theorem Rel.hid_stays{i:Nat}{ds:List D}(R:Rel K cl σ H F env)(h:env[i]? = some (.hd ds)):∃a xs,σ[i]? = some (some (.ref a))∧Rps K cl F ds xs∧H a=some (.lst xs)∧∀σ' H' F' e',Frm σ H F env σ' H' F' e'→H' a=some (.lst xs):=by
 obtain⟨a,xs,e,hH,hF,r⟩:=R.mu i ds (.inr h)
 refine⟨a,xs,e,r,hH,fun σ' H' F' e' f=>(f.hid a _ hH hF fun⟨j,fs,q,e'⟩=>?_).1⟩
 have z:i=j:=R.inj i j a ⟨ds,.inr h⟩ ⟨fs,.inl q⟩ e e'
 subst z;rw[h]at q;cases q
theorem a6l{i:Nat}{g:TG}{tb:TS}{b:GF}{body:SF}(hg:K8 K cl k g b)(hb:RfS K cl E tb body):RfS K cl E (a2x (a0J K (u7 i)) g tb) (a0N i b body):=by
 intro N σ H env F R h
 unfold a0N at h
 split at h
 ·rename_i d q
  split at h
  ·exact h.elim
  ·rename_i ds hs
   obtain⟨v,e,p⟩:=R.fz i d q
   obtain⟨a,xs,rfl,r,hl⟩:=Rp.seqL p hs
   exact⟨_,e,a,rfl,⟨xs,hl H R.sub⟩,a2X hb hg R (fun σ' H' F' e' f2 R2=>hl H' (f2.fz.trans R2.sub)) r h⟩
 ·rename_i ds q
  have hi:i<env.length:=(List.getElem?_eq_some_iff.mp q).1
  have R':=R.hide q
  obtain⟨a,xs,e,r,hH,st⟩:=R'.hid_stays (i:=i) (ds:=ds) (List.getElem?_set_self hi)
  exact⟨_,e,a,rfl,⟨xs,.of hH⟩,a2X hb hg R' (fun σ' H' F' e' f2 R2=>.of (st σ' H' F' e' f2)) r (h.hide R q)⟩
 ·rename_i ds q
  obtain⟨a,xs,e,r,hH,st⟩:=R.hid_stays q
  exact⟨_,e,a,rfl,⟨xs,.of hH⟩,a2X hb hg R (fun σ' H' F' e' f2 R2=>.of (st σ' H' F' e' f2)) r h⟩
 ·exact h.elim
def Z8(e:DE):Bool:=e.all fun s=>match s with
 | .hd _=>false
 | _=>true
def a8j(n i:Nat)(exm:Str→Bool)(body suite:SF):SF:=fun e=>match body e with
 | some (.ex c)=>if(exm c && Z8 e)=true then(match suite ((List.replicate n Sl.no).set i (.fz (.exc c)))with
   | some (.nx e2)=>put i .no e2
   | some (.rt d)=>some (.rt d)
   | some (.ro ds)=>some (.ro ds)
   | _=>none)else none
 | r=>r
theorem Rel.drop{i:Nat}(R:Rel K cl σ H F env)(nh:∀ds,env[i]?≠some (.hd ds)):Rel K cl (σ.set i none) H F (env.set i .no)∧Frm σ H F env (σ.set i none) H F (env.set i .no):=by
 have key:∀(j:Nat) (s:Sl),(env.set i .no)[j]? = some s→s≠.no→j≠i∧env[j]? = some s:=fun j s q ns=>by
  by_cases z:j=i
  ·subst z
   have hj:j<env.length:=by have:=(List.getElem?_eq_some_iff.mp q).1;rwa [List.length_set]at this
   rw[List.getElem?_set_self hj]at q;cases q;exact absurd rfl ns
  ·rw[List.getElem?_set_ne (Ne.symm z)]at q;exact⟨z,q⟩
 have muk:∀j,Mu (env.set i .no) j→j≠i∧Mu env j:=fun j ⟨ds,q⟩=>by
  rcases q with q | q
  ·obtain⟨z,q⟩:=key j _ q (fun z=>by cases z);exact⟨z,ds,.inl q⟩
  ·obtain⟨z,q⟩:=key j _ q (fun z=>by cases z);exact⟨z,ds,.inr q⟩
 refine⟨⟨R.sub,by rw[List.length_set,List.length_set];exact R.len,fun j d q=>?_,fun j ds q=>?_,fun j l b hj hl e1 e2=>?_⟩,⟨Same.refl _,fun a o h f w=>⟨h,f,fun⟨j,ds,q,e⟩=>?_⟩,fun j ds q=>?_,fun _ h=>h⟩⟩
 ·obtain⟨z,q⟩:=key j _ q (fun z=>by cases z)
  obtain⟨v,e,p⟩:=R.fz j d q
  exact⟨v,by rw[List.getElem?_set_ne (Ne.symm z)];exact e,p⟩
 ·have:j≠i∧(env[j]? = some (.ow ds)∨env[j]? = some (.hd ds)):=by
   rcases q with q | q
   ·obtain⟨z,q⟩:=key j _ q (fun z=>by cases z);exact⟨z,.inl q⟩
   ·obtain⟨z,q⟩:=key j _ q (fun z=>by cases z);exact⟨z,.inr q⟩
  obtain⟨z,q⟩:=this
  obtain⟨a,xs,e,r⟩:=R.mu j ds q
  exact⟨a,xs,by rw[List.getElem?_set_ne (Ne.symm z)];exact e,r⟩
 ·obtain⟨zj,mj⟩:=muk j hj
  obtain⟨zl,ml⟩:=muk l hl
  rw[List.getElem?_set_ne (Ne.symm zj)]at e1
  rw[List.getElem?_set_ne (Ne.symm zl)]at e2
  exact R.inj j l b mj ml e1 e2
 ·obtain⟨z,q⟩:=key j _ q (fun z=>by cases z)
  rw[List.getElem?_set_ne (Ne.symm z)]at e
  exact w ⟨j,ds,q,e⟩
 ·have z:j≠i:=fun z=>by subst z;exact nh ds q
  rw[List.getElem?_set_ne (Ne.symm z),List.getElem?_set_ne (Ne.symm z)]
  exact⟨q,rfl⟩
end
section
variable {K:W.Frag}{cl:Str→Addr}{E:XK}{σ:St}{H F:Hp}{env:DE}{k:Nat}
def N4:Option Sl→Sl
 | some (.fz d)=>.fz d
 | some (.ow ds)=>.hd ds
 | some (.hd ds)=>.hd ds
 | _=>.no
def i5(k:Nat)(js:List Nat)(e:DE):DE:=List.replicate k .no++js.map fun j=>N4 e[j]?
def i3(b:GF)(c:BF)(el:ZF)(ec:DE)(eo:DE):List D→List D→Option (R (List D))
 | [],acc=>some (.ok acc eo)
 | d::ds,acc=>match b d ec with
  | none=>none
  | some e1=>bnd (c e1) fun t e2=>if t=true then bnd (el e2) fun y _=>if acc.length<sizeLine then i3 b c el ec eo ds (acc++[y])else none
   else i3 b c el ec eo ds acc
theorem J5{js:List Nat}{e:DE}{i:Nat}{s:Sl}(h:(i5 k js e)[i]? = some s)(n:s≠.no):k≤i∧∃j,js[i-k]? = some j∧N4 e[j]? = s:=by
 unfold i5 at h
 by_cases z:i<k
 ·rw[List.getElem?_append_left (by rw[List.length_replicate];exact z),List.getElem?_replicate,if_pos z]at h
  cases h;exact absurd rfl n
 ·rw[List.getElem?_append_right (by rw[List.length_replicate];omega),List.length_replicate,List.getElem?_map]at h
  cases q:js[i-k]? with
  | none=>rw[q]at h;cases h
  | some j=>rw[q]at h;cases h;exact⟨by omega,j,rfl,rfl⟩
theorem E3{js:List Nat}{i j:Nat}{v:V}(hk:k≤i)(hj:js[i-k]? = some j)(h:σ[j]? = some (some v)):(g8 k js σ)[i]? = some (some v):=by
 unfold g8
 rw[List.getElem?_append_right (by rw[List.length_replicate];exact hk),List.length_replicate,List.getElem?_map,hj]
 simp[h]
theorem Rel.comp{js:List Nat}(R:Rel K cl σ H F env)(nd:js.Nodup):Rel K cl (g8 k js σ) H F (i5 k js env):=by
 have cap:∀{j:Nat} {ds:List D},N4 env[j]? = .hd ds→env[j]? = some (.ow ds)∨env[j]? = some (.hd ds):=fun{j ds} h=>by
  unfold N4 at h
  split at h
  ·cases h
  ·rename_i q;cases h;exact .inl q
  ·rename_i q;cases h;exact .inr q
  ·cases h
 have noow:∀{j:Nat} {ds:List D},N4 env[j]?≠.ow ds:=fun{j ds} h=>by
  unfold N4 at h
  split at h<;>cases h
 have mu':∀(i:Nat) (ds:List D),((i5 k js env)[i]? = some (.ow ds)∨(i5 k js env)[i]? = some (.hd ds))→k≤i∧∃j,js[i-k]? = some j∧(env[j]? = some (.ow ds)∨env[j]? = some (.hd ds)):=fun i ds q=>by
  rcases q with q | q
  ·obtain⟨hk,j,hj,c⟩:=J5 q (fun z=>by cases z);exact absurd c noow
  ·obtain⟨hk,j,hj,c⟩:=J5 q (fun z=>by cases z);exact⟨hk,j,hj,cap c⟩
 refine⟨R.sub,?_,fun i d q=>?_,fun i ds q=>?_,fun i l b ⟨ds,q⟩ ⟨es,q'⟩ e1 e2=>?_⟩
 ·unfold g8 i5
  rw[List.length_append,List.length_append,List.length_replicate,List.length_replicate,List.length_map,List.length_map]
 ·obtain⟨hk,j,hj,c⟩:=J5 q (fun z=>by cases z)
  have:env[j]? = some (.fz d):=by
   unfold N4 at c
   split at c
   ·rename_i q;cases c;exact q
   all_goals cases c
  obtain⟨v,e,p⟩:=R.fz j d this
  exact⟨v,E3 hk hj e,p⟩
 ·obtain⟨hk,j,hj,c⟩:=mu' i ds q
  obtain⟨a,xs,e,r⟩:=R.mu j ds c
  exact⟨a,xs,E3 hk hj e,r⟩
 ·obtain⟨hk,j,hj,c⟩:=mu' i ds q
  obtain⟨hl,m,hm,c'⟩:=mu' l es q'
  obtain⟨a,xs,e,_⟩:=R.mu j ds c
  obtain⟨a',xs',e',_⟩:=R.mu m es c'
  have h1:=E3 (k:=k) hk hj e
  have h2:=E3 (k:=k) hl hm e'
  rw[e1]at h1;cases h1
  rw[e2]at h2;cases h2
  have jm:j=m:=R.inj j m b ⟨ds,c⟩ ⟨es,c'⟩ e e'
  subst jm
  obtain⟨hi',ei⟩:=List.getElem?_eq_some_iff.mp hj
  obtain⟨hl',el⟩:=List.getElem?_eq_some_iff.mp hm
  have:i-k=l-k:=(List.getElem_inj nd).mp (ei.trans el.symm)
  omega
def NoOw(e:DE):Prop:=∀(i:Nat) (ds:List D),e[i]?≠some (.ow ds)
theorem a3U{js:List Nat}{e:DE}:NoOw (i5 k js e):=fun i ds q=>by
 obtain⟨hk,j,hj,c⟩:=J5 q (fun z=>by cases z)
 unfold N4 at c
 split at c<;>cases c
theorem NoOw.not{e:DE}(n:NoOw e){σ:St}{a:Addr}:¬Ow σ e a:=fun⟨i,ds,q,_⟩=>n i ds q
theorem Frm.gr{σ':St}{H' F':Hp}{env':DE}(f:Frm σ H F env σ' H' F' env')(n:NoOw env)(s:Same F' H'):Gr H F H' F':=⟨f.fz,s,fun a o h g=>by obtain⟨h1,f1,_⟩:=f.hid a o h g n.not;exact⟨h1,f1⟩⟩
theorem FX.gr{H' F':Hp}(f:FX σ H F env H' F')(n:NoOw env):Gr H F H' F':=⟨f.fz,f.sub,fun a o h g=>f.hid a o h g n.not⟩
structure Grow(K:W.Frag)(cl:Str→Addr)(σ:St)(H0 F0:Hp)(env:DE)(B:Addr)(acc:List D)(ys:List V)(H F:Hp):Prop where
 rel:Rel K cl σ H F env
 frm:Frm σ H0 F0 env σ H F env
 new:H0 B=none
 at_:H B=some (.lst ys)
 un:F B=none
 far:∀j,Mu env j→σ[j]?≠some (some (.ref B))
 rps:Rps K cl F acc ys
 stay:∀a o,H0 a=some o→F0 a=none→H a=some o∧F a=none
theorem Grow.start{B:Addr}(R:Rel K cl σ H F env)(hB:H B=none):Grow K cl σ H F env B [] [] (upd H B (.lst [])) F:=by
 obtain⟨R',f⟩:=R.newN (o:=.lst []) hB
 refine⟨R',f,hB,c7,R.sub.free hB,fun j ⟨ds,q⟩ e=>?_,.nil,fun a o h f=>⟨by rw[a8 (fun z=>by rw[z,hB]at h;cases h)];exact h,f⟩⟩
 obtain⟨a,ys,e1,hH,_⟩:=R.mu j ds q
 rw[e]at e1;cases e1
 rw[hB]at hH;cases hH
theorem Grow.gr{B:Addr}{acc:List D}{ys:List V}{H0 F0 H' F':Hp}(g:Grow K cl σ H0 F0 env B acc ys H F)(r:Gr H F H' F'):Grow K cl σ H0 F0 env B acc ys H' F' :=
 ⟨g.rel.gr r,g.frm.trans (g.rel.frm r),g.new,(r.hid B _ g.at_ g.un).1,(r.hid B _ g.at_ g.un).2,g.far,g.rps.mono r.fz,fun a o h f=>by obtain⟨h1,f1⟩:=g.stay a o h f;exact r.hid a o h1 f1⟩
theorem Grow.push{B:Addr}{acc:List D}{ys:List V}{H0 F0:Hp}{d:D}{y:V}(g:Grow K cl σ H0 F0 env B acc ys H F)(p:Rp K cl F d y):Grow K cl σ H0 F0 env B (acc++[d]) (ys++[y]) (upd H B (.lst (ys++[y]))) F:=by
 have ne:∀a o,F a=some o→a≠B:=fun a o h z=>by rw[z,g.un]at h;cases h
 refine⟨⟨fun a o h=>by rw[a8 (ne a o h)];exact g.rel.sub _ _ h,g.rel.len,g.rel.fz,fun j ds q=>?_,g.rel.inj⟩,⟨g.frm.fz,fun a o h f w=>?_,g.frm.keep,fun a h=>?_⟩,g.new,c7,g.un,g.far,g.rps.append (.one p),fun a o h f=>by rw[a8 (fun z=>by rw[z,g.new]at h;cases h)];exact g.stay a o h f⟩
 ·obtain⟨a,xs,e,hH,r⟩:=g.rel.mu j ds q
  have z:a≠B:=fun z=>g.far j ⟨ds,q⟩ (by rw[e,z])
  exact⟨a,xs,e,by rw[a8 z];exact hH,r⟩
 ·have z:a≠B:=fun z=>by rw[z,g.new]at h;cases h
  rw[a8 z];exact g.frm.hid a o h f w
 ·by_cases z:a=B
  ·rw[z,c7]at h;cases h
  ·rw[a8 z]at h;exact g.frm.dom a h
theorem a3V{b:GF}{c:BF}{el:ZF}{g:TG}{tf:TT}{te:TE}{js:List Nat}{B:Addr}{d:D}{x:V}{ds acc:List D}{ys:List V}{H0 F0:Hp}{Q:VK}{Pv:List V→Hp→Prop}(nd:js.Nodup)
  (hg:K8 K cl k g b) (hc:D3 K cl E tf c) (he:i7 K cl E te el) (gw:Grow K cl σ H0 F0 env B acc ys H F) (p:Rp K cl F d x)
  (h:Ct K cl E (PN K cl) (i3 b c el (i5 k js env) env (d::ds) acc) σ H0 F0 env Q)
  (hP:∀acc' ys' H' F',Grow K cl σ H0 F0 env B acc' ys' H' F'→Ct K cl E (PN K cl) (i3 b c el (i5 k js env) env ds acc') σ H0 F0 env Q→Pv ys' H') :
  g x (g8 k js σ) H fun σ2 H2=>(σ2.drop k=(g8 k js σ).drop k∧σ2.length=(g8 k js σ).length)∧tf σ2 H2 fun t H3 =>
   if t=true then te σ2 H3 fun y H4=>H4 B=some (.lst ys)∧ys.length<sizeLine∧Pv (ys++[y]) (upd H4 B (.lst (ys++[y])))else Pv ys H3:=by
 unfold i3 at h
 have Rc:Rel K cl (g8 k js σ) H F (i5 k js env):=gw.rel.comp nd
 split at h
 ·exact h.elim
 ·rename_i e1 hb
  refine hg x _ H _ d _ e1 F Rc p hb fun σ2 d2 l2 f2 R2=>⟨⟨d2,l2⟩,?_⟩
  have n1:NoOw (i5 k js env):=a3U
  -- ways out by an exception
  have exc:∀{H' F':Hp} {σ':St} {e':DE} {H'' F'':Hp} {n:Str},Frm (g8 k js σ) H F (i5 k js env) σ' H' F' e'→FX σ' H' F' e' H'' F''→(∀H' F',FX σ H0 F0 env H' F'→E (.ref (cl n)) none H')→E (.ref (cl n)) none H'':=fun{H' F' σ' e' H'' F'' n} f fx q=>by
   have gr:Gr H F H'' F'':=(f.fx fx).gr n1
   exact q _ _ (gw.frm.fx gr.fx)
  refine hc σ2 H _ e1 F R2 ?_
  cases hce:c e1 with
  | none=>rw[hce]at h;exact h.elim
  | some rc =>
   rw[hce]at h
   cases rc with
   | ex n=>exact fun H' F' fx=>exc f2 fx h
   | ok t e2 =>
    intro t' H3 F3 f3 R3 ht
    have ht:t'=t:=ht
    subst ht
    have h:Ct K cl E (PN K cl) (if t'=true then bnd (el e2) fun y _=>if acc.length<sizeLine then i3 b c el (i5 k js env) env ds (acc++[y])else none else i3 b c el (i5 k js env) env ds acc) σ H0 F0 env Q:=h
    have gr3:Gr H F H3 F3:=(f2.trans f3).gr n1 R3.sub
    by_cases z:t'=true
    ·rw[if_pos z]at h ⊢
     refine he σ2 H3 _ e2 F3 R3 ?_
     cases hel:el e2 with
     | none=>rw[hel]at h;exact h.elim
     | some re =>
      rw[hel]at h
      cases re with
      | ex n=>exact fun H' F' fx=>exc (f2.trans f3) fx h
      | ok y e3 =>
       intro v H4 F4 f4 R4 hv
       have h:Ct K cl E (PN K cl) (if acc.length<sizeLine then i3 b c el (i5 k js env) env ds (acc++[y])else none) σ H0 F0 env Q:=h
       split at h
       ·rename_i hlen
        have gr4:Gr H F H4 F4:=((f2.trans f3).trans f4).gr n1 R4.sub
        have gw4:=gw.gr gr4
        exact⟨gw4.at_,by rw[← gw4.rps.length];exact hlen,hP _ _ _ _ (gw4.push hv) h⟩
       ·exact h.elim
    ·rw[if_neg z]at h ⊢
     exact hP _ _ _ _ (gw.gr gr3) h
theorem a4T{b:GF}{c:BF}{el:ZF}{js:List Nat}{B:Addr}{acc:List D}{ys:List V}{H0 F0:Hp}{Q:VK}(gw:Grow K cl σ H0 F0 env B acc ys H F)(h:Ct K cl E (PN K cl) (i3 b c el (i5 k js env) env [] acc) σ H0 F0 env Q):Q (.ref B) H :=
 h _ H F gw.frm gw.rel ⟨B,ys,rfl,gw.new,gw.at_,gw.un,gw.far,gw.rps⟩
theorem a2Y{b:GF}{c:BF}{el:ZF}{g:TG}{tf:TT}{te:TE}{js:List Nat}{ds:List D}{xs:List V}{a B:Addr}{Q:VK}(nd:js.Nodup)(hg:K8 K cl k g b)(hc:D3 K cl E tf c)(he:i7 K cl E te el)(R:Rel K cl σ H F env)(hB:H B=none)
  (hl:∀H' F',Same F F'→Same F' H'→(∀a o,H a=some o→F a=none→H' a=some o∧F' a=none)→SqL K H' a xs) (r:Rps K cl F ds xs) (h:Ct K cl E (PN K cl) (i3 b c el (i5 k js env) env ds []) σ H F env Q) :
  P6 (S6 K a) g tf te k (g8 k js σ) B (fun H'=>Q (.ref B) H') H:=by
 refine a3u (xs:=xs) (fun i ys H'=>∃F' acc,Grow K cl σ H F env B acc ys H' F'∧Ct K cl E (PN K cl) (i3 b c el (i5 k js env) env (ds.drop i) acc) σ H F env Q) ⟨F,[],.start R hB,h⟩ (fun i ys H' _ ⟨F',acc,gw,_⟩=>hl H' F' gw.frm.fz gw.rel.sub gw.stay) (fun i x ys H' hx ⟨F',acc,gw,h'⟩=>?_) (fun ys H' ⟨F',acc,gw,h'⟩=>?_)
 ·obtain⟨d,hd,p⟩:=r.get' hx
  rw[Q9 hd]at h'
  exact a3V (Pv:=fun ys' H2=>∃F' acc,Grow K cl σ H F env B acc ys' H2 F'∧Ct K cl E (PN K cl) (i3 b c el (i5 k js env) env (ds.drop (i+1)) acc) σ H F env Q) nd hg hc he gw (Rp.mono gw.frm.fz _ _ p) h' fun acc' ys' H2 F2 gw2 h2=>⟨F2,acc',gw2,h2⟩
 ·rw[← r.length,List.drop_length]at h'
  exact a4T gw h'
def p9:BF:=fun e=>some (.ok true e)
theorem G3:D3 K cl E a5E p9:=fun σ H Q env F R h=>h true H F Frm.refl R rfl
def r9(i:Nat)(k:Nat)(js:List Nat)(b:GF)(c:BF)(el:ZF):NF:=fun e=>match look e i with
 | some d=>(match seqL d with
  | none=>none
  | some ds=>i3 b c el (i5 k js e) e ds [])
 | none=>none
theorem G4{i:Nat}{g:TG}{tf:TT}{te:TE}{js:List Nat}{b:GF}{c:BF}{el:ZF}(nd:js.Nodup)(hg:K8 K cl k g b)(hc:D3 K cl E tf c)(he:i7 K cl E te el):K5 K cl E (a2F (a0J K (u7 i)) g tf te k js) (r9 i k js b c el):=by
 intro σ H Q env F R h
 unfold r9 look at h
 cases q:env[i]? with
 | none=>rw[q]at h;exact h.elim
 | some s =>
  rw[q]at h
  cases s with
  | no=>exact h.elim
  | fz d =>
   have h:Ct K cl E (PN K cl) (match seqL d with
    | none=>none
    | some ds=>i3 b c el (i5 k js env) env ds []) σ H F env Q:=h
   split at h
   ·exact h.elim
   ·rename_i ds hs
    obtain⟨v,e,p⟩:=R.fz i d q
    obtain⟨a,xs,rfl,r,hl⟩:=Rp.seqL p hs
    exact⟨_,e,a,rfl,⟨xs,hl H R.sub⟩,fun B hB=>a2Y nd hg hc he R hB (fun H' F' f2 s2 _=>hl H' (f2.trans s2)) r h⟩
  | ow ds =>
   have h:Ct K cl E (PN K cl) (i3 b c el (i5 k js env) env ds []) σ H F env Q:=h
   obtain⟨a,xs,e,hH,hF,r⟩:=R.mu i ds (.inl q)
   exact⟨_,e,a,rfl,⟨xs,.of hH⟩,fun B hB=>a2Y nd hg hc he R hB (fun H' F' _ _ st=>.of (st a _ hH hF).1) r h⟩
  | hd ds =>
   have h:Ct K cl E (PN K cl) (i3 b c el (i5 k js env) env ds []) σ H F env Q:=h
   obtain⟨a,xs,e,hH,hF,r⟩:=R.mu i ds (.inr q)
   exact⟨_,e,a,rfl,⟨xs,.of hH⟩,fun B hB=>a2Y nd hg hc he R hB (fun H' F' _ _ st=>.of (st a _ hH hF).1) r h⟩
theorem a2Z{i:Nat}{wi:TI}{g:TG}{tf:TT}{te:TE}{js:List Nat}{f:NF}(h:K5 K cl E (a2F wi g tf te k js) f):RfS K cl E (a03 i wi g tf te k js) (n9 i f):=fun N σ H env F R q=>A3 h N σ H env F R q
end
def fD(n m:Nat)(body:SF)(ds:List D):Option R1:=if ds.length=m then(match body (ds.map .fz++List.replicate (n-ds.length) .no)with
 | some (.nx _)=>some (.ret .non)
 | some (.rt d)=>some (.ret d)
 | some (.ro es)=>some (.own es)
 | some (.rz dss)=>some (.owz dss)
 | some (.ex c)=>some (.ex c)
 | _=>none)else none
section
variable {P:Program}{w:World}{K:W.Frag}{mg:Str→Option Value}{base:Heap}{cl:Str→Addr}
theorem a3W{N:List Str}{vs:List V}{ds:List D}{H F:Hp}(s:Same F H)(p:Rps K cl F ds vs):Rel K cl (start N vs) H F (ds.map .fz++List.replicate (N.length-ds.length) .no)∧NoOw (ds.map .fz++List.replicate (N.length-ds.length) .no):=by
 have key:∀(i:Nat) (t:Sl),(ds.map Sl.fz++List.replicate (N.length-ds.length) .no)[i]? = some t→t≠.no→∃d,ds[i]? = some d∧t=.fz d:=fun i t q n=>by
  by_cases z:i<ds.length
  ·rw[List.getElem?_append_left (by rw[List.length_map];exact z),List.getElem?_map]at q
   cases hd:ds[i]? with
   | none=>rw[hd]at q;cases q
   | some d=>rw[hd]at q;cases q;exact⟨d,rfl,rfl⟩
  ·rw[List.getElem?_append_right (by rw[List.length_map];omega),List.getElem?_replicate]at q
   split at q
   ·cases q;exact absurd rfl n
   ·cases q
 have no:NoOw (ds.map .fz++List.replicate (N.length-ds.length) .no):=fun i es q=>by
  obtain⟨d,_,z⟩:=key i _ q (fun z=>by cases z);cases z
 refine⟨⟨s,?_,fun i d q=>?_,fun i es q=>?_,fun i j b ⟨es,q⟩ _ _ _=>?_⟩,no⟩
 ·unfold start
  rw[List.length_append,List.length_append,List.length_map,List.length_map,List.length_replicate,List.length_replicate,p.length]
 ·obtain⟨d',hd,z⟩:=key i _ q (fun z=>by cases z)
  cases z
  obtain⟨v,hv,r⟩:=p.get hd
  refine⟨v,?_,r⟩
  unfold start
  rw[List.getElem?_append_left (by rw[List.length_map];exact(List.getElem?_eq_some_iff.mp hv).1),List.getElem?_map,hv];rfl
 ·rcases q with q | q
  ·obtain⟨d,_,z⟩:=key i _ q (fun z=>by cases z);cases z
  ·obtain⟨d,_,z⟩:=key i _ q (fun z=>by cases z);cases z
 ·rcases q with q | q
  ·obtain⟨d,_,z⟩:=key i _ q (fun z=>by cases z);cases z
  ·obtain⟨d,_,z⟩:=key i _ q (fun z=>by cases z);cases z
theorem a2j{n m:Nat}{body:SF}{vs:List V}{H:Hp}{Q:VK}{E:XK}(h:i4 K cl (fD n m body) vs H Q E):vs.length=m:=by
 obtain⟨ds,F,s,p,h⟩:=h
 unfold fD at h
 by_cases z:ds.length=m
 ·rw[← p.length];exact z
 ·rw[if_neg z]at h;exact h.elim
theorem X9{N:List Str}{m:Nat}{body:SF}{t:TS}{vs:List V}{H:Hp}{Q:VK}{E:XK}(hb:RfS K cl E t body)(h:i4 K cl (fD N.length m body) vs H Q E):t { nx:=fun _ H'=>Q .non H',rt:=Q } (start N vs) H:=by
 obtain⟨ds,F,s,p,h⟩:=h
 obtain⟨R,no⟩:=a3W (N:=N) s p
 refine hb _ _ H _ F R ?_
 unfold fD at h
 by_cases z:ds.length=m
 ·rw[if_pos z]at h
  cases r:body (ds.map .fz++List.replicate (N.length-ds.length) .no)with
  | none=>rw[r]at h;exact h.elim
  | some rs =>
   rw[r]at h
   cases rs with
   | nx e=>exact fun σ' H' F' f R'=>h .non H' F' (f.gr no R'.sub) (by simp only[Rp])
   | rt d=>exact fun v H' F' x q=>h v H' F' (x.gr no) q
   | ro es =>
    refine fun a xs H' F' x ha fa nw q=>h a xs H' F' (x.gr no) ?_ ha fa q
    cases e:H a with
    | none=>rfl
    | some o=>exact absurd (nw o e) no.not
   | rz dss =>
    refine fun p as H' F' x hp ht fp rz=>h p as H' F' (x.gr no) hp ht fp (rz.imp fun a xs ha fa nw=>?_)
    cases e:H a with
    | none=>rfl
    | some o=>exact absurd (nw o e) no.not
   | bk e=>exact h.elim
   | ct e=>exact h.elim
   | ex c=>exact fun H' F' x=>h H' F' (x.gr no)
 ·rw[if_neg z]at h;exact h.elim
theorem Fun.okD{x qual:Str}{st:Stmt}{f:Addr}{fd:FuncData}{N ps:List Str}{k:Nat}{body:SF}(F:Fun K x qual st f fd)(S:FnScope N ps (a6 st))
  (hbody:∀(cdv:Value) (A:Around) (outer:List Env) (s:Shared) (H:Hp) (E:XK),Room k (A.deeper (envOfC qual (a6 st) s.heap.objs.size f cdv)) →
   ∃t,PSs (C2 (l7 P w) P w K mg base N qual (a6 st) f cdv A outer s H E) (g6 st) t∧RfS K cl E t body):FnOk P w K mg base (l7 P w) (k+1) f fd ps (i4 K cl (fD N.length ps.length body)) :=
 F.okE S (fun vs H Q E h=>a2j h) fun cdv A outer s H vs Q E hr h=>by
  obtain⟨t,h1,h2⟩:=hbody cdv A outer s H E hr
  exact⟨t,h1,X9 h2 h⟩
theorem FunD.okD{x qual:Str}{st:Stmt}{dT f:Addr}{fd:FuncData}{N ps:List Str}{k:Nat}{body:SF}(F:FunD K x qual st dT f fd)(S:FnScope N ps (a6 st))
  (hbody:∀(cdv:Value) (A:Around) (outer:List Env) (s:Shared) (H:Hp) (E:XK),Room k (A.deeper (envOfC qual (a6 st) s.heap.objs.size f cdv)) →
   ∃t,PSs (C2 (l7 P w) P w K mg base N qual (a6 st) f cdv A outer s H E) (g6 st) t∧RfS K cl E t body):FnOk P w K mg base (l7 P w) (k+1) f fd ps (i4 K cl (fD N.length ps.length body)) :=
 F.okE S (fun vs H Q E h=>a2j h) fun cdv A outer s H vs Q E hr h=>by
  obtain⟨t,h1,h2⟩:=hbody cdv A outer s H E hr
  exact⟨t,h1,X9 h2 h⟩
theorem a6m{g:List D→Option R1}{vs:List V}{H:Hp}{Q:VK}{E:XK}{a:Addr}{ns:List Int}(e:vs=[.ref a])(h:Scr K H a (ns.map V.int))(q:∀H',Q (.bl true) H')(m:g [.scr ns]=some (.ret (.bl true))):i4 K cl g vs H Q E:=by
 refine⟨[.scr ns],H,Same.refl _,?_,?_⟩
 ·rw[e];exact .one (by simp only[Rp];exact⟨a,rfl,h⟩)
 ·rw[m]
  intro v H' F' _ p
  have p:Rp K cl F' (.bl true) v:=p
  simp only[Rp]at p
  rw[p];exact q H'
def tyN:D→Option String
 | .non=>some "NoneType"
 | .bl _=>some "bool"
 | .int _=>some "int"
 | .str _=>some "str"
 | .lst _=>some "list"
 | .tup _=>some "tuple"
 | _=>none
theorem a6n{K:W.Frag}(t n:String)(ht:t∈["NoneType","bool","int","str","list","tuple"])(hn:n∈["bool","int","str","list","tuple"]):W.kitOne K (.type t) (.type n)=some (t == n || (t == "bool" && n == "int")):=by
 simp only[List.mem_cons,List.not_mem_nil,or_false]at ht hn
 rcases ht with rfl | rfl | rfl | rfl | rfl | rfl<;>rcases hn with rfl | rfl | rfl | rfl | rfl<;>first | rfl | with_unfolding_all rfl
def a9N:List D→Option D
 | [d,.ty n]=>match tyN d with
  | some t=>if n∈["bool","int","str","list","tuple"]then some (.bl (t == n || (t == "bool" && n == "int")))else none
  | none=>none
 | _=>none
theorem a6o{d:D}{t:String}(h:tyN d=some t):t∈["NoneType","bool","int","str","list","tuple"]:=by
 cases d<;>cases h<;>decide
theorem a8k{F H:Hp}{d:D}{t:String}{v:V}(s:Same F H)(p:Rp K cl F d v)(h:tyN d=some t):TyX K H v (.type t):=by
 cases d<;>cases h<;>simp only[Rp]at p
 ·subst p;exact .of .non
 ·subst p;exact .of (.bl _)
 ·subst p;exact .of (.int _)
 ·subst p;exact .of (.str _)
 ·obtain⟨a,xs,rfl,h,_⟩:=p;exact .of (.tup (s _ _ h))
 ·obtain⟨a,xs,rfl,h,_⟩:=p;exact .of (.lst (s _ _ h))
def a0O(n:String)(d:D):Option D:=match tyN d with
 | some t=>if n∈["bool","int","str","list","tuple"]then some (.bl (t == n || (t == "bool" && n == "int")))else none
 | none=>none
def N5(i:Nat)(n:String):ZF:=fun e=>match look e i with
 | some d=>J2 (a0O n d) e
 | none=>none
theorem Z9{E:XK}{i:Nat}{n:String}{t:TE}(ht:t=tC (.ty n):=by rfl):i7 K cl E (tCB (a4t K) (G8 (u7 i) (G8 t T5))) (N5 i n):=by
 subst ht
 intro σ H Q env F R h
 unfold N5 at h
 cases q:look env i with
 | none=>rw[q]at h;exact h.elim
 | some d =>
  rw[q]at h
  obtain⟨x,e,rb⟩:=R.look q
  refine⟨x,e,?_⟩
  cases hz:a0O n d with
  | none=>simp only[hz,M4]at h;exact h.elim
  | some z =>
   simp only[hz,M3]at h
   unfold a0O at hz
   split at hz
   ·rename_i t ht
    split at hz
    ·rename_i hn;cases hz
     refine⟨x,_,_,_,_,rfl,rfl,?_,a6n t n (a6o ht) hn,h _ H F Frm.refl R (by show Rp K cl F (.bl _) _;simp only[Rp])⟩
     rcases rb with p | ⟨a,xs,ds,rfl,rfl,hH,_⟩
     ·exact a8k R.sub p ht
     ·cases ht;exact .of (.lst hH)
    ·cases hz
   ·cases hz
end
section
variable {α β:Type}
def D0(r:Option RS)(k:SF):Option RS:=match r with
 | some (.nx e)=>k e
 | r=>r
theorem a6p{f k:SF}{e:DE}:b8 f k e=D0 (f e) k:=rfl
theorem a6q{e:DE}{k:SF}:D0 (some (.nx e)) k=k e:=rfl
theorem a6r{d:D}{k:SF}:D0 (some (.rt d)) k=some (.rt d):=rfl
theorem a6s{d:List D}{k:SF}:D0 (some (.ro d)) k=some (.ro d):=rfl
theorem a6t{d:Str}{k:SF}:D0 (some (.ex d)) k=some (.ex d):=rfl
theorem a6u{e:DE}{k:SF}:D0 (some (.bk e)) k=some (.bk e):=rfl
theorem a6v{e:DE}{k:SF}:D0 (some (.ct e)) k=some (.ct e):=rfl
theorem a6w{k:SF}:D0 none k=none:=rfl
theorem a4U{c:Prop} [Decidable c] {a b:Option RS} {k:SF}:D0 (if c then a else b) k=if c then D0 a k else D0 b k:=by split<;>rfl
theorem a6x{d:D}{e:DE}:toZ (some (.ret d)) e=some (.ok d e):=rfl
theorem a6y{d:List D}{e:DE}:toZ (some (.own d)) e=some (.ok (.lst d) e):=rfl
theorem a8l{d:Str}{e:DE}:toZ (some (.ex d)) e=some (.ex d):=rfl
theorem a4V{d:D}{e:DE}:M8 (some (.ret d)) e=some (.ok d e):=rfl
theorem a4W{d:List D}{e:DE}:M8 (some (.own d)) e=some (.ok (.lst d) e):=rfl
theorem a3Y{i:Nat}{d:D}{e:DE}:X4 i (some (.ret d)) e=put i (.fz d) e:=rfl
theorem a3Z{i:Nat}{d:List D}{e:DE}:X4 i (some (.own d)) e=put i (.ow d) e:=rfl
theorem a4X{i:Nat}{d:Str}{e:DE}:X4 i (some (.ex d)) e=some (.ex d):=rfl
theorem a20{i:Nat}{d:D}{e:DE}:X5 i (some (.ret d)) e=put i (.fz d) e:=rfl
theorem a21{i:Nat}{d:List D}{e:DE}:X5 i (some (.own d)) e=put i (.ow d) e:=rfl
theorem a30{d:D}:a0L (some (.ret d))=some (.rt d):=rfl
theorem a31{d:List D}:a0L (some (.own d))=some (.ro d):=rfl
theorem a4Y{d:Str}:a0L (some (.ex d))=some (.ex d):=rfl
theorem a22{d:D}:a3P (some (.ret d))=some (.rt d):=rfl
theorem a23{d:List D}:a3P (some (.own d))=some (.ro d):=rfl
def N6(r:Option RS):Option R1:=match r with
 | some (.nx _)=>some (.ret .non)
 | some (.rt d)=>some (.ret d)
 | some (.ro es)=>some (.own es)
 | some (.rz dss)=>some (.owz dss)
 | some (.ex c)=>some (.ex c)
 | _=>none
theorem a80{n m:Nat}{body:SF}{ds:List D}(h:ds.length=m):fD n m body ds=N6 (body (ds.map .fz++List.replicate (n-m) .no)):=by
 unfold fD;rw[if_pos h,h];rfl
theorem a6z{e:DE}:N6 (some (.nx e))=some (.ret .non):=rfl
theorem a6A{d:D}:N6 (some (.rt d))=some (.ret d):=rfl
theorem a6B{d:List (List D)}:N6 (some (.rz d))=some (.owz d):=rfl
theorem a6C{d:List (List D)}{k:SF}:D0 (some (.rz d)) k=some (.rz d):=rfl
theorem a32{d:List (List D)}:a0L (some (.owz d))=some (.rz d):=rfl
theorem a6D{d:List D}:N6 (some (.ro d))=some (.own d):=rfl
theorem a6E{d:Str}:N6 (some (.ex d))=some (.ex d):=rfl
theorem a4Z{c:Prop} [Decidable c] {a b:Option RS}:N6 (if c then a else b)=if c then N6 a else N6 b:=by split<;>rfl
def G5(r:Option RS)(k:SF):Option RS:=match r with
 | some (.nx e)=>k e
 | some (.ct e)=>k e
 | some (.bk e)=>some (.nx e)
 | r=>r
theorem S4{e:DE}{k:SF}:G5 (some (.nx e)) k=k e:=rfl
theorem a6F{e:DE}{k:SF}:G5 (some (.ct e)) k=k e:=rfl
theorem a6G{e:DE}{k:SF}:G5 (some (.bk e)) k=some (.nx e):=rfl
theorem a6H{d:D}{k:SF}:G5 (some (.rt d)) k=some (.rt d):=rfl
theorem a6I{d:List (List D)}{k:SF}:G5 (some (.rz d)) k=some (.rz d):=rfl
theorem a6J{d:List D}{k:SF}:G5 (some (.ro d)) k=some (.ro d):=rfl
theorem a6K{d:Str}{k:SF}:G5 (some (.ex d)) k=some (.ex d):=rfl
theorem V1{b:GF}{body:SF}{e:DE}:l4 b body [] e=some (.nx e):=rfl
def a24(x:Option DE)(k:SF):Option RS:=match x with
 | none=>none
 | some e=>k e
theorem C1{b:GF}{body:SF}{d:D}{ds:List D}{e:DE}:l4 b body (d::ds) e=a24 (b d e) fun e1=>G5 (body e1) (l4 b body ds):=by
 rw[l4];cases b d e<;>rfl
theorem w9{e:DE}{k:SF}:a24 (some e) k=k e:=rfl
def a1o(n i:Nat)(exm:Str→Bool)(suite:SF)(e:DE)(r:Option RS):Option RS:=match r with
 | some (.ex c)=>if(exm c && Z8 e)=true then(match suite ((List.replicate n Sl.no).set i (.fz (.exc c)))with
   | some (.nx e2)=>put i .no e2
   | some (.rt d)=>some (.rt d)
   | some (.ro ds)=>some (.ro ds)
   | _=>none)else none
 | r=>r
theorem a33{n i:Nat}{exm:Str→Bool}{body suite:SF}{e:DE}:a8j n i exm body suite e=a1o n i exm suite e (body e):=rfl
def a25(i:Nat)(r:Option RS):Option RS:=match r with
 | some (.nx e2)=>put i .no e2
 | some (.rt d)=>some (.rt d)
 | some (.ro ds)=>some (.ro ds)
 | _=>none
theorem a6L{i:Nat}{e:DE}:a25 i (some (.nx e))=put i .no e:=rfl
theorem a6M{i:Nat}{d:D}:a25 i (some (.rt d))=some (.rt d):=rfl
theorem a6N{i:Nat}{d:List D}:a25 i (some (.ro d))=some (.ro d):=rfl
theorem a6O{n i:Nat}{exm:Str→Bool}{suite:SF}{e:DE}{c:Str}:a1o n i exm suite e (some (.ex c))=if(exm c && Z8 e)=true then a25 i (suite ((List.replicate n Sl.no).set i (.fz (.exc c))))else none:=rfl
theorem a6P{n i:Nat}{exm:Str→Bool}{suite:SF}{e:DE}{d:D}:a1o n i exm suite e (some (.rt d))=some (.rt d):=rfl
theorem a6Q{n i:Nat}{exm:Str→Bool}{suite:SF}{e:DE}{d:List D}:a1o n i exm suite e (some (.ro d))=some (.ro d):=rfl
theorem a6R{n i:Nat}{exm:Str→Bool}{suite:SF}{e e1:DE}:a1o n i exm suite e (some (.nx e1))=some (.nx e1):=rfl
theorem a6S(a b:Int):p7 (.int a) (.int b)=some (.int (a+b)):=rfl
theorem a8m(a b:Int):gLt (.int a) (.int b)=some (.bl (decide (a<b))):=rfl
theorem a8n(a b:Int):gGt (.int a) (.int b)=some (.bl (decide (b<a))):=rfl
theorem a6T{a b:Int}(h:IntMulOk a b):U7 (.int a) (.int b)=some (.int (a*b)):=by show(if _ then _ else _)=_;rw[if_pos h]
theorem a6U{a b:Int}(h:0<b∧b.natAbs.log2<9000):a2S (.int a) (.int b)=some (.int (a/b)):=by show(if _ then _ else _)=_;rw[if_pos h]
theorem a6V{a b:Int}(h:0<b):A2 (.int a) (.int b)=some (.int (a%b)):=by show(if _ then _ else _)=_;rw[if_pos h]
theorem a2k{a b:Int}(h:Y7 a b):a1g (.int a) (.int b)=some (.int (a ^ b.toNat)):=by show(if _ then _ else _)=_;rw[if_pos h]
end
def Fits(i:Int):Prop:=Builtin.Int.intBits i≤2 ^ 20
theorem a6W{a b:Int}(h:a.natAbs≤b.natAbs):Builtin.Int.intBits a≤Builtin.Int.intBits b:=by
 unfold Builtin.Int.intBits
 split
 ·exact Nat.zero_le _
 ·rename_i ha
  have ha':a.natAbs≠0:=by
   intro z;apply ha;first | exact Int.natAbs_eq_zero.mp z | (simpa using z)
  have hb':b.natAbs≠0:=by omega
  split
  ·rename_i hb
   exact absurd (by first | exact Int.natAbs_eq_zero.mpr hb | (simpa using hb)) hb'
  ·have h1:b.natAbs<2 ^ (b.natAbs.log2+1):=Nat.lt_log2_self
   have h2:a.natAbs.log2<b.natAbs.log2+1:=(Nat.log2_lt ha').mpr (by omega)
   omega
theorem Fits.le{a b:Int}(h:Fits b)(l:a.natAbs≤b.natAbs):Fits a:=Nat.le_trans (a6W l) h
theorem Fits.mod{i n:Int}(hn:0<n)(h:Fits n):Fits (i%n):=by
 refine h.le ?_
 have h1:=Int.emod_nonneg i (show n≠0 by omega)
 have h2:=Int.emod_lt_of_pos i hn
 omega
theorem a34{a b:Int}(h:a.natAbs<2 ^ 64):IntMulOk a b:=IntMulOk.of_left (intBits_le_64 (by omega) (by omega))
theorem a81{a b:Int}(h:b.natAbs<2 ^ 64):IntMulOk a b:=IntMulOk.of_right (intBits_le_64 (by omega) (by omega))
theorem a8o{a b:Int}(h:a.natAbs<2 ^ 64):U7 (.int a) (.int b)=some (.int (a*b)):=a6T (a34 h)
section
variable {α:Type}
theorem Y0{a:α}{l:List α}:atI (a::l) 0=some a:=by unfold atI V9;simp
theorem a26{a:α}{l:List α}{n:Nat}:atI (a::l) ((n:Int)+1)=atI l n:=by
 unfold atI V9
 have h1:(0:Int)≤(n:Int)+1:=by omega
 have h2:(0:Int)≤(n:Int):=by omega
 rw[if_pos h1,if_pos h2]
 by_cases z:(n:Int)<(l.length:Int)
 ·rw[if_pos z,if_pos (by rw[List.length_cons];push_cast;omega)]
  show(a::l)[((n:Int)+1).toNat]? = l[((n:Int)).toNat]?
  rw[show((n:Int)+1).toNat=n+1 by omega,show((n:Int)).toNat=n by omega]
  rfl
 ·rw[if_neg z,if_neg (by rw[List.length_cons];push_cast;omega)]
  rfl
theorem a5O{a b:α}{l:List α}:atI (a::b::l) 1=some b:=(a26 (n:=0)).trans Y0
theorem a5P{a b c:α}{l:List α}:atI (a::b::c::l) 2=some c:=(a26 (n:=1)).trans a5O
theorem a9M{a b c d:α}{l:List α}:atI (a::b::c::d::l) 3=some d:=(a26 (n:=2)).trans a5P
end
def m4(ns:List Int)(k:Int):Int:=ns.getD k.toNat 0
theorem a6X{ns:List Int}{k:Int}(hk:0≤k):(if k<(ns.length:Int)then(match atI ns k with
  | none=>none
  | some n=>some (R1.ret (D.int n)))else some (R1.ret (D.int 0)))=some (R1.ret (D.int (m4 ns k))):=by
 unfold m4
 by_cases z:k<(ns.length:Int)
 ·rw[if_pos z]
  have h:k.toNat<ns.length:=by omega
  have e:atI ns k=some ns[k.toNat]:=by
   unfold atI V9
   rw[if_pos hk,if_pos z]
   exact List.getElem?_eq_getElem h
  rw[e,List.getD_eq_getElem?_getD,List.getElem?_eq_getElem h];rfl
 ·rw[if_neg z,List.getD_eq_getElem?_getD,List.getElem?_eq_none (by omega)];rfl
section
variable {K:W.Frag}{cl:Str→Addr}{E:XK}{σ:St}{H F:Hp}{env:DE}{k:Nat}
def oN:OF:=fun e=>some (.ok none e)
def oS(f:ZF):OF:=fun e=>bnd (f e) fun d e1=>match d with
 | .int i=>some (.ok (some i) e1)
 | _=>none
theorem a82:RfO K cl E a1W oN:=fun σ H Q env F R h=>h none H F Frm.refl R rfl
theorem a83{t:TE}{f:ZF}(hf:i7 K cl E t f):RfO K cl E (a5A t) (oS f):=by
 intro σ H Q env F R h
 refine hf σ H _ env F R ((Ct.bnd h a9x).mono fun x H1 ⟨F1,e1,d,s1,R1,p1,h1⟩=>?_)
 split at h1
 ·rename_i i
  have:x=.int i:=by have:=(show Rp K cl F1 (.int i) x from p1);simpa only[Rp]using this
  exact⟨i,this,h1 _ H1 F1 Frm.refl R1 rfl⟩
 ·exact h1.elim
def a0a(xs:List D)(lo hi:Option Int):List D:=(xs.drop (HT.sIx xs.length 0 lo)).take (HT.sIx xs.length xs.length hi-HT.sIx xs.length 0 lo)
theorem Rps.cut{ds:List D}{xs:List V}(h:Rps K cl F ds xs)(lo hi:Option Int):Rps K cl F (a0a ds lo hi) (Y9 xs lo hi):=by
 unfold a0a Y9
 rw[h.length]
 exact(h.drop _).take _
def a1p(i:Nat)(l u:OF):NF:=fun e=>match look e i with
 | none=>none
 | some _=>bnd (l e) fun lo e2=>bnd (u e2) fun hi e3=>match look e3 i with
  | some d=>(match seqL d with
   | some ds=>some (.ok (a0a ds lo hi) e3)
   | none=>none)
  | none=>none
theorem Rb.seqL{d:D}{ds:List D}{v:V}(s:Same F H)(p:Rb K cl F H d v)(q:L2.seqL d=some ds):∃a xs,v=.ref a∧Rps K cl F ds xs∧SqL K H a xs:=by
 rcases p with p | ⟨a,xs,es,e,rfl,h,r⟩
 ·obtain⟨a,xs,e,r,l⟩:=Rp.seqL p q;exact⟨a,xs,e,r,l H s⟩
 ·cases q;exact⟨a,xs,e,r,.of h⟩
theorem a8p{i:Nat}{tl tu:TO}{l u:OF}(hl:RfO K cl E tl l)(hu:RfO K cl E tu u):K5 K cl E (tSl (a4o K) (u7 i) tl tu) (a1p i l u):=by
 intro σ H Q env F R h
 unfold a1p at h
 cases q:look env i with
 | none=>rw[q]at h;exact h.elim
 | some d0 =>
  rw[q]at h
  obtain⟨x,e0,_⟩:=R.look q
  refine⟨x,e0,?_⟩
  refine hl σ H _ env F R ((Ct.bnd h a1c).mono fun lo H2 ⟨F2,e2,lo',s2,R2,p2,h2⟩=>?_)
  refine hu σ H2 _ e2 F2 R2 ((Ct.bnd h2 a1c).mono fun hi H3 ⟨F3,e3,hi',s3,R3,p3,h3⟩=>?_)
  cases (show lo=lo' from p2)
  cases (show hi=hi' from p3)
  cases q2:look e3 i with
  | none=>simp only[q2]at h3;exact h3.elim
  | some d =>
   simp only[q2]at h3
   obtain⟨x',e',rb⟩:=R3.look q2
   rw[e0]at e';cases e'
   split at h3
   ·rename_i ds hs
    obtain⟨a,xs,rfl,r,hq⟩:=rb.seqL R3.sub hs
    exact⟨a,xs,rfl,hq,fun p hp=>Ct.newN R3 hp (r.cut _ _) h3⟩
   ·exact h3.elim
end
section
variable {P:Program}{w:World}{mg:Str→Option Value}{base:Heap}{K:W.Frag}{cl:Str→Addr}{E:XK}{σ:St}{H F:Hp}{env:DE}{k:Nat}
def J6:List D→Option (List Int)
 | []=>some []
 | .int b::ds=>(J6 ds).map (b :: ·)
 | _=>none
theorem a2l:∀{ds:List D} {bs:List Int},J6 ds=some bs→ds=bs.map .int
 | [],_,h=>by cases h;rfl
 | .int b::ds,_,h=>by
  unfold J6 at h
  cases q:J6 ds with
  | none=>rw[q]at h;cases h
  | some bs=>rw[q]at h;cases h;rw[a2l q];rfl
 | .non::_,_,h=>by cases h
 | .bl _::_,_,h=>by cases h
 | .str _::_,_,h=>by cases h
 | .ty _::_,_,h=>by cases h
 | .cls _::_,_,h=>by cases h
 | .tup _::_,_,h=>by cases h
 | .lst _::_,_,h=>by cases h
 | .scr _::_,_,h=>by cases h
 | .exc _::_,_,h=>by cases h
 | .obj _ _ _::_,_,h=>by cases h
theorem ints_map:∀(ns:List Int),J6 (ns.map .int)=some ns
 | []=>rfl
 | n::ns=>by show(J6 (ns.map .int)).map (n :: ·)=_;rw[ints_map ns];rfl
theorem a35{f:Addr}{fd:FuncData}{ps:List Str}{n:Nat}:FnOk P w K mg base (l7 P w) n f fd ps (i4 K cl fun _=>none) :=
 ⟨fun vs H Q E ⟨_,_,_,_,h⟩=>h.elim,fun A outer s H args us vs Q E _ _ _ _ ⟨_,_,_,_,h⟩=>h.elim⟩
end
def a8q(x:Option DE)(k:DE→Option (R (List D))):Option (R (List D)):=match x with
 | none=>none
 | some e=>k e
theorem a0u{e:DE}{k:DE→Option (R (List D))}:a8q (some e) k=k e:=rfl
theorem a36{b:GF}{c:BF}{el:ZF}{ec eo:DE}{acc:List D}:i3 b c el ec eo [] acc=some (.ok acc eo):=rfl
theorem Y1{b:GF}{c:BF}{el:ZF}{ec eo:DE}{d:D}{ds acc:List D}:i3 b c el ec eo (d::ds) acc=a8q (b d ec) fun e1=>bnd (c e1) fun t e2=>if t=true then bnd (el e2) fun y _=>if acc.length<sizeLine then i3 b c el ec eo ds (acc++[y])else none else i3 b c el ec eo ds acc:=by
 rw[i3];cases b d ec<;>rfl
section
variable {K:W.Frag}{cl:Str→Addr}{E:XK}{σ:St}{H F:Hp}{env:DE}{k:Nat}
theorem Rb.flat{d:D}{v:V}(h:Rb K cl F H d v)(f:c9 d=true):Rp K cl F d v:=by
 rcases h with h | ⟨_,_,_,_,rfl,_⟩
 ·exact h
 ·cases f
theorem tyL{i:Nat}{ds:List D}(R:Rel K cl σ H F env)(q:look env i=some (.lst ds)):∃a,σ[i]? = some (some (.ref a))∧tyV K "list" (.ref a) H:=by
 obtain⟨x,e0,rb⟩:=R.look q
 obtain⟨a,xs,rfl,hH,_⟩:=rb.lst R.sub
 exact⟨a,e0,.inl ⟨rfl,xs,.of hH⟩⟩
def N7(i:Nat)(f:NF):SF:=fun e=>match look e i with
 | some (.lst _)=>z0 (f e) fun es e1=>match e1[i]? with
  | some (.ow ds)=>if ds.length+es.length≤sizeLine then some (.nx (e1.set i (.ow (ds++es))))else none
  | _=>none
 | _=>none
theorem a1q{i:Nat}{t:TE}{f:NF}(hf:K5 K cl E t f):RfS K cl E (a0I (tBM K "list" a1Z (u7 i) (G8 t T5))) (N7 i f):=by
 intro N σ H env F R h
 unfold N7 at h
 split at h
 ·rename_i ds0 q
  obtain⟨a0,e0,ty⟩:=tyL R q
  refine⟨_,e0,ty,?_⟩
  refine hf σ H _ env F R ((Cs.bnd h).mono fun y H1 ⟨F1,e1,es,fr,R1,p1,h1⟩=>?_)
  obtain⟨b,zs,rfl,hn,hb,fb,nm,rz⟩:=p1
  split at h1
  ·rename_i ds q1
   split at h1
   ·rename_i c
    obtain⟨a,xs,e,hH,hF,r⟩:=R1.mu i ds (.inl q1)
    rw[e0]at e;cases e
    obtain⟨R2,f2⟩:=R1.change q1 e0 (r.append rz)
    exact⟨_,b,xs,zs,rfl,rfl,hH,hb,by rw[← r.length,← rz.length];exact c,h1 σ _ F1 (fr.trans f2) R2⟩
   ·exact h1.elim
  ·exact h1.elim
 ·exact h.elim
abbrev JF:=DE→Str→Option (R Str)
def PJs:Py Str Str:=fun b _ _ _ _ _ c=>c=b
theorem a9z:PM PJs:=fun _ _ _ _ _ _ _ _ _ h=>h
def RfJ(K:W.Frag)(cl:Str→Addr)(E:XK)(t:TJ)(f:JF):Prop:=∀σ H acc Q env F,Rel K cl σ H F env→Ct K cl E PJs (f env acc) σ H F env Q→t σ H acc Q
def jN:JF:=fun e acc=>if acc.length≤sizeLine then some (.ok acc e)else none
def jC(f:ZF)(k:JF):JF:=fun e acc=>bnd (f e) fun d e1=>match d with
 | .str y=>if(acc++y).length≤sizeLine then k e1 (acc++y)else none
 | _=>none
theorem a84:RfJ K cl E a5C jN:=by
 intro σ H acc Q env F R h
 unfold jN at h
 split at h
 ·rename_i c;exact⟨c,h acc H F Frm.refl R rfl⟩
 ·exact h.elim
theorem a27{t:TE}{u:TJ}{f:ZF}{k:JF}(hf:i7 K cl E t f)(hk:RfJ K cl E u k):RfJ K cl E (a3r t u) (jC f k):=by
 intro σ H acc Q env F R h
 refine hf σ H _ env F R ((Ct.bnd h a9z).mono fun x H1 ⟨F1,e1,d,s1,R1,p1,h1⟩=>?_)
 split at h1
 ·rename_i y
  split at h1
  ·rename_i c
   have hx:x=.str y:=by have:=(show Rp K cl F1 (.str y) x from p1);simpa only[Rp]using this
   exact⟨y,hx,c,hk σ H1 _ Q e1 F1 R1 h1⟩
  ·exact h1.elim
 ·exact h1.elim
def eJ(f:JF):ZF:=fun e=>bnd (f e Str.empty) fun y e1=>some (.ok (.str y) e1)
theorem a9A{t:TJ}{f:JF}(hf:RfJ K cl E t f):i7 K cl E (a5D t) (eJ f):=by
 intro σ H Q env F R h
 refine hf σ H _ _ env F R ((Ct.bnd h C7).mono fun x H1 ⟨F1,e1,y,s1,R1,p1,h1⟩=>?_)
 cases (show x=y from p1)
 exact h1 _ H1 F1 Frm.refl R1 (by show Rp K cl F1 (.str _) _;simp only[Rp])
def a8r(f:ZF):ZF:=fun e=>bnd (f e) fun d e1=>match d with
 | .int i=>if i.natAbs.log2<1920 then some (.ok (.str (toString i)) e1)else none
 | .str y=>if y.length≤sizeLine then some (.ok (.str y) e1)else none
 | _=>none
theorem a8s{t:TE}{f:ZF}(hf:i7 K cl E t f):i7 K cl E (a7H t) (a8r f):=by
 intro σ H Q env F R h
 refine hf σ H _ env F R ((Ct.bnd h C7).mono fun x H1 ⟨F1,e1,d,s1,R1,p1,h1⟩=>?_)
 split at h1
 ·rename_i i
  split at h1
  ·rename_i c
   have hx:x=.int i:=by have:=(show Rp K cl F1 (.int i) x from p1);simpa only[Rp]using this
   exact .inl ⟨i,hx,c,h1 _ H1 F1 Frm.refl R1 (by show Rp K cl F1 (.str _) _;simp only[Rp])⟩
  ·exact h1.elim
 ·rename_i y
  split at h1
  ·rename_i c
   have hx:x=.str y:=by have:=(show Rp K cl F1 (.str y) x from p1);simpa only[Rp]using this
   exact .inr ⟨y,hx,c,h1 _ H1 F1 Frm.refl R1 (by show Rp K cl F1 (.str _) _;simp only[Rp])⟩
  ·exact h1.elim
 ·exact h1.elim
end
mutual
def h8:D→D→Bool
 | .tup ds,e=>(match e with
  | .tup es=>t5 ds es
  | _=>false)
 | .lst ds,e=>(match e with
  | .lst es=>t5 ds es
  | _=>false)
 | d,e=>G0 d e
def t5:List D→List D→Bool
 | [],es=>es.isEmpty
 | d::ds,es=>(match es with
  | []=>false
  | e::es=>h8 d e && t5 ds es)
end
mutual
def a9:D→Bool
 | .tup ds=>k6 ds
 | .lst ds=>k6 ds
 | d=>c9 d
def k6:List D→Bool
 | []=>true
 | d::ds=>a9 d && k6 ds
end
mutual
def u9:D→Nat
 | .tup ds=>t6 ds+1
 | .lst ds=>t6 ds+1
 | _=>0
def t6:List D→Nat
 | []=>0
 | d::ds=>max (u9 d) (t6 ds)
end
def a1r(ds es:List D)(j:Nat):Bool:=match ds[j]?,es[j]? with
 | some d,some e=>h8 d e
 | _,_=>true
theorem y8:∀{ds es:List D},ds.length=es.length→(List.range ds.length).all (a1r ds es)=t5 ds es
 | [],[],_=>by simp[t5]
 | d::ds,e::es,h=>by
  have h':ds.length=es.length:=by simpa using h
  simp only[t5]
  show(List.range (ds.length+1)).all _=(h8 d e && t5 ds es)
  rw[List.range_succ_eq_map,List.all_cons,List.all_map,← y8 h']
  rfl
theorem G6:∀{ds es:List D},ds.length≠es.length→t5 ds es=false
 | [],[],h=>absurd rfl h
 | _::_,[],_=>by simp[t5]
 | [],_::_,_=>by simp[t5]
 | d::ds,e::es,h=>by
  simp only[t5]
  rw[G6 (fun q=>h (by simp[q])),Bool.and_false]
section
variable {K:W.Frag}{cl:Str→Addr}{F:Hp}
theorem N9{d e:D}{v:V}(fd:c9 d=true)(p:Rp K cl F d v)(q:Rp K cl F e v)(pe:a9 e=true):G0 d e=true:=by
 cases d<;>first | (cases fd;done) | skip
 all_goals simp only[Rp]at p;subst p
 all_goals cases e<;>simp only[Rp]at q<;>first | (cases q;done) | (cases q;simp[G0];done) | (obtain⟨_,_,z,_⟩:=q;cases z;done) | (obtain⟨_,z,_⟩:=q;cases z;done) | (simp[a9,c9]at pe;done)
mutual
theorem a0b:∀(d e:D) (v:V),Rp K cl F d v→Rp K cl F e v→a9 d=true→a9 e=true→h8 d e=true
 | .tup ds,e,v,p,q,pd,pe=>by
  simp only[Rp]at p
  obtain⟨a,xs,rfl,ha,r⟩:=p
  cases e<;>simp only[Rp]at q
  case tup es =>
   obtain⟨a',ys,z,ha',r'⟩:=q
   cases z;rw[ha]at ha';cases ha'
   simp only[a9]at pd pe
   simp only[h8]
   exact V2 ds es xs r r' pd pe
  case lst es =>
   obtain⟨a',ys,z,ha',r'⟩:=q
   cases z;rw[ha]at ha';cases ha'
  all_goals first | (cases q;done) | (simp[a9,c9]at pe;done)
 | .lst ds,e,v,p,q,pd,pe=>by
  simp only[Rp]at p
  obtain⟨a,xs,rfl,ha,r⟩:=p
  cases e<;>simp only[Rp]at q
  case lst es =>
   obtain⟨a',ys,z,ha',r'⟩:=q
   cases z;rw[ha]at ha';cases ha'
   simp only[a9]at pd pe
   simp only[h8]
   exact V2 ds es xs r r' pd pe
  case tup es =>
   obtain⟨a',ys,z,ha',r'⟩:=q
   cases z;rw[ha]at ha';cases ha'
  all_goals first | (cases q;done) | (simp[a9,c9]at pe;done)
 | .non,e,v,p,q,pd,pe=>by simp only[h8];exact N9 rfl p q pe
 | .bl _,e,v,p,q,pd,pe=>by simp only[h8];exact N9 rfl p q pe
 | .int _,e,v,p,q,pd,pe=>by simp only[h8];exact N9 rfl p q pe
 | .str _,e,v,p,q,pd,pe=>by simp only[h8];exact N9 rfl p q pe
 | .ty _,e,v,p,q,pd,pe=>by simp[a9,c9]at pd
 | .cls _,e,v,p,q,pd,pe=>by simp[a9,c9]at pd
 | .scr _,e,v,p,q,pd,pe=>by simp[a9,c9]at pd
 | .exc _,e,v,p,q,pd,pe=>by simp[a9,c9]at pd
 | .obj _ _ _,e,v,p,q,pd,pe=>by simp[a9,c9]at pd
theorem V2:∀(ds es:List D) (vs:List V),Rps K cl F ds vs→Rps K cl F es vs→k6 ds=true→k6 es=true→t5 ds es=true
 | [],es,vs,p,q,_,_=>by
  rw[p.inv0]at q
  cases es with
  | nil=>simp[t5]
  | cons e es=>obtain⟨_,_,z,_⟩:=q.inv;cases z
 | d::ds,es,vs,p,q,pd,pe=>by
  obtain⟨v,r,rfl,p1,p2⟩:=p.inv
  cases es with
  | nil=>have:=q.inv0;cases this
  | cons e es =>
   obtain⟨v',r',z,q1,q2⟩:=q.inv
   cases z
   simp only[k6,Bool.and_eq_true]at pd pe
   simp only[t5]
   rw[a0b d e v p1 q1 pd.1 pe.1,V2 ds es r p2 q2 pd.2 pe.2];rfl
end
end
section
variable {X:Cx}{cl:Str→Addr}{F:Hp}{pins:List (Addr×Obj)}{σ:St}{H:Hp}{s:Shared}
theorem O0{a:Addr}{d:D}{v:V}{u:Value}{A:Around}(hu:A.units<cLine)(hl:(∃xs,SqL X.K H a xs)∨∃xs,SqT X.K H a xs)(I:Inv X pins σ H s)(f:c9 d=true)(p:Rp X.K cl F d v)(r:RelV v u):SeqAt.EqAt A s (.ref a) u false∧SeqAt.EqAt A s u (.ref a) false:=by
 rcases hl with⟨xs,h⟩ | ⟨xs,h⟩
 ·obtain⟨us,r1,p1,z1⟩:=I.list h
  have q:=p1.isList
  cases d<;>first | (cases f;done) | skip
  all_goals simp only[Rp]at p;subst p
  ·cases r;exact⟨.list_none q hu,.none_list q hu⟩
  ·cases r;exact⟨.list_bool _ q hu,.bool_list _ q hu⟩
  ·obtain⟨t,rfl⟩:=r;exact⟨.list_int _ _ q hu,.int_list _ _ q hu⟩
  ·obtain⟨t,rfl⟩:=r;exact⟨.list_str _ _ q hu,.str_list _ _ q hu⟩
 ·obtain⟨us,r1,q,z1⟩:=I.tuple h
  cases d<;>first | (cases f;done) | skip
  all_goals simp only[Rp]at p;subst p
  ·cases r;exact⟨.tuple_none q hu,.none_tuple q hu⟩
  ·cases r;exact⟨.tuple_bool _ q hu,.bool_tuple _ q hu⟩
  ·obtain⟨t,rfl⟩:=r;exact⟨.tuple_int _ _ q hu,.int_tuple _ _ q hu⟩
  ·obtain⟨t,rfl⟩:=r;exact⟨.tuple_str _ _ q hu,.str_tuple _ _ q hu⟩
theorem r0{d:D}(p:a9 d=true):c9 d=true∨(∃ds,d=.tup ds)∨∃ds,d=.lst ds:=by
 cases d<;>first | exact .inl rfl | exact .inr (.inl ⟨_,rfl⟩) | exact .inr (.inr ⟨_,rfl⟩) | (simp[a9,c9]at p;done)
theorem a40{d e:D}(f:c9 d=true):h8 d e=G0 d e:=by cases d<;>first | (cases f;done) | simp only[h8]
theorem J7{d e:D}{v u:V}{a b:Value}{A:Around}(I:Inv X pins σ H s)(sF:Same F H)(hu:A.units<cLine)(f:c9 d=true)(p:Rp X.K cl F d v)(q:Rp X.K cl F e u)(rv:RelV v a)(ru:RelV u b)(pe:a9 e=true):SeqAt.EqAt A s a b (h8 d e):=by
 rw[a40 f]
 rcases r0 pe with fe | ⟨es,rfl⟩ | ⟨es,rfl⟩
 ·rw[← p.eq q f fe]
  exact a7C rv ru (p.flat f).2 (q.flat fe).2
 ·simp only[Rp]at q
  obtain⟨c,ys,rfl,hb,r'⟩:=q
  cases ru
  have:=(O0 (A:=A) hu (.inr ⟨ys,.of (sF _ _ hb)⟩) I f p rv).2
  have z:G0 d (.tup es)=false:=by cases d<;>first | (cases f;done) | rfl
  rw[z];exact this
 ·simp only[Rp]at q
  obtain⟨c,ys,rfl,hb,r'⟩:=q
  cases ru
  have:=(O0 (A:=A) hu (.inl ⟨ys,.of (sF _ _ hb)⟩) I f p rv).2
  have z:G0 d (.lst es)=false:=by cases d<;>first | (cases f;done) | rfl
  rw[z];exact this
mutual
theorem a6Y(I:Inv X pins σ H s)(sF:Same F H):∀(d e:D) (v u:V) (a b:Value) (A:Around),A.units+u9 d<cLine→Rp X.K cl F d v→Rp X.K cl F e u→RelV v a→RelV u b→a9 d=true→a9 e=true→SeqAt.EqAt A s a b (h8 d e)
 | .tup ds,e,v,u,va,ua,A,hu,p,q,rv,ru,pd,pe=>by
  have p0:=p
  have hu':A.units<cLine:=by omega
  simp only[u9]at hu
  simp only[Rp]at p
  obtain⟨a,xs,rfl,ha,r⟩:=p
  cases rv
  have ha':=sF _ _ ha
  rcases r0 pe with f | ⟨es,rfl⟩ | ⟨es,rfl⟩
  ·have:=(O0 (A:=A) hu' (.inr ⟨xs,.of ha'⟩) I f q ru).1
   have z:h8 (.tup ds) e=false:=by cases e<;>first | (cases f;done) | simp only[h8]
   rw[z];exact this
  ·have q0:=q
   simp only[Rp]at q
   obtain⟨b,ys,rfl,hb,r'⟩:=q
   cases ru
   have hb':=sF _ _ hb
   by_cases z:a=b
   ·subst z
    rw[a0b _ _ _ p0 q0 pd pe]
    exact .same _
   ·obtain⟨us,r1,p1,_⟩:=I.tuple (.of ha')
    obtain⟨ws,r2,p2,_⟩:=I.tuple (.of hb')
    simp only[a9]at pd pe
    have he:∀j (h1:j<us.toArray.size) (h2:j<ws.toArray.size),SeqAt.EqAt A.in1 s us.toArray[j] ws.toArray[j] (a1r ds es j):=G7 I sF ds es xs ys us ws A.in1 (by show A.units+1+t6 ds<cLine;omega) r r' r1 r2 pd pe
    have:=SeqAt.EqAt.of_refs z (SeqAt.RcAt.tuples p1 p2 hu' he)
    have e1:us.toArray.size=ds.length:=by simp[← r1.length,r.length]
    have e2:ws.toArray.size=es.length:=by simp[← r2.length,r'.length]
    rw[e1,e2]at this
    simp only[h8]
    by_cases hl:ds.length=es.length
    ·rw[← hl,Nat.min_self,y8 hl,beq_self_eq_true,Bool.and_true]at this
     exact this
    ·rw[G6 hl]
     rw[beq_eq_false_iff_ne.mpr hl,Bool.and_false]at this
     exact this
  ·simp only[Rp]at q
   obtain⟨b,ys,rfl,hb,r'⟩:=q
   cases ru
   obtain⟨us,r1,p1,_⟩:=I.tuple (.of ha')
   obtain⟨ws,r2,p2,_⟩:=I.list (.of (sF _ _ hb))
   simp only[h8]
   exact .tuple_list p1 p2.isList hu'
 | .lst ds,e,v,u,va,ua,A,hu,p,q,rv,ru,pd,pe=>by
  have p0:=p
  have hu':A.units<cLine:=by omega
  simp only[u9]at hu
  simp only[Rp]at p
  obtain⟨a,xs,rfl,ha,r⟩:=p
  cases rv
  have ha':=sF _ _ ha
  rcases r0 pe with f | ⟨es,rfl⟩ | ⟨es,rfl⟩
  ·have:=(O0 (A:=A) hu' (.inl ⟨xs,.of ha'⟩) I f q ru).1
   have z:h8 (.lst ds) e=false:=by cases e<;>first | (cases f;done) | simp only[h8]
   rw[z];exact this
  ·simp only[Rp]at q
   obtain⟨b,ys,rfl,hb,r'⟩:=q
   cases ru
   obtain⟨us,r1,p1,_⟩:=I.list (.of ha')
   obtain⟨ws,r2,p2,_⟩:=I.tuple (.of (sF _ _ hb))
   simp only[h8]
   exact .list_tuple p1.isList p2 hu'
  ·have q0:=q
   simp only[Rp]at q
   obtain⟨b,ys,rfl,hb,r'⟩:=q
   cases ru
   have hb':=sF _ _ hb
   by_cases z:a=b
   ·subst z
    rw[a0b _ _ _ p0 q0 pd pe]
    exact .same _
   ·obtain⟨us,r1,p1,_⟩:=I.list (.of ha')
    obtain⟨ws,r2,p2,_⟩:=I.list (.of hb')
    simp only[a9]at pd pe
    have he:∀j (h1:j<us.toArray.size) (h2:j<ws.toArray.size),SeqAt.EqAt A.in1 s us.toArray[j] ws.toArray[j] (a1r ds es j):=G7 I sF ds es xs ys us ws A.in1 (by show A.units+1+t6 ds<cLine;omega) r r' r1 r2 pd pe
    have e1:us.toArray.size=ds.length:=by simp[← r1.length,r.length]
    have e2:ws.toArray.size=es.length:=by simp[← r2.length,r'.length]
    simp only[h8]
    by_cases hl:ds.length=es.length
    ·have:=SeqAt.EqAt.of_refs z (SeqAt.RcAt.lists p1.isList p2.isList (by rw[e1,e2,hl]) hu' he)
     rw[e1,y8 hl]at this
     exact this
    ·rw[G6 hl]
     exact SeqAt.EqAt.of_refs z (SeqAt.RcAt.lists_lengths p1.isList p2.isList (by rw[e1,e2];simp[hl]) hu')
 | .non,e,v,u,va,ua,A,hu,p,q,rv,ru,pd,pe=>J7 I sF (by omega) rfl p q rv ru pe
 | .bl _,e,v,u,va,ua,A,hu,p,q,rv,ru,pd,pe=>J7 I sF (by omega) rfl p q rv ru pe
 | .int _,e,v,u,va,ua,A,hu,p,q,rv,ru,pd,pe=>J7 I sF (by omega) rfl p q rv ru pe
 | .str _,e,v,u,va,ua,A,hu,p,q,rv,ru,pd,pe=>J7 I sF (by omega) rfl p q rv ru pe
 | .ty _,e,v,u,va,ua,A,hu,p,q,rv,ru,pd,pe=>by simp[a9,c9]at pd
 | .cls _,e,v,u,va,ua,A,hu,p,q,rv,ru,pd,pe=>by simp[a9,c9]at pd
 | .scr _,e,v,u,va,ua,A,hu,p,q,rv,ru,pd,pe=>by simp[a9,c9]at pd
 | .exc _,e,v,u,va,ua,A,hu,p,q,rv,ru,pd,pe=>by simp[a9,c9]at pd
 | .obj _ _ _,e,v,u,va,ua,A,hu,p,q,rv,ru,pd,pe=>by simp[a9,c9]at pd
theorem G7(I:Inv X pins σ H s)(sF:Same F H):∀(ds es:List D) (xs ys:List V) (us ws:List Value) (A:Around),A.units+t6 ds<cLine→Rps X.K cl F ds xs→Rps X.K cl F es ys→Vals xs us→Vals ys ws→k6 ds=true→k6 es=true→∀j (h1:j<us.toArray.size) (h2:j<ws.toArray.size),SeqAt.EqAt A s us.toArray[j] ws.toArray[j] (a1r ds es j)
 | [],es,xs,ys,us,ws,A,hu,p,q,rv,rw',pd,pe=>fun j h1 h2=>by
  rw[p.inv0]at rv;cases rv;simp at h1
 | d::ds,es,xs,ys,us,ws,A,hu,p,q,rv,rw',pd,pe=>fun j h1 h2=>by
  obtain⟨x,xs',rfl,p1,p2⟩:=p.inv
  cases rv with
  | cons r1 t1 =>
   cases es with
   | nil=>rw[q.inv0]at rw';cases rw';simp at h2
   | cons e es =>
    obtain⟨y,ys',rfl,q1,q2⟩:=q.inv
    cases rw' with
    | cons r2 t2 =>
     simp only[k6,Bool.and_eq_true]at pd pe
     simp only[t6]at hu
     cases j with
     | zero=>exact a6Y I sF d e x y _ _ A (by omega) p1 q1 r1 r2 pd.1 pe.1
     | succ j =>
      have:=G7 I sF ds es xs' ys' _ _ A (by omega) p2 q2 t1 t2 pd.2 pe.2 j (by simpa using h1) (by simpa using h2)
      simpa [a1r]using this
end
end
theorem a41{A:Around}{k:Nat}(hr:Room k A):A.units+41<cLine:=Nat.lt_of_le_of_lt (Nat.add_le_add_left (by decide:41≤64) _) hr.units
def B3 : D→Bool
 | .tup _=>true
 | .lst _=>true
 | _=>false
theorem Rb.toRp{K:W.Frag}{cl:Str→Addr}{F H:Hp}{d:D}{v:V}(s:Same F H)(h:Rb K cl F H d v):∃F',Same F F'∧Same F' H∧Rp K cl F' d v:=by
 rcases h with h | ⟨a,xs,ds,rfl,rfl,ha,r⟩
 ·exact⟨F,Same.refl _,s,h⟩
 ·have g:Same F (upd F a (.lst xs)):=fun b o q=>by
   by_cases z:b=a
   ·subst z;have:=s _ _ q;rw[ha]at this;cases this;exact c7
   ·rw[a8 z];exact q
  refine⟨upd F a (.lst xs),g,fun b o q=>?_,?_⟩
  ·by_cases z:b=a
   ·subst z;rw[c7]at q;cases q;exact ha
   ·rw[a8 z]at q;exact s _ _ q
  ·simp only[Rp];exact⟨a,xs,rfl,c7,r.mono g⟩
section
variable {X:Cx}{cl:Str→Addr}{F:Hp}{pins:List (Addr×Obj)}{σ:St}{H:Hp}{s:Shared}
theorem S5{a:Addr}{d:D}{v:V}{u:Value}{A:Around}(hu:A.units<cLine)(hl:(∃xs,SqL X.K H a xs)∨∃xs,SqT X.K H a xs)(I:Inv X pins σ H s)(f:c9 d=true)(p:Rp X.K cl F d v)(r:RelV v u) :
  (SeqAt.RcAt A s (.ref a) u false∧SeqAt.RcAt A s u (.ref a) false)∧SeqAt.RcNeAt A s (.ref a) u true∧SeqAt.RcNeAt A s u (.ref a) true:=by
 rcases hl with⟨xs,h⟩ | ⟨xs,h⟩
 ·obtain⟨us,r1,p1,z1⟩:=I.list h
  have q:=p1.isList
  cases d<;>first | (cases f;done) | skip
  all_goals simp only[Rp]at p;subst p
  ·cases r;exact⟨⟨.list_none q hu,.none_list q hu⟩,.list_none q hu,.none_list q hu⟩
  ·cases r;exact⟨⟨.list_bool _ q hu,.bool_list _ q hu⟩,.list_bool _ q hu,.bool_list _ q hu⟩
  ·obtain⟨t,rfl⟩:=r;exact⟨⟨.list_int _ _ q hu,.int_list _ _ q hu⟩,.list_int _ _ q hu,.int_list _ _ q hu⟩
  ·obtain⟨t,rfl⟩:=r;exact⟨⟨.list_str _ _ q hu,.str_list _ _ q hu⟩,.list_str _ _ q hu,.str_list _ _ q hu⟩
 ·obtain⟨us,r1,q,z1⟩:=I.tuple h
  cases d<;>first | (cases f;done) | skip
  all_goals simp only[Rp]at p;subst p
  ·cases r;exact⟨⟨.tuple_none q hu,.none_tuple q hu⟩,.tuple_none q hu,.none_tuple q hu⟩
  ·cases r;exact⟨⟨.tuple_bool _ q hu,.bool_tuple _ q hu⟩,.tuple_bool _ q hu,.bool_tuple _ q hu⟩
  ·obtain⟨t,rfl⟩:=r;exact⟨⟨.tuple_int _ _ q hu,.int_tuple _ _ q hu⟩,.tuple_int _ _ q hu,.int_tuple _ _ q hu⟩
  ·obtain⟨t,rfl⟩:=r;exact⟨⟨.tuple_str _ _ q hu,.str_tuple _ _ q hu⟩,.tuple_str _ _ q hu,.str_tuple _ _ q hu⟩
theorem a2m{d e:D}{v u:V}{a b:Value}{A:Around}(I:Inv X pins σ H s)(sF:Same F H)(hu:A.units+u9 d<cLine)(p:Rp X.K cl F d v)(q:Rp X.K cl F e u)(rv:RelV v a)(ru:RelV u b)(pd:a9 d=true)(pe:a9 e=true)(hs:B3 d=true∨B3 e=true) :
  SeqAt.RcAt A s a b (h8 d e)∧SeqAt.RcNeAt A s a b (!h8 d e):=by
 have hu':A.units<cLine:=by omega
 rcases r0 pd with fd | ⟨ds,rfl⟩ | ⟨ds,rfl⟩
 ·have se:B3 e=true:=hs.resolve_left (by cases d<;>first | (cases fd;done) | simp[B3])
  rcases r0 pe with fe | ⟨es,rfl⟩ | ⟨es,rfl⟩
  ·cases e<;>first | (cases fe;done) | (cases se;done)
  ·simp only[Rp]at q
   obtain⟨c,ys,rfl,hb,r'⟩:=q
   cases ru
   have:=S5 (A:=A) hu' (.inr ⟨ys,.of (sF _ _ hb)⟩) I fd p rv
   have z:h8 d (.tup es)=false:=by cases d<;>first | (cases fd;done) | simp[h8,G0]
   rw[z];exact⟨this.1.2,this.2.2⟩
  ·simp only[Rp]at q
   obtain⟨c,ys,rfl,hb,r'⟩:=q
   cases ru
   have:=S5 (A:=A) hu' (.inl ⟨ys,.of (sF _ _ hb)⟩) I fd p rv
   have z:h8 d (.lst es)=false:=by cases d<;>first | (cases fd;done) | simp[h8,G0]
   rw[z];exact⟨this.1.2,this.2.2⟩
 ·simp only[u9]at hu
  simp only[Rp]at p
  obtain⟨l,xs,rfl,ha,r⟩:=p
  cases rv
  have ha':=sF _ _ ha
  obtain⟨us,r1,p1,_⟩:=I.tuple (.of ha')
  rcases r0 pe with fe | ⟨es,rfl⟩ | ⟨es,rfl⟩
  ·have:=S5 (A:=A) hu' (.inr ⟨xs,.of ha'⟩) I fe q ru
   have z:h8 (.tup ds) e=false:=by cases e<;>first | (cases fe;done) | simp only[h8]
   rw[z];exact⟨this.1.1,this.2.1⟩
  ·simp only[Rp]at q
   obtain⟨c,ys,rfl,hb,r'⟩:=q
   cases ru
   obtain⟨ws,r2,p2,_⟩:=I.tuple (.of (sF _ _ hb))
   simp only[a9]at pd pe
   have he:=G7 I sF ds es xs ys us ws A.in1 (by show A.units+1+t6 ds<cLine;omega) r r' r1 r2 pd pe
   have h1:=SeqAt.RcAt.tuples p1 p2 hu' he
   have h2:=SeqAt.RcNeAt.tuples p1 p2 hu' he
   have e1:us.toArray.size=ds.length:=by simp[← r1.length,r.length]
   have e2:ws.toArray.size=es.length:=by simp[← r2.length,r'.length]
   rw[e1,e2]at h1 h2
   simp only[h8]
   by_cases hl:ds.length=es.length
   ·rw[← hl,Nat.min_self,y8 hl,beq_self_eq_true,Bool.and_true]at h1 h2
    exact⟨h1,h2⟩
   ·rw[G6 hl]
    rw[beq_eq_false_iff_ne.mpr hl,Bool.and_false]at h1 h2
    exact⟨h1,h2⟩
  ·simp only[Rp]at q
   obtain⟨c,ys,rfl,hb,r'⟩:=q
   cases ru
   obtain⟨ws,r2,p2,_⟩:=I.list (.of (sF _ _ hb))
   simp only[h8]
   exact⟨.tuple_list p1 p2.isList hu',.tuple_list p1 p2.isList hu'⟩
 ·simp only[u9]at hu
  simp only[Rp]at p
  obtain⟨l,xs,rfl,ha,r⟩:=p
  cases rv
  have ha':=sF _ _ ha
  obtain⟨us,r1,p1,_⟩:=I.list (.of ha')
  rcases r0 pe with fe | ⟨es,rfl⟩ | ⟨es,rfl⟩
  ·have:=S5 (A:=A) hu' (.inl ⟨xs,.of ha'⟩) I fe q ru
   have z:h8 (.lst ds) e=false:=by cases e<;>first | (cases fe;done) | simp only[h8]
   rw[z];exact⟨this.1.1,this.2.1⟩
  ·simp only[Rp]at q
   obtain⟨c,ys,rfl,hb,r'⟩:=q
   cases ru
   obtain⟨ws,r2,p2,_⟩:=I.tuple (.of (sF _ _ hb))
   simp only[h8]
   exact⟨.list_tuple p1.isList p2 hu',.list_tuple p1.isList p2 hu'⟩
  ·simp only[Rp]at q
   obtain⟨c,ys,rfl,hb,r'⟩:=q
   cases ru
   obtain⟨ws,r2,p2,_⟩:=I.list (.of (sF _ _ hb))
   simp only[a9]at pd pe
   have he:=G7 I sF ds es xs ys us ws A.in1 (by show A.units+1+t6 ds<cLine;omega) r r' r1 r2 pd pe
   have e1:us.toArray.size=ds.length:=by simp[← r1.length,r.length]
   have e2:ws.toArray.size=es.length:=by simp[← r2.length,r'.length]
   simp only[h8]
   by_cases hl:ds.length=es.length
   ·have h1:=SeqAt.RcAt.lists p1.isList p2.isList (by rw[e1,e2,hl]) hu' he
    have h2:=SeqAt.RcNeAt.lists p1.isList p2.isList (by rw[e1,e2,hl]) hu' he
    rw[e1,y8 hl]at h1 h2
    exact⟨h1,h2⟩
   ·rw[G6 hl]
    exact⟨SeqAt.RcAt.lists_lengths p1.isList p2.isList (by rw[e1,e2];simp[hl]) hu',SeqAt.RcNeAt.lists_lengths p1.isList p2.isList (by rw[e1,e2];simp[hl]) hu'⟩
end
def a42(K:W.Frag)(cl:Str→Addr)(neg:Bool):R2:=fun x y H Q=>∃F d e,Same F H∧Rp K cl F d x∧Rp K cl F e y∧a9 d=true∧a9 e=true∧u9 d≤40∧(B3 d=true∨B3 e=true)∧Q (.bl (if neg then !h8 d e else h8 d e)) H
theorem a6Z{X:Cx}{K:W.Frag}{cl:Str→Addr}(hu:X.A.units+41<cLine)(hK:X.K=K:=by rfl):B5 X (compareOp .Eq) (a42 K cl false):=by
 subst hK
 intro pins s σ H x y v u Q I rx ry h
 obtain⟨F,d,e,sF,p,q,pd,pe,hd,hs,hQ⟩:=h
 exact(a2m I sF (by omega) p q rx ry pd pe hs).1 X.prog X.w _ _ ⟨.bl _,H,I,rfl,hQ⟩
theorem a2n{X:Cx}{K:W.Frag}{cl:Str→Addr}(hu:X.A.units+41<cLine)(hK:X.K=K:=by rfl):B5 X (compareOp .NotEq) (a42 K cl true):=by
 subst hK
 intro pins s σ H x y v u Q I rx ry h
 obtain⟨F,d,e,sF,p,q,pd,pe,hd,hs,hQ⟩:=h
 exact(a2m I sF (by omega) p q rx ry pd pe hs).2 X.prog X.w _ _ ⟨.bl _,H,I,rfl,hQ⟩
def D1(neg:Bool)(d e:D):Option D:=if(a9 d && a9 e && decide (u9 d≤40) && (B3 d || B3 e))=true then some (.bl (if neg then !h8 d e else h8 d e))else none
theorem a1s{K:W.Frag}{cl:Str→Addr}{neg:Bool}:OpOk K cl (a42 K cl neg) (D1 neg):=by
 intro x y d e z H F Q s hx hy h q
 unfold D1 at h
 split at h
 ·rename_i c;cases h
  simp only[Bool.and_eq_true,Bool.or_eq_true,decide_eq_true_eq]at c
  obtain⟨F1,g1,s1,p1⟩:=hx.toRp s
  have hy1:Rb K cl F1 H e y:=by
   rcases hy with hy | ⟨a,xs,ds,e1,e2,ha,r⟩
   ·exact .inl (hy.mono g1)
   ·exact .inr ⟨a,xs,ds,e1,e2,ha,r.mono g1⟩
  obtain⟨F2,g2,s2,p2⟩:=hy1.toRp s1
  exact⟨F2,d,e,s2,p1.mono g2,p2,c.1.1.1,c.1.1.2,c.1.2,c.2,q _ H F (.refl s) (by simp only[Rp])⟩
 ·cases h
mutual
theorem a1t:∀(d:D),a9 d=true→h8 d d=true
 | .tup ds,h=>by simp only[a9]at h;simp only[h8];exact R0 ds h
 | .lst ds,h=>by simp only[a9]at h;simp only[h8];exact R0 ds h
 | .non,_=>by simp[h8,G0]
 | .bl _,_=>by simp[h8,G0]
 | .int _,_=>by simp[h8,G0]
 | .str _,_=>by simp[h8,G0]
 | .ty _,h=>by simp[a9,c9]at h
 | .cls _,h=>by simp[a9,c9]at h
 | .scr _,h=>by simp[a9,c9]at h
 | .exc _,h=>by simp[a9,c9]at h
 | .obj _ _ _,h=>by simp[a9,c9]at h
theorem R0:∀(ds:List D),k6 ds=true→t5 ds ds=true
 | [],_=>by simp[t5]
 | d::ds,h=>by
  simp only[k6,Bool.and_eq_true]at h
  simp only[t5]
  rw[a1t d h.1,R0 ds h.2];rfl
end
theorem a0v{d:D}(neg:Bool)(h1:a9 d=true)(h2:u9 d≤40)(h3:B3 d=true):D1 neg d d=some (.bl (!neg)):=by
 unfold D1
 rw[if_pos (by simp[h1,h2,h3]),a1t d h1]
 cases neg<;>rfl
theorem T3{α:Type}{f:α→D}{l:List α}(h:∀a∈l,a9 (f a)=true):k6 (l.map f)=true:=by
 induction l with
 | nil=>rfl
 | cons a l ih =>
  simp only[List.map_cons,k6,Bool.and_eq_true]
  exact⟨h a List.mem_cons_self,ih fun b hb=>h b (List.mem_cons_of_mem _ hb)⟩
theorem a0w{α:Type}{f:α→D}{l:List α}{n:Nat}(h:∀a∈l,u9 (f a)≤n):t6 (l.map f)≤n:=by
 induction l with
 | nil=>simp[t6]
 | cons a l ih =>
  simp only[List.map_cons,t6]
  have:=h a List.mem_cons_self
  have:=ih fun b hb=>h b (List.mem_cons_of_mem _ hb)
  omega
section
variable {K:W.Frag}{cl:Str→Addr}{E:XK}{σ:St}{H F:Hp}{env:DE}{k:Nat}
def a9B(K:W.Frag)(cl:Str→Addr)(E:XK)(a:Addr)(t:TS)(f:SF):Prop:=∀(N:Ends) σ H env F,Rel K cl σ H F env→(∃cls,F a=some (a2E a cls none))→Cs K cl E (f env) σ H F env N→t N σ H
theorem RfS.x{a:Addr}{t:TS}{f:SF}(h:RfS K cl E t f):a9B K cl E a t f:=fun N σ H env F R _ c=>h N σ H env F R c
end
def a0c:Sl→Sl
 | .ow ds=>.fz (.lst ds)
 | .hd ds=>.fz (.lst ds)
 | s=>s
def a0d:DE→DE
 | []=>[]
 | s::e=>a0c s::a0d e
mutual
def noL:D→Bool
 | .lst _=>false
 | .scr _=>false
 | .exc _=>false
 | .obj _ _ _=>false
 | .tup ds=>noLs ds
 | _=>true
def noLs:List D→Bool
 | []=>true
 | d::ds=>noL d && noLs ds
end
section
variable {K:W.Frag}{cl:Str→Addr}{E:XK}{σ:St}{H F F1 H' F' F2:Hp}{env:DE}
mutual
theorem Rp.noL(g:∀b o,F' b=some o→(∀xs,o≠.lst xs)→F2 b=some o):∀(d:D) (v:V),L2.noL d=true→Rp K cl F' d v→Rp K cl F2 d v
 | .non,_,_,h=>by simpa only[Rp]using h
 | .bl _,_,_,h=>by simpa only[Rp]using h
 | .int _,_,_,h=>by simpa only[Rp]using h
 | .str _,_,_,h=>by simpa only[Rp]using h
 | .ty _,_,_,h=>by simpa only[Rp]using h
 | .cls _,_,_,h=>by simpa only[Rp]using h
 | .tup ds,v,n,h=>by
  simp only[Rp]at h ⊢
  obtain⟨a,xs,e,h1,h2⟩:=h
  exact⟨a,xs,e,g _ _ h1 (fun _ z=>nomatch z),Rps.noL g ds xs (by simpa only[L2.noL]using n) h2⟩
 | .lst ds,v,n,h=>by simp[L2.noL]at n
 | .scr ns,v,n,h=>by simp[L2.noL]at n
 | .exc c,v,n,h=>by simp[L2.noL]at n
 | .obj _ _ _,v,n,h=>by simp[L2.noL]at n
theorem Rps.noL(g:∀b o,F' b=some o→(∀xs,o≠.lst xs)→F2 b=some o):∀(ds:List D) (vs:List V),L2.noLs ds=true→Rps K cl F' ds vs→Rps K cl F2 ds vs
 | [],_,_,h=>by simpa only[Rps]using h
 | d::ds,vs,n,h=>by
  simp only[Rps]at h ⊢
  simp only[L2.noLs,Bool.and_eq_true]at n
  obtain⟨v,r,e,h1,h2⟩:=h
  exact⟨v,r,e,Rp.noL g d v n.1 h1,Rps.noL g ds r n.2 h2⟩
end
def a85(f:ZF):ZF:=fun e=>match f (a0d e)with
 | some (.ok d _)=>if noL d=true then some (.ok d e)else none
 | some (.ex c)=>some (.ex c)
 | none=>none
def a86(f:BF):BF:=fun e=>match f (a0d e)with
 | some (.ok d _)=>some (.ok d e)
 | some (.ex c)=>some (.ex c)
 | none=>none
def bLd(r:Option (R Bool))(e:DE):Option (R Bool):=match r with
 | some (.ok d _)=>some (.ok d e)
 | some (.ex c)=>some (.ex c)
 | none=>none
def zLd(r:Option (R D))(e:DE):Option (R D):=match r with
 | some (.ok d _)=>if noL d=true then some (.ok d e)else none
 | some (.ex c)=>some (.ex c)
 | none=>none
theorem a43(f:BF)(e:DE):a86 f e=bLd (f (a0d e)) e:=rfl
theorem a44(f:ZF)(e:DE):a85 f e=zLd (f (a0d e)) e:=rfl
theorem a8v(d:Bool)(e e2:DE):bLd (some (.ok d e2)) e=some (.ok d e):=rfl
theorem a8w(c:Str)(e:DE):bLd (some (.ex c)) e=some (.ex c):=rfl
theorem a8x(d:D)(e e2:DE):zLd (some (.ok d e2)) e=if noL d=true then some (.ok d e)else none:=rfl
theorem a8y(c:Str)(e:DE):zLd (some (.ex c)) e=some (.ex c):=rfl
variable {k:Nat}
end
def un:Option D→Sl
 | none=>.no
 | some d=>.fz d
def J8:Sl→Bool
 | .hd _=>false
 | _=>true
def okS:Option Sl→Bool
 | none=>false
 | some s=>J8 s
theorem a45(o:Option D):J8 (un o)=true:=by cases o<;>rfl
theorem a46:J8 .no=true:=rfl
theorem a47(d:D):J8 (.fz d)=true:=rfl
theorem a48(d:List D):J8 (.ow d)=true:=rfl
theorem a49(d:List D):J8 (.hd d)=false:=rfl
theorem a4_(s:Sl):okS (some s)=J8 s:=rfl
theorem a5a:okS none=false:=rfl
theorem a60:a0c .no=.no:=rfl
theorem a61(d:D):a0c (.fz d)=.fz d:=rfl
theorem a62(d:List D):a0c (.ow d)=.fz (.lst d):=rfl
theorem a63(d:List D):a0c (.hd d)=.fz (.lst d):=rfl
theorem a8z(i:Nat)(s:Sl)(e:DE):put i s e=if okS e[i]? = true then some (.nx (e.set i s))else none:=by
 unfold put okS
 cases e[i]? with
 | none=>rfl
 | some t=>cases t<;>rfl
theorem a5b(i:Nat)(d:D)(e:DE):c4 i d e=if okS e[i]? = true then some (e.set i (.fz d))else none:=by
 unfold c4 okS
 cases e[i]? with
 | none=>rfl
 | some t=>cases t<;>rfl
theorem a64(o:Option D):a0c (un o)=un o:=by cases o<;>rfl
theorem a5c:Z8 []=true:=rfl
theorem a37(s:Sl)(e:DE):Z8 (s::e)=(J8 s && Z8 e):=by cases s<;>rfl
def D2(r:Option RS):Option RS:=match r with
 | some (.ct e)=>some (.nx e)
 | r=>r
theorem a65(e:DE):D2 (some (.nx e))=some (.nx e):=rfl
theorem a66(e:DE):D2 (some (.ct e))=some (.nx e):=rfl
theorem a67(d:D):D2 (some (.rt d))=some (.rt d):=rfl
theorem a68(c:Str):D2 (some (.ex c))=some (.ex c):=rfl
theorem a69(d:List (List D)):D2 (some (.rz d))=some (.rz d):=rfl
theorem a6_(d:List D):D2 (some (.ro d))=some (.ro d):=rfl
theorem a38{r:Option RS}{k:SF}:G5 r k=G5 (D2 r) k:=by
 cases r with
 | none=>rfl
 | some r=>cases r<;>rfl
theorem a1u{α:Type}{b:GF}{body:SF}(f:α→D)(I:List α→DE→Prop)(l0:List α):∀(l pre:List α) (e:DE),l0=pre++l→I pre e→(∀pre x post e,l0=pre++x::post→I pre e→∃e2,D2 (a24 (b (f x) e) body)=some (.nx e2)∧I (pre++[x]) e2)→∃e',l4 b body (l.map f) e=some (.nx e')∧I l0 e'
 | [],pre,e,hl,h,_=>⟨e,rfl,by rw[hl,List.append_nil];exact h⟩
 | x::l,pre,e,hl,h,hs=>by
  obtain⟨e2,h2,h3⟩:=hs pre x l e hl h
  obtain⟨e',h4,h5⟩:=a1u f I l0 l (pre++[x]) e2 (by rw[hl,List.append_assoc];rfl) h3 hs
  refine⟨e',?_,h5⟩
  rw[List.map_cons,C1]
  cases q:b (f x) e with
  | none=>rw[q]at h2;cases h2
  | some e1 =>
   rw[q]at h2
   have h2:D2 (body e1)=some (.nx e2):=h2
   rw[w9,a38,h2];exact h4
theorem a2p{α:Type}{b:GF}{body:SF}(f:α→D)(I:List α→DE→Prop)(l:List α)(e:DE)(h:I [] e)(hs:∀pre x post e,l=pre++x::post→I pre e→∃e2,D2 (a24 (b (f x) e) body)=some (.nx e2)∧I (pre++[x]) e2):∃e',l4 b body (l.map f) e=some (.nx e')∧I l e' :=
 a1u f I l l [] e rfl h hs
theorem A5{α:Type}{b:GF}{c:BF}{el:ZF}{ec eo:DE}(f:α→D)(g:α→D)(q:α→Bool):∀(l:List α) (acc:List D),acc.length+l.length≤sizeLine→(∀x∈l,∃e1 e2,b (f x) ec=some e1∧c e1=some (.ok (q x) e2)∧(q x=true→∃e3,el e2=some (.ok (g x) e3)))→i3 b c el ec eo (l.map f) acc=some (.ok (acc++(l.filter q).map g) eo)
 | [],acc,_,_=>by simp only[List.filter_nil,List.map_nil,List.append_nil];rfl
 | x::l,acc,hl,h=>by
  obtain⟨e1,e2,h1,h2,h3⟩:=h x List.mem_cons_self
  have hl':acc.length<sizeLine:=by rw[List.length_cons]at hl;omega
  rw[List.map_cons,Y1,h1,a0u,h2,K4]
  by_cases z:q x=true
  ·obtain⟨e3,h4⟩:=h3 z
   rw[if_pos z,h4,K4,if_pos hl',A5 f g q l (acc++[g x]) (by rw[List.length_append,List.length_cons,List.length_nil];rw[List.length_cons]at hl;omega) (fun y m=>h y (List.mem_cons_of_mem _ m)),List.filter_cons_of_pos z,List.map_cons,List.append_assoc];rfl
  ·rw[if_neg z,A5 f g q l acc (by rw[List.length_cons]at hl;omega) (fun y m=>h y (List.mem_cons_of_mem _ m)),List.filter_cons_of_neg z]
theorem a5d{ds:List D}{v:Int}(h:0≤v):a0a ds (some v) none=ds.drop v.toNat:=by
 unfold a0a
 rw[HT.sIx_none]
 obtain⟨n,rfl⟩:=Int.eq_ofNat_of_zero_le h
 rw[HT.sIx_nat,Int.toNat_natCast]
 by_cases z:n≤ds.length
 ·rw[Nat.min_eq_left z,List.take_of_length_le (by rw[List.length_drop];exact Nat.le_refl _)]
 ·rw[Nat.min_eq_right (by omega),List.drop_of_length_le (Nat.le_refl _),List.drop_of_length_le (by omega),List.take_nil]
open Classical in
section
variable {K:W.Frag}{cl:Str→Addr}{E:XK}{σ:St}{H F:Hp}{env:DE}
abbrev HF:=Str→SF
def hN:HF:=fun _ _=>none
end
section
variable {K:W.Frag}{cl:Str→Addr}{E:XK}{σ:St}{H F:Hp}{env:DE}
theorem Rps.lookup{f:Str}:∀{ns:List Str} {ds:List D} {xs:List V} {z:D},Rps K cl F ds xs→(ns.zip ds).lookup f=some z→∃v,(ns.zip xs).lookup f=some v∧Rp K cl F z v
 | [],ds,xs,z,_,h=>by simp at h
 | n::ns,[],xs,z,r,h=>by simp at h
 | n::ns,d::ds,xs,z,r,h=>by
  obtain⟨v,ys,rfl,p,r'⟩:=r.inv
  rw[List.zip_cons_cons,List.lookup_cons]at h ⊢
  by_cases q:(f == n)=true
  ·rw[q]at h ⊢;cases h;exact⟨v,rfl,p⟩
  ·rw[Bool.not_eq_true _ |>.mp q]at h ⊢;exact r'.lookup h
end
structure GrM(a:Addr)(H F H' F':Hp):Prop where
 fz:Same F F'
 sub:Same F' H'
 hid:∀b o,b≠a→H b=some o→F b=none→H' b=some o∧F' b=none
 dom:∀b,H' b=none→H b=none
structure Bs(a:Addr)(σ:St)(env:DE)(H0 F0 H F:Hp):Prop where
 fz:Same F0 F
 hid:∀b o,b≠a→H0 b=some o→F0 b=none→H b=some o∧F b=none∧¬Ow σ env b
 dom:∀b,H b=none→H0 b=none
section
variable {K:W.Frag}{cl:Str→Addr}{E:XK}{σ:St}{H F:Hp}{env:DE}
theorem Bs.frm{a:Addr}{ds:List D}{σ':St}{env':DE}{H0 F0 H' F':Hp}(B:Bs a σ env H0 F0 H F)(f:Frm σ H F env σ' H' F' env'):Bs a σ' env' H0 F0 H' F' :=
 ⟨B.fz.trans f.fz,fun b o n h g=>by obtain⟨h1,f1,w1⟩:=B.hid b o n h g;exact f.hid b o h1 f1 w1,fun b h=>B.dom b (f.dom b h)⟩
theorem Bs.gr{a:Addr}{H0 F0:Hp}(B:Bs a σ env H0 F0 H F)(s:Same F H):GrM a H0 F0 H F :=
 ⟨B.fz,s,fun b o n h g=>by obtain⟨h1,f1,_⟩:=B.hid b o n h g;exact⟨h1,f1⟩,B.dom⟩
end
section
variable {P:Program}{w:World}{K:W.Frag}{mg:Str→Option Value}{base:Heap}{cl:Str→Addr}{TB:List (Addr×Str)}
variable {X:Cx}{k k':Nat}{x:Str}{ps:List Str}{sp:Sp}{E:XK}{e:Expr}{es:List Expr}{t:TA}{p pos:Pos}{d:V}
theorem OwnD.own(G:OwnD P w K mg base k x ps sp d):Own P w K mg base k x ps sp:=by
 obtain⟨f,fd,du,F,b,bd,rd,kp,m⟩:=G.ex
 exact⟨f,fd,F,b,kp,m⟩
end
def J9(k:Int):List Int→List Int
 | []=>[k]
 | x::r=>if k<x then k::x::r else if k=x then x::r else x::J9 k r
def j1:List Int→List Int
 | []=>[]
 | k::r=>J9 k (j1 r)
theorem V3{k x:Int}:∀{l:List Int},x∈J9 k l↔x=k∨x∈l
 | []=>by simp[J9]
 | y::l=>by
  unfold J9
  split
  ·simp
  ·split
   ·rename_i h;subst h;simp
   ·rw[List.mem_cons,V3,List.mem_cons]
    constructor
    ·rintro(h | h | h)
     ·exact .inr (.inl h)
     ·exact .inl h
     ·exact .inr (.inr h)
    ·rintro(h | h | h)
     ·exact .inr (.inl h)
     ·exact .inl h
     ·exact .inr (.inr h)
theorem a2q{k:Int}:∀{l:List Int},l.Pairwise (· < ·)→(J9 k l).Pairwise (· < ·)
 | [],_=>List.pairwise_singleton _ _
 | y::l,h=>by
  unfold J9
  have h':=List.pairwise_cons.mp h
  split
  ·rename_i hk
   refine List.pairwise_cons.mpr ⟨fun x m=>?_,h⟩
   rcases List.mem_cons.mp m with rfl | m
   ·exact hk
   ·exact Int.lt_trans hk (h'.1 x m)
  ·split
   ·exact h
   ·refine List.pairwise_cons.mpr ⟨fun x m=>?_,a2q h'.2⟩
    rcases V3.mp m with rfl | m
    ·omega
    ·exact h'.1 x m
theorem t8{x:Int}:∀{l:List Int},x∈j1 l↔x∈l
 | []=>by simp[j1]
 | k::l=>by unfold j1;rw[V3,t8,List.mem_cons]
theorem O1:∀l:List Int,(j1 l).Pairwise (· < ·)
 | []=>.nil
 | k::l=>a2q (O1 l)
theorem a1v{k:Int}:∀{l:List Int},(J9 k l).length≤l.length+1
 | []=>Nat.le_refl _
 | y::l=>by
  unfold J9
  split
  ·simp
  ·split
   ·simp
   ·have:=a1v (k:=k) (l:=l)
    simp;omega
theorem R5:∀l:List Int,(j1 l).length≤l.length
 | []=>Nat.le_refl _
 | k::l=>by
  have:=a1v (k:=k) (l:=j1 l)
  have:=R5 l
  show(J9 k (j1 l)).length≤l.length+1
  omega
theorem a1w:∀{a b:List Int},a.Pairwise (· < ·)→b.Pairwise (· < ·)→(∀x,x∈a↔x∈b)→a=b
 | [],[],_,_,_=>rfl
 | [],y::b,_,_,h=>absurd ((h y).mpr List.mem_cons_self) List.not_mem_nil
 | x::a,[],_,_,h=>absurd ((h x).mp List.mem_cons_self) List.not_mem_nil
 | x::a,y::b,ha,hb,h=>by
  have ha':=List.pairwise_cons.mp ha
  have hb':=List.pairwise_cons.mp hb
  have e:x=y:=by
   rcases List.mem_cons.mp ((h x).mp List.mem_cons_self)with e | m
   ·exact e
   ·rcases List.mem_cons.mp ((h y).mpr List.mem_cons_self)with e | m2
    ·exact e.symm
    ·have:=hb'.1 x m
     have:=ha'.1 y m2
     omega
  subst e
  congr 1
  refine a1w ha'.2 hb'.2 fun z=>?_
  constructor
  ·intro m
   rcases List.mem_cons.mp ((h z).mp (List.mem_cons_of_mem _ m))with e | m2
   ·subst e;have:=ha'.1 z m;omega
   ·exact m2
  ·intro m
   rcases List.mem_cons.mp ((h z).mpr (List.mem_cons_of_mem _ m))with e | m2
   ·subst e;have:=hb'.1 z m;omega
   ·exact m2
def A6(f:AF):NF:=fun e=>bnd (f e) fun ds e1=>match ds with
 | [.lst xs]=>(match J6 xs with
  | some ns=>if ns.length<1000 then some (.ok ((j1 ns).map .int) e1)else none
  | none=>none)
 | _=>none
section
variable {K:W.Frag}{cl:Str→Addr}{E:XK}
theorem a0x{t:TA}{f:AF}(hf:K6 K cl E t f):K5 K cl E (a2b K t) (A6 f):=by
 intro σ H Q env F R h
 refine hf σ H _ env F R ((Ct.bnd h a1c).mono fun vs H1 ⟨F1,e1,ds,s1,R1,p1,h1⟩=>?_)
 split at h1
 ·rename_i xs
  split at h1
  ·rename_i ns hn
   split at h1
   ·rename_i hl
    obtain⟨v,r,rfl,q1,q2⟩:=Rps.inv p1
    rw[q2.inv0]
    simp only[Rp]at q1
    obtain⟨a,ys,rfl,ha,rr⟩:=q1
    rw[a2l hn]at rr
    rw[rr.ints]at ha
    refine⟨a,ns,rfl,.of (R1.sub _ _ ha),hl,fun l ks hl' hpw hm=>?_⟩
    have e:ks=j1 ns:=a1w hpw (O1 ns) fun x=>(hm x).trans t8.symm
    subst e
    exact Ct.newN R1 hl' Rps.ofInts h1
   ·exact h1.elim
  ·exact h1.elim
 ·exact h1.elim
end
end L2
namespace Law
open PySem L2 PyProof.Rows
def Y2(i:Nat):Stmt:=PySem.Challenge.pw_cratefit_k42_heights.main.body.getD i (.Pass ⟨0,0,0,0⟩)
abbrev m9:Stmt:=Y2 5
abbrev u6:Stmt:=Y2 6
abbrev x4:Stmt:=Y2 7
abbrev j7:Stmt:=Y2 10
abbrev A7:Stmt:=Y2 12
abbrev x5:Stmt:=Y2 13
abbrev E9:Stmt:=Y2 14
abbrev k7:Stmt:=Y2 15
abbrev v9:Stmt:=Y2 16
variable {P:Program}{w:World}{K:PySem.W.Frag}{mg:Str→Option Value}{base:Heap}{c:Str→Addr}
structure Txt(K:PySem.W.Frag)(mg:Str→Option Value)(c:Str→Addr):Prop where
 z_all:mg "all" = none
 z_bool:mg "bool" = none
 z_int:mg "int" = none
 z_isinstance:mg "isinstance" = none
 z_len:mg "len" = none
 z_list:mg "list" = none
 z_range:mg "range" = none
 z_set:mg "set" = none
 z_sorted:mg "sorted" = none
 m_BadTurn:mg "BadTurn" = some (.ref (c "BadTurn"))
 m_TooMany:mg "TooMany" = some (.ref (c "TooMany"))
 x_BadTurn:PySem.W.excIn K (c "BadTurn") T7 "ValueError.__new__" = true
 x_TooMany:PySem.W.excIn K (c "TooMany") T7 "ValueError.__new__" = true
 v_MOST_WARES:∃u,mg "MOST_WARES" = some u∧RelV (.int 5) u
def O5:SF:=(D5 (bZ (eB gGt (eCV U8 0) (eV 1))) (X8 "TooMany" (aC (eJ (jC (eC (.str "there are at most ")) (jC (a8r (eV 1)) (jC (eC (.str " wares here")) jN)))) aN)) D4)
def k8:List D→Option R1:=fD 2 2 O5
theorem a0e:FnScope ["wares","most"] ["wares","most"] (a6 m9):=⟨rfl,rfl,rfl,by decide +kernel,rfl,by decide +kernel,by decide +kernel⟩
seal PSs PS PE PA PT
theorem a0f{f:Addr}{fd:FuncData}(F:Fun K "check_count" "check_count" m9 f fd)(T:Txt K mg c)  : FnOk P w K mg base (l7 P w) 3 f fd ["wares","most"] (i4 K c k8) :=
 F.okD (k:=2) a0e fun cdv A outer s H E hr=>⟨_,(g5 (D6 (z9 a8M (w4 (C4 (K:=K)) rfl T.z_len a02 (a7 (pv 0) b0)) (pv 1) (v3 _)) (g5 (a01 E6 T.x_TooMany rfl T.m_TooMany (a7 (a3s (Z1 a0R (Z1 (a7I (pv 1)) (Z1 a0R a7G)))) b0))) u0)),(y6 (M6 (d9 a8Y (a2R a1h) c8)) (a1l (c3 (a9A (a27 d6 (a27 (a8s c8) (a27 d6 a84)))) h9)) E2)⟩
def a28:SF:=(b8 (a2W (eV 0) (a1m [(c4 2),(c4 3),(c4 4)])) (b8 (D5 (Q6 (bZ (eV 1))) (y3 (eT (aC (eV 2) (aC (eV 3) aN)))) D4) (b8 (D5 (Q6 (bZ (eV 4))) (X8 "BadTurn" (aC (eC (.str "a ware that may not be turned has no sides turned")) aN)) D4) (y3 (eT (aC (eV 3) (aC (eV 2) aN)))))))
def i2:List D→Option R1:=fD 5 2 a28
theorem B4:FnScope ["ware","lie","w","h","turns"] ["ware","lie"] (a6 u6):=⟨rfl,rfl,rfl,by decide +kernel,rfl,by decide +kernel,by decide +kernel⟩
theorem a1P{f:Addr}{fd:FuncData}(F:Fun K "sides_of" "sides_of" u6 f fd)(T:Txt K mg c)  : FnOk P w K mg base (l7 P w) 3 f fd ["ware","lie"] (i4 K c i2) :=
 F.okD (k:=2) B4 fun cdv A outer s H E hr=>⟨_,(b6 (a3i (pv 0) (a14 (K:=K) (n:=3) rfl (z7 (j9 (i:=2) B4.nd rfl (Or.inl rfl)) (z7 (j9 (i:=3) B4.nd rfl (Or.inl rfl)) (z7 (j9 (i:=4) B4.nd rfl (Or.inl rfl)) a1R))))) (b6 (D6 (V6 (K1 (pv 1))) (g5 (o6 (a0U (a7 (pv 2) (a7 (pv 3) b0))))) u0) (b6 (D6 (V6 (K1 (pv 4))) (g5 (a01 E6 T.x_BadTurn rfl T.m_BadTurn (a7 a0R b0))) u0) (g5 (o6 (a0U (a7 (pv 3) (a7 (pv 2) b0)))))))),(d5 (a3S c8 (a2i (A4 (i8 (k:=5) (by decide)) (A4 (i8 (k:=5) (by decide)) (A4 (i8 (k:=5) (by decide)) a2h))) rfl)) (d5 (y6 (S0 (M5 c8)) (y4 (a4M (c3 c8 (c3 c8 h9)))) E2) (d5 (y6 (S0 (M5 c8)) (a1l (c3 d6 h9)) E2) (y4 (a4M (c3 c8 (c3 c8 h9)))))))⟩
def a0y:SF:=(b8 (a2W (eV 0) (a1m [(c4 1),(c4 2),(c4 3)])) (X7 (nIf (a4N (bZ (eV 3)) (bZ (eB (J3 true) (eV 1) (eV 2)))) (eL (aC (eC (.bl false)) (aC (eC (.bl true)) aN))) (eL (aC (eC (.bl false)) aN)))))
def l5:List D→Option R1:=fD 4 1 a0y
theorem E4:FnScope ["ware","w","h","turns"] ["ware"] (a6 x4):=⟨rfl,rfl,rfl,by decide +kernel,rfl,by decide +kernel,by decide +kernel⟩
theorem a29{f:Addr}{fd:FuncData}(F:Fun K "lies_of" "lies_of" x4 f fd)(T:Txt K mg c)  : FnOk P w K mg base (l7 P w) 3 f fd ["ware"] (i4 K c l5) :=
 F.okD (k:=2) E4 fun cdv A outer s H E hr=>⟨_,(b6 (a3i (pv 0) (a14 (K:=K) (n:=3) rfl (z7 (j9 (i:=1) E4.nd rfl (Or.inl rfl)) (z7 (j9 (i:=2) E4.nd rfl (Or.inl rfl)) (z7 (j9 (i:=3) E4.nd rfl (Or.inl rfl)) a1R))))) (g5 (o6 (a4g (PW.pt (a7o (K1 (pv 3)) (a5X (z9 a5x (pv 1) (pv 2) (v3 _))))) (O9 (a7 V5 (a7 V5 b0))) (O9 (a7 V5 b0)))))),(d5 (a3S c8 (a2i (A4 (i8 (k:=4) (by decide)) (A4 (i8 (k:=4) (by decide)) (A4 (i8 (k:=4) (by decide)) a2h))) rfl)) (a2f (a8a (a6f (M5 c8) (M6 (d9 a5M c8 c8))) (a1d (c3 d6 (c3 d6 h9))) (a1d (c3 d6 h9)))))⟩
def a1x:SF:=(b8 (sEx (J4 k8 (aC (eV 0) (aC (eC (.int 5)) aN)))) (b8 (n9 1 (eL (aC (eC (.int 0)) aN))) (b8 (a0N 0 (c4 2) (b8 (n9 3 (nCV M7 1)) (b8 (Z7 (h7 l5 (aC (eV 2) aN))  (c4 4) (b8 (C8 5 (eB w8 (J4 i2 (aC (eV 2) (aC (eV 4) aN))) (eC (.int 1)))) (N7 3 (r9 1 1 [5] (c4 0) p9 (eB p7 (eV 0) (eV 1)))))) (n9 1 (A6 (aC (eV 3) aN)))))) (M9 1))))
def j8:List D→Option R1:=fD 6 1 a1x
theorem k9:FnScope ["wares","sums","ware","grown","lie","height"] ["wares"] (a6 j7):=⟨rfl,rfl,rfl,by decide +kernel,rfl,by decide +kernel,by decide +kernel⟩
theorem a0H{f:Addr}{fd:FuncData}(F:Fun K "heights_of" "heights_of" j7 f fd)(T:Txt K mg c)(G_check_count:Own P w K mg base 3 "check_count" ["wares","most"] (i4 K c k8))(G_lies_of:Own P w K mg base 3 "lies_of" ["ware"] (i4 K c l5))(G_sides_of:Own P w K mg base 3 "sides_of" ["ware","lie"] (i4 K c i2)):FnOk P w K mg base (l7 P w) 5 f fd ["wares"] (i4 K c j8) :=
 F.okD (k:=4) k9 fun cdv A outer s H E hr=>⟨_,(b6 (E5 (n5 G_check_count hr (by decide) (XAcc.passes E6) (a7 (pv 0) (a7 (a3w rfl T.v_MOST_WARES) b0)))) (b6 (o7 (i:=1) k9.nd rfl (Or.inl rfl) (O9 (a7 b9 b0))) (b6 (a0S PassesOwn.leaving rfl (z8 (pv 0)) (j9 (i:=2) k9.nd rfl (Or.inl rfl)) (b6 (o7 (i:=3) k9.nd rfl (Or.inl rfl) (a0n (O2 (K:=K)) rfl T.z_list Z2 (a7 (pv 1) b0))) (b6 (a0S PassesOwn.leaving rfl (z8 (n5 G_lies_of hr (by decide) v5 (a7 (pv 2) b0))) (j9 (i:=4) k9.nd rfl (Or.inl rfl)) (b6 (o7 (i:=5) k9.nd rfl (Or.inr rfl) (A8 (E7 (K:=K)) (n5 G_sides_of hr (by decide) (XAcc.passes E6) (a7 (pv 2) (a7 (pv 4) b0))) b9 (fun _ _=>rfl))) (g5 (E5 (P8 (K:=K) PySem.F.plainAttrs_list PySem.F.slot_list_extend PySem.F.type_list_extend P4 (pv 3) (a7 (R8 (Nc:=["total","height"]) (k:=1) (js:=[5]) rfl ⟨by decide +kernel,rfl,by decide +kernel,(by change ∀y∈Scope.names _,y.2=NameKind.free→(a6 j7).names.lookup y.1=some .cell∨(a6 j7).names.lookup y.1=some .free;decide +kernel),by decide +kernel,rfl,rfl,by decide +kernel⟩ (z8 (pv 1)) (fun _ _ _ _ _=>(j9 (i:=0) (by show List.Nodup [("total" : Str),("height" : Str)];decide +kernel) rfl (Or.inl rfl))) (fun _ _ _ _ _=>P5) (fun _ _ _ _ _=>(n0 B6 (pv 0) (pv 1)))) b0)))))) (g5 (o7 (i:=1) k9.nd rfl (Or.inl rfl) (a0s rfl rfl T.z_sorted rfl T.z_set (a7 (pv 3) b0))))))) (g5 (o6 (pv 1)))))),(d5 (a8Z (Z5 (c3 c8 (c3 d6 h9)))) (d5 (A3 (a1d (c3 d6 h9))) (d5 (a6l (i8 (k:=6) (by decide)) (d5 (A3 (a3N a2e)) (d5 (a8i (p8 (c3 c8 h9)) (i8 (k:=6) (by decide)) (d5 (Q8 (d9 K7 (Z5 (c3 c8 (c3 c8 h9))) d6)) (a1q (G4 (by decide) (i8 (k:=1) (by decide)) G3 (d9 C0 c8 c8))))) (A3 (a0x (c3 c8 h9)))))) a2g)))⟩
def a1y:SF:=(b8 (D5 (bZ (eB gLt (eV 1) (eCV U8 0))) (y3 (O4 y0 0 (eV 1))) D4) (y3 (eC (.int 0))))
def d7:List D→Option R1:=fD 2 2 a1y
theorem a39:FnScope ["_law_script","_law_k"] ["_law_script","_law_k"] (a6 A7):=⟨rfl,rfl,rfl,by decide +kernel,rfl,by decide +kernel,by decide +kernel⟩
theorem a3_{f:Addr}{fd:FuncData}(F:Fun K "_law_cell" "_law_cell" A7 f fd)(T:Txt K mg c)  : FnOk P w K mg base (l7 P w) 3 f fd ["_law_script","_law_k"] (i4 K c d7) :=
 F.okD (k:=2) a39 fun cdv A outer s H E hr=>⟨_,(b6 (D6 (z9 a8L (pv 1) (w4 (C4 (K:=K)) rfl T.z_len a02 (a7 (pv 0) b0)) (v3 _)) (g5 (o6 (A8 (L6 (K:=K)) (pv 0) (pv 1) (fun _ _=>rfl)))) u0) (g5 (o6 b9))),(d5 (y6 (M6 (d9 a8X c8 (a2R a1h))) (y4 (X2 X3 c8)) E2) (y4 d6))⟩
def a0z:SF:=(y3 (a2Q (N5 0 "int") (a4O (N5 0 "bool"))))
def l6:List D→Option R1:=fD 1 1 a0z
theorem a2_:FnScope ["_law_found"] ["_law_found"] (a6 x5):=⟨rfl,rfl,rfl,by decide +kernel,rfl,by decide +kernel,by decide +kernel⟩
theorem a3a{f:Addr}{fd:FuncData}(F:Fun K "_law_whole" "_law_whole" x5 f fd)(T:Txt K mg c)  : FnOk P w K mg base (l7 P w) 3 f fd ["_law_found"] (i4 K c l6) :=
 F.okD (k:=2) a2_ fun cdv A outer s H E hr=>⟨_,(g5 (o6 (a3g (w4 (P7 (K:=K)) rfl T.z_isinstance C3 (a7 (pv 0) (a7 (Y6 (v:=.ty "int") rfl T.z_int a7K rfl) b0))) (a3f (a7p (w4 (P7 (K:=K)) rfl T.z_isinstance C3 (a7 (pv 0) (a7 (Y6 (v:=.ty "bool") rfl T.z_bool a6a rfl) b0)))))))),(y4 (a3M Z9 (a79 Z9)))⟩
def a2r:SF:=(y3 (a2Q (eB w8 (eV 0) (eC (.int 2))) (eB (J3 true) (eB w8 (eV 0) (eC (.int 0))) (eB w8 (eV 0) (eC (.int 1))))))
def x6:List D→Option R1:=fD 1 1 a2r
theorem a5e:FnScope ["_law_ware"] ["_law_ware"] (a6 E9):=⟨rfl,rfl,rfl,by decide +kernel,rfl,by decide +kernel,by decide +kernel⟩
theorem a5f{f:Addr}{fd:FuncData}(F:Fun K "_law_two" "_law_two" E9 f fd)(T:Txt K mg c)  : FnOk P w K mg base (l7 P w) 3 f fd ["_law_ware"] (i4 K c x6) :=
 F.okD (k:=2) a5e fun cdv A outer s H E hr=>⟨_,(g5 (o6 (a3g (A8 (E7 (K:=K)) (pv 0) b9 (fun _ _=>rfl)) (a3f (Y8 a5x (A8 (E7 (K:=K)) (pv 0) b9 (fun _ _=>rfl)) (A8 (E7 (K:=K)) (pv 0) b9 (fun _ _=>rfl)) (v3 _)))))),(y4 (a3M (d9 K7 c8 d6) (d9 a5M (d9 K7 c8 d6) (d9 K7 c8 d6))))⟩
def a5g(self:List D→Option R1):SF:=(b8 (D5 (bZ (eB (J3 false) (eCV U8 0) (eC (.int 0)))) (X7 (eL (aC (eC (.int 0)) aN))) D4) (b8 (X6 1 self (aC (zN (a1p 0 (oS (eC (.int 1))) oN)) aN)) (b8 (n9 2 (r9 1 1 [] (c4 0) p9 (eV 0))) (b8 (N7 2 (r9 1 1 [0] (c4 0) p9 (eB p7 (eV 0) (eB w8 (O4 y0 1 (eC (.int 0))) (eC (.int 1)))))) (b8 (D5 (bZ (h7 x6 (aC (O4 y0 0 (eC (.int 0))) aN))) (N7 2 (r9 1 1 [0] (c4 0) p9 (eB p7 (eV 0) (eB w8 (O4 y0 1 (eC (.int 0))) (eC (.int 0)))))) D4) (M9 2))))))
def m5:Nat→List D→Option R1
 | 0=>fun _=>none
 | m+1=>fD 3 1 (a5g (m5 m))
theorem R6:FnScope ["_law_wares","_law_some","_law_more"] ["_law_wares"] (a6 k7):=⟨rfl,rfl,rfl,by decide +kernel,rfl,by decide +kernel,by decide +kernel⟩
theorem a0A{f:Addr}{fd:FuncData}(F:Fun K "_law_sums" "_law_sums" k7 f fd)(T:Txt K mg c)(B:Binds K fd ["_law_wares"] [])(kp:PySem.W.keepIn K (.ref f)=true)(hm:mg "_law_sums" = some (.ref f))(G_l_two:Own P w K mg base 3 "_law_two" ["_law_ware"] (i4 K c x6)):∀m:Nat,FnOk P w K mg base (l7 P w) (4+2*m+1) f fd ["_law_wares"] (i4 K c (m5 m))
 | 0=>a35
 | m+1=>by
  have G_l_sums:Own P w K mg base (4+2*m+1) "_law_sums" ["_law_wares"] (i4 K c (m5 m)):=⟨_,_,a0A F T B kp hm G_l_two m,B,kp,hm⟩
  exact F.okD (k:=4+2*m+2) R6 fun cdv A outer s H E hr=>⟨_,(b6 (D6 (z9 a2z (w4 (C4 (K:=K)) rfl T.z_len a02 (a7 (pv 0) b0)) b9 (v3 _)) (g5 (o6 (O9 (a7 b9 b0)))) u0) (b6 (o7 (i:=1) R6.nd rfl (Or.inl rfl) (n5 G_l_sums hr (by omega) v5 (a7 (a4l (a4y (K:=K)) (pv 0) (a51 b9) a50) b0))) (b6 (a2G (i:=2) (Nc:=["_law_total"]) (k:=1) (js:=[]) rfl ⟨by decide +kernel,rfl,by decide +kernel,(by change ∀y∈Scope.names _,y.2=NameKind.free→(a6 k7).names.lookup y.1=some .cell∨(a6 k7).names.lookup y.1=some .free;decide +kernel),by decide +kernel,rfl,rfl,by decide +kernel⟩ R6.nd rfl (z8 (pv 1)) (fun _ _ _ _ _=>(j9 (i:=0) (by show List.Nodup [("_law_total" : Str)];decide +kernel) rfl (Or.inl rfl))) (fun _ _ _ _ _=>P5) (fun _ _ _ _ _=>(pv 0))) (b6 (E5 (P8 (K:=K) PySem.F.plainAttrs_list PySem.F.slot_list_extend PySem.F.type_list_extend P4 (pv 2) (a7 (R8 (Nc:=["_law_total","_law_wares"]) (k:=1) (js:=[0]) rfl ⟨by decide +kernel,rfl,by decide +kernel,(by change ∀y∈Scope.names _,y.2=NameKind.free→(a6 k7).names.lookup y.1=some .cell∨(a6 k7).names.lookup y.1=some .free;decide +kernel),by decide +kernel,rfl,rfl,by decide +kernel⟩ (z8 (pv 1)) (fun _ _ _ _ _=>(j9 (i:=0) (by show List.Nodup [("_law_total" : Str),("_law_wares" : Str)];decide +kernel) rfl (Or.inl rfl))) (fun _ _ _ _ _=>P5) (fun _ _ _ _ _=>(n0 B6 (pv 0) (A8 (E7 (K:=K)) (A8 (L6 (K:=K)) (pv 1) b9 (fun _ _=>rfl)) b9 (fun _ _=>rfl))))) b0))) (b6 (D6 (K1 (n5 G_l_two hr (by omega) v5 (a7 (A8 (L6 (K:=K)) (pv 0) b9 (fun _ _=>rfl)) b0))) (g5 (E5 (P8 (K:=K) PySem.F.plainAttrs_list PySem.F.slot_list_extend PySem.F.type_list_extend P4 (pv 2) (a7 (R8 (Nc:=["_law_total","_law_wares"]) (k:=1) (js:=[0]) rfl ⟨by decide +kernel,rfl,by decide +kernel,(by change ∀y∈Scope.names _,y.2=NameKind.free→(a6 k7).names.lookup y.1=some .cell∨(a6 k7).names.lookup y.1=some .free;decide +kernel),by decide +kernel,rfl,rfl,by decide +kernel⟩ (z8 (pv 1)) (fun _ _ _ _ _=>(j9 (i:=0) (by show List.Nodup [("_law_total" : Str),("_law_wares" : Str)];decide +kernel) rfl (Or.inl rfl))) (fun _ _ _ _ _=>P5) (fun _ _ _ _ _=>(n0 B6 (pv 0) (A8 (E7 (K:=K)) (A8 (L6 (K:=K)) (pv 1) b9 (fun _ _=>rfl)) b9 (fun _ _=>rfl))))) b0)))) u0) (g5 (o6 (pv 2)))))))),(d5 (y6 (M6 (d9 a2T (a2R a1h) d6)) (a2f (a1d (c3 d6 h9))) E2) (d5 (a4P (c3 (a5K (a8p (a83 d6) a82)) h9)) (d5 (a2Z (G4 (by decide) (i8 (k:=1) (by decide)) G3 c8)) (d5 (a1q (G4 (by decide) (i8 (k:=1) (by decide)) G3 (d9 C0 c8 (d9 K7 (X2 X3 d6) d6)))) (d5 (y6 (M5 (p8 (c3 (X2 X3 d6) h9))) (a1q (G4 (by decide) (i8 (k:=1) (by decide)) G3 (d9 C0 c8 (d9 K7 (X2 X3 d6) d6)))) E2) a2g)))))⟩
def a87:SF:=(b8 (C8 1 (eB a1g (eC (.int 10)) (eC (.int 40)))) (b8 (D5 (bZ (eB (J3 false) (eB A2 (eB a2S (h7 d7 (aC (eV 0) (aC (eC (.int 0)) aN))) (eC (.int 6))) (eC (.int 2))) (eC (.int 1)))) (C8 1 (eC (.int 6))) D4) (b8 (n9 2 (eL aN)) (b8 (S3 V0 (aC (eB A2 (h7 d7 (aC (eV 0) (aC (eC (.int 0)) aN))) (eC (.int 6))) aN) (c4 3) (b8 (C8 4 (eB p7 (eC (.int 1)) (eB A2 (h7 d7 (aC (eV 0) (aC (eB p7 (eC (.int 1)) (eB U7 (eC (.int 2)) (eV 3))) aN))) (eV 1)))) (b8 (C8 5 (eB p7 (eC (.int 1)) (eB A2 (h7 d7 (aC (eV 0) (aC (eB p7 (eC (.int 2)) (eB U7 (eC (.int 2)) (eV 3))) aN))) (eV 1)))) (U9 2 (eT (aC (eV 4) (aC (eV 5) (aC (eB (J3 false) (eB A2 (h7 d7 (aC (eV 0) (aC (eB p7 (eC (.int 11)) (eV 3)) aN))) (eC (.int 2))) (eC (.int 1))) aN)))))))) (b8 (n9 6 (nCV M7 2)) (b8 (a0M 7 j8 (aC (eV 6) aN)) (b8 (D5 (bOr (Q6 (bZ (N5 7 "list"))) (Q6 (bZ (eCB (g1 a1j) (aC (zN (r9 7 1 [] (c4 0) p9 (h7 l6 (aC (eV 0) aN)))) aN))))) (y3 (eC (.bl false))) D4) (b8 (n9 8 (A6 (aC (h7 (m5 8) (aC (eV 2) aN)) aN))) (b8 (D5 (bOr (bZ (U6 (D1 true) 7 8)) (bZ (U6 (D1 true) 6 2))) (y3 (eC (.bl false))) D4) (b8 (U9 7 (eC (.int 0))) (y3 (eBW (D1 false) (J4 j8 (aC (eV 6) aN)) 8))))))))))))
def a5R:List D→Option R1:=fD 9 1 a87
theorem v7:FnScope ["_law_script","_law_most","_law_wares","_law_k","_law_w","_law_h","_law_handed","_law_found","_law_due"] ["_law_script"] (a6 v9):=⟨rfl,rfl,rfl,by decide +kernel,rfl,by decide +kernel,by decide +kernel⟩
theorem a7a{f:Addr}{fd:FuncData}(F:Fun K "law" "law" v9 f fd)(T:Txt K mg c)(G_l_cell:Own P w K mg base 3 "_law_cell" ["_law_script","_law_k"] (i4 K c d7))(G_heights_of:Own P w K mg base 5 "heights_of" ["wares"] (i4 K c j8))(G_l_whole:Own P w K mg base 3 "_law_whole" ["_law_found"] (i4 K c l6))(G_l_sums:Own P w K mg base 21 "_law_sums" ["_law_wares"] (i4 K c (m5 8))):FnOk P w K mg base (l7 P w) 23 f fd ["_law_script"] (i4 K c a5R) :=
 F.okD (k:=22) v7 fun cdv A outer s H E hr=>⟨_,(b6 (o7 (i:=1) v7.nd rfl (Or.inl rfl) (n0 a7v b9 b9)) (b6 (D6 (z9 a2z (n0 O8 (n0 a4w (n5 G_l_cell hr (by decide) v5 (a7 (pv 0) (a7 b9 b0))) b9) b9) b9 (v3 _)) (g5 (o7 (i:=1) v7.nd rfl (Or.inl rfl) b9)) u0) (b6 (o7 (i:=2) v7.nd rfl (Or.inl rfl) (O9 b0)) (b6 (a0S PassesOwn.leaving rfl (a3k rfl T.z_range (a7 (n0 O8 (n5 G_l_cell hr (by decide) v5 (a7 (pv 0) (a7 b9 b0))) b9) b0)) (j9 (i:=3) v7.nd rfl (Or.inl rfl)) (b6 (o7 (i:=4) v7.nd rfl (Or.inl rfl) (n0 B6 b9 (n0 O8 (n5 G_l_cell hr (by decide) v5 (a7 (pv 0) (a7 (n0 B6 b9 (n0 a11 b9 (pv 3))) b0))) (pv 1)))) (b6 (o7 (i:=5) v7.nd rfl (Or.inl rfl) (n0 B6 b9 (n0 O8 (n5 G_l_cell hr (by decide) v5 (a7 (pv 0) (a7 (n0 B6 b9 (n0 a11 b9 (pv 3))) b0))) (pv 1)))) (g5 (E5 (P8 (K:=K) PySem.F.plainAttrs_list PySem.F.slot_list_append PySem.F.type_list_append P3 (pv 2) (a7 (a0U (a7 (pv 4) (a7 (pv 5) (a7 (Y8 a2z (n0 O8 (n5 G_l_cell hr (by decide) v5 (a7 (pv 0) (a7 (n0 B6 b9 (pv 3)) b0))) b9) b9 (v3 _)) b0)))) b0))))))) (b6 (o7 (i:=6) v7.nd rfl (Or.inl rfl) (a0n (O2 (K:=K)) rfl T.z_list Z2 (a7 (pv 2) b0))) (b6 (o7 (i:=7) v7.nd rfl (Or.inl rfl) (n5 G_heights_of hr (by decide) (XAcc.passes E6) (a7 (pv 6) b0))) (b6 (D6 (PW.pt (a5p (V6 (K1 (w4 (P7 (K:=K)) rfl T.z_isinstance C3 (a7 (pv 7) (a7 (Y6 (v:=.ty "list") rfl T.z_list Z2 rfl) b0))))) (a3e (V6 (K1 (w4 (a3v (K:=K)) rfl T.z_all a7M (a7 (R8 (Nc:=["_law_height"]) (k:=1) (js:=[]) rfl ⟨by decide +kernel,rfl,by decide +kernel,(by change ∀y∈Scope.names _,y.2=NameKind.free→(a6 v9).names.lookup y.1=some .cell∨(a6 v9).names.lookup y.1=some .free;decide +kernel),by decide +kernel,rfl,rfl,by decide +kernel⟩ (z8 (pv 7)) (fun _ _ _ _ _=>(j9 (i:=0) (by show List.Nodup [("_law_height" : Str)];decide +kernel) rfl (Or.inl rfl))) (fun _ _ _ _ _=>P5) (fun _ _ _ _ _=>(n5 G_l_whole hr (by decide) v5 (a7 (pv 0) b0)))) b0))))))) (g5 (o6 V5)) u0) (b6 (o7 (i:=8) v7.nd rfl (Or.inl rfl) (a0s rfl rfl T.z_sorted rfl T.z_set (a7 (n5 G_l_sums hr (by decide) v5 (a7 (pv 2) b0)) b0))) (b6 (D6 (PW.pt (a5p (z9 (a2n (K:=K) (cl:=c) (a41 hr)) (pv 7) (pv 8) (v3 _)) (a3e (z9 (a2n (K:=K) (cl:=c) (a41 hr)) (pv 6) (pv 2) (v3 _))))) (g5 (o6 V5)) u0) (b6 (E5 (P8 (K:=K) PySem.F.plainAttrs_list PySem.F.slot_list_append PySem.F.type_list_append P3 (pv 7) (a7 b9 b0))) (g5 (o6 (Y8 (a6Z (K:=K) (cl:=c) (a41 hr)) (n5 G_heights_of hr (by decide) (XAcc.passes E6) (a7 (pv 6) b0)) (pv 8) (v3 _)))))))))))))),(d5 (Q8 (d9 a8g d6 d6)) (d5 (y6 (M6 (d9 a2T (d9 Q7 (d9 a8f (p8 (c3 c8 (c3 d6 h9))) d6) d6) d6)) (Q8 d6) E2) (d5 (A3 (a1d h9)) (d5 (a4S (c3 (d9 Q7 (p8 (c3 c8 (c3 d6 h9))) d6) h9) (i8 (k:=9) (by decide)) (d5 (Q8 (d9 C0 d6 (d9 Q7 (p8 (c3 c8 (c3 (d9 C0 d6 (d9 a3O d6 c8)) h9))) c8))) (d5 (Q8 (d9 C0 d6 (d9 Q7 (p8 (c3 c8 (c3 (d9 C0 d6 (d9 a3O d6 c8)) h9))) c8))) (a3R (a4M (c3 c8 (c3 c8 (c3 (d9 a2T (d9 Q7 (p8 (c3 c8 (c3 (d9 C0 d6 c8) h9))) d6) d6) h9)))))))) (d5 (A3 (a3N a2e)) (d5 (a6j (c3 c8 h9)) (d5 (y6 (a3L (S0 (M5 Z9)) (S0 (M5 (a8W a8h.cb (c3 (a5K (G4 (by decide) (i8 (k:=1) (by decide)) G3 (p8 (c3 c8 h9)))) h9))))) (y4 d6) E2) (d5 (A3 (a0x (c3 (p8 (c3 c8 h9)) h9))) (d5 (y6 (a3L (M6 (a2c a1s)) (M6 (a2c a1s))) (y4 d6) E2) (d5 (a3R d6) (y4 (a78 a1s (Z5 (c3 c8 h9))))))))))))))⟩
end Law
namespace Law
open PySem L2 PyProof.Rows
variable {P:Program}{w:World}{K:PySem.W.Frag}{mg:Str→Option Value}{base:Heap}{c:Str→Addr}
local macro_rules|`(tactic|walk_at $s:str)=>do
 let t←`(tactic|simp(decide:=true)only[*,a80,a6p,a6q,a6r,a6s,a6C,a6t,a6u,a6v,a6w,a4U,a6x,a6y,a8l,a4V,a4W,a3Y,a3Z,a4X,a20,a21,a30,a31,a32,a4Y,a22,a23,a6z,a6A,a6D,a6B,a6E,a4Z,S4,a6F,a6G,a6H,a6J,a6I,a6K,V1,C1,w9,a65,a66,a67,a68,a6_,a69,a0u,a36,Y1,i5,N4,r9,a43,a8v,a8w,a44,a8x,a8y,a0d,a60,a61,a62,a63,noL,noLs,a1p,oN,oS,a0N,unhide,a33,a6R,a6O,a6P,a6Q,a6L,a6M,a6N,a2U,G0,D1,h8,t5,a9,k6,u9,t6,B3,Nat.max_self,Nat.zero_max,Nat.max_zero,decide_true,Bool.or_true,Bool.true_or,Bool.or_false,List.isEmpty_nil,List.any_cons,List.any_nil,N7,c9,List.all_cons,List.all_nil,Bool.and_self,Bool.and_true,Bool.true_and,beq_self_eq_true,a6S,a8m,a8n,a8o,a6U,a6V,a2k,D5,C8,n9,a0M,X6,y3,X7,M9,D4,a2W,X8,sEx,U9,Z7,S3,a8z,a4_,a5a,a46,a47,a48,a49,a45,a64,a5c,a37,eC,eV,eB,O4,eBW,U6,eT,eL,zN,aN,aC,J4,h7,a4O,a2Q,nIf,eCB,eCV,nCV,g1,U8,M7,bZ,Q6,a4N,bOr,p9,a5b,a1m,N0,K4,a73,a74,a1b,a75,a76,M3,M4,look,w8,y0,a6g,N5,a0O,tyN,seqL,Y0,a5O,a5P,List.map_cons,List.map_nil,List.length_cons,List.length_nil,List.cons_append,List.nil_append,List.replicate_succ,List.replicate_zero,List.getElem?_cons_zero,List.getElem?_cons_succ,List.set_cons_zero,List.set_cons_succ,Nat.reduceAdd,Nat.reduceSub,if_true,if_false,Bool.not_true,Bool.not_false,Bool.not_not,Nat.zero_add,Bool.false_eq_true,decide_eq_true_eq,Bool.not_eq_true',decide_eq_false_iff_not,Option.map_some,Option.map_none,ite_self])
 return if s.getString=="eh" then t.raw else t.raw.modifyArg 4 (·.modifyArg 1 fun l=>l.setArg 0 l[2])
theorem K9{ns:List Int}{k:Int}(hk:0≤k):d7 [.scr ns,.int k]=some (.ret (.int (m4 ns k))):=by
 rw[← a6X hk]
 unfold d7 a1y
 walk_at "ev"
 split
 ·cases atI ns k<;>rfl
 ·rfl
abbrev Wr:=Int×Int×Bool
def wD(q:Wr):D:=.tup [.int q.1,.int q.2.1,.bl q.2.2]
theorem a8A{n:Nat}(h:n≤1000):V0 [.int (n:Int)]=some (0,n):=by
 unfold V0
 show(if _ then _ else _)=_
 rw[if_pos (by omega)]
 simp
theorem a7b{rg:List D→Option (Int×Nat)}{f:AF}{b:GF}{body:SF}{e e1:DE}{ds:List D}{lo:Int}{n:Nat}(h:f e=some (.ok ds e1))(hr:rg ds=some (lo,n)):S3 rg f b body e=l4 b body (C9 lo n) e1:=by
 unfold S3;rw[h,a1b,hr]
theorem a5h(x:Int):l6 [.int x]=some (.ret (.bl true)):=by
 unfold l6 a0z
 walk_at "ev"
 rfl
theorem a9C(m:Nat):C9 0 m=(List.range m).map fun(k:Nat)=>D.int (k:Int):=by
 unfold C9
 refine List.map_congr_left fun i _=>?_
 rw[Int.zero_add]
def two(q:Wr):Bool:=q.2.2 && decide (¬q.1=q.2.1)
theorem a7c(w h:Int)(t:Bool):i2 [.tup [.int w,.int h,.bl t],.bl false]=some (.ret (.tup [.int w,.int h])):=rfl
theorem a7d(w h:Int):i2 [.tup [.int w,.int h,.bl true],.bl true]=some (.ret (.tup [.int h,.int w])):=rfl
theorem a7e(q:Wr):l5 [wD q]=some (.own (if two q=true then[.bl false,.bl true]else[.bl false])):=by
 obtain⟨w,h,t⟩:=q
 unfold l5 a0y wD two
 cases t
 ·rfl
 ·by_cases z:w=h
  ·subst z
   walk_at "ev"
   try rfl
  ·walk_at "eh"
   try rfl
theorem a8B(q:Wr):x6 [wD q]=some (.ret (.bl (two q))):=by
 obtain⟨w,h,t⟩:=q
 unfold x6 a2r wD two
 cases t
 ·rfl
 ·by_cases z:w=h
  ·subst z
   walk_at "ev"
   try rfl
  ·walk_at "eh"
   try rfl
theorem a5i(A:List D)(h:¬(A.length:Int) > 5):k8 [.lst A,.int 5]=some (.ret .non):=by
 unfold k8 O5
 walk_at "eh"
def v8(S:List Int)(q:Wr):List Int:=S++S.map (fun x=>x+q.2.1)++(if two q=true then S.map (fun x=>x+q.1)else[])
def t9:List Wr→List Int
 | []=>[0]
 | q::L=>v8 (t9 L) q
def run(S:List Int)(L:List Wr):List Int:=L.foldl (fun S q=>j1 (v8 S q)) S
theorem x8{S:List Int}{q:Wr}{x:Int}:x∈v8 S q↔∃s∈S,x=s∨x=s+q.2.1∨(two q=true∧x=s+q.1):=by
 unfold v8
 rw[List.mem_append,List.mem_append,List.mem_map]
 constructor
 ·rintro((m | ⟨s,m,e⟩) | m)
  ·exact⟨x,m,.inl rfl⟩
  ·exact⟨s,m,.inr (.inl e.symm)⟩
  ·split at m
   ·rename_i z
    obtain⟨s,m,e⟩:=List.mem_map.mp m
    exact⟨s,m,.inr (.inr ⟨z,e.symm⟩)⟩
   ·cases m
 ·rintro⟨s,m,e | e | ⟨z,e⟩⟩
  ·exact .inl (.inl (by rw[e];exact m))
  ·exact .inl (.inr ⟨s,m,e.symm⟩)
  ·refine .inr ?_
   rw[if_pos z]
   exact List.mem_map.mpr ⟨s,m,e.symm⟩
theorem a2s:∀(L:List Wr) (S:List Int) (x:Int),x∈run S L↔∃s∈S,∃d∈t9 L,x=s+d
 | [],S,x=>by
  show x∈S↔_
  constructor
  ·intro m
   exact⟨x,m,0,List.mem_cons_self,(Int.add_zero x).symm⟩
  ·rintro⟨s,m,d,md,e⟩
   have:d=0:=List.mem_singleton.mp md
   rw[e,this,Int.add_zero]
   exact m
 | q::L,S,x=>by
  show x∈run (j1 (v8 S q)) L↔_
  rw[a2s L]
  constructor
  ·rintro⟨s,m,d,md,e⟩
   obtain⟨s0,m0,h⟩:=x8.mp (t8.mp m)
   rcases h with h | h | ⟨z,h⟩
   ·exact⟨s0,m0,d,x8.mpr ⟨d,md,.inl rfl⟩,by omega⟩
   ·exact⟨s0,m0,d+q.2.1,x8.mpr ⟨d,md,.inr (.inl rfl)⟩,by omega⟩
   ·exact⟨s0,m0,d+q.1,x8.mpr ⟨d,md,.inr (.inr ⟨z,rfl⟩)⟩,by omega⟩
  ·rintro⟨s,m,d,md,e⟩
   obtain⟨d0,m0,h⟩:=x8.mp (show d∈v8 (t9 L) q from md)
   rcases h with h | h | ⟨z,h⟩
   ·exact⟨s,t8.mpr (x8.mpr ⟨s,m,.inl rfl⟩),d0,m0,by omega⟩
   ·exact⟨s+q.2.1,t8.mpr (x8.mpr ⟨s,m,.inr (.inl rfl)⟩),d0,m0,by omega⟩
   ·exact⟨s+q.1,t8.mpr (x8.mpr ⟨s,m,.inr (.inr ⟨z,rfl⟩)⟩),d0,m0,by omega⟩
theorem a4a:∀(L:List Wr) (S:List Int),S.Pairwise (· < ·)→(run S L).Pairwise (· < ·)
 | [],S,h=>h
 | q::L,S,_=>a4a L _ (O1 _)
theorem a8C(L:List Wr):run [0] L=j1 (t9 L):=by
 refine a1w (a4a L [0] (List.pairwise_singleton _ _)) (O1 _) fun x=>?_
 rw[a2s,t8]
 constructor
 ·rintro⟨s,m,d,md,e⟩
  have:s=0:=List.mem_singleton.mp m
  rw[e,this,Int.zero_add]
  exact md
 ·intro m
  exact⟨0,List.mem_cons_self,x,m,(Int.zero_add x).symm⟩
theorem a0g(S:List Int)(q:Wr):(v8 S q).length≤3*S.length:=by
 unfold v8
 simp only[List.length_append,List.length_map]
 split
 ·rw[List.length_map];omega
 ·rw[List.length_nil];omega
theorem V4:∀L:List Wr,(t9 L).length≤3 ^ L.length
 | []=>Nat.le_refl _
 | q::L=>by
  have:=a0g (t9 L) q
  have:=V4 L
  show(v8 (t9 L) q).length≤3 ^ (L.length+1)
  rw[Nat.pow_succ]
  omega
theorem a2t:∀(L:List Wr) (S:List Int),(run S L).length≤3 ^ L.length*S.length
 | [],S=>by show S.length≤1*S.length;omega
 | q::L,S=>by
  have h1:=a2t L (j1 (v8 S q))
  have h2:=R5 (v8 S q)
  have h3:=a0g S q
  have h4:3 ^ L.length*(j1 (v8 S q)).length≤3 ^ L.length*(3*S.length):=Nat.mul_le_mul_left _ (by omega)
  show(run (j1 (v8 S q)) L).length≤3 ^ (L.length+1)*S.length
  rw[Nat.pow_succ,Nat.mul_assoc]
  omega
theorem a3b{n:Nat}(h:n≤5):3 ^ n≤243:=by
 have:3 ^ n≤3 ^ 5:=Nat.pow_le_pow_right (by omega) h
 exact this
abbrev Y3(i c:Nat):NF:=(r9 i 1 [c] (c4 0) p9 (eB p7 (eV 0) (eV 1)))
theorem a8D(s0 s2 s3 s4:Sl)(S:List Int)(hl:S.length≤1000)(h:Int):Y3 1 5 [s0,.ow (S.map D.int),s2,s3,s4,.fz (.int h)]=some (.ok ((S.map fun x=>x+h).map D.int) [s0,.ow (S.map D.int),s2,s3,s4,.fz (.int h)]):=by
 show i3 (c4 0) p9 (eB p7 (eV 0) (eV 1)) [.no,.fz (.int h)] _ (S.map D.int) []=_
 rw[A5 D.int (fun x=>D.int (x+h)) (fun _=>true) S [] (by show 0+_≤2 ^ 24;omega) (fun x _=>⟨[.fz (.int x),.fz (.int h)],[.fz (.int x),.fz (.int h)],rfl,rfl,fun _=>⟨[.fz (.int x),.fz (.int h)],rfl⟩⟩)]
 rw[List.filter_eq_self.mpr (fun _ _=>rfl),List.map_map]
 rfl
abbrev inB(SD:List D→Option R1)(CO:NF):SF:=(b8 (C8 5 (eB w8 (J4 SD (aC (eV 2) (aC (eV 4) aN))) (eC (.int 1)))) (N7 3 CO))
theorem a8E(SD:List D→Option R1)(CO:NF)(s0:D)(S G B:List D)(q l:D)(x h:Int)(o5:Option D)(h1:SD [q,l]=some (.ret (.tup [.int x,.int h])))(h2:CO [.fz s0,.ow S,.fz q,.ow G,.fz l,.fz (.int h)]=some (.ok B [.fz s0,.ow S,.fz q,.ow G,.fz l,.fz (.int h)]))(hl:G.length+B.length≤sizeLine):inB SD CO [.fz s0,.ow S,.fz q,.ow G,.fz l,un o5]=some (.nx [.fz s0,.ow S,.fz q,.ow (G++B),.fz l,.fz (.int h)]):=by
 unfold inB
 walk_at "eh"
theorem a88(s0:D)(S:List Int)(hS:S.length≤1000)(q:Wr)(o4 o5:Option D):∃p4 p5:Option D,Z7 (h7 l5 (aC (eV 2) aN)) (c4 4) (inB i2 (Y3 1 5)) [.fz s0,.ow (S.map D.int),.fz (wD q),.ow (S.map D.int),un o4,un o5]=some (.nx [.fz s0,.ow (S.map D.int),.fz (wD q),.ow ((v8 S q).map D.int),un p4,un p5]):=by
 have e0:(h7 l5 (aC (eV 2) aN)) [.fz s0,.ow (S.map D.int),.fz (wD q),.ow (S.map D.int),un o4,un o5]=some (.ok (.lst (if two q=true then[.bl false,.bl true]else[.bl false])) [.fz s0,.ow (S.map D.int),.fz (wD q),.ow (S.map D.int),un o4,un o5]):=by
  show M8 (l5 [wD q]) _=_
  rw[a7e]
  rfl
 obtain⟨w,h,t⟩:=q
 have c1:∀s3 s4 h',Y3 1 5 [.fz s0,.ow (S.map D.int),.fz (wD (w,h,t)),s3,s4,.fz (.int h')]=_:=fun s3 s4 h'=>a8D (.fz s0) (.fz (wD (w,h,t))) s3 s4 S hS h'
 have b1:=a8E i2 (Y3 1 5) s0 (S.map D.int) (S.map D.int) _ (wD (w,h,t)) (.bl false) w h o5 (a7c w h t) (c1 _ _ _) (by rw[List.length_map,List.length_map,List.length_map];show _≤2 ^ 24;omega)
 have n4:∀(l:D) (G:Sl) (o4:Option D) (s5:Sl),c4 4 l [.fz s0,.ow (S.map D.int),.fz (wD (w,h,t)),G,un o4,s5]=some [.fz s0,.ow (S.map D.int),.fz (wD (w,h,t)),G,.fz l,s5]:=fun l G o4 s5=>by cases o4<;>rfl
 unfold Z7
 rw[e0,a1b]
 by_cases z:two (w,h,t)=true
 ·have zt:t=true:=by
   unfold two at z
   rw[Bool.and_eq_true]at z
   exact z.1
  subst zt
  rw[if_pos z]
  have b2:=a8E i2 (Y3 1 5) s0 (S.map D.int) (S.map D.int++(S.map fun x=>x+h).map D.int) _ (wD (w,h,true)) (.bl true) h w (some (.int h)) (a7d w h) (c1 _ _ _) (by rw[List.length_append,List.length_map,List.length_map,List.length_map,List.length_map,List.length_map];show _≤2 ^ 24;omega)
  refine⟨some (.bl true),some (.int w),?_⟩
  show l4 (c4 4) (inB i2 (Y3 1 5)) [.bl false,.bl true] _=_
  rw[C1,n4 (.bl false) _ o4,w9,b1,S4,C1]
  refine(congrArg (fun r=>G5 r (l4 (c4 4) (inB i2 (Y3 1 5)) [])) b2).trans ?_
  rw[S4,V1]
  unfold v8
  rw[if_pos z,List.map_append,List.map_append]
  rfl
 ·rw[if_neg z]
  refine⟨some (.bl false),some (.int h),?_⟩
  show l4 (c4 4) (inB i2 (Y3 1 5)) [.bl false] _=_
  rw[C1,n4 (.bl false) _ o4,w9,b1,S4,V1]
  unfold v8
  rw[if_neg z,List.append_nil,List.map_append]
  rfl
theorem a8F(f:AF)(e e1:DE)(ks:List Int)(h:f e=some (.ok [.lst (ks.map D.int)] e1))(hl:ks.length<1000):A6 f e=some (.ok ((j1 ks).map D.int) e1):=by
 unfold A6
 rw[h,K4]
 show(match J6 (ks.map D.int)with
  | some ns=>if ns.length<1000 then some (L2.R.ok ((j1 ns).map D.int) e1)else none
  | none=>none)=_
 rw[L2.ints_map]
 show(if ks.length<1000 then _ else _)=_
 rw[if_pos hl]
abbrev heB(LP:SF)(NS:NF):SF:=(b8 (n9 3 (nCV M7 1)) (b8 LP (n9 1 NS)))
theorem a9D(LP:SF)(NS:NF)(s0 q:D)(S G R:List D)(o3 o4 o5 p4 p5:Option D)(h1:LP [.fz s0,.ow S,.fz q,.ow S,un o4,un o5]=some (.nx [.fz s0,.ow S,.fz q,.ow G,un p4,un p5]))(h2:NS [.fz s0,.ow S,.fz q,.ow G,un p4,un p5]=some (.ok R [.fz s0,.ow S,.fz q,.fz (.lst G),un p4,un p5])):heB LP NS [.fz s0,.ow S,.fz q,un o3,un o4,un o5]=some (.nx [.fz s0,.ow R,.fz q,.fz (.lst G),un p4,un p5]):=by
 unfold heB
 walk_at "eh"
theorem a4b(CC:List D→Option R1)(LP:SF)(A S:List D)(s2 s3 s4 s5:Sl)(h0:CC [.lst A,.int 5]=some (.ret .non))(h:LP [.fz (.lst A),.ow [.int 0],.no,.no,.no,.no]=some (.nx [.fz (.lst A),.ow S,s2,s3,s4,s5])):fD 6 1 (b8 (sEx (J4 CC (aC (eV 0) (aC (eC (.int 5)) aN)))) (b8 (n9 1 (eL (aC (eC (.int 0)) aN))) (b8 LP (M9 1)))) [.lst A]=some (.own S):=by
 walk_at "eh"
theorem a7f(S:List Int)(L:List Wr)(q:Wr):run S (L++[q])=j1 (v8 (run S L) q):=by
 unfold run
 rw[List.foldl_append]
 rfl
theorem a3c(L:List Wr)(hL:L.length≤5):j8 [.lst (L.map wD)]=some (.own ((j1 (t9 L)).map D.int)):=by
 obtain⟨e',f,o2,o3,o4,o5,rfl⟩:=a2p (b:=c4 2) (body:=heB (Z7 (h7 l5 (aC (eV 2) aN)) (c4 4) (inB i2 (Y3 1 5))) (A6 (aC (eV 3) aN))) wD (fun pre e=>∃o2 o3 o4 o5:Option D,e=[.fz (.lst (L.map wD)),.ow ((run [0] pre).map D.int),un o2,un o3,un o4,un o5]) L [.fz (.lst (L.map wD)),.ow [.int 0],.no,.no,.no,.no] ⟨none,none,none,none,rfl⟩ (by
  rintro pre q post e hq ⟨o2,o3,o4,o5,rfl⟩
  have hp:pre.length<L.length:=by have:=congrArg List.length hq;rw[List.length_append,List.length_cons]at this;omega
  have hr:=a2t pre [0]
  have h3:=a3b (n:=pre.length) (by omega)
  rw[List.length_singleton,Nat.mul_one]at hr
  have hb:c4 2 (wD q) [.fz (.lst (L.map wD)),.ow ((run [0] pre).map D.int),un o2,un o3,un o4,un o5]=some [.fz (.lst (L.map wD)),.ow ((run [0] pre).map D.int),.fz (wD q),un o3,un o4,un o5]:=by cases o2<;>rfl
  obtain⟨p4,p5,i1⟩:=a88 (.lst (L.map wD)) (run [0] pre) (by omega) q o4 o5
  have hl:=a0g (run [0] pre) q
  rw[hb,w9]
  refine⟨_,(congrArg D2 (a9D _ (A6 (aC (eV 3) aN)) _ _ _ _ _ o3 o4 o5 p4 p5 i1 (a8F _ _ _ (v8 (run [0] pre) q) rfl (by omega)))).trans rfl,some (wD q),some (.lst ((v8 (run [0] pre) q).map D.int)),p4,p5,?_⟩
  rw[a7f]
  rfl)
 rw[a8C]at f
 exact a4b k8 _ _ _ _ _ _ _ (a5i _ (by rw[List.length_map];omega)) f
abbrev coS(k:Int):NF:=(r9 1 1 [0] (c4 0) p9 (eB p7 (eV 0) (eB w8 (O4 y0 1 (eC (.int 0))) (eC (.int k)))))
theorem a4d(k c:Int)(A:List D)(d:D)(ha:atI A 0=some d)(hd:w8 d (.int k)=some (.int c))(S:List Int)(hl:S.length≤1000)(s2:Sl):coS k [.fz (.lst A),.ow (S.map D.int),s2]=some (.ok ((S.map fun x=>x+c).map D.int) [.fz (.lst A),.ow (S.map D.int),s2]):=by
 show i3 (c4 0) p9 (eB p7 (eV 0) (eB w8 (O4 y0 1 (eC (.int 0))) (eC (.int k)))) [.no,.fz (.lst A)] _ (S.map D.int) []=_
 rw[A5 D.int (fun x=>D.int (x+c)) (fun _=>true) S [] (by show 0+_≤2 ^ 24;omega) (fun x _=>⟨[.fz (.int x),.fz (.lst A)],[.fz (.int x),.fz (.lst A)],rfl,rfl,fun _=>⟨[.fz (.int x),.fz (.lst A)],by
  have h1:(O4 y0 1 (eC (.int 0))) [.fz (.int x),.fz (.lst A)]=some (.ok d [.fz (.int x),.fz (.lst A)]):=by
   show J2 (y0 (.lst A) (.int 0)) _=_
   rw[show y0 (.lst A) (.int 0)=atI A 0 from rfl,ha]
   rfl
  show bnd (some (L2.R.ok (D.int x) [.fz (.int x),.fz (.lst A)])) _=_
  rw[K4]
  show bnd (bnd ((O4 y0 1 (eC (.int 0))) [.fz (.int x),.fz (.lst A)]) fun d1 e1=>bnd ((eC (.int k)) e1) fun d2 e2=>J2 (w8 d1 d2) e2) _=_
  rw[h1,K4]
  show bnd (J2 (w8 d (.int k)) _) _=_
  rw[hd]
  rfl⟩⟩)]
 rw[List.filter_eq_self.mpr (fun _ _=>rfl),List.map_map]
 rfl
abbrev coI:NF:=(r9 1 1 [] (c4 0) p9 (eV 0))
theorem a8I(A:D)(S:List Int)(hl:S.length≤1000):coI [.fz A,.ow (S.map D.int),.no]=some (.ok (S.map D.int) [.fz A,.ow (S.map D.int),.no]):=by
 show i3 (c4 0) p9 (eV 0) [.no] _ (S.map D.int) []=_
 rw[A5 D.int D.int (fun _=>true) S [] (by show 0+_≤2 ^ 24;omega) (fun x _=>⟨[.fz (.int x)],[.fz (.int x)],rfl,rfl,fun _=>⟨[.fz (.int x)],rfl⟩⟩)]
 rw[List.filter_eq_self.mpr (fun _ _=>rfl),List.nil_append]
abbrev suB(self TW:List D→Option R1)(N1 N2 N3:NF)(SL:NF):SF:=(b8 (D5 (bZ (eB (J3 false) (eCV U8 0) (eC (.int 0)))) (X7 (eL (aC (eC (.int 0)) aN))) D4) (b8 (X6 1 self (aC (zN SL) aN)) (b8 (n9 2 N1) (b8 (N7 2 N2) (b8 (D5 (bZ (h7 TW (aC (O4 y0 0 (eC (.int 0))) aN))) (N7 2 N3) D4) (M9 2))))))
theorem a9E(self TW:List D→Option R1)(N1 N2 N3 SL:NF):fD 3 1 (suB self TW N1 N2 N3 SL) [.lst []]=some (.own [.int 0]):=by
 unfold suB
 walk_at "ev"
theorem a9F(self TW:List D→Option R1)(N1 N2 N3 SL:NF)(A A' S B1 B2 R:List D)(d:D)(b:Bool)(ha:atI A 0=some d)(hn:¬(A.length:Int)=0)(hs:SL [.fz (.lst A),.no,.no]=some (.ok A' [.fz (.lst A),.no,.no]))(h0:self [.lst A']=some (.own S))(h1:N1 [.fz (.lst A),.ow S,.no]=some (.ok S [.fz (.lst A),.ow S,.no]))(h2:N2 [.fz (.lst A),.ow S,.ow S]=some (.ok B1 [.fz (.lst A),.ow S,.ow S]))(l1:S.length+B1.length≤sizeLine)(ht:TW [d]=some (.ret (.bl b)))
  (h3:N3 [.fz (.lst A),.ow S,.ow (S++B1)]=some (.ok B2 [.fz (.lst A),.ow S,.ow (S++B1)])) (l2:(S++B1).length+B2.length≤sizeLine) (hR:R=S++B1++(if b=true then B2 else[])):fD 3 1 (suB self TW N1 N2 N3 SL) [.lst A]=some (.own R):=by
 unfold suB
 cases b
 ·rw[if_neg (by decide),List.append_nil]at hR
  subst hR
  walk_at "eh"
 ·rw[if_pos rfl]at hR
  subst hR
  walk_at "eh"
theorem a2u:∀(L:List Wr) (m:Nat),L.length<m→L.length≤5→m5 m [.lst (L.map wD)]=some (.own ((t9 L).map D.int))
 | _,0,h,_=>absurd h (Nat.not_lt_zero _)
 | [],m+1,_,_=>a9E (m5 m) x6 coI (coS 1) (coS 0) _
 | q::L,m+1,h,h5=>by
  rw[List.length_cons]at h h5
  have ih:=a2u L m (by omega) (by omega)
  have sl:=V4 L
  have h3:=a3b (n:=L.length) (by omega)
  refine a9F (m5 m) x6 coI (coS 1) (coS 0) (a1p 0 (oS (eC (.int 1))) oN) ((q::L).map wD) (L.map wD) ((t9 L).map D.int) ((t9 L).map (fun x=>x+q.2.1) |>.map D.int) ((t9 L).map (fun x=>x+q.1) |>.map D.int) _ (wD q) (two q) Y0 (by rw[List.length_map,List.length_cons];omega) ?_ ih (a8I _ _ (by omega)) (a4d 1 q.2.1 _ (wD q) Y0 rfl _ (by omega) _) (by simp only[List.length_map];show _≤2 ^ 24;omega) (a8B q) (a4d 0 q.1 _ (wD q) Y0 rfl _ (by omega) _) (by simp only[List.length_append,List.length_map];show _≤2 ^ 24;omega) ?_
  ·show some (L2.R.ok (a0a ((q::L).map wD) (some 1) none) _)=_
   rw[a5d (by omega)]
   rfl
  ·show(v8 (t9 L) q).map D.int=_
   unfold v8
   rw[List.map_append,List.map_append]
   split<;>rfl
theorem a89(CE HO:List D→Option R1)(L1:SF)(N8 CA:NF)(GA:D→Option D)(G1 G2 GP:D→D→Option D)(ns:List Int)(c0 B m:Int)(o3 o4 o5:Option D)(A F T:List D)
  (k0:CE [.scr ns,.int 0]=some (.ret (.int c0))) (gp:GP (.int 10) (.int 40)=some (.int B)) (hm:(c0/6%2=1∧m=6)∨(¬c0/6%2=1∧m=B)) (l1:L1 [.fz (.scr ns),.fz (.int m),.ow [],.no,.no,.no,.no,.no,.no]=some (.nx [.fz (.scr ns),.fz (.int m),.ow A,un o3,un o4,un o5,.no,.no,.no])) (ho:HO [.lst A]=some (.own F)) (ca:CA [.fz (.scr ns),.fz (.int m),.ow A,un o3,un o4,un o5,.fz (.lst A),.ow F,.no]=some (.ok T [.fz (.scr ns),.fz (.int m),.ow A,un o3,un o4,un o5,.fz (.lst A),.ow F,.no])) (ga:GA (.lst T)=some (.bl true)) (n8:N8 [.fz (.scr ns),.fz (.int m),.ow A,un o3,un o4,un o5,.fz (.lst A),.ow F,.no]=some (.ok F [.fz (.scr ns),.fz (.int m),.fz (.lst A),un o3,un o4,un o5,.fz (.lst A),.ow F,.no])) (gt1:G1 (.lst F) (.lst F)=some (.bl false)) (gt2:G1 (.lst A) (.lst A)=some (.bl false)) (gt3:G2 (.lst F) (.lst F)=some (.bl true)) (hl:F.length<sizeLine) :
  fD 9 1 (b8 (C8 1 (eB GP (eC (.int 10)) (eC (.int 40)))) (b8 (D5 (bZ (eB (J3 false) (eB A2 (eB a2S (h7 CE (aC (eV 0) (aC (eC (.int 0)) aN))) (eC (.int 6))) (eC (.int 2))) (eC (.int 1)))) (C8 1 (eC (.int 6))) D4) (b8 (n9 2 (eL aN)) (b8 L1 (b8 (n9 6 (nCV M7 2)) (b8 (a0M 7 HO (aC (eV 6) aN)) (b8 (D5 (bOr (Q6 (bZ (N5 7 "list"))) (Q6 (bZ (eCB (g1 GA) (aC (zN CA) aN))))) (y3 (eC (.bl false))) D4) (b8 (n9 8 N8) (b8 (D5 (bOr (bZ (U6 G1 7 8)) (bZ (U6 G1 6 2))) (y3 (eC (.bl false))) D4) (b8 (U9 7 (eC (.int 0))) (y3 (eBW G2 (J4 HO (aC (eV 6) aN)) 8)))))))))))) [.scr ns]=some (.ret (.bl true)):=by
 rcases hm with⟨z,rfl⟩ | ⟨z,rfl⟩<;>cases o3<;>cases o4<;>cases o5<;>simp only[un]at * <;>walk_at "eh"
abbrev lwB(CE:List D→Option R1):SF:=(b8 (C8 4 (eB p7 (eC (.int 1)) (eB A2 (h7 CE (aC (eV 0) (aC (eB p7 (eC (.int 1)) (eB U7 (eC (.int 2)) (eV 3))) aN))) (eV 1)))) (b8 (C8 5 (eB p7 (eC (.int 1)) (eB A2 (h7 CE (aC (eV 0) (aC (eB p7 (eC (.int 2)) (eB U7 (eC (.int 2)) (eV 3))) aN))) (eV 1)))) (U9 2 (eT (aC (eV 4) (aC (eV 5) (aC (eB (J3 false) (eB A2 (h7 CE (aC (eV 0) (aC (eB p7 (eC (.int 11)) (eV 3)) aN))) (eC (.int 2))) (eC (.int 1))) aN)))))))
theorem a9G(CE:List D→Option R1)(ns:List Int)(m k a b c:Int)(A:List D)(o4 o5:Option D)(hm:0<m)(h1:CE [.scr ns,.int (1+2*k)]=some (.ret (.int a)))(h2:CE [.scr ns,.int (2+2*k)]=some (.ret (.int b)))(h3:CE [.scr ns,.int (11+k)]=some (.ret (.int c)))(hA:A.length<sizeLine):lwB CE [.fz (.scr ns),.fz (.int m),.ow A,.fz (.int k),un o4,un o5,.no,.no,.no]=some (.nx [.fz (.scr ns),.fz (.int m),.ow (A++[.tup [.int (1+a%m),.int (1+b%m),.bl (decide (c%2=1))]]),.fz (.int k),.fz (.int (1+a%m)),.fz (.int (1+b%m)),.no,.no,.no]):=by
 unfold lwB
 walk_at "eh"
theorem a5j(ns:List Int)(m:Int)(hm:0<m):∃(L:List Wr) (o3 o4 o5:Option D),L.length≤5∧(S3 V0 (aC (eB A2 (h7 d7 (aC (eV 0) (aC (eC (.int 0)) aN))) (eC (.int 6))) aN) (c4 3) (lwB d7)) [.fz (.scr ns),.fz (.int m),.ow [],.no,.no,.no,.no,.no,.no]=some (.nx [.fz (.scr ns),.fz (.int m),.ow (L.map wD),un o3,un o4,un o5,.no,.no,.no]):=by
 obtain⟨n,hn,h5⟩:∃n:Nat,m4 ns 0%6=(n:Int)∧n≤5:=⟨(m4 ns 0%6).toNat,by omega,by omega⟩
 obtain⟨e',f,L,o3,o4,o5,hL,rfl⟩:=a2p (b:=c4 3) (body:=lwB d7) (fun(k:Nat)=>D.int (k:Int)) (fun pre e=>∃(L:List Wr) (o3 o4 o5:Option D),L.length=pre.length∧e=[.fz (.scr ns),.fz (.int m),.ow (L.map wD),un o3,un o4,un o5,.no,.no,.no]) (List.range n) [.fz (.scr ns),.fz (.int m),.ow [],.no,.no,.no,.no,.no,.no] ⟨[],none,none,none,rfl,rfl⟩ (by
  rintro pre k post e hq ⟨L,o3,o4,o5,hL,rfl⟩
  have hp:pre.length<n:=by have:=congrArg List.length hq;rw[List.length_range,List.length_append,List.length_cons]at this;omega
  have hb:c4 3 (.int (k:Int)) [.fz (.scr ns),.fz (.int m),.ow (L.map wD),un o3,un o4,un o5,.no,.no,.no]=some [.fz (.scr ns),.fz (.int m),.ow (L.map wD),.fz (.int (k:Int)),un o4,un o5,.no,.no,.no]:=by cases o3<;>rfl
  rw[hb,w9]
  refine⟨_,(congrArg D2 (a9G d7 ns m (k:Int) _ _ _ (L.map wD) o4 o5 hm (K9 (by omega)) (K9 (by omega)) (K9 (by omega)) (by rw[List.length_map];show _<2 ^ 24;omega))).trans rfl,L++[(1+m4 ns (1+2*(k:Int))%m,1+m4 ns (2+2*(k:Int))%m,decide (m4 ns (11+(k:Int))%2=1))],some (.int (k:Int)),some (.int (1+m4 ns (1+2*(k:Int))%m)),some (.int (1+m4 ns (2+2*(k:Int))%m)),by rw[List.length_append,List.length_append,hL];rfl,?_⟩
  rw[List.map_append]
  rfl)
 rw[List.length_range]at hL
 refine⟨L,o3,o4,o5,by omega,?_⟩
 have e0:(aC (eB A2 (h7 d7 (aC (eV 0) (aC (eC (.int 0)) aN))) (eC (.int 6))) aN) [.fz (.scr ns),.fz (.int m),.ow [],.no,.no,.no,.no,.no,.no]=some (.ok [.int (n:Int)] [.fz (.scr ns),.fz (.int m),.ow [],.no,.no,.no,.no,.no,.no]):=by
  rw[← hn]
  have hc:d7 [.scr ns,.int 0]=some (.ret (.int (m4 ns 0))):=K9 (by omega)
  generalize d7=CE at *
  walk_at "eh"
 rw[a7b e0 (a8A (by omega)),a9C]
 exact f
theorem a5k(n:Nat):a1j (.lst (List.replicate n (.bl true)))=some (.bl true):=by
 have:∀n,E1 (List.replicate n (.bl true))=some (List.replicate n true):=by
  intro n
  induction n with
  | zero=>rfl
  | succ n ih =>
   show(E1 (List.replicate n (.bl true))).map (true :: ·)=_
   rw[ih]
   rfl
 show(E1 _).map _=_
 rw[this]
 show some (D.bl ((List.replicate n true).all id))=_
 congr 2
 simp
abbrev caC:NF:=(r9 7 1 [] (c4 0) p9 (h7 l6 (aC (eV 0) aN)))
theorem a8_(s0 s1 s2 s3 s4 s5 s6 s8:Sl)(S:List Int)(hl:S.length≤1000):caC [s0,s1,s2,s3,s4,s5,s6,.ow (S.map D.int),s8]=some (.ok (List.replicate S.length (.bl true)) [s0,s1,s2,s3,s4,s5,s6,.ow (S.map D.int),s8]):=by
 show i3 (c4 0) p9 (h7 l6 (aC (eV 0) aN)) [.no] _ (S.map D.int) []=_
 rw[A5 D.int (fun _=>D.bl true) (fun _=>true) S [] (by show 0+_≤2 ^ 24;omega) (fun x _=>⟨[.fz (.int x)],[.fz (.int x)],rfl,rfl,fun _=>⟨[.fz (.int x)],by show M8 (l6 [.int x]) _=_;rw[a5h];rfl⟩⟩)]
 rw[List.filter_eq_self.mpr (fun _ _=>rfl),List.nil_append,List.map_const']
theorem eqI(neg:Bool)(S:List Int):D1 neg (.lst (S.map D.int)) (.lst (S.map D.int))=some (.bl (!neg)):=a0v neg (by simp only[a9];exact T3 fun q _=>rfl) (by
 have:=a0w (f:=D.int) (l:=S) (n:=2) (fun q _=>by simp[u9])
 simp only[u9]
 omega) rfl
theorem eqW(neg:Bool)(L:List Wr):D1 neg (.lst (L.map wD)) (.lst (L.map wD))=some (.bl (!neg)):=a0v neg (by simp only[a9];exact T3 fun q _=>rfl) (by
 have:=a0w (f:=wD) (l:=L) (n:=2) (fun q _=>by unfold wD;simp[u9,t6])
 simp only[u9]
 omega) rfl
theorem a9a(SU:List D→Option R1)(ns:List Int)(m:Int)(A:List D)(s3 s4 s5 s6 s7:Sl)(F:List D)(h:SU [.lst A]=some (.own F)):(aC (h7 SU (aC (eV 2) aN)) aN) [.fz (.scr ns),.fz (.int m),.ow A,s3,s4,s5,s6,s7,.no]=some (.ok [.lst F] [.fz (.scr ns),.fz (.int m),.fz (.lst A),s3,s4,s5,s6,s7,.no]):=by
 walk_at "eh"
theorem main(ns:List Int)(hl:ns.length≤63)(hb:∀m∈ns,Builtin.Int.intBits m≤2 ^ 20):a5R [.scr ns]=some (.ret (.bl true)):=by
 obtain⟨B,gB,eB⟩:∃B:Int,a1g (.int 10) (.int 40)=some (.int B)∧B=10 ^ 40:=⟨_,a2k (by decide +kernel),rfl⟩
 obtain⟨m,hm,hp⟩:∃m:Int,((m4 ns 0/6%2=1∧m=6)∨(¬m4 ns 0/6%2=1∧m=B))∧0<m:=by
  by_cases z:m4 ns 0/6%2=1
  ·exact⟨6,.inl ⟨z,rfl⟩,by decide⟩
  ·exact⟨B,.inr ⟨z,rfl⟩,by rw[eB];decide⟩
 obtain⟨L,o3,o4,o5,h5,l1⟩:=a5j ns m hp
 have sl:=V4 L
 have h3:=a3b h5
 have ul:=R5 (t9 L)
 exact a89 d7 j8 _ _ _ a1j (D1 true) (D1 false) a1g ns (m4 ns 0) B m o3 o4 o5 (L.map wD) ((j1 (t9 L)).map D.int) _ (K9 (by omega)) gB hm l1 (a3c L h5) (a8_ _ _ _ _ _ _ _ _ (j1 (t9 L)) (by omega)) (a5k _) (a8F _ _ _ (t9 L) (a9a (m5 8) ns m _ _ _ _ _ _ _ (a2u L 8 (by omega) h5)) (by omega)) (eqI true _) (eqW true L) (eqI false _) (by rw[List.length_map];show _<2 ^ 24;omega)
def Y4(K:PySem.W.Frag)(c:Str→Addr):Sp:=fun vs H Q _=>∃a,∃ns:List Int,vs=[.ref a]∧Scr K H a (ns.map V.int)∧(∀m∈ns,Builtin.Int.intBits m≤2 ^ 20)∧ns.length≤63∧∀H',Q (.bl true) H'
theorem a8J{f:Addr}{fd:FuncData}(F:Fun K "law" "law" v9 f fd)(T:Txt K mg c)(G_l_cell:Own P w K mg base 3 "_law_cell" ["_law_script","_law_k"] (i4 K c d7))(G_heights_of:Own P w K mg base 5 "heights_of" ["wares"] (i4 K c j8))(G_l_whole:Own P w K mg base 3 "_law_whole" ["_law_found"] (i4 K c l6))(G_l_sums:Own P w K mg base 21 "_law_sums" ["_law_wares"] (i4 K c (m5 8))):FnOk P w K mg base (l7 P w) 23 f fd ["_law_script"] (Y4 K c) :=
 (a7a F T G_l_cell G_heights_of G_l_whole G_l_sums).imp fun vs H Q E ⟨a,ns,e,h,hb,hl,q⟩=>a6m e h q (main ns hl hb)
def cOf(l:List (Str×Addr))(x:Str):Addr:=(l.lookup x).getD 0
abbrev cL(c0 c1:Addr):=cOf [("BadTurn",c0),("TooMany",c1)]
theorem all_mk{w:World}{K:PySem.W.Frag}{h:Heap}{mg:Str→Option Value}{fa:Addr}(X:K.In h)(G:h.Ns mainGlobals mg)(hfa:mg "law" = some (.ref fa))
  {c0 c1:Addr} {f_0:Addr} {oc_0 kV_0 dc_0 pm_0 cd_0 ct_0:Value} {od_0 an_0:Option Addr} {sl_0:Array (Option Value)} {f_1:Addr} {oc_1 kV_1 dc_1 pm_1 cd_1 ct_1:Value} {od_1 an_1:Option Addr} {sl_1:Array (Option Value)} {f_2:Addr} {oc_2 kV_2 dc_2 pm_2 cd_2 ct_2:Value} {od_2 an_2:Option Addr} {sl_2:Array (Option Value)} {f_3:Addr} {oc_3 kV_3 dc_3 pm_3 cd_3 ct_3:Value} {od_3 an_3:Option Addr} {sl_3:Array (Option Value)} {f_4:Addr} {oc_4 kV_4 dc_4 pm_4 cd_4 ct_4:Value} {od_4 an_4:Option Addr} {sl_4:Array (Option Value)} {f_5:Addr} {oc_5 kV_5 dc_5 pm_5 cd_5 ct_5:Value} {od_5 an_5:Option Addr} {sl_5:Array (Option Value)} {f_6:Addr} {oc_6 kV_6 dc_6 pm_6 cd_6 ct_6:Value} {od_6 an_6:Option Addr} {sl_6:Array (Option Value)} {f_7:Addr} {oc_7 kV_7 dc_7 pm_7 cd_7 ct_7:Value} {od_7 an_7:Option Addr} {sl_7:Array (Option Value)} {f_8:Addr} {oc_8 kV_8 dc_8 pm_8 cd_8 ct_8:Value} {od_8 an_8:Option Addr} {sl_8:Array (Option Value)} {kt_MOST_WARES:Tok}
  (a_0:PySem.W.nsIn K mainGlobals "check_count" = some (some (.ref f_0)))
  (l_0:K.lookup f_0=some ⟨oc_0,od_0,.func (PySem.W.fnOf "check_count" "check_count" (i9 m9) (g6 m9) (a6 m9) .none kV_0 dc_0 pm_0 an_0 cd_0 ct_0),sl_0⟩)
  (c_0:PySem.W.codeIn K cd_0 "check_count" = true)
  (k_0:PySem.W.keepIn K (.ref f_0)=true)
  (a_1:PySem.W.nsIn K mainGlobals "sides_of" = some (some (.ref f_1)))
  (l_1:K.lookup f_1=some ⟨oc_1,od_1,.func (PySem.W.fnOf "sides_of" "sides_of" (i9 u6) (g6 u6) (a6 u6) .none kV_1 dc_1 pm_1 an_1 cd_1 ct_1),sl_1⟩)
  (c_1:PySem.W.codeIn K cd_1 "sides_of" = true)
  (k_1:PySem.W.keepIn K (.ref f_1)=true)
  (a_2:PySem.W.nsIn K mainGlobals "lies_of" = some (some (.ref f_2)))
  (l_2:K.lookup f_2=some ⟨oc_2,od_2,.func (PySem.W.fnOf "lies_of" "lies_of" (i9 x4) (g6 x4) (a6 x4) .none kV_2 dc_2 pm_2 an_2 cd_2 ct_2),sl_2⟩)
  (c_2:PySem.W.codeIn K cd_2 "lies_of" = true)
  (k_2:PySem.W.keepIn K (.ref f_2)=true)
  (a_3:PySem.W.nsIn K mainGlobals "heights_of" = some (some (.ref f_3)))
  (l_3:K.lookup f_3=some ⟨oc_3,od_3,.func (PySem.W.fnOf "heights_of" "heights_of" (i9 j7) (g6 j7) (a6 j7) .none kV_3 dc_3 pm_3 an_3 cd_3 ct_3),sl_3⟩)
  (c_3:PySem.W.codeIn K cd_3 "heights_of" = true)
  (k_3:PySem.W.keepIn K (.ref f_3)=true)
  (a_4:PySem.W.nsIn K mainGlobals "_law_cell" = some (some (.ref f_4)))
  (l_4:K.lookup f_4=some ⟨oc_4,od_4,.func (PySem.W.fnOf "_law_cell" "_law_cell" (i9 A7) (g6 A7) (a6 A7) .none kV_4 dc_4 pm_4 an_4 cd_4 ct_4),sl_4⟩)
  (c_4:PySem.W.codeIn K cd_4 "_law_cell" = true)
  (k_4:PySem.W.keepIn K (.ref f_4)=true)
  (a_5:PySem.W.nsIn K mainGlobals "_law_whole" = some (some (.ref f_5)))
  (l_5:K.lookup f_5=some ⟨oc_5,od_5,.func (PySem.W.fnOf "_law_whole" "_law_whole" (i9 x5) (g6 x5) (a6 x5) .none kV_5 dc_5 pm_5 an_5 cd_5 ct_5),sl_5⟩)
  (c_5:PySem.W.codeIn K cd_5 "_law_whole" = true)
  (k_5:PySem.W.keepIn K (.ref f_5)=true)
  (a_6:PySem.W.nsIn K mainGlobals "_law_two" = some (some (.ref f_6)))
  (l_6:K.lookup f_6=some ⟨oc_6,od_6,.func (PySem.W.fnOf "_law_two" "_law_two" (i9 E9) (g6 E9) (a6 E9) .none kV_6 dc_6 pm_6 an_6 cd_6 ct_6),sl_6⟩)
  (c_6:PySem.W.codeIn K cd_6 "_law_two" = true)
  (k_6:PySem.W.keepIn K (.ref f_6)=true)
  (a_7:PySem.W.nsIn K mainGlobals "_law_sums" = some (some (.ref f_7)))
  (l_7:K.lookup f_7=some ⟨oc_7,od_7,.func (PySem.W.fnOf "_law_sums" "_law_sums" (i9 k7) (g6 k7) (a6 k7) .none kV_7 dc_7 pm_7 an_7 cd_7 ct_7),sl_7⟩)
  (c_7:PySem.W.codeIn K cd_7 "_law_sums" = true)
  (k_7:PySem.W.keepIn K (.ref f_7)=true)
  (a_8:PySem.W.nsIn K mainGlobals "law" = some (some (.ref f_8)))
  (l_8:K.lookup f_8=some ⟨oc_8,od_8,.func (PySem.W.fnOf "law" "law" (i9 v9) (g6 v9) (a6 v9) .none kV_8 dc_8 pm_8 an_8 cd_8 ct_8),sl_8⟩)
  (c_8:PySem.W.codeIn K cd_8 "law" = true)
  (k_8:PySem.W.keepIn K (.ref f_8)=true)
  (z_all:PySem.W.nsIn K mainGlobals "all" = some none)
  (z_bool:PySem.W.nsIn K mainGlobals "bool" = some none)
  (z_int:PySem.W.nsIn K mainGlobals "int" = some none)
  (z_isinstance:PySem.W.nsIn K mainGlobals "isinstance" = some none)
  (z_len:PySem.W.nsIn K mainGlobals "len" = some none)
  (z_list:PySem.W.nsIn K mainGlobals "list" = some none)
  (z_range:PySem.W.nsIn K mainGlobals "range" = some none)
  (z_set:PySem.W.nsIn K mainGlobals "set" = some none)
  (z_sorted:PySem.W.nsIn K mainGlobals "sorted" = some none)
  (m_BadTurn:PySem.W.nsIn K mainGlobals "BadTurn" = some (some (.ref c0)))
  (m_TooMany:PySem.W.nsIn K mainGlobals "TooMany" = some (some (.ref c1)))
  (x_BadTurn:PySem.W.excIn K c0 T7 "ValueError.__new__" = true)
  (x_TooMany:PySem.W.excIn K c1 T7 "ValueError.__new__" = true)
  (g_MOST_WARES:PySem.W.nsIn K mainGlobals "MOST_WARES" = some (some (.int 5 kt_MOST_WARES)))
  : ∃fd:FuncData,(∀(s:Shared) (v:Value),BindsTo s fd ⟨[v],[]⟩ [("_law_script",v)])∧∃c:Str→Addr,∀base:Heap,K.In base→base.Ns mainGlobals mg→FnOk (PySem.Challenge.rw_cratefit_k42_heights).prog w K mg base (l7 (PySem.Challenge.rw_cratefit_k42_heights).prog w) 23 fa fd ["_law_script"] (Y4 K c):=by
 have e:=hfa.symm.trans (PySem.W.mg_of X G a_8)
 cases e
 have T:Txt K mg (cL c0 c1):=⟨PySem.W.mg_none_of X G z_all,PySem.W.mg_none_of X G z_bool,PySem.W.mg_none_of X G z_int,PySem.W.mg_none_of X G z_isinstance,PySem.W.mg_none_of X G z_len,PySem.W.mg_none_of X G z_list,PySem.W.mg_none_of X G z_range,PySem.W.mg_none_of X G z_set,PySem.W.mg_none_of X G z_sorted,PySem.W.mg_of X G m_BadTurn,PySem.W.mg_of X G m_TooMany,x_BadTurn,x_TooMany,⟨_,PySem.W.mg_of X G g_MOST_WARES,⟨_,rfl⟩⟩⟩
 refine⟨PySem.W.fnOf "law" "law" (i9 v9) (g6 v9) (a6 v9) .none kV_8 dc_8 pm_8 an_8 cd_8 ct_8,fun s v=>.of_eq rfl,cOf [("BadTurn",c0),("TooMany",c1)],fun base _ _=>?_⟩
 have F_0:=x9 (st:=m9) l_0 c_0 k_0
 have B_0:=F_0.binds (ps:=["wares","most"]) fun _ _ _ _ _ _ us hl=>match us,hl with | [_,_],_=>rfl
 have O_0:Own (PySem.Challenge.rw_cratefit_k42_heights).prog w K mg base 3 "check_count" ["wares","most"] (i4 K (cL c0 c1) k8):=⟨_,_,a0f F_0 T ,B_0,k_0,PySem.W.mg_of X G a_0⟩
 have F_1:=x9 (st:=u6) l_1 c_1 k_1
 have B_1:=F_1.binds (ps:=["ware","lie"]) fun _ _ _ _ _ _ us hl=>match us,hl with | [_,_],_=>rfl
 have O_1:Own (PySem.Challenge.rw_cratefit_k42_heights).prog w K mg base 3 "sides_of" ["ware","lie"] (i4 K (cL c0 c1) i2):=⟨_,_,a1P F_1 T ,B_1,k_1,PySem.W.mg_of X G a_1⟩
 have F_2:=x9 (st:=x4) l_2 c_2 k_2
 have B_2:=F_2.binds (ps:=["ware"]) fun _ _ _ _ _ _ us hl=>match us,hl with | [_],_=>rfl
 have O_2:Own (PySem.Challenge.rw_cratefit_k42_heights).prog w K mg base 3 "lies_of" ["ware"] (i4 K (cL c0 c1) l5):=⟨_,_,a29 F_2 T ,B_2,k_2,PySem.W.mg_of X G a_2⟩
 have F_3:=x9 (st:=j7) l_3 c_3 k_3
 have B_3:=F_3.binds (ps:=["wares"]) fun _ _ _ _ _ _ us hl=>match us,hl with | [_],_=>rfl
 have O_3:Own (PySem.Challenge.rw_cratefit_k42_heights).prog w K mg base 5 "heights_of" ["wares"] (i4 K (cL c0 c1) j8):=⟨_,_,a0H F_3 T O_0 O_2 O_1,B_3,k_3,PySem.W.mg_of X G a_3⟩
 have F_4:=x9 (st:=A7) l_4 c_4 k_4
 have B_4:=F_4.binds (ps:=["_law_script","_law_k"]) fun _ _ _ _ _ _ us hl=>match us,hl with | [_,_],_=>rfl
 have O_4:Own (PySem.Challenge.rw_cratefit_k42_heights).prog w K mg base 3 "_law_cell" ["_law_script","_law_k"] (i4 K (cL c0 c1) d7):=⟨_,_,a3_ F_4 T ,B_4,k_4,PySem.W.mg_of X G a_4⟩
 have F_5:=x9 (st:=x5) l_5 c_5 k_5
 have B_5:=F_5.binds (ps:=["_law_found"]) fun _ _ _ _ _ _ us hl=>match us,hl with | [_],_=>rfl
 have O_5:Own (PySem.Challenge.rw_cratefit_k42_heights).prog w K mg base 3 "_law_whole" ["_law_found"] (i4 K (cL c0 c1) l6):=⟨_,_,a3a F_5 T ,B_5,k_5,PySem.W.mg_of X G a_5⟩
 have F_6:=x9 (st:=E9) l_6 c_6 k_6
 have B_6:=F_6.binds (ps:=["_law_ware"]) fun _ _ _ _ _ _ us hl=>match us,hl with | [_],_=>rfl
 have O_6:Own (PySem.Challenge.rw_cratefit_k42_heights).prog w K mg base 3 "_law_two" ["_law_ware"] (i4 K (cL c0 c1) x6):=⟨_,_,a5f F_6 T ,B_6,k_6,PySem.W.mg_of X G a_6⟩
 have F_7:=x9 (st:=k7) l_7 c_7 k_7
 have B_7:=F_7.binds (ps:=["_law_wares"]) fun _ _ _ _ _ _ us hl=>match us,hl with | [_],_=>rfl
 have O_7:Own (PySem.Challenge.rw_cratefit_k42_heights).prog w K mg base 21 "_law_sums" ["_law_wares"] (i4 K (cL c0 c1) (m5 8)):=⟨_,_,a0A F_7 T B_7 k_7 (PySem.W.mg_of X G a_7) O_6 8,B_7,k_7,PySem.W.mg_of X G a_7⟩
 have F_8:=x9 (st:=v9) l_8 c_8 k_8
 exact a8J F_8 T O_4 O_3 O_5 O_7
end Law
namespace Law
open PySem L2 PyProof.Rows
theorem walk{q:Program}{loose:List Str}{XP:(Str→Option Value)→Heap→Prop}{YP:World→Heap→Prop}{d:DefRec}{K:Params→PySem.W.Frag}(hdf:d.params.defaults=[])(hY:∀(w:World) (h:Heap),YP w h→(K w.params).In h)
  (F:∀(w:World) (mg:Str→Option Value) (fa:Addr) (h:Heap),(K w.params).In h→h.Ns mainGlobals mg→mg d.name=some (.ref fa) →
   ∃fd:FuncData,(∀(s:Shared) (u:Value),BindsTo s fd ⟨[u],[]⟩ [("_law_script",u)])∧∃c:Str→Addr,∀base:Heap,(K w.params).In base→base.Ns mainGlobals mg→FnOk (PySem.Challenge.rw_cratefit_k42_heights).prog w (K w.params) mg base (l7 (PySem.Challenge.rw_cratefit_k42_heights).prog w) 23 fa fd ["_law_script"] (Y4 (K w.params) c)) :
  PySem.W.WalkO q loose XP YP (PySem.Challenge.rw_cratefit_k42_heights).row.toRowW d [] (fun f vs=>PySem.call f vs):=by
 refine L2.walk_ofB (l:=PySem.Challenge.rw_cratefit_k42_heights) (n:=63) (k:=23) (x := "_law_script") (K:=K) (CX:=fun w=>l7 (PySem.Challenge.rw_cratefit_k42_heights).prog w) (sp:=fun w vs H Q E=>∀c,Y4 (K w.params) c vs H Q E) rfl (by decide) hdf ⟨rfl,by decide,by decide⟩ hY (fun w mg fa h KX G hm=>?_) (fun w H a ns h1 h2 h3 h4 c=>⟨a,ns,rfl,.of h4 h3,h2,h1,fun _=>rfl⟩) fun w H s e s' z=>a8P H s e s' z
 obtain⟨fd,hb,c,hF⟩:=F w mg fa h KX G hm
 exact⟨fd,hb,fun base kb nb=>(hF base kb nb).imp fun vs H Q E z=>z c⟩
end Law
local macro_rules|`(#check 0)=>do
 let g:=fun(n:Lean.Name)=>do
  let y:=Lean.mkIdent (.str `PySem.W.Fast s!"tw{n.hash}")
  `(theorem $y:ident : True:=trivial)
 let mut r:=#[←g `PySem.Challenge.pw_cratefit_k42_heights]
 for x in ["tree_47","tree_63","tree_78","tree_126","tree_152","heap_39","heap_46","heap_153","env_41","sts_49","sts_64","sts_79","sts_127","view_39"]++(List.range 110).map (s!"o_{·+43}") do r:=r.push (←g (.str `PySem.Challenge.cw_cratefit_k42_heights_holds x))
 return Lean.mkNullNode r
#check 0
open PySem.W
set_option maxRecDepth 100000 in
set_option maxHeartbeats 0 in
theorem PySem.Challenge.cw_cratefit_k42_heights_holds : PySem.Challenge.rw_cratefit_k42_heights.Holds := by
 w_on;o_law;k_head; (case hw=>w_witness2)
 k_fill
 refine Law.walk rfl (fun w h Y=>PySem.W.kIn_of Y) ?F
 case F =>
  intro w mg fa h KX G hmg
  refine' Law.all_mk KX G hmg ?a_check_count ?l_check_count ?c_check_count ?k_check_count ?a_sides_of ?l_sides_of ?c_sides_of ?k_sides_of ?a_lies_of ?l_lies_of ?c_lies_of ?k_lies_of ?a_heights_of ?l_heights_of ?c_heights_of ?k_heights_of ?a_l_cell ?l_l_cell ?c_l_cell ?k_l_cell ?a_l_whole ?l_l_whole ?c_l_whole ?k_l_whole ?a_l_two ?l_l_two ?c_l_two ?k_l_two ?a_l_sums ?l_l_sums ?c_l_sums ?k_l_sums ?a_law ?l_law ?c_law ?k_law ?z_all ?z_bool ?z_int ?z_isinstance ?z_len ?z_list ?z_range ?z_set ?z_sorted ?m_BadTurn ?m_TooMany ?x_BadTurn ?x_TooMany ?g_MOST_WARES
  (case a_check_count=>k_is)
  (case l_check_count=>k_is)
  (case c_check_count=>k_is)
  (case k_check_count=>k_is)
  (case a_sides_of=>k_is)
  (case l_sides_of=>k_is)
  (case c_sides_of=>k_is)
  (case k_sides_of=>k_is)
  (case a_lies_of=>k_is)
  (case l_lies_of=>k_is)
  (case c_lies_of=>k_is)
  (case k_lies_of=>k_is)
  (case a_heights_of=>k_is)
  (case l_heights_of=>k_is)
  (case c_heights_of=>k_is)
  (case k_heights_of=>k_is)
  (case a_l_cell=>k_is)
  (case l_l_cell=>k_is)
  (case c_l_cell=>k_is)
  (case k_l_cell=>k_is)
  (case a_l_whole=>k_is)
  (case l_l_whole=>k_is)
  (case c_l_whole=>k_is)
  (case k_l_whole=>k_is)
  (case a_l_two=>k_is)
  (case l_l_two=>k_is)
  (case c_l_two=>k_is)
  (case k_l_two=>k_is)
  (case a_l_sums=>k_is)
  (case l_l_sums=>k_is)
  (case c_l_sums=>k_is)
  (case k_l_sums=>k_is)
  (case a_law=>k_is)
  (case l_law=>k_is)
  (case c_law=>k_is)
  (case k_law=>k_is)
  (case z_all=>k_is)
  (case z_bool=>k_is)
  (case z_int=>k_is)
  (case z_isinstance=>k_is)
  (case z_len=>k_is)
  (case z_list=>k_is)
  (case z_range=>k_is)
  (case z_set=>k_is)
  (case z_sorted=>k_is)
  (case m_BadTurn=>k_is)
  (case m_TooMany=>k_is)
  (case x_BadTurn=>kernel_rfl)
  (case x_TooMany=>kernel_rfl)
  (case g_MOST_WARES=>k_is)
