import PyProof.Rows.All
import Wide.All
import OpenK.AllK
import Wide.FinOn
import Lean
import PyProof.EqAt
import PyProof.EqKinds
import PyProof.TupleCall
import KE.KLam
import KE.KSortKey
import PyProof.ListRange
import PyProof.CollectIter
import PyProof.Rows.RuleB_bool
import PySem.Challenge.RW_cratefit_k74_whole_the_floor_carries_all
set_option Elab.async false
set_option linter.all false
set_option maxRecDepth 100000
set_option hygiene false
namespace L2
open PySem PySem.Spec PyProof.Rows
abbrev E2:=Sum Int Str
def b00:E2→Value→Bool
 | .inl k,v=>Value.isInt k v
 | .inr x,v=>Value.isStrOf x v
def b5i(w:World):E2→Int
 | .inl k=>hashInt k
 | .inr x=>hashStr w x
theorem J2:∀{k:E2} {v:Value},b00 k v=true→(∃i t,k=Sum.inl i∧v=Value.int i t)∨(∃x t,k=Sum.inr x∧v=Value.str x t)
 | .inl i,v,h=>by
  obtain⟨t,e⟩:=Value.isInt_shape (k:=i) (v:=v) h
  exact .inl ⟨i,t,rfl,e⟩
 | .inr x,v,h=>by
  obtain⟨t,e⟩:=Value.isStrOf_shape (x:=x) (v:=v) h
  exact .inr ⟨x,t,rfl,e⟩
theorem b23(a b:Int):decide ((Sum.inl a:E2)=Sum.inl b)=(a == b):=by
 by_cases e:a=b
 ·subst e;simp
 ·have h:¬(Sum.inl a:E2)=Sum.inl b:=fun q=>e (Sum.inl.inj q)
  rw[decide_eq_false h]
  exact(beq_eq_false_iff_ne.mpr e).symm
theorem b24(a b:Str):decide ((Sum.inr a:E2)=Sum.inr b)=decide (a=b):=by
 by_cases e:a=b
 ·subst e;simp
 ·have h:¬(Sum.inr a:E2)=Sum.inr b:=fun q=>e (Sum.inr.inj q)
  rw[decide_eq_false h,decide_eq_false e]
theorem b25(a:Int)(b:Str):decide ((Sum.inl a:E2)=Sum.inr b)=false:=decide_eq_false (fun q=>nomatch q)
theorem b26(a:Str)(b:Int):decide ((Sum.inr a:E2)=Sum.inl b)=false:=decide_eq_false (fun q=>nomatch q)
def a6B(prog:Program)(w:World):PySem.KeyKind prog w E2 where
 is:=b00
 hash:=b5i w
 inj:=fun v a b ha hb=>by
  rcases J2 ha with⟨i,t,rfl,rfl⟩ | ⟨x,t,rfl,rfl⟩
  ·rcases J2 hb with⟨j,u,rfl,e⟩ | ⟨y,u,rfl,e⟩
   ·injection e with e1 _;rw[e1]
   ·exact nomatch e
  ·rcases J2 hb with⟨j,u,rfl,e⟩ | ⟨y,u,rfl,e⟩
   ·exact nomatch e
   ·injection e with e1 _;rw[e1]
 byValue:=fun k v h=>by
  rcases J2 h with⟨i,t,rfl,rfl⟩ | ⟨x,t,rfl,rfl⟩<;>rfl
 pyHash:=fun hv h=>by
  rcases J2 hv with⟨i,t,rfl,rfl⟩ | ⟨x,t,rfl,rfl⟩
  ·exact wpAny_pyHash_int h
  ·exact wpAny_pyHash_str h
 eqBool:=fun hu hv h=>by
  rcases J2 hu with⟨i,t,rfl,rfl⟩ | ⟨x,t,rfl,rfl⟩
  ·rcases J2 hv with⟨j,u,rfl,rfl⟩ | ⟨y,u,rfl,rfl⟩
   ·rw[b23]at h;exact wpAny_eqBool_int h
   ·rw[b25]at h;exact SeqAt.EqAt.int_str i t y u _ _ _ _ h
  ·rcases J2 hv with⟨j,u,rfl,rfl⟩ | ⟨y,u,rfl,rfl⟩
   ·rw[b26]at h;exact SeqAt.EqAt.str_int x t j u _ _ _ _ h
   ·rw[b24]at h;exact wpAny_eqBool_str h
 «strs» := fun k x t v h=>by
  rcases J2 h with⟨i,u,rfl,e⟩ | ⟨y,u,rfl,e⟩
  ·exact nomatch e
  ·injection e with e1 _
   subst e1
   cases v<;>rfl
inductive V where
 | non | bl (b:Bool) | int (i:Int) | str (x:Str) | byt (b:Array UInt8) | flt (b:UInt64) | ref (a:Addr) | ty (n:String)
 deriving DecidableEq
def RelV:V→Value→Prop
 | .non,u=>u=Value.none
 | .bl b,u=>u=Value.bool b
 | .int i,u=>∃t,u=Value.int i t
 | .str x,u=>∃t,u=Value.str x t
 | .byt b,u=>∃t,u=Value.bytes b t
 | .flt b,u=>∃t,u=Value.float b t
 | .ref a,u=>u=Value.ref a
 | .ty n,u=>u=Value.type n
abbrev Vals:List V→List Value→Prop:=Paired RelV
theorem Vals.length{xs:List V}{us:List Value}(r:Vals xs us):xs.length=us.length:=Paired.length r
theorem Vals.get:∀{xs:List V} {us:List Value} {i:Nat} {x:V},Vals xs us→xs[i]? = some x→∃u,us[i]? = some u∧RelV x u
 | _,_,_,_,.nil,e=>by simp at e
 | _,_,0,_,.cons r _,e=>by simp at e;subst e;exact⟨_,rfl,r⟩
 | _,_,i+1,x,.cons _ t,e=>by
  obtain⟨u,h1,h2⟩:=Vals.get (i:=i) (x:=x) t (by simpa using e)
  exact⟨u,by simpa using h1,h2⟩
theorem Vals.set{x:V}{u:Value}(r:RelV x u):∀{xs:List V} {us:List Value} (i:Nat),Vals xs us→Vals (xs.set i x) (us.set i u)
 | _,_,_,.nil=>.nil
 | _,_,0,.cons _ t=>.cons r t
 | _,_,i+1,.cons q t=>.cons q (Vals.set r i t)
theorem Vals.append:∀{xs ys:List V} {us ws:List Value},Vals xs us→Vals ys ws→Vals (xs++ys) (us++ws)
 | _,_,_,_,.nil,s=>s
 | _,_,_,_,.cons r t,s=>.cons r (Vals.append t s)
theorem Vals.take:∀{xs:List V} {us:List Value} (n:Nat),Vals xs us→Vals (xs.take n) (us.take n)
 | _,_,0,_=>.nil
 | _,_,_+1,.nil=>.nil
 | _,_,n+1,.cons r t=>.cons r (Vals.take n t)
theorem Vals.drop:∀{xs:List V} {us:List Value} (n:Nat),Vals xs us→Vals (xs.drop n) (us.drop n)
 | _,_,0,r=>r
 | _,_,_+1,.nil=>.nil
 | _,_,n+1,.cons _ t=>Vals.drop n t
def RelO:Option V→Option Value→Prop
 | some v,some u=>RelV v u
 | none,none=>True
 | _,_=>False
def KV{κ:Type}:List (κ×V)→List (κ×Value)→Prop:=Paired fun(p:κ×V) (q:κ×Value)=>p.1=q.1∧RelV p.2 q.2
def kV:E2→V
 | .inl i=>.int i
 | .inr x=>.str x
inductive HO where
 /-- a list -/
 | lst (xs:List V)
 /-- a tuple (never changes) -/
 | tup (xs:List V)
 /-- a dict whose keys are ints and texts; one whose keys are tuples of ints and texts (the empty one is both) -/
 | dK (kvs:List (E2×V)) | dT (kvs:List (List E2×V))
 /-- a set of ints: its members, its size -/
 | set (S:Int→Bool) (n:Nat)
 /-- an instance of the class at C, its dict at dx, its attributes -/
 | ins (C dx:Addr) (fs:List (Str×V))
 /-- the dict of the instance at x -/
 | own (x:Addr)
 /-- the dict of an exception -/
 | xd (fs:List (Str×V))
 /-- a bound method, f of x -/
 | met (f x:Addr)
 /-- a range object lo, lo + 1, .. below hi -/
 | rng (lo hi:Int)
 /-- a thing that is known to the object (the script; a dict while a loop walks it): read, never written while it is so -/
 | frz (o:Obj) (u:HO)
 /-- a code object's table -/
 | tbl (ps:Array Value)
 /-- any other thing, by what is true of its one object (a def of one's own: SetO a S n := HO.ext fun h => ..) -/
 | ext (φ:Heap→Prop)
abbrev Hp:=Addr→Option HO
def upd(H:Hp)(a:Addr)(o:HO):Hp:=fun b=>if b=a then some o else H b
theorem k9{H:Hp}{a:Addr}{o:HO}:upd H a o a=some o:=by unfold upd;rw[if_pos rfl]
theorem f9{H:Hp}{a b:Addr}{o:HO}(h:b≠a):upd H a o b=H b:=by unfold upd;rw[if_neg h]
theorem b4z{H:Hp}{a b:Addr}{o u:HO}(h:H a=some o)(h':H b=some u)(d:o≠u):a≠b:=by
 intro e;subst e;rw[h]at h';exact d (Option.some.inj h')
theorem l3{H:Hp}{a b:Addr}{o:HO}(h:H a=some o)(h':H b=none):a≠b:=by
 intro e;subst e;rw[h]at h';cases h'
section
variable (P:Program)(w:World)
def ObjOk(H:Hp)(h:Heap)(a:Addr):HO→Prop
 | .lst xs=>xs.length≤sizeLine∧∃(its:List Value) (n:Nat),Vals xs its∧h.get? a=some { cls:=.type "list",data:=.seq its.toArray n }
 | .tup xs=>xs.length≤sizeLine∧∃its:List Value,Vals xs its∧IsTup h a its.toArray
 | .dK kvs=>kvs.length≤sizeLine∧(a == sysModules)=false∧∃vs,KV kvs vs∧h.DictOf (a6B P w) a vs
 | .dT kvs=>kvs.length≤sizeLine∧(a == sysModules)=false∧∃xs:List (List E2×Addr×Value),
   Paired (fun(p:List E2×V) (q:List E2×Addr×Value)=>p.1=q.1∧H q.2.1=some (.tup (p.1.map kV))∧RelV p.2 q.2.2) kvs xs ∧
   ∃o es ep,h.get? a=some o∧o.ExactDict∧o.data=.dict es ep∧es.toList=xs.map (entryOfKey (tupleKind (a6B P w)))∧(xs.map (·.1)).Nodup
 | .set S n=>h.SetOf (intKind P w) a S n
 | .ins C dx fs=>H dx=some (.own a)∧fs.length≤1000∧dx≠a∧h.get? a=some (W.instObj C dx) ∧
   ∃mA,h.Ns1 dx mA∧(∀f,RelO (fs.lookup f) (mA f))∧PySem.Within mA (fs.map (·.1))
 | .own _=>∃o,h.get? a=some o
 | .xd fs=>∃mA,h.Ns1 a mA∧∀f,RelO (fs.lookup f) (mA f)
 | .rng lo hi=>∃t u v,h.get? a=some { cls:=.type "range",data:=.fields #[.int lo t,.int hi u,.int 1 v] }
 | .frz o u=>h.get? a=some o∧ObjOk H h a u
 | .tbl qs=>∃ps:Array Value,h.get? a=some { cls:=.none,data:=.fields ps }∧TriplesOk ps.toList∧∀pos cv,codeAmong pos ps.toList=some cv→∃c oc u,cv=Value.ref c∧H c=some (.frz oc u)∧∃vs q t t2,oc.data=.fields vs∧vs[1]? = some (Value.str q t2)∧qs[0]? = some (Value.str q t)
 | .met f x=>h.get? a=some (W.methodObj (.ref f) (.ref x))
 | .ext φ=>φ h∧(∃o,h.get? a=some o)∧∀h1 h2:Heap,φ h1→(∀o,h1.get? a=some o→h2.get? a=some o)→φ h2
def HOk(H:Hp)(h:Heap):Prop:=∀a o,H a=some o→ObjOk P w H h a o
end
section
variable {P:Program}{w:World}{H H':Hp}{h h':Heap}{a:Addr}{o:HO}
theorem ObjOk.lt(x:ObjOk P w H h a o):a<h.objs.size:=by
 cases o with
 | lst xs=>obtain⟨_,_,_,_,e⟩:=x;exact Heap.lt_size e
 | tup xs=>obtain⟨_,_,_,p⟩:=x;exact p.lt
 | dK kvs=>obtain⟨_,_,_,_,o,_,_,e,_⟩:=x;exact Heap.lt_size e
 | dT kvs=>obtain⟨_,_,_,_,o,_,_,e,_⟩:=x;exact Heap.lt_size e
 | set S n=>obtain⟨o,_,_,_,e,_⟩:=x;exact Heap.lt_size e
 | ins C dx fs=>obtain⟨_,_,_,e,_⟩:=x;exact Heap.lt_size e
 | own y=>obtain⟨_,e⟩:=x;exact Heap.lt_size e
 | xd fs=>obtain⟨_,⟨_,_,_,e,_⟩,_⟩:=x;exact Heap.lt_size e
 | rng lo hi=>obtain⟨_,_,_,e⟩:=x;exact Heap.lt_size e
 | frz ob u=>obtain⟨e,_⟩:=x;exact Heap.lt_size e
 | tbl ps=>obtain⟨_,e,_⟩:=x;exact Heap.lt_size e
 | met f y=>exact Heap.lt_size (show h.get? a=some _ from x)
 | ext φ=>obtain⟨_,⟨_,e⟩,_⟩:=x;exact Heap.lt_size e
theorem Paired.mapP{α β:Type}{F G:α→β→Prop}:∀{l₁:List α} {l₂:List β},Paired F l₁ l₂→(∀a b,F a b→G a b)→Paired G l₁ l₂
 | _,_,.nil,_=>.nil
 | _,_,.cons r t,f=>.cons (f _ _ r) (Paired.mapP t f)
theorem ObjOk.stay(x:ObjOk P w H h a o)(k:∀b u,(b=a∨H b=some (.own a))→h.get? b=some u→h'.get? b=some u)
  (ho:∀b,H b=some (.own a)→H' b=some (.own a)) (ht:∀b xs,H b=some (.tup xs)→H' b=some (.tup xs)) (hz:∀b ob u,H b=some (.frz ob u)→H' b=some (.frz ob u)):ObjOk P w H' h' a o:=by
 induction o with
 | lst xs=>obtain⟨z,its,n,r,e⟩:=x;exact⟨z,its,n,r,k _ _ (.inl rfl) e⟩
 | tup xs=>obtain⟨z,its,r,ob,e,c⟩:=x;exact⟨z,its,r,ob,k _ _ (.inl rfl) e,c⟩
 | dK kvs=>obtain⟨z,y,vs,r,ob,es,ep,e,c⟩:=x;exact⟨z,y,vs,r,ob,es,ep,k _ _ (.inl rfl) e,c⟩
 | dT kvs =>
  obtain⟨z,y,xs,r,ob,es,ep,e,c⟩:=x
  exact⟨z,y,xs,Paired.mapP r fun p q z=>⟨z.1,ht _ _ z.2.1,z.2.2⟩,ob,es,ep,k _ _ (.inl rfl) e,c⟩
 | set S n=>obtain⟨ob,es,ep,t,e,c⟩:=x;exact⟨ob,es,ep,t,k _ _ (.inl rfl) e,c⟩
 | ins C dx fs =>
  obtain⟨d,z,ne,e,mA,⟨od,es,ep,e2,c⟩,r⟩:=x
  exact⟨ho _ d,z,ne,k _ _ (.inl rfl) e,mA,⟨od,es,ep,k _ _ (.inr d) e2,c⟩,r⟩
 | own y=>obtain⟨ob,e⟩:=x;exact⟨ob,k _ _ (.inl rfl) e⟩
 | xd fs=>obtain⟨mA,⟨od,es,ep,e,c⟩,r⟩:=x;exact⟨mA,⟨od,es,ep,k _ _ (.inl rfl) e,c⟩,r⟩
 | rng lo hi=>obtain⟨t,u,v,e⟩:=x;exact⟨t,u,v,k _ _ (.inl rfl) e⟩
 | frz ob u ih=>obtain⟨e,q⟩:=x;exact⟨k _ _ (.inl rfl) e,ih q⟩
 | tbl qs =>
  obtain⟨ps,e,tr,al⟩:=x
  refine⟨ps,k a _ (.inl rfl) e,tr,fun pos cv q=>?_⟩
  obtain⟨c,oc,u,e1,e3,r⟩:=al pos cv q
  exact⟨c,oc,u,e1,hz _ _ _ e3,r⟩
 | met f y =>
  have e:h.get? a=some (W.methodObj (.ref f) (.ref y)):=x
  show h'.get? a=some (W.methodObj (.ref f) (.ref y))
  exact k a _ (.inl rfl) e
 | ext φ=>obtain⟨p,⟨o,e⟩,st⟩:=x;exact⟨st _ _ p fun o q=>k _ _ (.inl rfl) q,⟨o,k _ _ (.inl rfl) e⟩,st⟩
theorem HOk.lt(x:HOk P w H h)(e:H a=some o):a<h.objs.size:=(x a o e).lt
theorem HOk.fresh(x:HOk P w H h)(e:h.objs.size≤a):H a=none:=by
 cases q:H a with
 | none=>rfl
 | some u=>exact absurd (Nat.lt_of_lt_of_le (x.lt q) e) (Nat.lt_irrefl _)
theorem HOk.kept(x:HOk P w H h)(k:∀b u,h.get? b=some u→h'.get? b=some u):HOk P w H h':=fun a o e =>
 (x a o e).stay (fun b u _ q=>k b u q) (fun _ q=>q) (fun _ _ q=>q) fun _ _ _ q=>q
theorem HOk.laid(x:HOk P w H h)(k:∀b u,h.get? b=some u→h'.get? b=some u)(hp:h.objs.size≤a)(new:ObjOk P w (upd H a o) h' a o):HOk P w (upd H a o) h':=fun b u e=>by
 have hn:=x.fresh hp
 by_cases hb:b=a
 ·subst hb;rw[k9]at e;cases e;exact new
 ·rw[f9 hb]at e
  exact(x b u e).stay (fun c v _ q=>k c v q) (fun c q=>by rw[f9 (l3 q hn)];exact q) (fun c xs q=>by rw[f9 (l3 q hn)];exact q) fun c ob u q=>by rw[f9 (l3 q hn)];exact q
end
def Rd(H:Hp)(a:Addr)(u:HO):Prop:=H a=some u∨∃o,H a=some (.frz o u)
theorem Rd.of{H:Hp}{a:Addr}{u:HO}(h:H a=some u):Rd H a u:=.inl h
theorem Rd.ok{P:Program}{w:World}{H:Hp}{h:Heap}{a:Addr}{u:HO}(r:Rd H a u)(x:HOk P w H h):ObjOk P w H h a u:=by
 rcases r with r | ⟨o,r⟩
 ·exact x a u r
 ·obtain⟨_,q⟩:=x a _ r
  exact q
def Mut:Option HO→Prop
 | some (.lst _)=>True
 | some (.dK _)=>True
 | some (.dT _)=>True
 | some (.set _ _)=>True
 | some (.ins _ _ _)=>True
 | some (.ext _)=>True
 | _=>False
section
variable {P:Program}{w:World}{H:Hp}{h h':Heap}{x e:Addr}{o':HO}
theorem HOk.write(ok:HOk P w H h)(mu:Mut (H x))(he:e=x∨H e=some (.own x))(k:∀b u,b≠e→h.get? b=some u→h'.get? b=some u)(heo:∃u,h'.get? e=some u)
  (new:ObjOk P w (upd H x o') h' x o'):HOk P w (upd H x o') h':=fun b u q=>by
 have nown:∀c y,H c=some (.own y)→c≠x:=fun c y r z=>by subst z;rw[r]at mu;exact mu
 have ntup:∀c xs,H c=some (.tup xs)→c≠x:=fun c xs r z=>by subst z;rw[r]at mu;exact mu
 by_cases hb:b=x
 ·subst hb;rw[k9]at q;cases q;exact new
 ·rw[f9 hb]at q
  by_cases hbe:b=e
  ·have q':H b=some (.own x):=by
    rcases he with z | z
    ·exact absurd (hbe.trans z) hb
    ·rw[hbe];exact z
   rw[q]at q';cases q'
   obtain⟨v,hv⟩:=heo
   exact⟨v,by rw[hbe];exact hv⟩
  ·refine(ok b u q).stay (fun c v hc r=>k c v ?_ r) (fun c r=>by rw[f9 (nown c b r)];exact r) (fun c xs r=>by rw[f9 (ntup c xs r)];exact r) fun c ob u r=>by rw[f9 (fun z=>by subst z;rw[r]at mu;exact mu)];exact r
   rcases hc with rfl | hc
   ·exact hbe
   ·rintro rfl
    rcases he with z | z
    ·exact nown c b hc z
    ·rw[hc]at z;cases z;exact hb rfl
end
structure Un(fs ex:List Addr)(H H':Hp)(h h':Heap):Prop where
 keep:∀b o,h.get? b=some o→H b=none→b ∉ fs→b ∉ ex→h'.get? b=some o
 slot:∀b o,h.get? b=some o→H b=none→b∈fs→b ∉ ex→∃sl,h'.get? b=some { o with slots:=sl }
 free:∀b o,h.get? b=some o→H b=none→b ∉ ex→H' b=none
 there:∀b o,h.get? b=some o→b ∉ ex→∃o',h'.get? b=some o'
 tups:∀b xs,H b=some (.tup xs)→H' b=some (.tup xs)
 frzs:∀b o u,H b=some (.frz o u)→H' b=some (.frz o u)
 tbls:∀b ps,H b=some (.tbl ps)→∃more,H' b=some (.tbl (ps++more))
section
variable {fs fs' ex ex':List Addr}{H H1 H2:Hp}{h h1 h2 h':Heap}{a x e:Addr}{o:HO}
theorem Un.any(u:Un fs ex H H1 h h1){b:Addr}{ob:Obj}(q:h.get? b=some ob)(n:H b=none)(hx:b ∉ ex):∃sl,h1.get? b=some { ob with slots:=sl }:=by
 by_cases hb:b∈fs
 ·exact u.slot b ob q n hb hx
 ·exact⟨ob.slots,u.keep b ob q n hb hx⟩
theorem Un.trans(a:Un fs ex H H1 h h1)(b:Un fs ex H1 H2 h1 h2):Un fs ex H H2 h h2 where
 keep:=fun c ob q n hc hx=>b.keep c ob (a.keep c ob q n hc hx) (a.free c ob q n hx) hc hx
 slot:=fun c ob q n hc hx=>by
  obtain⟨sl,e1⟩:=a.slot c ob q n hc hx
  obtain⟨sl',e2⟩:=b.slot c _ e1 (a.free c ob q n hx) hc hx
  exact⟨sl',e2⟩
 free:=fun c ob q n hx=>by
  obtain⟨o',e1⟩:=a.there c ob q hx
  exact b.free c o' e1 (a.free c ob q n hx) hx
 there:=fun c ob q hx=>by
  obtain⟨o',e1⟩:=a.there c ob q hx
  exact b.there c o' e1 hx
 tups:=fun c xs q=>b.tups c xs (a.tups c xs q)
 frzs:=fun c ob xs q=>b.frzs c ob xs (a.frzs c ob xs q)
 tbls:=fun c ps q=>by
  obtain⟨m1,e1⟩:=a.tbls c ps q
  obtain⟨m2,e2⟩:=b.tbls c _ e1
  exact⟨m1++m2,by rw[e2,Array.append_assoc]⟩
theorem Un.kept(k:∀b u,h.get? b=some u→h'.get? b=some u):Un fs ex H H h h' :=
 ⟨fun b ob q _ _ _=>k b ob q,fun b ob q _ _ _=>⟨ob.slots,k b ob q⟩,fun _ _ _ n _=>n,fun b ob q _=>⟨ob,k b ob q⟩,fun _ _ q=>q,fun _ _ _ q=>q,fun _ ps q=>⟨#[],by rw[q];simp⟩⟩
theorem Un.refl:Un fs ex H H h h:=Un.kept fun _ _ q=>q
theorem Un.laid(k:∀b u,h.get? b=some u→h'.get? b=some u)(hp:h.objs.size≤a)(hn:H a=none):Un fs ex H (upd H a o) h h' where
 keep:=fun b u q _ _ _=>k b u q
 slot:=fun b u q _ _ _=>⟨u.slots,k b u q⟩
 free:=fun b u q n _=>by rw[f9 (Nat.ne_of_lt (Nat.lt_of_lt_of_le (Heap.lt_size q) hp))];exact n
 there:=fun b u q _=>⟨u,k b u q⟩
 tups:=fun b xs q=>by rw[f9 (l3 q hn)];exact q
 frzs:=fun b u xs q=>by rw[f9 (l3 q hn)];exact q
 tbls:=fun b ps q=>⟨#[],by rw[f9 (l3 q hn),q];simp⟩
theorem Un.write(mu:Mut (H x))(he:e=x∨H e=some (.own x))(k:∀b u,b≠e→h.get? b=some u→h'.get? b=some u)(heo:∃u,h'.get? e=some u):Un fs ex H (upd H x o) h h':=by
 have hx:∀b,H b=none→b≠x:=fun b n z=>by subst z;rw[n]at mu;exact mu
 have hb:∀b,H b=none→b≠e:=fun b n z=>by
  subst z
  rcases he with r | r
  ·exact hx b n r
  ·rw[n]at r;cases r
 have hm:∀b u,H b=some u→¬Mut (some u)→b≠x:=fun b u q nm z=>by subst z;rw[q]at mu;exact nm mu
 refine⟨fun b u q n _ _=>k b u (hb b n) q,fun b u q n _ _=>⟨u.slots,k b u (hb b n) q⟩,fun b u q n _=>by rw[f9 (hx b n)];exact n,fun b u q _=>?_,
  fun b xs q=>by rw[f9 (hm b _ q fun z=>z)];exact q,fun b u xs q=>by rw[f9 (hm b _ q fun z=>z)];exact q,fun b ps q=>⟨#[],by rw[f9 (hm b _ q fun z=>z),q];simp⟩⟩
 by_cases hbe:b=e
 ·subst hbe;exact heo
 ·exact⟨u,k b u hbe q⟩
theorem Un.mono(u:Un fs ex H H1 h h1)(hs:∀b∈fs,b∈fs')(hx:∀b∈ex,b∈ex'):Un fs' ex' H H1 h h1 :=
 ⟨fun b ob q n hb he=>u.keep b ob q n (fun z=>hb (hs b z)) fun z=>he (hx b z),fun _ _ q n _ he=>u.any q n fun z=>he (hx _ z),fun b ob q n he=>u.free b ob q n fun z=>he (hx b z),fun b ob q he=>u.there b ob q fun z=>he (hx b z),u.tups,u.frzs,u.tbls⟩
end
def trk(h:Heap)(H:Hp):List Addr:=(List.range h.objs.size).filter fun a=>(H a).isSome
def a1f(h:Heap)(H:Hp):Heap:=W.hideAll h (trk h H)
theorem a8i(h:Heap)(H:Hp):(a1f h H).objs.size=h.objs.size:=W.hideAll_size _ _
theorem a9F{h:Heap}{H:Hp}{b:Addr}{o:Obj}(e:h.get? b=some o)(n:H b=none):(a1f h H).get? b=some o :=
 W.hideAll_get _ e fun hm=>by
  have q:(H b).isSome=true:=(List.mem_filter.mp hm).2
  rw[n]at q;simp at q
theorem b1x{h:Heap}{H:Hp}{b:Addr}{o:Obj}(e:(a1f h H).get? b=some o):h.get? b=some o∧H b=none:=by
 have e':h.get? b=some o:=W.of_hideAll (trk h H) e
 refine⟨e',?_⟩
 cases q:H b with
 | none=>rfl
 | some x =>
  have hm:b∈trk h H:=List.mem_filter.mpr ⟨List.mem_range.mpr (Heap.lt_size e'),by simp[q]⟩
  have z:(a1f h H).get? b=none:=W.hideAll_none (trk h H) hm
  rw[z]at e;cases e
def b1y(g h:Heap)(L:Addr):List (Addr×Obj):=(List.range h.objs.size).filterMap fun a=>if a=L∨(g.get? a).isSome=true then none else(h.get? a).map fun o=>(a,o)
def J8(g h:Heap)(L d:Addr):List (Addr×Obj):=(b1y g h L).filter fun p=>decide (p.1≠d)
structure Mod(K:W.Frag)(mg:Str→Option Value)(base:Heap):Prop where
 kin:K.In base
 glob:base.Ns mainGlobals mg
 blt:∃mb,base.Ns builtinsNs mb∧∀x:Str,x≠"__name__"→mb x=bootBuiltins x
 nolimit:base.NoLimit
structure Cx where
 prog:Program
 w:World
 K:W.Frag
 mg:Str→Option Value
 base:Heap
 A:Around
 N:List Str
 s₀:Shared
 H₀:Hp
 env:Env
 outer:List Env
 stack:List Env
 ex:List Addr
 fn:Str→Bool
 calm:Bool
 pn:List (Addr×Obj)
 xe:Value→Shared→Prop
def L7(l:List Env):List Addr:=l.filterMap (·.frame)
abbrev Cx.fs(X:Cx):List Addr:=L7 X.outer
def Vis(sc:Scope)(x:Str):Prop:=sc.names.lookup x=some .local∨sc.names.lookup x=some .cell∨sc.names.lookup x=some .free
def Loc(sc:Scope)(x:Str):Prop:=sc.names.lookup x=some .local∨sc.names.lookup x=some .cell
def b5j(env:Env)(h:Heap)(m:Str→Option Value)(x:Str)(u:Value):Prop :=
 (env.kindOf x=some .local∧m x=some u)∨((env.kindOf x=some .cell∨env.kindOf x=some .free)∧∃c,env.cells.lookup x=some c∧h.IsCell c (some u))
structure Cx.Ok(X:Cx):Prop where
 mod:Mod X.K X.mg X.base
 kind:X.env.scope.kind=.function
 glob:X.env.globals=mainGlobals
 blt:X.env.builtins=builtinsNs
 above:X.s₀.heap.objs.size≤X.env.locals
 inj:∀x y c,X.env.cells.lookup x=some c→X.env.cells.lookup y=some c→x=y
 has:∀x,(X.env.kindOf x=some .cell∨X.env.kindOf x=some .free)→∃c,X.env.cells.lookup x=some c
 cab:∀x c,X.fn x=true→X.env.cells.lookup x=some c→X.s₀.heap.objs.size≤c
 hd:X.calm=true→X.A.handled=none
 frames:X.A.frames=some X.stack
 stk:X.stack=X.outer∨(X.stack=X.env::X.outer∧X.env.frame=some X.env.locals)
 exf:∀b∈X.ex,b≠X.env.locals∧∀x c,X.env.cells.lookup x=some c→c≠b
 bs:∀b o,X.base.get? b=some o→X.s₀.heap.get? b=some o∧X.H₀ b=none
 bsz:X.base.objs.size≤X.s₀.heap.objs.size
 noex:∀b o,X.base.get? b=some o→b ∉ X.ex
 exfs:∀b∈X.ex,b ∉ X.fs
 funs:X.s₀.heap.FunFrames X.base X.outer
 frf:∀b∈X.fs,X.H₀ b=none
structure Inv(X:Cx)(pins:List (Addr×Obj))(σ:List (Option V))(H:Hp)(s:Shared):Prop where
 ok:X.Ok
 os:s.os=X.s₀.os
 bare:AllBare s.gens
 base:Un X.fs X.ex X.H₀ H X.s₀.heap s.heap
 loc:∃m,s.heap.Ns X.env.locals m∧∀(i:Nat) (x:Str) (v:V),X.N[i]? = some x→σ[i]? = some (some v)→Vis X.env.scope x→∃u,RelV v u∧b5j X.env s.heap m x u
 cell:∀x c,X.env.cells.lookup x=some c→∃v,s.heap.IsCell c v
 free:H X.env.locals=none
 freeC:∀x c,X.env.cells.lookup x=some c→H c=none
 pin:∀p∈X.pn++pins,s.heap.get? p.1=some p.2∧H p.1=none∧p.1≠X.env.locals∧p.1 ∉ X.fs∧∀v,p.2.data≠.cell v
 hok:HOk X.prog X.w H s.heap
 len:σ.length=X.N.length
section
variable {X:Cx}{pins:List (Addr×Obj)}{σ:List (Option V)}{H H':Hp}{s:Shared}{h':Heap}
theorem Cx.Ok.nofr(ok:X.Ok){b:Addr}{o:Obj}(e:X.base.get? b=some o):b ∉ X.fs:=fun hb=>by
 have:=(ok.funs.mem hb).1
 rw[e]at this;cases this
theorem Inv.bs(I:Inv X pins σ H s):∀b o,X.base.get? b=some o→s.heap.get? b=some o∧H b=none:=fun b o e =>
 ⟨I.base.keep b o (I.ok.bs b o e).1 (I.ok.bs b o e).2 (I.ok.nofr e) (I.ok.noex b o e),I.base.free b o (I.ok.bs b o e).1 (I.ok.bs b o e).2 (I.ok.noex b o e)⟩
theorem Inv.bk(I:Inv X pins σ H s):∀b o,X.base.get? b=some o→s.heap.get? b=some o:=fun b o e=>(I.bs b o e).1
theorem Inv.mod(I:Inv X pins σ H s):Mod X.K X.mg X.base:=I.ok.mod
theorem Inv.kIn(I:Inv X pins σ H s):X.K.In s.heap:=I.ok.mod.kin.keeps I.bk
theorem Inv.nolimit(I:Inv X pins σ H s):s.heap.NoLimit:=I.ok.mod.nolimit.keeps I.bk
theorem Inv.fr(I:Inv X pins σ H s):∃m,Fr X.base X.env.locals s.heap m :=
 let ⟨m,hn,_⟩:=I.loc
 ⟨m,hn,I.bk,Nat.le_trans I.ok.bsz I.ok.above⟩
theorem Inv.lt(I:Inv X pins σ H s):X.env.locals<s.heap.objs.size:=let ⟨_,hn,_⟩:=I.loc;hn.lt
theorem Inv.sz(I:Inv X pins σ H s):X.s₀.heap.objs.size≤s.heap.objs.size:=Nat.le_trans I.ok.above (Nat.le_of_lt I.lt)
theorem Inv.nofs(I:Inv X pins σ H s){a:Addr}(h:s.heap.objs.size≤a):a ∉ X.fs:=fun hb=>by
 obtain⟨_,o,ho,_⟩:=I.ok.funs.mem hb
 exact absurd (Nat.lt_of_lt_of_le (Heap.lt_size ho) (Nat.le_trans I.sz h)) (Nat.lt_irrefl _)
theorem Inv.cne(I:Inv X pins σ H s):∀x c,X.env.cells.lookup x=some c→c≠X.env.locals:=fun x c e z=>by
 obtain⟨v,o,ho,hd⟩:=I.cell x c e
 obtain⟨m,⟨o',es,ep,ho',hd',_⟩,_⟩:=I.loc
 rw[z,ho']at ho;cases ho;rw[hd']at hd;cases hd
theorem Inv.funs(I:Inv X pins σ H s):s.heap.FunFrames X.base X.outer:=by
 have all:∀(l:List Env),(∀b∈L7 l,b∈X.fs)→X.s₀.heap.FunFrames X.base l→s.heap.FunFrames X.base l:=by
  intro l
  induction l with
  | nil=>intro _ _;trivial
  | cons env r ih =>
   intro hs hl
   obtain⟨hk,⟨L,o,hf,hn,ho,hd⟩,hr⟩:=hl
   have hL:L∈X.fs:=hs L (by unfold L7;rw[List.filterMap_cons,hf];exact List.mem_cons_self)
   obtain⟨sl,e⟩:=I.base.slot L o ho (I.ok.frf L hL) hL fun z=>I.ok.exfs L z hL
   exact⟨hk,⟨L,_,hf,hn,e,hd⟩,ih (fun b hb=>hs b (by unfold L7;rw[List.filterMap_cons,hf];exact List.mem_cons_of_mem _ hb)) hr⟩
 exact all X.outer (fun _ hb=>hb) I.ok.funs
theorem Inv.stack(I:Inv X pins σ H s):s.heap.FunFrames X.base X.stack:=by
 rcases I.ok.stk with e | ⟨e,hf⟩
 ·rw[e];exact I.funs
 ·rw[e]
  obtain⟨m,hn,_⟩:=I.loc
  refine .cons (by rw[I.ok.kind];decide) hf hn ?_ I.funs
  exact Heap.get?_none_of_le (Nat.le_trans I.ok.bsz I.ok.above)
theorem Inv.stkSub(I:Inv X pins σ H s):∀b∈L7 X.stack,b∈X.env.locals::X.fs:=fun b hb=>by
 rcases I.ok.stk with e | ⟨e,hf⟩
 ·rw[e]at hb;exact List.mem_cons_of_mem _ hb
 ·rw[e]at hb
  unfold L7 at hb
  rw[List.filterMap_cons,hf]at hb
  exact hb
theorem Inv.stkFree(I:Inv X pins σ H s):∀b∈L7 X.stack,H b=none:=fun b hb=>by
 rcases List.mem_cons.mp (I.stkSub b hb)with e | hb
 ·rw[e];exact I.free
 ·obtain⟨_,o,ho,_⟩:=I.ok.funs.mem hb
  exact I.base.free b o ho (I.ok.frf b hb) fun z=>I.ok.exfs b z hb
theorem Inv.step{g':Array GenState}{t':Nat}{d':Drawn}{ch:List Addr}(I:Inv X pins σ H s)
  (hch:∀b∈ch,(b∈X.ex∨X.s₀.heap.objs.size≤b)∧b≠X.env.locals∧(∀x c,X.env.cells.lookup x=some c→c≠b)∧∀p∈X.pn++pins,p.1≠b)
  (keep:∀b o,b≠X.env.locals→b ∉ X.fs→b ∉ ch→s.heap.get? b=some o→H b=none→h'.get? b=some o)
  (slot:∀b o,b≠X.env.locals→b∈X.fs→b ∉ ch→s.heap.get? b=some o→H b=none→∃sl,h'.get? b=some { o with slots:=sl }) (free:∀b o,b ∉ ch→s.heap.get? b=some o→H b=none→H' b=none)
  (there:∀b o,b ∉ ch→s.heap.get? b=some o→∃o',h'.get? b=some o')
  (tups:∀b xs,H b=some (.tup xs)→H' b=some (.tup xs)) (frzs:∀b o u,H b=some (.frz o u)→H' b=some (.frz o u)) (tbls:∀b ps,H b=some (.tbl ps)→∃more,H' b=some (.tbl (ps++more)))
  (ns:∀m,s.heap.Ns X.env.locals m→h'.Ns X.env.locals m) (hok:HOk X.prog X.w H' h') (hg:AllBare g') :
  Inv X pins σ H' { s with heap:=h',gens:=g',drawn:=d',toks:=t' }:=by
 have neL:∀b o,X.s₀.heap.get? b=some o→b≠X.env.locals:=fun b o e=>Nat.ne_of_lt (Nat.lt_of_lt_of_le (Heap.lt_size e) I.ok.above)
 have neC:∀b o,X.s₀.heap.get? b=some o→b ∉ X.ex→b ∉ ch:=fun b o e hx hb=>by
  rcases(hch b hb).1 with z | z
  ·exact hx z
  ·exact absurd (Nat.lt_of_lt_of_le (Heap.lt_size e) z) (Nat.lt_irrefl _)
 have cellK:∀x c,X.env.cells.lookup x=some c→∀v,s.heap.IsCell c v→h'.IsCell c v:=fun x c e v ⟨o,ho,hd⟩=>by
  have nch:c ∉ ch:=fun z=>(hch c z).2.2.1 x c e rfl
  by_cases hc:c∈X.fs
  ·obtain⟨sl,q⟩:=slot c o (I.cne x c e) hc nch ho (I.freeC x c e)
   exact⟨_,q,hd⟩
  ·exact⟨o,keep c o (I.cne x c e) hc nch ho (I.freeC x c e),hd⟩
 refine⟨I.ok,I.os,hg,⟨fun b o e n hb hx=>?_,fun b o e n hb hx=>?_,fun b o e n hx=>?_,fun b o e hx=>?_,fun b xs e=>tups b xs (I.base.tups b xs e),fun b o xs e=>frzs b o xs (I.base.frzs b o xs e),fun b ps e=>?_⟩,?_,fun x c e=>?_,?_,fun x c e=>?_,fun p hp=>?_,hok,I.len⟩
 ·exact keep b o (neL b o e) hb (neC b o e hx) (I.base.keep b o e n hb hx) (I.base.free b o e n hx)
 ·obtain⟨sl,e1⟩:=I.base.slot b o e n hb hx
  obtain⟨sl',e2⟩:=slot b _ (neL b o e) hb (neC b o e hx) e1 (I.base.free b o e n hx)
  exact⟨sl',e2⟩
 ·obtain⟨o',e1⟩:=I.base.there b o e hx
  exact free b o' (neC b o e hx) e1 (I.base.free b o e n hx)
 ·obtain⟨o',e1⟩:=I.base.there b o e hx
  exact there b o' (neC b o e hx) e1
 ·obtain⟨m1,e1⟩:=I.base.tbls b ps e
  obtain⟨m2,e2⟩:=tbls b _ e1
  exact⟨m1++m2,by rw[e2,Array.append_assoc]⟩
 ·obtain⟨m,hn,hl⟩:=I.loc
  refine⟨m,ns m hn,fun i x v e1 e2 e3=>?_⟩
  obtain⟨u,r,l⟩:=hl i x v e1 e2 e3
  refine⟨u,r,?_⟩
  rcases l with l | ⟨k,c,e,z⟩
  ·exact .inl l
  ·exact .inr ⟨k,c,e,cellK x c e _ z⟩
 ·obtain⟨v,z⟩:=I.cell x c e
  exact⟨v,cellK x c e v z⟩
 ·obtain⟨m,⟨o,_,_,ho,_⟩,_⟩:=I.loc
  exact free _ o (fun z=>(hch _ z).2.1 rfl) ho I.free
 ·obtain⟨v,o,ho,hd⟩:=I.cell x c e
  exact free c o (fun z=>(hch c z).2.2.1 x c e rfl) ho (I.freeC x c e)
 ·obtain⟨e,n,ne,nf,d⟩:=I.pin p hp
  have nch:p.1 ∉ ch:=fun z=>(hch p.1 z).2.2.2 p hp rfl
  exact⟨keep p.1 p.2 ne nf nch e n,free p.1 p.2 nch e n,ne,nf,d⟩
theorem Inv.un{t':Nat}(I:Inv X pins σ H s)(u:Un X.fs [] H H' s.heap h')(hok:HOk X.prog X.w H' h'):Inv X pins σ H' { s with heap:=h',toks:=t' }:=by
 obtain⟨m,⟨o,es,ep,ho,r⟩,_⟩:=id I.loc
 obtain⟨sl,hL⟩:=u.any ho I.free (by simp)
 exact I.step (g':=s.gens) (d':=s.drawn) (ch:=[]) (fun _ z=>nomatch z) (fun b o _ hb _ e n=>u.keep b o e n hb (by simp)) (fun b o _ hb _ e n=>u.slot b o e n hb (by simp)) (fun b o _ e n=>u.free b o e n (by simp)) (fun b o _ e=>u.there b o e (by simp)) u.tups u.frzs u.tbls (fun m' hm=>by
  obtain⟨o',es',ep',ho',r'⟩:=hm
  rw[ho]at ho';cases ho'
  exact⟨_,es',ep',hL,r'⟩) hok I.bare
theorem Inv.call{g':Array GenState}{t':Nat}{d':Drawn}{ch:List Addr}(I:Inv X pins σ H s)(u:Un (L7 X.stack) ch H H' s.heap h')(hok:HOk X.prog X.w H' h')(hg:AllBare g')
  (hch:∀b∈ch,(b∈X.ex∨X.s₀.heap.objs.size≤b)∧b≠X.env.locals∧(∀x c,X.env.cells.lookup x=some c→c≠b)∧∀p∈X.pn++pins,p.1≠b) :
  Inv X pins σ H' { s with heap:=h',gens:=g',drawn:=d',toks:=t' }:=by
 obtain⟨m,⟨o,es,ep,ho,r⟩,_⟩:=id I.loc
 obtain⟨sl,hL⟩:=u.any ho I.free fun z=>(hch _ z).2.1 rfl
 exact I.step (ch:=ch) hch (fun b o hL hb hc e n=>u.keep b o e n (fun z=>(List.mem_cons.mp (I.stkSub b z)).elim hL hb) hc) (fun b o _ _ hc e n=>u.any e n hc) (fun b o hc e n=>u.free b o e n hc) (fun b o hc e=>u.there b o e hc) u.tups u.frzs u.tbls (fun m' hm=>by
  obtain⟨o',es',ep',ho',r'⟩:=hm
  rw[ho]at ho';cases ho'
  exact⟨_,es',ep',hL,r'⟩) hok hg
theorem Inv.turned{t':Nat}{it:Addr}(I:Inv X pins σ H s)(k:∀b o,b≠it→s.heap.get? b=some o→h'.get? b=some o)(hn:H it=none)(hL:it≠X.env.locals)
  (h1:it∈X.ex∨X.s₀.heap.objs.size≤it) (h2:∀x c,X.env.cells.lookup x=some c→c≠it) (h3:∀p∈X.pn++pins,p.1≠it):Inv X pins σ H { s with heap:=h',toks:=t' }:=by
 have nit:∀b u,H b=some u→b≠it:=fun b u e z=>by rw[z,hn]at e;cases e
 refine I.step (g':=s.gens) (d':=s.drawn) (ch:=[it]) (fun b hb=>?_) (fun b o _ _ hc e _=>k b o (fun z=>hc (by simp[z])) e) (fun b o _ _ hc e _=>⟨o.slots,k b o (fun z=>hc (by simp[z])) e⟩) (fun _ _ _ _ n=>n)
  (fun b o hc e=>⟨o,k b o (fun z=>hc (by simp[z])) e⟩) (fun _ _ e=>e) (fun _ _ _ e=>e) (fun b ps e=>⟨#[],by rw[e];simp⟩) (fun m hm=>?_) (fun b u e=>?_) I.bare
 ·have e:b=it:=by simpa using hb
  subst e
  exact⟨h1,hL,h2,h3⟩
 ·obtain⟨o,es,ep,ho,r⟩:=hm
  exact⟨o,es,ep,k _ o (Ne.symm hL) ho,r⟩
 ·refine(I.hok b u e).stay (fun c v hc q=>k c v ?_ q) (fun _ q=>q) (fun _ _ q=>q) fun _ _ _ q=>q
  rcases hc with z | z
  ·rw[z];exact nit b u e
  ·exact nit c _ z
theorem Inv.tok(I:Inv X pins σ H s)(t:Nat):Inv X pins σ H { s with toks:=t }:=I.un (h':=s.heap) (t':=t) Un.refl I.hok
theorem Inv.kept{t':Nat}(I:Inv X pins σ H s)(k:∀b u,s.heap.get? b=some u→h'.get? b=some u):Inv X pins σ H { s with heap:=h',toks:=t' }:=I.un (Un.kept k) (I.hok.kept k)
theorem Inv.laid{a:Addr}{o:HO}{t':Nat}(I:Inv X pins σ H s)(k:∀b u,s.heap.get? b=some u→h'.get? b=some u)(hp:s.heap.objs.size≤a)(new:ObjOk X.prog X.w (upd H a o) h' a o) :
  Inv X pins σ (upd H a o) { s with heap:=h',toks:=t' }:=I.un (Un.laid k hp (I.hok.fresh hp)) (I.hok.laid k hp new)
theorem Inv.write{x e:Addr}{o:HO}{t':Nat}(I:Inv X pins σ H s)(mu:Mut (H x))(he:e=x∨H e=some (.own x))(k:∀b u,b≠e→s.heap.get? b=some u→h'.get? b=some u)(heo:∃u,h'.get? e=some u)
  (new:ObjOk X.prog X.w (upd H x o) h' x o):Inv X pins σ (upd H x o) { s with heap:=h',toks:=t' }:=I.un (Un.write mu he k heo) (I.hok.write mu he k heo new)
theorem Inv.weak{σ':List (Option V)}(I:Inv X pins σ H s)(hl:σ'.length=σ.length)(w:∀(i:Nat) v,σ'[i]? = some (some v)→σ[i]? = some (some v)):Inv X pins σ' H s :=
 ⟨I.ok,I.os,I.bare,I.base,let ⟨m,hn,hl'⟩:=I.loc; ⟨m,hn,fun i x v e1 e2 e3=>hl' i x v e1 (w i v e2) e3⟩,I.cell,I.free,I.freeC,I.pin,I.hok,hl.trans I.len⟩
theorem Inv.pins_of{pins':List (Addr×Obj)}(I:Inv X pins σ H s)(h:∀p∈pins',s.heap.get? p.1=some p.2∧H p.1=none∧p.1≠X.env.locals∧p.1 ∉ X.fs∧∀v,p.2.data≠.cell v):Inv X pins' σ H s :=
 ⟨I.ok,I.os,I.bare,I.base,I.loc,I.cell,I.free,I.freeC,fun p hp=>(List.mem_append.mp hp).elim (fun z=>I.pin p (List.mem_append_left _ z)) (h p),I.hok,I.len⟩
theorem a5g{N:List Str}(hN:N.Nodup){i j:Nat}{x:Str}(a:N[i]? = some x)(b:N[j]? = some x):i=j:=by
 obtain⟨h1,e1⟩:=List.getElem?_eq_some_iff.mp a
 obtain⟨h2,e2⟩:=List.getElem?_eq_some_iff.mp b
 exact(List.getElem_inj hN).mp (e1.trans e2.symm)
theorem a4o{M:Model}{A:Around}{E:Value→Shared→Prop}{i:Nat}{x:Str}{v:V}{u:Value}{Q:Unit→Shared→Prop}(I:Inv X pins σ H s)(hN:X.N.Nodup)(hi:X.N[i]? = some x)(hx:Loc X.env.scope x)(r:RelV v u)
  (h:∀s',Inv X pins (σ.set i (some v)) H s'→(∃a,Heap.SameBut a s.heap s'.heap∧(a=X.env.locals∨X.env.cells.lookup x=some a))→Q () s') (hf:X.fn x=true∨X.env.scope.names.lookup x=some .local:=by first | exact .inl rfl | exact .inr rfl | assumption):wpAny M A (storeName X.env x u) Q E s:=by
 obtain⟨m,hn,hl⟩:=id I.loc
 have hcls:(X.env.scope.kind == .class || (X.env.scope.kind == .module && X.env.locals != X.env.globals))=false:=by rw[I.ok.kind];rfl
 have hiσ:i<σ.length:=by rw[I.len];exact(List.getElem?_eq_some_iff.mp hi).1
 have cne:=I.cne
 have tracked:∀{a:Addr} {h':Heap},(∃o,s.heap.get? a=some o∧H a=none)→Heap.SameBut a s.heap h'→HOk X.prog X.w H h':=fun{a h'} ha hs b ob e=>by
  obtain⟨_,_,hfree⟩:=ha
  refine(I.hok b ob e).stay (fun c w' hc q=>(hs.2 c ?_).trans q) (fun _ q=>q) (fun _ _ q=>q) fun _ _ _ q=>q
  rintro rfl
  rcases hc with rfl | hc
  ·rw[hfree]at e;cases e
  ·rw[hfree]at hc;cases hc
 rcases hx with hk | hk
 ·refine wpAny_storeName_local hk hn (fun h' hn' hs=>?_) hcls
  obtain⟨oL,_,_,hoL,_⟩:=id hn
  refine h _ ⟨I.ok,I.os,I.bare,⟨fun b o e n hb hx=>?_,fun b o e n hb hx=>?_,I.base.free,fun b o e hx=>?_,I.base.tups,I.base.frzs,I.base.tbls⟩,⟨_,hn',fun j y v' e1 e2 e3=>?_⟩,fun y c e=>?_,I.free,I.freeC,fun p hp=>?_,tracked ⟨oL,hoL,I.free⟩ hs,by simpa using I.len⟩ ⟨_,hs,.inl rfl⟩
  ·exact(hs.2 b (Nat.ne_of_lt (Nat.lt_of_lt_of_le (Heap.lt_size e) I.ok.above))).trans (I.base.keep b o e n hb hx)
  ·obtain⟨sl,e1⟩:=I.base.slot b o e n hb hx
   exact⟨sl,(hs.2 b (Nat.ne_of_lt (Nat.lt_of_lt_of_le (Heap.lt_size e) I.ok.above))).trans e1⟩
  ·obtain⟨o',e1⟩:=I.base.there b o e hx
   exact⟨o',(hs.2 b (Nat.ne_of_lt (Nat.lt_of_lt_of_le (Heap.lt_size e) I.ok.above))).trans e1⟩
  ·by_cases hj:j=i
   ·subst hj
    rw[hi]at e1;cases e1
    rw[List.getElem?_set_self hiσ]at e2
    cases e2
    exact⟨u,r,.inl ⟨hk,by simp⟩⟩
   ·rw[List.getElem?_set_ne (Ne.symm hj)]at e2
    obtain⟨u',r',q⟩:=hl j y v' e1 e2 e3
    refine⟨u',r',?_⟩
    rcases q with⟨k,e⟩ | ⟨k,c,e,z⟩
    ·refine .inl ⟨k,?_⟩
     have:y≠x:=fun e=>hj (a5g hN e1 (e▸hi))
     simp[this,e]
    ·exact .inr ⟨k,c,e,z.sameBut hs (cne y c e)⟩
  ·obtain⟨w',z⟩:=I.cell y c e
   exact⟨w',z.sameBut hs (cne y c e)⟩
  ·obtain⟨e,n,ne,nf,d⟩:=I.pin p hp
   exact⟨(hs.2 p.1 ne).trans e,n,ne,nf,d⟩
 ·have hfn:X.fn x=true:=by
   rcases hf with z | z
   ·exact z
   ·rw[z]at hk;cases hk
  obtain⟨c,hc⟩:=I.ok.has x (.inl hk)
  obtain⟨w',z⟩:=I.cell x c hc
  refine wpAny_storeName_cell I.ok.kind hk hc z (fun h' hc' hs=>?_)
  obtain⟨oc,hoc,hocd⟩:=id z
  refine h { s with heap:=h' } ⟨I.ok,I.os,I.bare,⟨fun b o e n hb hx=>?_,fun b o e n hb hx=>?_,I.base.free,fun b o e hx=>?_,I.base.tups,I.base.frzs,I.base.tbls⟩,⟨m,hn.sameBut hs (Ne.symm (cne x c hc)),fun j y v' e1 e2 e3=>?_⟩,fun y c' e=>?_,I.free,I.freeC,fun p hp=>?_,tracked ⟨oc,hoc,I.freeC x c hc⟩ hs,by simpa using I.len⟩ ⟨c,hs,.inr hc⟩
  ·exact(hs.2 b (Nat.ne_of_lt (Nat.lt_of_lt_of_le (Heap.lt_size e) (I.ok.cab x c hfn hc)))).trans (I.base.keep b o e n hb hx)
  ·obtain⟨sl,e1⟩:=I.base.slot b o e n hb hx
   exact⟨sl,(hs.2 b (Nat.ne_of_lt (Nat.lt_of_lt_of_le (Heap.lt_size e) (I.ok.cab x c hfn hc)))).trans e1⟩
  ·obtain⟨o',e1⟩:=I.base.there b o e hx
   exact⟨o',(hs.2 b (Nat.ne_of_lt (Nat.lt_of_lt_of_le (Heap.lt_size e) (I.ok.cab x c hfn hc)))).trans e1⟩
  ·by_cases hj:j=i
   ·subst hj
    rw[hi]at e1;cases e1
    rw[List.getElem?_set_self hiσ]at e2
    cases e2
    exact⟨u,r,.inr ⟨.inl hk,c,hc,hc'⟩⟩
   ·rw[List.getElem?_set_ne (Ne.symm hj)]at e2
    obtain⟨u',r',q⟩:=hl j y v' e1 e2 e3
    refine⟨u',r',?_⟩
    rcases q with q | ⟨k,c',e,z'⟩
    ·exact .inl q
    ·refine .inr ⟨k,c',e,z'.sameBut hs ?_⟩
     rintro rfl
     exact hj (a5g hN e1 (I.ok.inj _ _ _ e hc▸hi))
  ·by_cases hcc:c'=c
   ·subst hcc;exact⟨_,hc'⟩
   ·obtain⟨w2,z2⟩:=I.cell y c' e
    exact⟨w2,z2.sameBut hs hcc⟩
  ·obtain⟨e,n,ne,nf,d⟩:=I.pin p hp
   refine⟨(hs.2 p.1 ?_).trans e,n,ne,nf,d⟩
   intro q
   rw[q,hoc]at e
   have q':oc=p.2:=Option.some.inj e
   exact d w' (by rw[← q'];exact hocd)
theorem a5h{M:Model}{A:Around}{E:Value→Shared→Prop}{i:Nat}{x:Str}{v:V}{u:Value}{Q:Unit→Shared→Prop}(I:Inv X pins σ H s)(hN:X.N.Nodup)(hi:X.N[i]? = some x)(hx:Loc X.env.scope x)(r:RelV v u)
  (h:∀s',Inv X pins (σ.set i (some v)) H s'→Q () s') (hf:X.fn x=true∨X.env.scope.names.lookup x=some .local:=by first | exact .inl rfl | exact .inr rfl | assumption):wpAny M A (storeName X.env x u) Q E s :=
 a4o I hN hi hx r (fun s' I' _=>h s' I') hf
theorem Inv.call'{s':Shared}{ch:List Addr}(I:Inv X pins σ H s)(ho:s'.os=s.os)(u:Un (L7 X.stack) ch H H' s.heap s'.heap)(hok:HOk X.prog X.w H' s'.heap)(hg:AllBare s'.gens)
  (hch:∀b∈ch,(b∈X.ex∨X.s₀.heap.objs.size≤b)∧b≠X.env.locals∧(∀x c,X.env.cells.lookup x=some c→c≠b)∧∀p∈X.pn++pins,p.1≠b):Inv X pins σ H' s':=by
 obtain⟨h',g',d',t',o'⟩:=s'
 have e:o'=s.os:=ho
 subst e
 exact I.call (g':=g') (t':=t') (d':=d') u hok hg hch
end
abbrev XK:=Value→Option Addr→Hp→Prop
abbrev St:=List (Option V)
abbrev VK:=V→Hp→Prop
abbrev TE:=St→Hp→VK→Prop
abbrev TT:=St→Hp→(Bool→Hp→Prop)→Prop
abbrev TA:=St→Hp→(List V→Hp→Prop)→Prop
structure Ends where
 nx:St→Hp→Prop
 rt:VK
 bk:St→Hp→Prop:=fun _ _=>False
 ct:St→Hp→Prop:=fun _ _=>False
abbrev TS:=Ends→St→Hp→Prop
def EP(X:Cx)(pins:List (Addr×Obj))(σ:St)(Q:VK)(u:Value)(s':Shared):Prop:=∃v H',Inv X pins σ H' s'∧RelV v u∧Q v H'
def TP(X:Cx)(pins:List (Addr×Obj))(σ:St)(Q:Bool→Hp→Prop)(b:Bool)(s':Shared):Prop:=∃H',Inv X pins σ H' s'∧Q b H'
def AP(X:Cx)(pins:List (Addr×Obj))(σ:St)(Q:List V→Hp→Prop)(us:List Value)(s':Shared):Prop:=∃vs H',Inv X pins σ H' s'∧Vals vs us∧Q vs H'
def SP(X:Cx)(pins:List (Addr×Obj))(D:Ends)(f:Flow)(s':Shared):Prop :=
 match f with
 | .next=>∃σ' H',Inv X pins σ' H' s'∧D.nx σ' H'
 | .brk=>∃σ' H',Inv X pins σ' H' s'∧D.bk σ' H'
 | .cont=>∃σ' H',Inv X pins σ' H' s'∧D.ct σ' H'
 | .ret u=>∃v σ' H',Inv X pins σ' H' s'∧RelV v u∧D.rt v H'
def PE(X:Cx)(e:Expr)(t:TE):Prop :=
 ∀(pins:List (Addr×Obj)) (s:Shared) (σ:St) (H:Hp) (Q:VK),Inv X pins σ H s→t σ H Q→wpAny (model X.prog X.w) X.A (eval e X.env) (EP X pins σ Q) X.xe s
def PT(X:Cx)(e:Expr)(t:TT):Prop :=
 ∀(pins:List (Addr×Obj)) (s:Shared) (σ:St) (H:Hp) (Q:Bool→Hp→Prop),Inv X pins σ H s→t σ H Q→wpAny (model X.prog X.w) X.A (isTrue e X.env (eval e X.env)) (TP X pins σ Q) X.xe s
def PW(X:Cx)(e:Expr)(t:TT):Prop :=
 ∀(whole:Sem Value) (pins:List (Addr×Obj)) (s:Shared) (σ:St) (H:Hp) (Q:Bool→Hp→Prop),Inv X pins σ H s→t σ H Q→wpAny (model X.prog X.w) X.A (isTrue e X.env whole) (TP X pins σ Q) X.xe s
theorem PW.pt{X:Cx}{e:Expr}{t:TT}(h:PW X e t):PT X e t:=h _
def PA(X:Cx)(es:List Expr)(t:TA):Prop :=
 ∀(pos:Pos) (pins:List (Addr×Obj)) (s:Shared) (σ:St) (H:Hp) (Q:List V→Hp→Prop),Inv X pins σ H s→t σ H Q→wpAny (model X.prog X.w) X.A (spliced (backTo pos (starEach es X.env))) (AP X pins σ Q) X.xe s
def PS(X:Cx)(st:Stmt)(t:TS):Prop :=
 ∀(pins:List (Addr×Obj)) (s:Shared) (σ:St) (H:Hp) (D:Ends),Inv X pins σ H s→t D σ H→wpAny (model X.prog X.w) X.A (exec st X.env) (SP X pins D) X.xe s
def PSs(X:Cx)(st:List Stmt)(t:TS):Prop :=
 ∀(pins:List (Addr×Obj)) (s:Shared) (σ:St) (H:Hp) (D:Ends),Inv X pins σ H s→t D σ H→wpAny (model X.prog X.w) X.A (execs st X.env) (SP X pins D) X.xe s
theorem t6{α:Type}{t:Sem α}{Q Q':α→Shared→Prop}{M:Model}{A:Around}{E:Value→Shared→Prop}{s:Shared}(h:wpAny M A t Q E s)(hQ:∀a s,Q a s→Q' a s):wpAny M A t Q' E s:=wpAny_mono h hQ fun _ _ x=>x
section
variable {X:Cx}
def R9(i:Nat):TE:=fun σ H Q=>∃v,σ[i]? = some (some v)∧Q v H
def tC(v:V):TE:=fun _ H Q=>Q v H
theorem b28{i:Nat}{x:Str}{pos:Pos}(hN:X.N[i]? = some x)(hv:Vis X.env.scope x)(hd:(x == ("__debug__" : Str))=false:=by decide)(hcd:(x == ("__classdict__" : Str))=false:=by decide):PE X (.Name x pos) (R9 i):=by
 intro pins s σ H Q I h
 obtain⟨v,e,h⟩:=h
 obtain⟨m,hn,hl⟩:=I.loc
 obtain⟨u,r,l⟩:=hl i x v hN e hv
 have fin:EP X pins σ Q u s:=⟨v,H,I,r,h⟩
 rcases l with⟨hk,hm⟩ | ⟨hk,c,hc,hcell⟩
 ·exact wpAny_Name (wpAny_loadName_local I.ok.kind hk hn hm fin) hd
 ·rcases hk with hk | hk
  ·exact wpAny_Name (wpAny_loadName_cell I.ok.kind hk hc hcell fin) hd
  ·exact wpAny_Name (wpAny_loadName_free I.ok.kind hk hc hcell fin hcd) hd
theorem a9{i j pos}:PE X (.Constant (.int i) j pos) (tC (.int i)):=fun _ _ _ H _ I h=>wpAny_Constant_int ⟨.int i,H,I.tok _,⟨_,rfl⟩,h⟩
theorem T7{b j pos}:PE X (.Constant (.bool b) j pos) (tC (.bl b)):=fun _ _ _ H _ I h=>Constant_bool ⟨.bl b,H,I,rfl,h⟩
theorem a5i{j pos}:PE X (.Constant .none j pos) (tC .non):=fun _ _ _ H _ I h=>Constant_none ⟨.non,H,I,rfl,h⟩
theorem b29{x j pos}:PE X (.Constant (.str x) j pos) (tC (.str x)):=fun _ _ _ H _ I h=>Calls.Constant_str ⟨.str x,H,I.tok _,⟨_,rfl⟩,h⟩
def Gl(X:Cx)(x:Str):Prop:=X.env.kindOf x=some .globalImplicit
theorem a6C{E:Value→Shared→Prop}{pins:List (Addr×Obj)}{s:Shared}{σ:St}{H:Hp}{x:Str}{u:Value}{pos:Pos}{Q:Value→Shared→Prop}(I:Inv X pins σ H s)(hg:Gl X x)(hm:X.mg x=some u)(h:Q u s)
  (hd:(x == ("__debug__" : Str))=false:=by decide):wpAny (model X.prog X.w) X.A (eval (.Name x pos) X.env) Q E s :=
 Calls.Name_function_global I.ok.kind hg (Calls.loadGlobal_global (by rw[I.ok.glob];exact I.mod.glob.keeps I.bk) hm h) hd
theorem X6{E:Value→Shared→Prop}{pins:List (Addr×Obj)}{s:Shared}{σ:St}{H:Hp}{x:Str}{u:Value}{pos:Pos}{Q:Value→Shared→Prop}(I:Inv X pins σ H s)(hg:Gl X x)(hm:X.mg x=none)(hv:bootBuiltins x=some u)(h:Q u s)
  (hn:x≠"__name__" := by decide) (hd:(x == ("__debug__" : Str))=false:=by decide):wpAny (model X.prog X.w) X.A (eval (.Name x pos) X.env) Q E s:=by
 obtain⟨mb,h1,h2⟩:=I.mod.blt
 exact Calls.Name_function_global I.ok.kind hg (Calls.loadGlobal_builtin (by rw[I.ok.glob];exact I.mod.glob.keeps I.bk) hm (by rw[I.ok.blt];exact h1.keeps I.bk) ((h2 x hn).trans hv) h) hd
theorem a1m{x:Str}{v:V}{u:Value}{pos:Pos}(hg:Gl X x)(hm:X.mg x=none)(hv:bootBuiltins x=some u)(r:RelV v u)(hn:x≠"__name__" := by decide)(hd:(x == ("__debug__" : Str))=false:=by decide):PE X (.Name x pos) (tC v) :=
 fun _ _ _ H _ I h=>X6 I hg hm hv ⟨v,H,I,r,h⟩ hn hd
variable {a b:Expr}{ta tb:TE}{pos:Pos}
def tB(t:TE):TT:=fun σ H Q=>t σ H fun x H1=>∃c,x=.bl c∧Q c H1
theorem Q2{e:Expr}{t:TE}(h:PE X e t)(he:∀whole,isTrue e X.env whole=(do let v ← whole;standAt e.pos;holding [v] (truthy v)):=by intro _;rfl):PT X e (tB t):=by
 intro pins s σ H Q I hw
 refine isTrue_plain (t6 (h pins s σ H _ I hw) fun v s1 ⟨x,H1,I1,r1,q1⟩=>?_) (he _)
 obtain⟨d,rfl,q⟩:=q1
 cases r1
 exact wpAny_truthy_bool ⟨H1,I1,q⟩
variable {tA tB':TT}{J8:List Expr}
def b2_(t u:TT):TT:=fun σ H Q=>t σ H fun c H1=>if c=true then u σ H1 Q else Q false H1
def tOr(t u:TT):TT:=fun σ H Q=>t σ H fun c H1=>if c=true then Q true H1 else u σ H1 Q
def b3a(t:TT):TT:=fun σ H Q=>t σ H fun c H1=>Q (!c) H1
theorem a2j(ha:PT X a tA):PW X (.BoolOp .And [a] pos) tA:=by
 intro wh pins s σ H Q I h
 refine isTrue_and (t6 (ha pins s σ H Q I h) fun c s1 e=>?_)
 cases c with
 | true=>exact isTrue_and_nil e
 | false=>exact e
theorem a1X(ha:PT X a tA):PW X (.BoolOp .Or [a] pos) tA:=by
 intro wh pins s σ H Q I h
 refine isTrue_or (t6 (ha pins s σ H Q I h) fun c s1 e=>?_)
 cases c with
 | false=>exact isTrue_or_nil e
 | true=>exact e
theorem a1n(ha:PT X a tA)(hb:PW X (.BoolOp .And (b::J8) pos) tB'):PW X (.BoolOp .And (a::b::J8) pos) (b2_ tA tB'):=by
 intro wh pins s σ H Q I h
 refine isTrue_and (t6 (ha pins s σ H _ I h) fun c s1 ⟨H1,I1,q1⟩=>?_)
 cases c with
 | true=>exact hb wh pins s1 σ H1 Q I1 q1
 | false=>exact⟨H1,I1,q1⟩
theorem a0d(ha:PT X a tA)(hb:PW X (.BoolOp .Or (b::J8) pos) tB'):PW X (.BoolOp .Or (a::b::J8) pos) (tOr tA tB'):=by
 intro wh pins s σ H Q I h
 refine isTrue_or (t6 (ha pins s σ H _ I h) fun c s1 ⟨H1,I1,q1⟩=>?_)
 cases c with
 | true=>exact⟨H1,I1,q1⟩
 | false=>exact hb wh pins s1 σ H1 Q I1 q1
theorem Q3(ha:PT X a tA):PT X (.UnaryOp .Not a pos) (b3a tA):=by
 intro pins s σ H Q I h
 exact isTrue_not (ha pins s σ H (fun c H1=>Q (!c) H1) I h)
def b04(ta tb:TE):TE:=fun σ H Q=>ta σ H fun x H1=>∃c,x=.bl c∧if c=true then tb σ H1 Q else Q (.bl false) H1
def b05(ta:TE):TE:=fun σ H Q=>ta σ H fun x H1=>∃c,x=.bl c∧Q (.bl (!c)) H1
theorem b3b{op}{t:TE}(h:PE X a t):PE X (.BoolOp op [a] pos) t:=fun pins s σ H Q I hw=>BoolOp_one (h pins s σ H Q I hw)
theorem b3c(ha:PE X a ta)(hb:PE X (.BoolOp .And (b::J8) pos) tb):PE X (.BoolOp .And (a::b::J8) pos) (b04 ta tb):=by
 intro pins s σ H Q I h
 refine BoolOp_and (t6 (ha pins s σ H _ I h) fun v s1 ⟨x,H1,I1,r1,q1⟩=>?_)
 obtain⟨c,rfl,q1⟩:=q1
 cases r1
 refine wpAny_truthy_bool ?_
 cases c with
 | true=>exact hb pins s1 σ H1 Q I1 q1
 | false=>exact⟨.bl false,H1,I1,rfl,q1⟩
theorem b3d(ha:PE X a ta):PE X (.UnaryOp .Not a pos) (b05 ta):=by
 intro pins s σ H Q I h
 refine UnaryOp_ (t6 (ha pins s σ H _ I h) fun v s1 ⟨x,H1,I1,r1,q1⟩=>?_)
 obtain⟨c,rfl,q1⟩:=q1
 cases r1
 exact not_of (wpAny_truthy_bool ⟨.bl (!c),H1,I1,rfl,q1⟩)
end
def SqL(K:W.Frag)(H:Hp)(a:Addr)(xs:List V):Prop :=
 Rd H a (.lst xs) ∨
  ∃(o:Obj) (its:Array Value) (n:Nat),K.lookup a=some o∧o.cls=.type "list"∧o.dict=none∧o.data=.seq its n∧its.size≤sizeLine∧Vals xs its.toList
def SqT(K:W.Frag)(H:Hp)(a:Addr)(xs:List V):Prop :=
 Rd H a (.tup xs) ∨
  ∃(o:Obj) (its:Array Value) (n:Nat),K.lookup a=some o∧o.cls=.type "tuple"∧o.data=.seq its n∧its.size≤sizeLine∧Vals xs its.toList
def b5k:Value→Option V
 | .none=>some .non
 | .bool b=>some (.bl b)
 | .int i _=>some (.int i)
 | .str x _=>some (.str x)
 | .bytes b _=>some (.byt b)
 | .float b _=>some (.flt b)
 | .ref a=>some (.ref a)
 | .type n=>some (.ty n)
 | _=>none
theorem RelV.abs{x:V}{u:Value}(r:RelV x u):b5k u=some x:=by
 cases x with
 | non=>cases r;rfl
 | bl _=>cases r;rfl
 | int _=>obtain⟨t,rfl⟩:=r;rfl
 | str _=>obtain⟨t,rfl⟩:=r;rfl
 | byt _=>obtain⟨t,rfl⟩:=r;rfl
 | flt _=>obtain⟨t,rfl⟩:=r;rfl
 | ref _=>cases r;rfl
 | ty _=>cases r;rfl
theorem RelV.inj{x y:V}{u:Value}(r:RelV x u)(q:RelV y u):x=y:=Option.some.inj (r.abs.symm.trans q.abs)
theorem Vals.inj:∀{xs ys:List V} {us:List Value},Vals xs us→Vals ys us→xs=ys
 | _,_,_,.nil,.nil=>rfl
 | _,_,_,.cons r t,.cons r' t'=>by rw[r.inj r',Vals.inj t t']
section
variable {X:Cx}{pins:List (Addr×Obj)}{σ:St}{H:Hp}{s:Shared}{a:Addr}{xs ys:List V}
theorem SqL.of{K:W.Frag}(h:H a=some (.lst xs)):SqL K H a xs:=.inl (.inl h)
theorem SqT.of{K:W.Frag}(h:H a=some (.tup xs)):SqT K H a xs:=.inl (.inl h)
theorem Inv.list(I:Inv X pins σ H s)(h:SqL X.K H a xs):∃its:List Value,Vals xs its∧PlainL s.heap a its.toArray∧xs.length≤sizeLine:=by
 rcases h with h | ⟨o,its,n,hk,hc,hd,hs,hz,r⟩
 ·obtain⟨z,its,n,r,e⟩:=h.ok I.hok
  exact⟨its,r,⟨_,n,e,rfl,rfl,rfl⟩,z⟩
 ·refine⟨its.toList,r,⟨o,n,I.kIn a o hk,hc,hd,by simpa using hs⟩,?_⟩
  have e:=r.length
  simp only[Array.length_toList]at e
  omega
theorem Inv.tuple(I:Inv X pins σ H s)(h:SqT X.K H a xs):∃its:List Value,Vals xs its∧IsTup s.heap a its.toArray∧xs.length≤sizeLine:=by
 rcases h with h | ⟨o,its,n,hk,hc,hs,hz,r⟩
 ·obtain⟨z,its,r,p⟩:=h.ok I.hok
  exact⟨its,r,p,z⟩
 ·refine⟨its.toList,r,⟨o,I.kIn a o hk,hc,n,by simpa using hs⟩,?_⟩
  have e:=r.length
  simp only[Array.length_toList]at e
  omega
theorem Inv.list_inj(I:Inv X pins σ H s)(h:SqL X.K H a xs)(h':SqL X.K H a ys):xs=ys:=by
 obtain⟨its,r,⟨o,n,e,_,_,d⟩,_⟩:=I.list h
 obtain⟨its',r',⟨o',n',e',_,_,d'⟩,_⟩:=I.list h'
 rw[e]at e';cases e'
 rw[d]at d'
 injection d' with d1 _
 have:its=its':=by simpa using congrArg Array.toList d1
 subst this
 exact r.inj r'
end
abbrev Cx.wish(X:Cx)(E:Value→Shared→Prop):Cx:={ X with xe:=E }
abbrev Cx.nox(X:Cx):Cx:=X.wish fun _ _=>False
theorem Cx.Ok.wish{X:Cx}(ok:X.Ok)(E:Value→Shared→Prop):(X.wish E).Ok :=
 ⟨ok.mod,ok.kind,ok.glob,ok.blt,ok.above,ok.inj,ok.has,ok.cab,ok.hd,ok.frames,ok.stk,ok.exf,ok.bs,ok.bsz,ok.noex,ok.exfs,ok.funs,ok.frf⟩
theorem Cx.Ok.unwish{X:Cx}{E:Value→Shared→Prop}(ok:(X.wish E).Ok):X.Ok :=
 ⟨ok.mod,ok.kind,ok.glob,ok.blt,ok.above,ok.inj,ok.has,ok.cab,ok.hd,ok.frames,ok.stk,ok.exf,ok.bs,ok.bsz,ok.noex,ok.exfs,ok.funs,ok.frf⟩
section
variable {X:Cx}{pins:List (Addr×Obj)}{σ:St}{H:Hp}{s:Shared}{E:Value→Shared→Prop}
theorem Inv.wish(I:Inv X pins σ H s)(E:Value→Shared→Prop):Inv (X.wish E) pins σ H s:=⟨I.ok.wish E,I.os,I.bare,I.base,I.loc,I.cell,I.free,I.freeC,I.pin,I.hok,I.len⟩
theorem Inv.unwish(I:Inv (X.wish E) pins σ H s):Inv X pins σ H s:=⟨I.ok.unwish,I.os,I.bare,I.base,I.loc,I.cell,I.free,I.freeC,I.pin,I.hok,I.len⟩
theorem SP.unwish{D:Ends}{f:Flow}{s':Shared}(h:SP (X.wish E) pins D f s'):SP X pins D f s':=by
 cases f with
 | next=>obtain⟨σ',H',I,q⟩:=h;exact⟨σ',H',I.unwish,q⟩
 | brk=>obtain⟨σ',H',I,q⟩:=h;exact⟨σ',H',I.unwish,q⟩
 | cont=>obtain⟨σ',H',I,q⟩:=h;exact⟨σ',H',I.unwish,q⟩
 | ret u=>obtain⟨v,σ',H',I,r,q⟩:=h;exact⟨v,σ',H',I.unwish,r,q⟩
theorem PE.nox{e:Expr}{t:TE}(h:PE X.nox e t):PE X e t:=fun pins s σ H Q I hw =>
 wpAny_mono (h pins s σ H Q (I.wish _) hw) (fun _ _ ⟨v,H',I',r,q⟩=>⟨v,H',I'.unwish,r,q⟩) fun _ _ z=>False.elim z
theorem PT.nox{e:Expr}{t:TT}(h:PT X.nox e t):PT X e t:=fun pins s σ H Q I hw =>
 wpAny_mono (h pins s σ H Q (I.wish _) hw) (fun _ _ ⟨H',I',q⟩=>⟨H',I'.unwish,q⟩) fun _ _ z=>False.elim z
theorem PSs.nox{st:List Stmt}{t:TS}(h:PSs X.nox st t):PSs X st t:=fun pins s σ H D I hw =>
 wpAny_mono (h pins s σ H D (I.wish _) hw) (fun _ _ q=>q.unwish) fun _ _ z=>False.elim z
end
section
variable {X:Cx}{st:Stmt}{J8:List Stmt}{t u:TS}{e:Expr}{te:TE}{pos:Pos}
def b06:TS:=fun D σ H=>D.nx σ H
def b3e(t u:TS):TS:=fun D σ H=>t { D with nx:=u D } σ H
theorem B3:PSs X [] b06:=fun _ _ σ H _ I h=>wpAny_execs_nil ⟨σ,H,I,h⟩
theorem d5(h1:PS X st t)(h2:PSs X J8 u):PSs X (st::J8) (b3e t u):=by
 intro pins s σ H D I h
 refine wpAny_execs_cons (t6 (h1 pins s σ H { D with nx:=u D } I h) fun f s1 q=>?_)
 cases f with
 | next =>
  obtain⟨σ',H',I',q⟩:=q
  exact h2 pins s1 σ' H' D I' q
 | ret v=>exact q
 | brk=>exact q
 | cont=>exact q
theorem g8(h1:PS X st t):PSs X [st] t:=by
 intro pins s σ H D I h
 refine wpAny_execs_cons (t6 (h1 pins s σ H D I h) fun f s1 q=>?_)
 cases f with
 | next=>exact wpAny_execs_nil q
 | ret v=>exact q
 | brk=>exact q
 | cont=>exact q
theorem Inv.quiet{pins:List (Addr×Obj)}{σ:St}{H:Hp}{s:Shared}(I:Inv X pins σ H s):interactive X.env=false:=by simp[interactive,I.ok.kind]
def b07(te:TE):TS:=fun D σ H=>te σ H fun _ H1=>D.nx σ H1
theorem N7(he:PE X e te)(hs:swapsWith e none pos.line X.env=pure false:=by rfl):PS X (.Expr e pos) (b07 te):=by
 intro pins s σ H D I h
 exact wpAny_Expr_any (t6 (he pins s σ H _ I h) fun v s1 ⟨x,H1,I1,r1,q1⟩=>⟨σ,H1,I1,q1⟩) I.quiet hs
def a3S(te:TE):TS:=fun D σ H=>te σ H D.rt
theorem p7(he:PE X e te):PS X (.Return (some e) pos) (a3S te):=by
 intro pins s σ H D I h
 exact wpAny_Return_some (t6 (he pins s σ H _ I h) fun v s1 ⟨x,H1,I1,r1,q1⟩=>⟨x,σ,H1,I1,r1,q1⟩)
def b3f(c:TT)(t u:TS):TS:=fun D σ H=>c σ H fun b H1=>if b=true then t D σ H1 else u D σ H1
theorem D6{c:Expr}{a b:List Stmt}{tc:TT}(hc:PT X c tc)(ha:PSs X a t)(hb:PSs X b u):PS X (.If c a b pos) (b3f tc t u):=by
 intro pins s σ H D I h
 refine wpAny_If (t6 (hc pins s σ H _ I h) fun d s1 ⟨H1,I1,q1⟩=>?_)
 cases d with
 | true=>exact ha pins s1 σ H1 D I1 q1
 | false=>exact hb pins s1 σ H1 D I1 q1
end
abbrev TG:=V→St→Hp→(St→Hp→Prop)→Prop
abbrev TGs:=List V→St→Hp→(St→Hp→Prop)→Prop
def PG(X:Cx)(target:Expr)(t:TG):Prop :=
 ∀(pins:List (Addr×Obj)) (s:Shared) (σ:St) (H:Hp) (v:V) (u:Value) (Q:St→Hp→Prop),Inv X pins σ H s→RelV v u→t v σ H Q →
  wpAny (model X.prog X.w) X.A (assign target X.env u) (fun _ s'=>∃σ' H',Inv X pins σ' H' s'∧Q σ' H') X.xe s
def PGs(X:Cx)(ts:List Expr)(t:TGs):Prop :=
 ∀(pins:List (Addr×Obj)) (s:Shared) (σ:St) (H:Hp) (vs:List V) (us:List Value) (Q:St→Hp→Prop),Inv X pins σ H s→Vals vs us→t vs σ H Q →
  wpAny (model X.prog X.w) X.A (assignInOrder ((assignEach ts X.env).map (·.2)) us) (fun _ s'=>∃σ' H',Inv X pins σ' H' s'∧Q σ' H') X.xe s
abbrev a9G:=V→V→V→Hp→(Hp→Prop)→Prop
def b3g(X:Cx)(t:a9G):Prop :=
 ∀(pins:List (Addr×Obj)) (s:Shared) (σ:St) (H:Hp) (o i v:V) (ov iv u:Value) (Q:Hp→Prop),Inv X pins σ H s→RelV o ov→RelV i iv→RelV v u→t o i v H Q →
  wpAny (model X.prog X.w) X.A (setItem ov iv u) (fun _ s'=>∃H',Inv X pins σ H' s'∧Q H') X.xe s
section
variable {X:Cx}{pos:Pos}
def X7(i:Nat):TG:=fun v σ H Q=>Q (σ.set i (some v)) H
theorem i6{i:Nat}{x:Str}(hN:X.N.Nodup)(hi:X.N[i]? = some x)(hx:Loc X.env.scope x)(hf:X.fn x=true∨X.env.scope.names.lookup x=some .local:=by first | exact .inl rfl | exact .inr rfl | assumption):PG X (.Name x pos) (X7 i):=by
 intro pins s σ H v u Q I r h
 exact wpAny_assign_Name (a5h I hN hi hx r (fun s' I'=>⟨_,H,I',h⟩) hf)
def a9H:TGs:=fun vs σ H Q=>vs=[]∧Q σ H
def a2k(t:TG)(u:TGs):TGs:=fun vs σ H Q=>∃v r,vs=v::r∧t v σ H fun σ' H'=>u r σ' H' Q
theorem G5:PGs X [] a9H:=by
 intro pins s σ H vs us Q I r h
 obtain⟨e,h⟩:=h
 subst e
 cases r
 exact assignInOrder_nil ⟨σ,H,I,h⟩
theorem k6{e:Expr}{es:List Expr}{t:TG}{u:TGs}(h1:PG X e t)(h2:PGs X es u)
  (hs:(assignEach (e::es) X.env).map (·.2)=assign e X.env::(assignEach es X.env).map (·.2):=by rfl):PGs X (e::es) (a2k t u):=by
 intro pins s σ H vs us Q I r h
 obtain⟨v,vr,e1,h⟩:=h
 subst e1
 cases r with
 | cons r rr =>
  rw[hs]
  refine assignInOrder_cons (t6 (h1 pins s σ H _ _ _ I r h) fun _ s1 ⟨σ1,H1,I1,q1⟩=>?_)
  exact h2 pins s1 σ1 H1 _ _ Q I1 rr q1
def a7p(K:W.Frag)(n:Nat)(t:TGs):TG:=fun v σ H Q=>∃a xs,v=.ref a∧SqT K H a xs∧xs.length=n∧t xs σ H Q
theorem b3h{es:List Expr}{k:Nat}{t:TGs}{n:Nat}(hc:X.calm=true)(h:PGs X es t)
  (hn:(assignEach es X.env).length=n:=by rfl) (hst:(assignEach es X.env).findIdx? (·.1)=none:=by rfl):PG X (.Tuple es k pos) (a7p X.K n t):=by
 intro pins s σ H v u Q I r hw
 obtain⟨a,xs,e1,hq,hl,hw⟩:=hw
 subst e1
 cases r
 obtain⟨its,rv,ht,hz⟩:=I.tuple hq
 refine assign_Tuple_tuple (I.ok.hd hc) ht (by simp[hn,← hl,rv.length]) hst fun h' hx=>?_
 have I1:Inv X pins σ H { s with heap:=h' }:=I.kept (t':=s.toks) fun b o e=>hx b o (Nat.ne_of_lt (Heap.lt_size e)) e
 exact h pins _ σ H xs _ Q I1 (by simpa using rv) hw
def b3i(to ti:TE)(t:a9G):TG:=fun v σ H Q=>to σ H fun o H1=>ti σ H1 fun i H2=>t o i v H2 fun H3=>Q σ H3
theorem a1Z{o i:Expr}{to ti:TE}{t:a9G}(ho:PE X o to)(hi:PE X i ti)(hs:b3g X t)
  (ha:∀v,assign (.Subscript o i pos) X.env v=(do
   let ov ← holding [v] (eval o X.env)
   let iv ← holding [v,ov] (eval i X.env)
   standAt pos
   holding [v,ov,iv] (setItem ov iv v)
   release [v,ov,iv] []):=by intro _;rfl):PG X (.Subscript o i pos) (b3i to ti t):=by
 intro pins s σ H v u Q I r h
 rw[ha]
 refine wpAny_bind (wpAny_holding (t6 (ho pins s σ H _ I h) fun ov s1 ⟨x,H1,I1,r1,q1⟩=>?_))
 refine wpAny_bind (wpAny_holding (t6 (hi pins s1 σ H1 _ I1 q1) fun iv s2 ⟨y,H2,I2,r2,q2⟩=>?_))
 refine wpAny_bind (wpAny_standAt (wpAny_bind (wpAny_holding (t6 (hs pins s2 σ H2 x y v ov iv u _ I2 r1 r2 r q2) fun _ s3 ⟨H3,I3,q3⟩=>?_))))
 exact wpAny_release ⟨σ,H3,I3,q3⟩
def a1x(te:TE)(g:TG):TS:=fun D σ H=>te σ H fun x H1=>g x σ H1 D.nx
theorem M3{tg e:Expr}{te:TE}{g:TG}(he:PE X e te)(hg:PG X tg g)(hs:swapsWithSole [tg] e pos.line X.env=pure false:=by rfl)(hw:swappedStores [tg] e X.env=pure none:=by rfl)
  (h1:(assignEach [tg] X.env).map (·.2)=[assign tg X.env]:=by rfl):PS X (.Assign [tg] e pos) (a1x te g):=by
 intro pins s σ H D I h
 refine wpAny_Assign_stores (t6 (he pins s σ H _ I h) fun v s1 ⟨x,H1,I1,r1,q1⟩=>?_) hs hw
 rw[h1]
 exact t6 (hg pins s1 σ H1 x v _ I1 r1 q1) fun _ s2 q=>q
theorem i7{i:Nat}{x:Str}{e:Expr}{te:TE}{pos':Pos}(hN:X.N.Nodup)(hi:X.N[i]? = some x)(hx:Loc X.env.scope x)(he:PE X e te)(hs:swapsWith e (some (.Name x pos')) pos.line X.env=pure false:=by rfl)(hf:X.fn x=true∨X.env.scope.names.lookup x=some .local:=by first | exact .inl rfl | exact .inr rfl | assumption) :
  PS X (.Assign [.Name x pos'] e pos) (a1x te (X7 i)):=by
 intro pins s σ H D I h
 refine wpAny_Assign_Name (t6 (he pins s σ H _ I h) fun v s1 ⟨y,H1,I1,r1,q1⟩=>?_) hs
 exact a5h I1 hN hi hx r1 (fun s2 I2=>⟨_,H1,I2,q1⟩) hf
end
section
variable {X:Cx}{pos:Pos}
def a8k(c:TT)(tb:TS):TS:=fun D σ H=>∃W:Nat→St→Hp→Prop,(∃m,W m σ H)∧∀m σ H,W m σ H →
 c σ H fun b H1=>if b=true then ∃N:St→Hp→Prop,(∀σ' H',N σ' H'→∃m',m'<m∧W m' σ' H')∧tb { D with nx:=N,ct:=N,bk:=D.nx } σ H1 else D.nx σ H1
theorem a1y{c:Expr}{body:List Stmt}{tc:TT}{tb:TS}(hp:PassesOwn (model X.prog X.w) X.A X.env X.xe)(hc:PT X c tc)(hb:PSs X body tb):PS X (.While c body [] pos) (a8k tc tb):=by
 intro pins s σ H D I h
 obtain⟨W,⟨m0,w0⟩,turn⟩:=h
 refine wpAny_While (codeAny_whileLoop (fun n s'=>∃σ' H',Inv X pins σ' H' s'∧W n σ' H') ?_ m0 ⟨σ,H,I,w0⟩)
 rintro n s1 ⟨σ1,H1,I1,w1⟩
 refine wpAny_passesOwn hp (t6 (hc pins s1 σ1 H1 _ I1 (turn n σ1 H1 w1)) fun b s2 ⟨H2,I2,q2⟩=>?_)
 cases b with
 | true =>
  obtain⟨N,hN,q2⟩:=q2
  rw[if_pos rfl]
  refine wpAny_passesOwn hp (t6 (hb pins s2 σ1 H2 _ I2 q2) fun f s3 q3=>?_)
  cases f with
  | next =>
   obtain⟨σ3,H3,I3,n3⟩:=q3
   obtain⟨m',hm,w3⟩:=hN σ3 H3 n3
   exact⟨m',hm,σ3,H3,I3,w3⟩
  | cont =>
   obtain⟨σ3,H3,I3,n3⟩:=q3
   obtain⟨m',hm,w3⟩:=hN σ3 H3 n3
   exact⟨m',hm,σ3,H3,I3,w3⟩
  | brk=>exact q3
  | ret v=>exact q3
 | false =>
  rw[if_neg Bool.false_ne_true]
  exact wpAny_execs_nil ⟨σ1,H2,I2,q2⟩
end
structure It where
 go:Nat→Hp→Prop
 yld:Nat→Hp→V→Hp→Prop
 stop:Nat→Hp→Prop
def FpOk(X:Cx)(pins:List (Addr×Obj))(H:Hp)(b:Addr):Prop :=
 H b=none∧b≠X.env.locals∧b ∉ X.fs∧(b∈X.ex∨X.s₀.heap.objs.size≤b)∧(∀x c,X.env.cells.lookup x=some c→c≠b)∧∀p∈X.pn++pins,p.1≠b
theorem Inv.fpOk{X:Cx}{pins:List (Addr×Obj)}{σ:St}{H H':Hp}{s:Shared}{b:Addr}(I:Inv X pins σ H s)(hb:s.heap.objs.size≤b)(hn:H' b=none):FpOk X pins H' b:=by
 refine⟨hn,Nat.ne_of_gt (Nat.lt_of_lt_of_le I.lt hb),I.nofs hb,.inr (Nat.le_trans I.sz hb),fun x c e z=>?_,fun p hp z=>?_⟩
 ·obtain⟨v,q⟩:=I.cell x c e
  exact absurd (Nat.lt_of_lt_of_le q.lt (by rw[z];exact hb)) (Nat.lt_irrefl _)
 ·exact absurd (Nat.lt_of_lt_of_le (Heap.lt_size (I.pin p hp).1) (by rw[z];exact hb)) (Nat.lt_irrefl _)
structure Turn(P:Program)(w:World)(K:W.Frag)(tg:Expr)(J:It)(fp:List Addr)(it:Addr)(tn:Nat→Heap→Prop):Prop where
 mem:it∈fp
 obj:∀i h,tn i h→∀b∈fp,∃o,h.get? b=some o∧∀v,o.data≠.cell v
 keep:∀i h h',tn i h→(∀b∈fp,∀o,h.get? b=some o→h'.get? b=some o)→tn i h'
 item:∀(X:Cx),X.prog=P→X.w=w→X.K=K→X.calm=true→∀(i:Nat) (pins:List (Addr×Obj)) (s:Shared) (σ:St) (H:Hp) (E:Value→Shared→Prop),Inv X pins σ H s→(∀b∈fp,FpOk X pins H b)→tn i s.heap→J.go i H →
  wpAny (model P w) X.A (pyNext (.ref it)) (fun r s1=>∃u,r=some u ∧
   wpAny (model P w) X.A (letOwnedTupleGo tg (.ref it) u) (fun _ s2=>∃x H',Inv X pins σ H' s2∧RelV x u∧J.yld i H x H'∧tn (i+1) s2.heap∧∀b∈fp,H' b=none) E s1) E s
 done:∀(X:Cx),X.prog=P→X.w=w→X.K=K→X.calm=true→∀(i:Nat) (pins:List (Addr×Obj)) (s:Shared) (σ:St) (H:Hp) (E:Value→Shared→Prop),Inv X pins σ H s→(∀b∈fp,FpOk X pins H b)→tn i s.heap→J.stop i H →
  wpAny (model P w) X.A (pyNext (.ref it)) (fun r s1=>r=none∧Inv X pins σ H s1) E s
 self:∀(A:Around) (i:Nat) (s:Shared) (Q:Value→Shared→Prop) (E:Value→Shared→Prop),tn i s.heap→Q (.ref it) s→wpAny (model P w) A (pyIter (.ref it)) Q E s
abbrev TI:=St→Hp→(It→Hp→Prop)→Prop
def PIE(X:Cx)(pins:List (Addr×Obj))(σ:St)(tg:Expr)(R:It→Hp→Prop)(itv:Value)(s2:Shared):Prop :=
 ∃(it:Addr) (fp:List Addr) (tn:Nat→Heap→Prop) (J:It) (H':Hp),itv=.ref it∧Inv X pins σ H' s2∧Turn X.prog X.w X.K tg J fp it tn∧tn 0 s2.heap∧(∀b∈fp,FpOk X pins H' b)∧R J H'
def PI(X:Cx)(tg iter:Expr)(wi:TI):Prop :=
 ∀(pins:List (Addr×Obj)) (s:Shared) (σ:St) (H:Hp) (R:It→Hp→Prop),Inv X pins σ H s→wi σ H R →
  wpAny (model X.prog X.w) X.A (eval iter X.env) (fun v s1=>wpAny (model X.prog X.w) X.A (pyIter v) (PIE X pins σ tg R) X.xe s1) X.xe s
theorem a7q{M:Model}{A:Around}{E:Value→Shared→Prop}{s:Shared}{tg:Expr}{it:Addr}{u:Value}{o:Obj}{n:String}{vs:Array Value}{Q:Unit→Shared→Prop}(ho:s.heap.get? it=some o)(hc:o.cls=.type n)(hd:o.data=.fields vs)
  (hn:["enumerate","zip","dict_itemiterator","dict_reverseitemiterator","odict_iterator","itertools.zip_longest","itertools.pairwise"].contains n=false) (hQ:Q () s):wpAny M A (letOwnedTupleGo tg (.ref it) u) Q E s:=by
 unfold letOwnedTupleGo
 cases tg<;>first
  | exact wpAny_pure hQ
  | (cases u<;>first
    | exact wpAny_pure hQ
    | (refine wpAny_bind (wpAny_load ho ?_)
       rw[hc,hd]
       show wpAny M A (if(["enumerate","zip","dict_itemiterator","dict_reverseitemiterator","odict_iterator","itertools.zip_longest","itertools.pairwise"].contains n && vs[0]? == some (rawInt _))=true then _ else _) Q E s
       rw[if_neg (by intro h;rw[hn,Bool.false_and]at h;cases h)]
       exact wpAny_pure hQ))
def Itl(K:W.Frag)(a:Addr):It :=
 ⟨fun i H=>∃xs x,SqL K H a xs∧xs[i]? = some x,fun i H x H'=>H'=H∧∀xs,SqL K H a xs→xs[i]? = some x,fun i H=>∃xs,SqL K H a xs∧xs.length≤i⟩
def Itr(lo:Int)(n:Nat):It:=⟨fun i _=>i<n,fun i H x H'=>H'=H∧x=.int (lo+i),fun i _=>n≤i⟩
theorem a8l{P:Program}{w:World}{K:W.Frag}{tg:Expr}(a it:Addr):Turn P w K tg (Itl K a) [it] it (fun i h=>h.IsListIter it a i) where
 mem:=by simp
 obj:=fun i h st b hb=>by
  have e:b=it:=by simpa using hb
  subst e
  obtain⟨o,e,c,d⟩:=st
  exact⟨o,e,fun v z=>by rw[d]at z;cases z⟩
 keep:=fun i h h' st k=>st.at fun o e=>k it (by simp) o e
 item:=by
  intro X hP hw hK hc i pins s σ H E I hf st hg
  subst hP hw hK
  obtain⟨xs,x,hq,hx⟩:=hg
  obtain⟨its,rv,p,hz⟩:=I.list hq
  obtain⟨u,hu,ru⟩:=rv.get hx
  obtain⟨f0,f1,f2,f3,f4,f5⟩:=hf it (by simp)
  refine wpAny_pyNext_list_item st p.isList (x:=u) (by simpa using hu) fun h' st' sb=>?_
  have I1:Inv X pins σ H { s with heap:=h' }:=I.turned (t':=s.toks) (fun b o hb e=>(sb.2 b hb).trans e) f0 f1 f3 f4 f5
  obtain⟨o,e,c,d⟩:=id st'
  exact⟨u,rfl,a7q (s:={ s with heap:=h' }) e c d (by decide) ⟨x,H,I1,ru,⟨rfl,fun ys hy=>by rw[I.list_inj hy hq];exact hx⟩,st',fun b hb=>(hf b hb).1⟩⟩
 done:=by
  intro X hP hw hK hc i pins s σ H E I hf st hg
  subst hP hw hK
  obtain⟨xs,hq,hx⟩:=hg
  obtain⟨its,rv,p,hz⟩:=I.list hq
  obtain⟨f0,f1,f2,f3,f4,f5⟩:=hf it (by simp)
  have hl:=rv.length
  exact wpAny_pyNext_list_end (I.ok.hd hc) st p.isList (by simp;omega) fun h' eb=>⟨rfl,I.turned (t':=s.toks) (fun b o hb e=>eb b o hb e) f0 f1 f3 f4 f5⟩
 self:=fun _ _ _ _ _ st h=>wpAny_pyIter_listiter st h
theorem a7r{P:Program}{w:World}{K:PySem.W.Frag}{tg:Expr}(it:Addr)(lo:Int)(n:Nat):Turn P w K tg (Itr lo n) [it] it (fun i h=>IsRangeIter h it (lo+(i:Nat)*1) ((n:Int)-(i:Nat)) 1) where
 mem:=by simp
 obj:=fun i h st b hb=>by
  have e:b=it:=by simpa using hb
  subst e
  exact⟨_,st,fun v z=>by
   have z':Data.fields _=Data.cell v:=z
   cases z'⟩
 keep:=fun i h h' st k=>k it (by simp) _ st
 item:=by
  intro X hP hw hK hc i pins s σ H E I hf st hg
  subst hP hw hK
  obtain⟨f0,f1,f2,f3,f4,f5⟩:=hf it (by simp)
  have W:=Walks.range (prog:=X.prog) (w:=X.w) (I.ok.hd hc) it lo 1 n
  refine W.item i s _ _ hg st fun v h' tk hv st' kk=>?_
  obtain⟨t,rfl⟩:=hv
  have I1:Inv X pins σ H { s with heap:=h',toks:=tk }:=I.turned (fun b o hb e=>kk b o (by simpa using hb) e) f0 f1 f3 f4 f5
  refine⟨_,rfl,a7q (s:={ s with heap:=h',toks:=tk }) (n := "range_iterator") st' rfl rfl (by decide) ⟨.int (lo+i),H,I1,⟨t,?_⟩,⟨rfl,rfl⟩,st',fun b hb=>(hf b hb).1⟩⟩
  rw[Int.mul_one]
 done:=by
  intro X hP hw hK hc i pins s σ H E I hf st hg
  subst hP hw hK
  obtain⟨f0,f1,f2,f3,f4,f5⟩:=hf it (by simp)
  exact wpAny_pyNext_range_end (I.ok.hd hc) st (by have:n≤i:=hg;omega) fun h' eb=>⟨rfl,I.turned (t':=s.toks) (fun b o hb e=>eb b o hb e) f0 f1 f3 f4 f5⟩
 self:=fun _ _ _ _ _ st h=>wpAny_pyIter_rangeiter st h
section
variable {X:Cx}{tg:Expr}
def a28(K:W.Frag)(tl:TE):TI:=fun σ H R=>tl σ H fun x H1=>∃a,x=.ref a∧(∃xs,SqL K H1 a xs)∧R (Itl K a) H1
theorem J5{l:Expr}{tl:TE}(hl:PE X l tl):PI X tg l (a28 X.K tl):=by
 intro pins s σ H R I h
 refine t6 (hl pins s σ H _ I h) fun v s1 ⟨x,H1,I1,r1,q1⟩=>?_
 obtain⟨a,e,⟨xs,hq⟩,q⟩:=q1
 subst e
 cases r1
 obtain⟨its,rv,p,hz⟩:=I1.list hq
 refine wpAny_pyIter_list p.isList ?_
 refine⟨s1.heap.objs.size,[s1.heap.objs.size],_,_,H1,rfl,I1.kept (t':=s1.toks) fun b o e=>Heap.get?_push_of_some _ e,a8l a _,⟨_,Heap.get?_push_size _ rfl,rfl,rfl⟩,fun b hb=>?_,q⟩
 have e:b=s1.heap.objs.size:=by simpa using hb
 subst e
 exact I1.fpOk (Nat.le_refl _) (I1.hok.fresh (Nat.le_refl _))
theorem a5j{pins:List (Addr×Obj)}{σ:St}{H:Hp}{s:Shared}{R:It→Hp→Prop}{E:Value→Shared→Prop}{lo hi:Int}{t u v:Tok}{tk:Nat}(I:Inv X pins σ H s)(h1 : -(2 ^ 62)≤lo)(h2:lo<2 ^ 62)(h3 : -(2 ^ 62)≤hi)(h4:hi<2 ^ 62)
  (q:R (Itr lo (hi-lo).toNat) H):wpAny (model X.prog X.w) X.A (pyIter (.ref s.heap.objs.size)) (PIE X pins σ tg R) E { s with heap:=s.heap.push { cls:=.type "range",data:=.fields #[.int lo t,.int hi u,.int 1 v] },toks:=tk }:=by
 refine wpAny_pyIter_range (IsRange.new ..) (small_one h1 h2 h3 h4) ?_
 have I1:Inv X pins σ H { s with heap:=s.heap.push { cls:=.type "range",data:=.fields #[.int lo t,.int hi u,.int 1 v] },toks:=tk }:=I.kept fun b o e=>Heap.get?_push_of_some _ e
 refine⟨(s.heap.push { cls:=.type "range",data:=.fields #[.int lo t,.int hi u,.int 1 v] }).objs.size,[(s.heap.push { cls:=.type "range",data:=.fields #[.int lo t,.int hi u,.int 1 v] }).objs.size],_,_,H,rfl,
  I1.kept (t':=tk) fun b o e=>Heap.get?_push_of_some _ e,a7r _ lo (hi-lo).toNat,?_,fun b hb=>?_,q⟩
 ·have e1:lo+((0:Nat):Int)*1=lo:=by simp
  have e2:(((hi-lo).toNat:Nat):Int)-((0:Nat):Int)=Builtin.Range.rangeSize lo hi 1:=by rw[rangeSize_one];split<;>omega
  show IsRangeIter _ _ (lo+((0:Nat):Int)*1) ((((hi-lo).toNat:Nat):Int)-((0:Nat):Int)) 1
  rw[e1,e2]
  exact Heap.get?_push_size _ rfl
 ·have e:b=(s.heap.push { cls:=.type "range",data:=.fields #[.int lo t,.int hi u,.int 1 v] }).objs.size:=by simpa using hb
  subst e
  exact I1.fpOk (Nat.le_refl _) (I1.hok.fresh (Nat.le_refl _))
def a7s(ta:TA):TI:=fun σ H R=>ta σ H fun vs H1=>∃j:Int,vs=[.int j]∧-(2 ^ 62)≤j∧j<2 ^ 62∧R (Itr 0 j.toNat) H1
def b08(ta:TA):TI:=fun σ H R=>ta σ H fun vs H1=>∃i j:Int,vs=[.int i,.int j]∧(-(2 ^ 62)≤i∧i<2 ^ 62∧-(2 ^ 62)≤j∧j<2 ^ 62)∧R (Itr i (j-i).toNat) H1
theorem S2{a:Expr}{ta:TA}{p pos:Pos}(hg:Gl X "range")(hm:X.mg "range" = none)(ha:PA X [a] ta)(hs:starEach [a] X.env=[(false,eval a X.env)]:=by rfl):PI X tg (.Call (.Name "range" p) [a] [] pos) (a7s ta):=by
 intro pins s σ H R I h
 refine Call_ (X6 I hg hm boot_range (PyProof.Rows.callWith_type1 (t6 (ha pos pins s σ H _ I h) fun us s1 ⟨vs,H1,I1,r1,q1⟩=>?_) hs rfl))
 obtain⟨j,e,q1,q2,q⟩:=q1
 subst e
 cases r1 with
 | cons r rr =>
  cases rr
  obtain⟨t,rfl⟩:=r
  exact call_range_1 (a5j I1 (by omega) (by omega) q1 q2 (by simpa using q))
theorem a4p{a b:Expr}{ta:TA}{p pos:Pos}(hg:Gl X "range")(hm:X.mg "range" = none)(ha:PA X [a,b] ta)(hs:starEach [a,b] X.env=[(false,eval a X.env),(false,eval b X.env)]:=by rfl)(hs2:starEach [b] X.env=[(false,eval b X.env)]:=by rfl) :
  PI X tg (.Call (.Name "range" p) [a,b] [] pos) (b08 ta):=by
 intro pins s σ H R I h
 refine Call_ (X6 I hg hm boot_range (PyProof.Rows.callWith_type1 (t6 (ha pos pins s σ H _ I h) fun us s1 ⟨vs,H1,I1,r1,q1⟩=>?_) (by rw[hs,hs2]) (by rw[hs2];rfl)))
 obtain⟨i,j,e,⟨q1,q2,q3,q4⟩,q⟩:=q1
 subst e
 cases r1 with
 | cons r rr =>
  cases rr with
  | cons r' rr =>
   cases rr
   obtain⟨t,rfl⟩:=r
   obtain⟨t',rfl⟩:=r'
   exact call_range_2 (a5j I1 q1 q2 q3 q4 q)
def a2P(wi:TI)(g:TG)(tb:TS):TS:=fun D σ H=>wi σ H fun J H1=>∃W:Nat→Nat→St→Hp→Prop,(∃m,W 0 m σ H1)∧∀i m σ H,W i m σ H →
 (J.stop i H∧D.nx σ H)∨(J.go i H∧∃N:St→Hp→Prop,(∀σ' H',N σ' H'→∃m',m'<m∧W (i+1) m' σ' H')∧∀x H',J.yld i H x H'→g x σ H' fun σ2 H2=>tb { D with nx:=N,ct:=N,bk:=D.nx } σ2 H2)
def a10(fp:List Addr)(h:Heap):List (Addr×Obj):=fp.filterMap fun b=>(h.get? b).map fun o=>(b,o)
theorem a0A{fp:List Addr}{h:Heap}{b:Addr}{o:Obj}(hb:b∈fp)(e:h.get? b=some o):(b,o)∈a10 fp h:=List.mem_filterMap.mpr ⟨b,hb,by rw[e];rfl⟩
theorem a8m{fp:List Addr}{h:Heap}{p:Addr×Obj}(hp:p∈a10 fp h):p.1∈fp∧h.get? p.1=some p.2:=by
 obtain⟨b,hb,e⟩:=List.mem_filterMap.mp hp
 cases q:h.get? b with
 | none=>rw[q]at e;cases e
 | some o =>
  rw[q]at e
  have e':(b,o)=p:=Option.some.inj e
  subst e'
  exact⟨hb,q⟩
theorem Inv.pinned{pins:List (Addr×Obj)}{σ:St}{H:Hp}{s:Shared}{fp:List Addr}(I:Inv X pins σ H s)(hf:∀b∈fp,FpOk X pins H b)(ho:∀b∈fp,∃o,s.heap.get? b=some o∧∀v,o.data≠.cell v):Inv X (pins++a10 fp s.heap) σ H s :=
 I.pins_of fun p hp=>(List.mem_append.mp hp).elim (fun z=>I.pin p (List.mem_append_right _ z)) fun z=>by
  obtain⟨hb,e⟩:=a8m z
  obtain⟨f0,f1,f2,_⟩:=hf p.1 hb
  obtain⟨o,e',d⟩:=ho p.1 hb
  rw[e]at e';cases e'
  exact⟨e,f0,f1,f2,d⟩
theorem Inv.unpinned{pins pl:List (Addr×Obj)}{σ:St}{H:Hp}{s:Shared}(I:Inv X (pins++pl) σ H s):Inv X pins σ H s:=I.pins_of fun p hp=>I.pin p (List.mem_append_right _ (List.mem_append_left _ hp))
theorem M4{iter:Expr}{body:List Stmt}{wi:TI}{g:TG}{tb:TS}{pos:Pos}(hp:PassesOwn (model X.prog X.w) X.A X.env X.xe)(hc:X.calm=true)(hi:PI X tg iter wi)(hg:PG X tg g)(hb:PSs X body tb)
  (hs:∀x,foldedSetIterable iter X.env x=pure x:=by intro _;rfl):PS X (.For tg iter body [] pos) (a2P wi g tb):=by
 intro pins s σ H D I h
 refine wpAny_For (t6 (hi pins s σ H _ I h) fun v s1 h1=>t6 h1 fun itv s2 h2=>?_) hs
 obtain⟨it,fp,tn,J,H2,e,I2,T,st2,f2,W,⟨m0,w0⟩,turn⟩:=h2
 subst e
 -- what stays true of the iterator's objects through the loop
 have stat:∀{H':Hp},(∀b∈fp,H' b=none)→∀b∈fp,FpOk X pins H' b:=fun hn b hb=>⟨hn b hb,(f2 b hb).2⟩
 refine codeAny_forLoop_any (fun n s'=>∃i σ' H',Inv X pins σ' H' s'∧tn i s'.heap∧(∀b∈fp,H' b=none)∧W i n σ' H') ?_ m0 ⟨0,σ,H2,I2,st2,fun b hb=>(f2 b hb).1,w0⟩
 rintro n s3 ⟨i,σ3,H3,I3,st3,fr3,w3⟩
 rcases turn i n σ3 H3 w3 with⟨stop,qn⟩ | ⟨go,N,hN,step⟩
 ·refine wpAny_passesOwn hp (t6 (T.done X rfl rfl rfl hc i pins s3 σ3 H3 X.xe I3 (stat fr3) st3 stop) fun r s4 ⟨hr,I4⟩=>?_)
  subst hr
  exact wpAny_execs_nil ⟨σ3,H3,I4,qn⟩
 ·refine wpAny_passesOwn hp (t6 (T.item X rfl rfl rfl hc i pins s3 σ3 H3 X.xe I3 (stat fr3) st3 go) fun r s4 ⟨u,hr,h4⟩=>?_)
  subst hr
  refine wpAny_passesOwn hp (t6 h4 fun _ s5 ⟨x,H5,I5,r5,y5,st5,fr5⟩=>?_)
  have I5':=I5.pinned (stat fr5) (T.obj _ _ st5)
  refine wpAny_passesOwn hp (t6 (hg _ s5 σ3 H5 x u _ I5' r5 (step x H5 y5)) fun _ s6 ⟨σ6,H6,I6,q6⟩=>?_)
  refine wpAny_passesOwn hp (t6 (hb _ s6 σ6 H6 _ I6 q6) fun f s7 q7=>?_)
  have again:∀{σ7:St} {H7:Hp},Inv X (pins++a10 fp s5.heap) σ7 H7 s7→N σ7 H7→∃m,m<n∧∃i σ' H',Inv X pins σ' H' s7∧tn i s7.heap∧(∀b∈fp,H' b=none)∧W i m σ' H':=fun{σ7 H7} I7 n7=>by
   obtain⟨m',hm,w7⟩:=hN σ7 H7 n7
   refine⟨m',hm,i+1,σ7,H7,I7.unpinned,T.keep _ _ _ st5 fun b hb o e=>(I7.pin (b,o) (List.mem_append_right _ (List.mem_append_right _ (a0A hb e)))).1,fun b hb=>?_,w7⟩
   obtain⟨o,e,d⟩:=T.obj _ _ st5 b hb
   exact(I7.pin (b,o) (List.mem_append_right _ (List.mem_append_right _ (a0A hb e)))).2.1
  cases f with
  | next=>obtain⟨σ7,H7,I7,n7⟩:=q7;exact again I7 n7
  | cont=>obtain⟨σ7,H7,I7,n7⟩:=q7;exact again I7 n7
  | brk=>obtain⟨σ7,H7,I7,q7⟩:=q7;exact⟨σ7,H7,I7.unpinned,q7⟩
  | ret v=>obtain⟨x7,σ7,H7,I7,r7,q7⟩:=q7;exact⟨x7,σ7,H7,I7.unpinned,r7,q7⟩
end
theorem a9I{K:PySem.W.Frag}{a:Addr}{xs:List V}{g:TG}{tb:TS}{D:Ends}{σ:St}{H:Hp}(Pv:Nat→St→Hp→Prop)(h0:Pv 0 σ H)(hl:∀i σ H,i≤xs.length→Pv i σ H→SqL K H a xs)
  (hs:∀i x σ H,xs[i]? = some x→Pv i σ H→g x σ H fun σ2 H2=>tb { D with nx:=Pv (i+1),ct:=Pv (i+1),bk:=D.nx } σ2 H2) (hd:∀σ H,Pv xs.length σ H→D.nx σ H) :
  ∃W:Nat→Nat→St→Hp→Prop,(∃m,W 0 m σ H)∧∀i m σ H,W i m σ H →
   ((Itl K a).stop i H∧D.nx σ H)∨((Itl K a).go i H∧∃N:St→Hp→Prop,(∀σ' H',N σ' H'→∃m',m'<m∧W (i+1) m' σ' H')∧∀x H',(Itl K a).yld i H x H'→g x σ H' fun σ2 H2=>tb { D with nx:=N,ct:=N,bk:=D.nx } σ2 H2):=by
 refine⟨fun i m σ H=>m=xs.length-i∧i≤xs.length∧Pv i σ H,⟨xs.length,by simp,Nat.zero_le _,h0⟩,?_⟩
 rintro i m σ H ⟨rfl,hi,p⟩
 have q:=hl i σ H hi p
 by_cases hlt:i<xs.length
 ·refine .inr ⟨⟨xs,xs[i],q,by simp[hlt]⟩,Pv (i+1),fun σ' H' p'=>⟨xs.length-(i+1),by omega,rfl,hlt,p'⟩,fun x H' y=>?_⟩
  obtain⟨e,y⟩:=y
  subst e
  exact hs i x σ _ (y xs q) p
 ·have e:i=xs.length:=by omega
  subst e
  exact .inl ⟨⟨xs,q,Nat.le_refl _⟩,hd σ H p⟩
theorem a8n{lo:Int}{n:Nat}{g:TG}{tb:TS}{D:Ends}{σ:St}{H:Hp}(Pv:Nat→St→Hp→Prop)(h0:Pv 0 σ H)
  (hs:∀i σ H,i<n→Pv i σ H→g (.int (lo+i)) σ H fun σ2 H2=>tb { D with nx:=Pv (i+1),ct:=Pv (i+1),bk:=D.nx } σ2 H2) (hd:∀σ H,Pv n σ H→D.nx σ H) :
  ∃W:Nat→Nat→St→Hp→Prop,(∃m,W 0 m σ H)∧∀i m σ H,W i m σ H →
   ((Itr lo n).stop i H∧D.nx σ H)∨((Itr lo n).go i H∧∃N:St→Hp→Prop,(∀σ' H',N σ' H'→∃m',m'<m∧W (i+1) m' σ' H')∧∀x H',(Itr lo n).yld i H x H'→g x σ H' fun σ2 H2=>tb { D with nx:=N,ct:=N,bk:=D.nx } σ2 H2):=by
 refine⟨fun i m σ H=>m=n-i∧i≤n∧Pv i σ H,⟨n,by simp,Nat.zero_le _,h0⟩,?_⟩
 rintro i m σ H ⟨rfl,hi,p⟩
 by_cases hlt:i<n
 ·refine .inr ⟨hlt,Pv (i+1),fun σ' H' p'=>⟨n-(i+1),by omega,rfl,hlt,p'⟩,fun x H' y=>?_⟩
  obtain⟨e,y⟩:=y
  subst e y
  exact hs i σ _ hlt p
 ·have e:i=n:=by omega
  subst e
  exact .inl ⟨Nat.le_refl _,hd σ H p⟩
abbrev R2:=V→V→Hp→VK→Prop
def V8(X:Cx)(f:Value→Value→Sem Value)(r:R2):Prop :=
 ∀(pins:List (Addr×Obj)) (s:Shared) (σ:St) (H:Hp) (x y:V) (v u:Value) (Q:VK),Inv X pins σ H s→RelV x v→RelV y u→r x y H Q →
  wpAny (model X.prog X.w) X.A (f v u) (EP X pins σ Q) X.xe s
def UnR(X:Cx)(f:Value→Sem Value)(r:V→Hp→VK→Prop):Prop :=
 ∀(pins:List (Addr×Obj)) (s:Shared) (σ:St) (H:Hp) (x:V) (v:Value) (Q:VK),Inv X pins σ H s→RelV x v→r x H Q →
  wpAny (model X.prog X.w) X.A (f v) (EP X pins σ Q) X.xe s
def T8(X:Cx)(f:Value)(r:List V→Hp→VK→Prop):Prop :=
 ∀(pins:List (Addr×Obj)) (s:Shared) (σ:St) (H:Hp) (xs:List V) (us:List Value) (Q:VK),Inv X pins σ H s→Vals xs us→r xs H Q →
  wpAny (model X.prog X.w) X.A (call f us) (EP X pins σ Q) X.xe s
def tOp(r:R2)(ta tb:TE):TE:=fun σ H Q=>ta σ H fun x H1=>tb σ H1 fun y H2=>r x y H2 Q
def tUn(r:V→Hp→VK→Prop)(ta:TE):TE:=fun σ H Q=>ta σ H fun x H1=>r x H1 Q
def rI(C:Int→Int→Prop)(g:Int→Int→V):R2:=fun x y H Q=>∃i j,x=.int i∧y=.int j∧C i j∧Q (g i j) H
def rI0(g:Int→Int→V):R2:=fun x y H Q=>∃i j,x=.int i∧y=.int j∧Q (g i j) H
def rU(g:Int→V):V→Hp→VK→Prop:=fun x H Q=>∃i,x=.int i∧Q (g i) H
section
variable {X:Cx}{a b c:Expr}{ta tb tc:TE}{pos:Pos}
theorem a9J(ha:PE X a ta)(hb:PE X b tb){pins:List (Addr×Obj)}{s:Shared}{σ:St}{H:Hp}{R:V→V→Hp→Prop}(I:Inv X pins σ H s)
  (h:ta σ H fun x H1=>tb σ H1 fun y H2=>R x y H2) {Q:Value→Shared→Prop} {f:Value→Value→Sem Value}
  (hf:∀v u s2 x y H2,Inv X pins σ H2 s2→RelV x v→RelV y u→R x y H2→wpAny (model X.prog X.w) X.A (f v u) Q X.xe s2) :
  wpAny (model X.prog X.w) X.A (eval a X.env) (fun v s₁=>wpAny (model X.prog X.w) X.A (eval b X.env) (fun u s₂=>wpAny (model X.prog X.w) X.A (f v u) Q X.xe s₂) X.xe s₁) X.xe s:=by
 refine t6 (ha pins s σ H _ I h) fun v s1 ⟨x,H1,I1,r1,q1⟩=>?_
 refine t6 (hb pins s1 σ H1 _ I1 q1) fun u s2 ⟨y,H2,I2,r2,q2⟩=>?_
 exact hf v u s2 x y H2 I2 r1 r2 q2
theorem d9{op:Operator}{r:R2}(ho:V8 X (binaryOp op) r)(ha:PE X a ta)(hb:PE X b tb):PE X (.BinOp a op b pos) (tOp r ta tb):=by
 intro pins s σ H Q I h
 exact wpAny_BinOp (a9J ha hb I h fun v u s2 x y H2 I2 rx ry q=>ho pins s2 σ H2 x y v u Q I2 rx ry q)
theorem b4A{op:UnaryOp}{r:V→Hp→VK→Prop}(ho:UnR X (unaryOp op) r)(ha:PE X a ta):PE X (.UnaryOp op a pos) (tUn r ta):=by
 intro pins s σ H Q I h
 exact UnaryOp_ (t6 (ha pins s σ H _ I h) fun v s1 ⟨x,H1,I1,r1,q1⟩=>ho pins s1 σ H1 x v Q I1 r1 q1)
theorem opI{f:Value→Value→Sem Value}{C:Int→Int→Prop}{g:Int→Int→Int}
  (rule:∀(i j:Int) (t u:Tok) (s:Shared) (Q:Value→Shared→Prop) (E:Value→Shared→Prop),C i j→Q (.int (g i j) s.toks) { s with toks:=s.toks+1 }→wpAny (model X.prog X.w) X.A (f (.int i t) (.int j u)) Q E s) :
  V8 X f (rI C fun i j=>.int (g i j)):=by
 intro pins s σ H x y v u Q I rx ry h
 obtain⟨i,j,rfl,rfl,hc,q⟩:=h
 obtain⟨t,rfl⟩:=rx
 obtain⟨t',rfl⟩:=ry
 exact rule i j t t' s _ _ hc ⟨.int (g i j),H,I.tok _,⟨_,rfl⟩,q⟩
theorem b3k{f:Value→Value→Sem Value}{g:Int→Int→Int}
  (rule:∀(i j:Int) (t u:Tok) (s:Shared) (Q:Value→Shared→Prop) (E:Value→Shared→Prop),Q (.int (g i j) s.toks) { s with toks:=s.toks+1 }→wpAny (model X.prog X.w) X.A (f (.int i t) (.int j u)) Q E s) :
  V8 X f (rI0 fun i j=>.int (g i j)):=by
 intro pins s σ H x y v u Q I rx ry h
 obtain⟨i,j,rfl,rfl,q⟩:=h
 obtain⟨t,rfl⟩:=rx
 obtain⟨t',rfl⟩:=ry
 exact rule i j t t' s _ _ ⟨.int (g i j),H,I.tok _,⟨_,rfl⟩,q⟩
theorem b3l{f:Value→Value→Sem Value}{g:Int→Int→Bool}
  (rule:∀(i j:Int) (t u:Tok) (s:Shared) (Q:Value→Shared→Prop) (E:Value→Shared→Prop),Q (.bool (g i j)) s→wpAny (model X.prog X.w) X.A (f (.int i t) (.int j u)) Q E s) :
  V8 X f (rI0 fun i j=>.bl (g i j)):=by
 intro pins s σ H x y v u Q I rx ry h
 obtain⟨i,j,rfl,rfl,q⟩:=h
 obtain⟨t,rfl⟩:=rx
 obtain⟨t',rfl⟩:=ry
 exact rule i j t t' s _ _ ⟨.bl (g i j),H,I,rfl,q⟩
def a3T(i j:Int):Prop:=0≤j∧j≤1000000∧i.natAbs<2 ^ 64
def CMul(i j:Int):Prop:=(-(2 ^ 64)<i∧i<2 ^ 64)∨(-(2 ^ 64)<j∧j<2 ^ 64)
theorem CMul.ok{i j:Int}(h:CMul i j):IntMulOk i j:=by
 rcases h with⟨h1,h2⟩ | ⟨h1,h2⟩
 ·exact .of_left (intBits_le_64 h1 h2)
 ·exact .of_right (intBits_le_64 h1 h2)
theorem A7:V8 X (binaryOp .Add) (rI0 fun i j=>.int (i+j)):=b3k fun _ _ _ _ _ _ _ q=>add_int q
theorem E5:V8 X (binaryOp .Sub) (rI0 fun i j=>.int (i-j)):=b3k fun _ _ _ _ _ _ _ q=>sub_int q
theorem v5:V8 X (binaryOp .Mod) (rI (fun _ j=>0<j) fun i j=>.int (i%j)):=opI fun i j _ _ _ _ _ hc q=>by
 have h1:(0:Int)<j:=hc
 exact mod_int' (by omega) (by rw[Int.fmod_eq_emod_of_nonneg i (by omega)];exact q)
theorem a29:V8 X (binaryOp .Pow) (rI a3T fun i j=>.int (i ^ j.toNat)):=opI fun _ _ _ _ _ _ _ hc q=>pow_int_small hc.1 hc.2.1 hc.2.2 q
theorem unI{f:Value→Sem Value}{g:Int→Int}
  (rule:∀(i:Int) (t:Tok) (s:Shared) (Q:Value→Shared→Prop) (E:Value→Shared→Prop),Q (.int (g i) s.toks) { s with toks:=s.toks+1 }→wpAny (model X.prog X.w) X.A (f (.int i t)) Q E s) :
  UnR X f (rU fun i=>.int (g i)):=by
 intro pins s σ H x v Q I rx h
 obtain⟨i,rfl,q⟩:=h
 obtain⟨t,rfl⟩:=rx
 exact rule i t s _ _ ⟨.int (g i),H,I.tok _,⟨_,rfl⟩,q⟩
theorem b3m:UnR X (unaryOp .USub) (rU fun i=>.int (-i)):=unI fun _ _ _ _ _ q=>neg_int q
end
def a7t:V→V→Bool
 | .non,.non=>true | .non,.int _=>true | .int _,.non=>true | .non,.bl _=>true | .bl _,.non=>true | .non,.str _=>true | .str _,.non=>true
 | .int _,.int _=>true | .bl _,.bl _=>true | .str _,.str _=>true | .byt _,.byt _=>true
 | .int _,.str _=>true | .str _,.int _=>true | .bl _,.str _=>true | .str _,.bl _=>true
 | _,_=>false
def rEq:R2:=fun x y H Q=>a7t x y=true∧Q (.bl (decide (x=y))) H
def rNe:R2:=fun x y H Q=>a7t x y=true∧Q (.bl (!decide (x=y))) H
theorem a6D{i j:Int}:decide (V.int i=V.int j)=(i == j):=by
 rw[Bool.eq_iff_iff]
 simp
theorem a8o{i j:Bool}:decide (V.bl i=V.bl j)=(i == j):=by
 rw[Bool.eq_iff_iff]
 simp
theorem a6E{i j:Str}:decide (V.str i=V.str j)=(i == j):=by
 rw[Bool.eq_iff_iff]
 simp
theorem a6F{i j:Array UInt8}:decide (V.byt i=V.byt j)=(i.toList == j.toList):=by
 rw[Bool.eq_iff_iff]
 cases i
 cases j
 simp
section
variable {X:Cx}{a b c:Expr}{ta tb tc:TE}{pos:Pos}
theorem w9{pins:List (Addr×Obj)}{σ:St}{H:Hp}{s:Shared}{Q:VK}{k k':Bool}(I:Inv X pins σ H s)(q:Q (.bl k) H)(e:k=k'):EP X pins σ Q (.bool k') s:=by
 subst e
 exact⟨.bl k,H,I,rfl,q⟩
theorem N4:V8 X (compareOp .Eq) rEq:=by
 intro pins s σ H x y v u Q I rx ry h
 obtain⟨hs,q⟩:=h
 cases x with
 | non =>
  cases rx
  cases y with
  | non=>cases ry;exact PySem.EqNone.eq_none_none (w9 I q (by simp))
  | bl j=>cases ry;exact PySem.EqNone.eq_none_bool (w9 I q (by simp))
  | int j=>obtain⟨t',rfl⟩:=ry;exact PySem.EqNone.eq_none_int (w9 I q (by simp))
  | str j=>obtain⟨t',rfl⟩:=ry;exact PySem.EqNone.eq_none_str (w9 I q (by simp))
  | _=>exact absurd (show false=true from hs) Bool.false_ne_true
 | bl i =>
  cases rx
  cases y with
  | non=>cases ry;exact PySem.EqNone.eq_bool_none (w9 I q (by simp))
  | bl j=>cases ry;exact eq_bool (w9 I q a8o)
  | str j=>obtain⟨t',rfl⟩:=ry;exact PySem.EqMixed.eq_bool_str (w9 I q (by simp))
  | _=>exact absurd (show false=true from hs) Bool.false_ne_true
 | int i =>
  obtain⟨t,rfl⟩:=rx
  cases y with
  | non=>cases ry;exact PySem.EqNone.eq_int_none (w9 I q (by simp))
  | int j=>obtain⟨t',rfl⟩:=ry;exact eq_int (w9 I q a6D)
  | str j=>obtain⟨t',rfl⟩:=ry;exact PySem.EqMixed.eq_int_str (w9 I q (by simp))
  | _=>exact absurd (show false=true from hs) Bool.false_ne_true
 | str i =>
  obtain⟨t,rfl⟩:=rx
  cases y with
  | non=>cases ry;exact PySem.EqNone.eq_str_none (w9 I q (by simp))
  | bl j=>cases ry;exact PySem.EqMixed.eq_str_bool (w9 I q (by simp))
  | int j=>obtain⟨t',rfl⟩:=ry;exact PySem.EqMixed.eq_str_int (w9 I q (by simp))
  | str j=>obtain⟨t',rfl⟩:=ry;exact eq_str (w9 I q a6E)
  | _=>exact absurd (show false=true from hs) Bool.false_ne_true
 | byt i =>
  obtain⟨t,rfl⟩:=rx
  cases y with
  | byt j=>obtain⟨t',rfl⟩:=ry;exact W.eq_bytes (w9 I q a6F)
  | _=>exact absurd (show false=true from hs) Bool.false_ne_true
 | _=>cases y<;>exact absurd (show false=true from hs) Bool.false_ne_true
theorem a2_:V8 X (compareOp .NotEq) rNe:=by
 intro pins s σ H x y v u Q I rx ry h
 obtain⟨hs,q⟩:=h
 cases x with
 | non =>
  cases rx
  cases y with
  | non=>cases ry;exact PySem.EqNone.ne_none_none (w9 I q (by simp))
  | bl j=>cases ry;exact PySem.EqNone.ne_none_bool (w9 I q (by simp))
  | int j=>obtain⟨t',rfl⟩:=ry;exact PySem.EqNone.ne_none_int (w9 I q (by simp))
  | str j=>obtain⟨t',rfl⟩:=ry;exact PySem.EqNone.ne_none_str (w9 I q (by simp))
  | _=>exact absurd (show false=true from hs) Bool.false_ne_true
 | bl i =>
  cases rx
  cases y with
  | non=>cases ry;exact PySem.EqNone.ne_bool_none (w9 I q (by simp))
  | bl j=>cases ry;exact ne_bool (w9 I q (congrArg not a8o))
  | str j=>obtain⟨t',rfl⟩:=ry;exact PySem.EqMixed.ne_bool_str (w9 I q (by simp))
  | _=>exact absurd (show false=true from hs) Bool.false_ne_true
 | int i =>
  obtain⟨t,rfl⟩:=rx
  cases y with
  | non=>cases ry;exact PySem.EqNone.ne_int_none (w9 I q (by simp))
  | int j=>obtain⟨t',rfl⟩:=ry;exact ne_int (w9 I q (congrArg not a6D))
  | str j=>obtain⟨t',rfl⟩:=ry;exact PySem.EqMixed.ne_int_str (w9 I q (by simp))
  | _=>exact absurd (show false=true from hs) Bool.false_ne_true
 | str i =>
  obtain⟨t,rfl⟩:=rx
  cases y with
  | non=>cases ry;exact PySem.EqNone.ne_str_none (w9 I q (by simp))
  | bl j=>cases ry;exact PySem.EqMixed.ne_str_bool (w9 I q (by simp))
  | int j=>obtain⟨t',rfl⟩:=ry;exact PySem.EqMixed.ne_str_int (w9 I q (by simp))
  | str j=>obtain⟨t',rfl⟩:=ry;exact ne_str (w9 I q (congrArg not a6E))
  | _=>exact absurd (show false=true from hs) Bool.false_ne_true
 | byt i =>
  obtain⟨t,rfl⟩:=rx
  cases y with
  | byt j=>obtain⟨t',rfl⟩:=ry;exact W.ne_bytes (w9 I q (congrArg not a6F))
  | _=>exact absurd (show false=true from hs) Bool.false_ne_true
 | _=>cases y<;>exact absurd (show false=true from hs) Bool.false_ne_true
theorem a1z:V8 X (compareOp .Lt) (rI0 fun i j=>.bl (decide (i<j))):=b3l fun _ _ _ _ _ _ _ q=>lt_int q
theorem a2l:V8 X (compareOp .Gt) (rI0 fun i j=>.bl (decide (j<i))):=b3l fun _ _ _ _ _ _ _ q=>gt_int q
theorem a6G:V8 X (compareOp .IsNot) (fun x y H Q=>y=.non∧Q (.bl (!decide (x=.non))) H):=by
 intro pins s σ H x y v u Q I rx ry h
 obtain⟨rfl,q⟩:=h
 cases ry
 refine isnot_none_gen (w9 I q ?_)
 cases x<;>first
  | (cases rx;rfl)
  | (obtain⟨t,rfl⟩:=rx;rfl)
theorem m8(b:Expr){op:CmpOp}(h:op≠.In:=by decide)(h2:op≠.NotIn:=by decide):behindInMarks op b=false:=by
 have e1:(op == CmpOp.In)=false:=by cases op<;>first | rfl | exact absurd rfl h
 have e2:(op == CmpOp.NotIn)=false:=by cases op<;>first | rfl | exact absurd rfl h2
 cases b<;>simp[behindInMarks,e1,e2]
theorem Z5{op:CmpOp}{r:R2}(ho:V8 X (compareOp op) r)(ha:PE X a ta)(hb:PE X b tb)(hm:behindInMarks op b=false):PE X (.Compare a [op] [b] pos) (tOp r ta tb):=by
 intro pins s σ H Q I h
 exact wpAny_Compare1 (a9J ha hb I h fun v u s2 x y H2 I2 rx ry q=>ho pins s2 σ H2 x y v u Q I2 rx ry q) hm
def b0_(t:TE):TT:=fun σ H Q=>t σ H fun x H'=>∃k,x=.bl k∧Q k H'
theorem m9{op:CmpOp}{r:R2}(ho:V8 X (compareOp op) r)(ha:PE X a ta)(hb:PE X b tb)(hm:behindInMarks op b=false):PT X (.Compare a [op] [b] pos) (b0_ (tOp r ta tb)):=by
 intro pins s σ H Q I h
 refine wpAny_isTrue_Compare1 (t6 (ha pins s σ H _ I h) fun v s1 ⟨x,H1,I1,r1,q1⟩=>t6 (hb pins s1 σ H1 _ I1 q1) fun u s2 ⟨y,H2,I2,r2,q2⟩ =>
  t6 (ho pins s2 σ H2 x y v u _ I2 r1 r2 q2) fun c s3 ⟨z,H3,I3,r3,k,e,q3⟩=>?_) hm
 subst e
 cases r3
 exact wpAny_truthy_bool ⟨H3,I3,q3⟩
theorem a3a:(sizeLine:Nat)<2 ^ 63:=by rw[sizeLine_eq];decide
theorem b1a{x:V}{us:List Value}(r:Vals [x] us):∃u,us=[u]∧RelV x u:=by
 cases r with
 | cons r1 r2=>cases r2;exact⟨_,rfl,r1⟩
theorem a7u{x y:V}{us:List Value}(r:Vals [x,y] us):∃u w',us=[u,w']∧RelV x u∧RelV y w':=by
 cases r with
 | cons r1 r2 =>
  cases r2 with
  | cons r3 r4=>cases r4;exact⟨_,_,rfl,r1,r3⟩
theorem a4r(hc:X.calm=true):T8 X (.builtin "max") (fun xs H Q=>∃i j,xs=[.int i,.int j]∧Q (.int (if j > i then j else i)) H):=by
 intro pins s σ H xs us Q I r h
 obtain⟨i,j,rfl,q⟩:=h
 obtain⟨u,w',rfl,⟨t,rfl⟩,⟨t',rfl⟩⟩:=a7u r
 refine max_two_ints (I.ok.hd hc) fun h' tk k=>⟨_,H,I.kept k,?_,q⟩
 by_cases hj:j > i
 ·rw[if_pos hj,if_pos hj];exact⟨_,rfl⟩
 ·rw[if_neg hj,if_neg hj];exact⟨_,rfl⟩
theorem a4s(hc:X.calm=true):T8 X (.builtin "min") (fun xs H Q=>∃i j,xs=[.int i,.int j]∧Q (.int (if j<i then j else i)) H):=by
 intro pins s σ H xs us Q I r h
 obtain⟨i,j,rfl,q⟩:=h
 obtain⟨u,w',rfl,⟨t,rfl⟩,⟨t',rfl⟩⟩:=a7u r
 refine min_two_ints (I.ok.hd hc) fun h' tk k=>⟨_,H,I.kept k,?_,q⟩
 by_cases hj:j<i
 ·rw[if_pos hj,if_pos hj];exact⟨_,rfl⟩
 ·rw[if_neg hj,if_neg hj];exact⟨_,rfl⟩
end
structure ObjM(h:Heap)(x dx C:Addr)(mA:Str→Option Value):Prop where
 obj:h.get? x=some (W.instObj C dx)
 ns:h.Ns1 dx mA
 ne:dx≠x
theorem a8p{h:Heap}{dx:Addr}{mA:Str→Option Value}(n:h.Ns1 dx mA):∃od,h.get? dx=some od∧∀name,W.lookIn name od=some (mA name):=by
 obtain⟨o,es,ep,ho,hd,hk,_,hm⟩:=n
 refine⟨o,ho,fun name=>?_⟩
 have e:=hm name
 unfold nsFind findBy at e
 rw[← Array.find?_toList]at e
 unfold W.lookIn
 rw[hd]
 dsimp only
 split
 ·rename_i y q
  rw[q]at e
  exact congrArg some e
 ·rename_i q
  rw[q]at e
  have a:es.toList.any (·.refKey)=false:=by
   rw[List.any_eq_false]
   intro y hy
   obtain⟨z,t,hkey⟩:=hk y (Array.mem_toList_iff.mp hy)
   simp[DictEntry.refKey,hkey]
  have a':¬es.toList.any (·.refKey)=true:=by rw[a];exact Bool.false_ne_true
  rw[if_neg a']
  exact congrArg some e
theorem ObjM.look{h:Heap}{x dx C:Addr}{mA:Str→Option Value}(I:ObjM h x dx C mA):∃od,W.InstAt h x (W.instObj C dx) C (some od)∧∀name,W.lookIn name od=some (mA name) :=
 let ⟨od,ho,hl⟩:=a8p I.ns
 ⟨od,⟨I.obj,rfl,rfl,ho⟩,hl⟩
section
variable {P:Program}{w:World}{H H':Hp}{h h':Heap}{a C dx:Addr}{fs fs':List (Str×V)}
theorem b1z(hok:HOk P w H h)(e:H a=some (.ins C dx fs)):∃mA,ObjM h a dx C mA∧(∀f,RelO (fs.lookup f) (mA f))∧PySem.Within mA (fs.map (·.1))∧fs.length≤1000∧H dx=some (.own a):=by
 obtain⟨d,z,ne,ob,mA,n,r,q⟩:=(show ObjOk P w H h a (.ins C dx fs)from hok a _ e)
 exact⟨mA,⟨ob,n,ne⟩,r,q,z,d⟩
end
structure Cls(K:W.Frag)(C:Addr):Prop where
 pg:W.plainGet K C Str.empty=true
 hd:W.hasDictIn K C=true
 po:W.plainOver K C=true
 sa:W.findIn K (.ref C) "__setattr__" = some (some (.builtin "object.__setattr__"))
theorem Cls.get{K:W.Frag}{C:Addr}(c:Cls K C)(f:Str):W.plainGet K C f=true:=c.pg
section
variable {X:Cx}{pins:List (Addr×Obj)}{σ:St}{H:Hp}{s:Shared}{a C dx:Addr}{fs:List (Str×V)}{f:Str}{v:V}{A:Around}{E:Value→Shared→Prop}
theorem Inv.made(I:Inv X pins σ H s):Inv X pins σ (upd (upd H s.heap.objs.size (.own (s.heap.objs.size+1))) (s.heap.objs.size+1) (.ins C s.heap.objs.size []))
  { s with heap:=(s.heap.push W.emptyDict).push (W.instObj C s.heap.objs.size) }:=by
 have e1:(s.heap.push W.emptyDict).get? s.heap.objs.size=some W.emptyDict:=Heap.get?_push_size s.heap rfl
 have e2:((s.heap.push W.emptyDict).push (W.instObj C s.heap.objs.size)).get? (s.heap.objs.size+1)=some (W.instObj C s.heap.objs.size):=by
  have:=Heap.get?_push_size (s.heap.push W.emptyDict) (o:=W.instObj C s.heap.objs.size) rfl
  rwa [Heap.size_push]at this
 have e3:(s.heap.push W.emptyDict).Ns s.heap.objs.size (fun _=>none):=⟨W.emptyDict,#[],_,e1,rfl,(fun e he=>absurd he (by simp)),fun _=>rfl⟩
 have I1:=I.laid (a:=s.heap.objs.size) (o:=.own (s.heap.objs.size+1)) (h':=s.heap.push W.emptyDict) (t':=s.toks) (fun b u q=>Heap.get?_push_of_some _ q) (Nat.le_refl _) ⟨_,e1⟩
 refine I1.laid (a:=s.heap.objs.size+1) (o:=.ins C s.heap.objs.size []) (t':=s.toks) (fun b u q=>Heap.get?_push_of_some _ q) (Nat.le_of_eq (Heap.size_push _ _)) ?_
 have ne:s.heap.objs.size≠s.heap.objs.size+1:=Nat.ne_of_lt (Nat.lt_succ_self _)
 refine⟨by rw[f9 ne,k9],Nat.zero_le _,ne,e2,fun _=>none,(Heap.Ns1.of_empty e3).at fun o q=>Heap.get?_push_of_some _ q,fun _=>True.intro,fun y hy=>absurd rfl hy⟩
end
section
variable {X:Cx}{pins:List (Addr×Obj)}{σ:St}{H:Hp}{s:Shared}{A:Around}{E:Value→Shared→Prop}{Q:Value→Shared→Prop}{c:Value}{b:Bool}
inductive TyOf(K:W.Frag)(H:Hp):V→Value→Prop where
 | non:TyOf K H .non (.type "NoneType")
 | bl (x:Bool):TyOf K H (.bl x) (.type "bool")
 | int (i:Int):TyOf K H (.int i) (.type "int")
 | str (x:Str):TyOf K H (.str x) (.type "str")
 | flt (x:UInt64):TyOf K H (.flt x) (.type "float")
 | lst {a:Addr} {xs:List V} (e:H a=some (.lst xs)):TyOf K H (.ref a) (.type "list")
 | frz {a:Addr} {o:Obj} {xs:List V} (e:H a=some (.frz o (.lst xs))):TyOf K H (.ref a) (.type "list")
 | tup {a:Addr} {xs:List V} (e:H a=some (.tup xs)):TyOf K H (.ref a) (.type "tuple")
 | dK {a:Addr} {kvs:List (E2×V)} (e:H a=some (.dK kvs)):TyOf K H (.ref a) (.type "dict")
 | dT {a:Addr} {kvs:List (List E2×V)} (e:H a=some (.dT kvs)):TyOf K H (.ref a) (.type "dict")
 | ins {a C dx:Addr} {fs:List (Str×V)} (e:H a=some (.ins C dx fs)) (cl:Cls K C) (ha:W.findIn K (.ref C) "__class__" = some (some (.builtin "object.__class__")))
   (hn:W.specialIn K (.builtin "object.__class__") "__get__" = some (some (.builtin "getset_descriptor.__get__"))) (htk:W.takesIn K (.builtin "object.__class__")=some true)
   (hm:W.mroIn K C (.type "object")=some true):TyOf K H (.ref a) (.ref C)
end
structure Room(k:Nat)(A:Around):Prop where
 hd:A.handled=none
 dp:A.depth+3*k+5<recursionLimit
 un:A.units+16*k+200<cLine
theorem Room.mono{j k:Nat}{A:Around}(r:Room k A)(h:j≤k):Room j A:=⟨r.hd,by have:=r.dp;omega,by have:=r.un;omega⟩
theorem Room.deeper{k:Nat}{A:Around}(r:Room (k+1) A)(env:Env):Room k (A.deeper env) :=
 ⟨r.hd,by have:=r.dp;show A.depth+1+3*k+5<_;omega,by have:=r.un;show A.units+3+16*k+200<_;omega⟩
theorem Room.in1{k:Nat}{A:Around}(r:Room (k+1) A):Room k A.in1 :=
 ⟨r.hd,by have:=r.dp;show A.depth+3*k+5<_;omega,by have:=r.un;show A.units+1+16*k+200<_;omega⟩
theorem Room.depth{k:Nat}{A:Around}(r:Room k A):A.depth<recursionLimit:=by have:=r.dp;omega
theorem Room.units{k:Nat}{A:Around}(r:Room k A):A.units+64<cLine:=by have:=r.un;omega
def X8:TA:=fun _ H Q=>Q [] H
def L5(ta:TE)(tr:TA):TA:=fun σ H Q=>ta σ H fun x H1=>tr σ H1 fun xs H2=>Q (x::xs) H2
section
variable {X:Cx}{e:Expr}{es:List Expr}{te:TE}{t:TA}{pos:Pos}
theorem c8:PA X [] X8:=fun _ _ _ _ H Q I h=>Calls.spliced_nil ⟨[],H,I,.nil,h⟩
theorem a6(ha:PE X e te)(hr:PA X es t)(hs:starEach (e::es) X.env=(false,eval e X.env)::starEach es X.env:=by rfl):PA X (e::es) (L5 te t):=by
 intro pos pins s σ H Q I h
 rw[hs]
 show wpAny _ _ (spliced ((false,eval e X.env)::backTo pos (starEach es X.env))) _ _ s
 refine Calls.spliced_cons (t6 (ha pins s σ H _ I h) fun u s1 ⟨x,H1,I1,r1,q1⟩=>?_)
 exact t6 (hr pos pins s1 σ H1 _ I1 q1) fun us s2 ⟨xs,H2,I2,r2,q2⟩=>⟨x::xs,H2,I2,.cons r1 r2,q2⟩
def a9K(t:TA):TE:=fun σ H Q=>t σ H fun xs H1=>xs.length≤sizeLine∧∀p,H1 p=none→Q (.ref p) (upd H1 p (.tup xs))
def b3n(t:TA):TE:=fun σ H Q=>t σ H fun xs H1=>xs.length≤sizeLine∧∀p,H1 p=none→Q (.ref p) (upd H1 p (.lst xs))
theorem x5{x1}(h:PA X es t):PE X (.Tuple es x1 pos) (a9K t):=by
 intro pins s σ H Q I hq
 refine wpAny_Tuple_spliced (t6 (h pos pins s σ H _ I hq) fun us s1 ⟨xs,H1,I1,r,z,q⟩=>⟨by rw[← r.length];exact z,?_⟩)
 have hf:H1 s1.heap.objs.size=none:=I1.hok.fresh (Nat.le_refl _)
 refine⟨.ref s1.heap.objs.size,upd H1 s1.heap.objs.size (.tup xs),I1.laid (t':=s1.toks) (fun b u e=>Heap.get?_push_of_some _ e) (Nat.le_refl _) ?_,rfl,q _ hf⟩
 exact⟨z,us,r,⟨_,Heap.get?_push_size _ rfl,rfl,_,rfl⟩⟩
theorem S3(h:PA X es t):PE X (.List es pos) (b3n t):=by
 intro pins s σ H Q I hq
 refine wpAny_List_spliced (t6 (h pos pins s σ H _ I hq) fun us s1 ⟨xs,H1,I1,r,z,q⟩=>⟨by rw[← r.length];exact z,?_⟩)
 have hf:H1 s1.heap.objs.size=none:=I1.hok.fresh (Nat.le_refl _)
 refine⟨.ref s1.heap.objs.size,upd H1 s1.heap.objs.size (.lst xs),I1.laid (t':=s1.toks) (fun b u e=>Heap.get?_push_of_some _ e) (Nat.le_refl _) ?_,rfl,q _ hf⟩
 exact⟨z,us,0,r,Heap.get?_push_size _ rfl⟩
end
abbrev Sp:=List V→Hp→VK→XK→Prop
abbrev CXT:=List Env→Hp→Shared→XK→Value→Shared→Prop
structure Env0(P:Program)(w:World)(K:W.Frag)(mg:Str→Option Value)(base:Heap)(A:Around)(outer:List Env)(s:Shared)(H:Hp):Prop where
 frames:A.frames=some outer
 mod:Mod K mg base
 bs:∀b o,base.get? b=some o→s.heap.get? b=some o∧H b=none
 bsz:base.objs.size≤s.heap.objs.size
 funs:s.heap.FunFrames base outer
 frf:∀b∈L7 outer,H b=none
 hok:HOk P w H s.heap
 bare:AllBare s.gens
def CE(outer:List Env)(P:Program)(w:World)(H:Hp)(s:Shared)(Q:VK)(u:Value)(s':Shared):Prop :=
 ∃v H',s'.os=s.os∧AllBare s'.gens∧Un (L7 outer) [] H H' s.heap s'.heap∧HOk P w H' s'.heap∧RelV v u∧Q v H'
def CR(CX:CXT)(outer:List Env)(P:Program)(w:World)(H:Hp)(s:Shared)(Q:VK)(E:XK)(r:Result)(s':Shared):Prop :=
 match r with
 | .ok (.ret u)=>CE outer P w H s Q u s'
 | .ok _=>False
 | .error e=>CX outer H s E e s'
structure FnOk(P:Program)(w:World)(K:W.Frag)(mg:Str→Option Value)(base:Heap)(CX:CXT)(k:Nat)(f:Addr)(fd:FuncData)(ps:List Str)(sp:Sp):Prop where
 len:∀vs H Q E,sp vs H Q E→vs.length=ps.length
 run:∀(A:Around) (outer:List Env) (s:Shared) (H:Hp) (args:Args) (us:List Value) (vs:List V) (Q:VK) (E:XK),Room k A→Env0 P w K mg base A outer s H→BindsTo s fd args (ps.zip us)→Vals vs us→sp vs H Q E →
  codeAny (model P w) A (.call (.ref f) args) (CR CX outer P w H s Q E) s
theorem FnOk.mono{P:Program}{w:World}{K:W.Frag}{mg:Str→Option Value}{base:Heap}{CX:CXT}{j k:Nat}{f:Addr}{fd:FuncData}{ps:List Str}{sp:Sp}(F:FnOk P w K mg base CX j f fd ps sp)(h:j≤k) :
  FnOk P w K mg base CX k f fd ps sp:=⟨F.len,fun A outer s H args us vs Q E hr=>F.run A outer s H args us vs Q E (hr.mono h)⟩
theorem FnOk.imp{P:Program}{w:World}{K:W.Frag}{mg:Str→Option Value}{base:Heap}{CX:CXT}{k:Nat}{f:Addr}{fd:FuncData}{ps:List Str}{sp sp':Sp}(F:FnOk P w K mg base CX k f fd ps sp)
  (h:∀vs H Q E,sp' vs H Q E→sp vs H Q E):FnOk P w K mg base CX k f fd ps sp' :=
 ⟨fun vs H Q E q=>F.len vs H Q E (h _ _ _ _ q),fun A outer s H args us vs Q E hr he hb hv hs=>F.run A outer s H args us vs Q E hr he hb hv (h _ _ _ _ hs)⟩
theorem Env0.in1{P:Program}{w:World}{K:W.Frag}{mg:Str→Option Value}{base:Heap}{A:Around}{outer:List Env}{s:Shared}{H:Hp}(e:Env0 P w K mg base A outer s H) :
  Env0 P w K mg base A.in1 outer s H:=⟨e.frames,e.mod,e.bs,e.bsz,e.funs,e.frf,e.hok,e.bare⟩
section
variable {X:Cx}{pins:List (Addr×Obj)}{σ:St}{H:Hp}{s s':Shared}
theorem Inv.env0(I:Inv X pins σ H s):Env0 X.prog X.w X.K X.mg X.base X.A X.stack s H :=
 ⟨I.ok.frames,I.ok.mod,I.bs,Nat.le_trans I.ok.bsz I.sz,I.stack,I.stkFree,I.hok,I.bare⟩
theorem Inv.after{Q:VK}{u:Value}(I:Inv X pins σ H s)(h:CE X.stack X.prog X.w H s Q u s'):EP X pins σ Q u s':=by
 obtain⟨v,H',os,bare,un,hok,r,q⟩:=h
 obtain⟨hh,g,d,t,os'⟩:=s'
 obtain rfl:os'=s.os:=os
 exact⟨v,H',I.call (h':=hh) (g':=g) (d':=d) (t':=t) (ch:=[]) un hok bare (fun b z=>absurd z (by simp)),r,q⟩
end
def a0B(sp:Sp)(dvs:List V)(E:XK)(t:TA):TE:=fun σ H Q=>t σ H fun vs H1=>sp (vs++dvs) H1 Q E
def Binds(K:W.Frag)(fd:FuncData)(ps:List Str)(ds:List Value):Prop :=
 ∀(s:Shared) (us:List Value),K.In s.heap→(us++ds).length=ps.length→BindsTo s fd ⟨us,[]⟩ (ps.zip (us++ds))
theorem Binds.all{K:W.Frag}{fd:FuncData}{ps:List Str}(h:∀us:List Value,us.length=ps.length→bindArgs fd ⟨us,[]⟩=pure (ps.zip us)):Binds K fd ps []:=fun s us _ hl=>by
 rw[List.append_nil]at hl ⊢
 exact .of_eq (h us hl)
def a1o(CX:CXT)(X:Cx)(E:XK):Prop:=∀(pins:List (Addr×Obj)) (σ:St) (H:Hp) (s:Shared) (e:Value) (s':Shared),Inv X pins σ H s→CX X.stack H s E e s'→X.xe e s'
section
variable {X:Cx}{CX:CXT}{k:Nat}{f C:Addr}{fd:FuncData}{ps:List Str}{sp:Sp}{dvs:List V}{ds:List Value}{E:XK}{x m:Str}{p pos apos:Pos}{e o:Expr}{es:List Expr}{ta:TE}{t:TA}
theorem b3o{pins:List (Addr×Obj)}{σ:St}{H:Hp}{s:Shared}{Q:VK}{us:List Value}{vs:List V}(F:FnOk X.prog X.w X.K X.mg X.base CX k f fd ps sp)(hr:Room k X.A)(hb:Binds X.K fd ps ds)(hd:Vals dvs ds)(hx:a1o CX X E)
  (I:Inv X pins σ H s) (r:Vals vs us) (h:sp (vs++dvs) H Q E):wpAny (model X.prog X.w) X.A (call (.ref f) us) (EP X pins σ Q) X.xe s:=by
 have r2:Vals (vs++dvs) (us++ds):=r.append hd
 have hl:(us++ds).length=ps.length:=by rw[← r2.length];exact F.len _ _ _ _ h
 refine wpAny_call (codeAny_mono (F.run X.A X.stack s H ⟨us,[]⟩ (us++ds) (vs++dvs) Q E hr I.env0 (hb s us I.kIn hl) r2 h) fun r s' hq=>?_)
 cases r with
 | error e=>exact hx pins σ H s e s' I hq
 | ok fl =>
  cases fl with
  | ret u=>exact I.after hq
  | next=>exact False.elim hq
  | brk=>exact False.elim hq
  | cont=>exact False.elim hq
theorem b1A(F:FnOk X.prog X.w X.K X.mg X.base CX k f fd ps sp)(hr:Room k X.A)(hg:Gl X x)(hm:X.mg x=some (.ref f))(hk:W.keepIn X.K (.ref f)=true)(hb:Binds X.K fd ps ds)(hd:Vals dvs ds)(hx:a1o CX X E)
  (ha:PA X (e::es) t) (hdb:(x == ("__debug__" : Str))=false:=by decide) (he:starEach (e::es) X.env=(false,eval e X.env)::starEach es X.env:=by rfl) (hpl:(backTo pos (starEach es X.env)).any (·.1)=false:=by rfl) :
  PE X (.Call (.Name x p) (e::es) [] pos) (a0B sp dvs E t):=by
 intro pins s σ H Q I h
 refine wpAny_Call_Name_kw (a6C I hg hm ?_ hdb)
 refine W.callWith_K (h₀:=X.base) I.ok.mod.kin hk (t6 (ha pos pins s σ H _ I h) fun us s1 ⟨vs,H1,I1,r,q⟩=>⟨I1.kIn,?_⟩) he hpl
 exact b3o F hr hb hd hx I1 r q
end
def PK(X:Cx)(kws:List Keyword)(t:TA):Prop :=
 ∀(pos:Pos) (pins:List (Addr×Obj)) (s:Shared) (σ:St) (H:Hp) (Q:List V→Hp→Prop),Inv X pins σ H s→t σ H Q→wpAny (model X.prog X.w) X.A (evalAll ((backToKw pos (keywordEach kws X.env)).map (·.2))) (AP X pins σ Q) X.xe s
section
variable {X:Cx}{CX:CXT}{k:Nat}{f C:Addr}{fd:FuncData}{ps ks:List Str}{sp:Sp}{E:XK}{x m:Str}{p pos apos kpos:Pos}{e o:Expr}{es:List Expr}{kws:List Keyword}{te ta:TE}{t tk:TA}{nm:Option Str}
theorem b3p:PK X [] X8:=fun _ _ _ _ H Q I h=>wpAny_evalAll_nil ⟨[],H,I,.nil,h⟩
theorem b1B(ha:PE X e te)(hr:PK X kws t):PK X (⟨nm,e,kpos⟩ :: kws) (L5 te t):=by
 intro pos pins s σ H Q I h
 show wpAny _ _ (evalAll ((do let v ← eval e X.env;standAt pos;pure v)::(backToKw pos (keywordEach kws X.env)).map (·.2))) _ _ s
 refine wpAny_evalAll_cons (wpAny_bind (t6 (ha pins s σ H _ I h) fun u s1 ⟨x,H1,I1,r1,q1⟩=>wpAny_bind (wpAny_standAt (wpAny_pure ?_))))
 exact t6 (hr pos pins s1 σ H1 _ I1 q1) fun us s2 ⟨xs,H2,I2,r2,q2⟩=>⟨x::xs,H2,I2,.cons r1 r2,q2⟩
variable {g:List Value→List Value→List Value}{gV:List V→List V→List V}
end
structure FnScope(N P:List Str)(sc:Scope):Prop where
 kind:sc.kind=.function
 co:sc.isCoroutine=false
 gen:sc.isGenerator=false
 nd:N.Nodup
 pre:N.take P.length=P
 par:∀x∈P,sc.names.lookup x=some .local∨sc.names.lookup x=some .cell
 nofree:∀y∈sc.names,y.2≠.free
theorem a4t{kindOf:Str→Option NameKind}{x:Str}:∀{binds:List (Str×Value)} {m:Str→Option Value},(∀v,(x,v) ∉ binds)→bindL kindOf binds m x=m x
 | [],_,_=>rfl
 | (n,v)::r,m,h=>by
  unfold bindL
  rw[a4t fun w hw=>h w (List.mem_cons_of_mem _ hw)]
  split
  ·have:x≠n:=by rintro rfl;exact h v List.mem_cons_self
   simp[this]
  ·rfl
theorem a4u{kindOf:Str→Option NameKind}{x:Str}:∀{binds:List (Str×Value)} {m:Str→Option Value},(∀v,(x,v) ∉ binds)→bindC kindOf binds m x=m x
 | [],_,_=>rfl
 | (n,v)::r,m,h=>by
  unfold bindC
  rw[a4u fun w hw=>h w (List.mem_cons_of_mem _ hw)]
  split
  ·rfl
  ·have:x≠n:=by rintro rfl;exact h v List.mem_cons_self
   simp[this]
theorem a4v{kindOf:Str→Option NameKind}{x:Str}{v:Value}:∀{P:List Str} {vs:List Value} {i:Nat} {m:Str→Option Value},P.Nodup→P[i]? = some x→vs[i]? = some v→kindOf x=some .local →
  bindL kindOf (P.zip vs) m x=some v
 | [],_,_,_,_,h,_,_=>by simp at h
 | _::_,[],_,_,_,_,h,_=>by simp at h
 | p::P,w::vs,0,m,nd,h1,h2,hk=>by
  simp at h1 h2;subst h1;subst h2
  show bindL kindOf ((p,w)::P.zip vs) m p=_
  unfold bindL
  rw[a4t fun v hv=>(List.nodup_cons.mp nd).1 (List.of_mem_zip hv).1,if_pos hk]
  simp
 | p::P,w::vs,i+1,m,nd,h1,h2,hk=>by
  show bindL kindOf ((p,w)::P.zip vs) m x=_
  unfold bindL
  exact a4v (i:=i) (List.nodup_cons.mp nd).2 (by simpa using h1) (by simpa using h2) hk
theorem a4w{kindOf:Str→Option NameKind}{x:Str}{v:Value}:∀{P:List Str} {vs:List Value} {i:Nat} {m:Str→Option Value},P.Nodup→P[i]? = some x→vs[i]? = some v→kindOf x≠some .local →
  bindC kindOf (P.zip vs) m x=some v
 | [],_,_,_,_,h,_,_=>by simp at h
 | _::_,[],_,_,_,_,h,_=>by simp at h
 | p::P,w::vs,0,m,nd,h1,h2,hk=>by
  simp at h1 h2;subst h1;subst h2
  show bindC kindOf ((p,w)::P.zip vs) m p=_
  unfold bindC
  rw[a4u fun v hv=>(List.nodup_cons.mp nd).1 (List.of_mem_zip hv).1,if_neg hk]
  simp
 | p::P,w::vs,i+1,m,nd,h1,h2,hk=>by
  show bindC kindOf ((p,w)::P.zip vs) m x=_
  unfold bindC
  exact a4w (i:=i) (List.nodup_cons.mp nd).2 (by simpa using h1) (by simpa using h2) hk
def start(N:List Str)(vs:List V):St:=vs.map some++List.replicate (N.length-vs.length) none
def X9(CX:CXT)(P:Program)(w:World)(K:W.Frag)(mg:Str→Option Value)(base:Heap)(N:List Str)(qual:Str)(scope:Scope)(f:Addr)(cd:Value)(A:Around)(outer:List Env)(s:Shared)(H:Hp)(E:XK):Cx where
 prog:=P
 w:=w
 K:=K
 mg:=mg
 base:=base
 A:=A.deeper (envOfC qual scope s.heap.objs.size f cd)
 N:=N
 s₀:=s
 H₀:=H
 env:=envOfC qual scope s.heap.objs.size f cd
 outer:=outer
 stack:=envOfC qual scope s.heap.objs.size f cd::outer
 ex:=[]
 calm:=true
 fn:=fun _=>true
 pn:=[]
 xe:=fun e s'=>wpAny (model P w) (A.deeper (envOfC qual scope s.heap.objs.size f cd)) (leaving (envOfC qual scope s.heap.objs.size f cd) e) (fun _ s''=>CX outer H s E e s'') (fun e' s''=>CX outer H s E e' s'') s'
theorem a5k{sc:Scope}{n:Nat}{x:Str}(h:sc.names.lookup x=some .cell):∃c,(cellsFrom n sc.names []).lookup x=some c:=by
 have q:=W.cellsFrom_some sc.names n [] (.inl h)
 exact Option.isSome_iff_exists.mp q
theorem a8q{CX:CXT}{P:Program}{w:World}{K:W.Frag}{mg:Str→Option Value}{base:Heap}{N ps:List Str}{qual:Str}{scope:Scope}{f:Addr}{cd:Value}{A:Around}{outer:List Env}{s s1:Shared}{H:Hp}{E:XK}{us:List Value}{vs:List V}
  (S:FnScope N ps scope) (hd:A.handled=none) (e0:Env0 P w K mg base A outer s H) (hl:vs.length=ps.length) (r:Vals vs us)
  (x:InCallC s s.heap.objs.size (bindL (envOfC qual scope s.heap.objs.size f cd).kindOf (ps.zip us) fun _=>none) (cellsFrom (s.heap.objs.size+1) scope.names []) (bindC (envOfC qual scope s.heap.objs.size f cd).kindOf (ps.zip us) fun _=>none) s1) :
  Inv (X9 CX P w K mg base N qual scope f cd A outer s H E) [] (start N vs) H s1:=by
 have hpl:ps.length≤N.length:=by have:=congrArg List.length S.pre;rw[List.length_take]at this;omega
 obtain⟨h1,tk,rfl,hk⟩:=x.done
 have noA:∀b:Addr,b ∉ (X9 CX P w K mg base N qual scope f cd A outer s H E).ex:=fun b z=>absurd (show b∈([]:List Addr)from z) (by simp)
 refine⟨⟨e0.mod,S.kind,rfl,rfl,Nat.le_refl _,fun y z c h1 h2=>?_,fun y hy=>?_,fun y c _ h=>?_,fun _=>hd,Around.frames_deeper e0.frames,.inr ⟨rfl,rfl⟩,fun b z=>absurd z (noA b),e0.bs,e0.bsz,fun b _ _=>noA b,fun b z=>absurd z (noA b),e0.funs,e0.frf⟩,
  rfl,e0.bare,Un.kept hk,⟨_,x.toInCall.ns,fun i y v h1 h2 h3=>?_⟩,fun y c h=>⟨_,x.cell y c h⟩,e0.hok.fresh (Nat.le_refl _),fun y c h=>?_,fun p hp=>absurd (show p∈([]:List (Addr×Obj))from hp) (by simp),e0.hok.kept hk,?_⟩
 ·exact name_of_addr x.apart (PySem.mem_of_lookup h1) (PySem.mem_of_lookup h2)
 ·have hy:scope.names.lookup y=some .cell∨scope.names.lookup y=some .free:=hy
  rcases hy with hy | hy
  ·exact a5k hy
  ·exact absurd rfl (S.nofree _ (PySem.mem_of_lookup hy))
 ·exact Nat.le_of_lt (x.above y c (PySem.mem_of_lookup h))
 ·have hi:i<vs.length:=by
   unfold start at h2
   by_cases hi:i<vs.length
   ·exact hi
   ·rw[List.getElem?_append_right (by simpa using hi)]at h2
    rw[List.getElem?_replicate]at h2
    split at h2<;>cases h2
  have ha:vs[i]? = some v:=by
   unfold start at h2
   rw[List.getElem?_append_left (by simpa using hi),List.getElem?_map]at h2
   cases e:vs[i]? with
   | none=>rw[e]at h2;cases h2
   | some a=>rw[e]at h2;cases h2;rfl
  obtain⟨u,hu,rv⟩:=r.get ha
  have hp:ps[i]? = some y:=by
   rw[← S.pre,List.getElem?_take_of_lt (by omega)];exact h1
  have ndP:ps.Nodup:=by rw[← S.pre];exact S.nd.sublist (List.take_sublist _ _)
  refine⟨u,rv,?_⟩
  rcases S.par y (List.mem_of_getElem? hp)with k | k
  ·exact .inl ⟨k,a4v ndP hp hu k⟩
  ·obtain⟨c,e⟩:=a5k (n:=s.heap.objs.size+1) k
   refine .inr ⟨.inl k,c,e,?_⟩
   have q:=x.cell y c e
   rw[a4w ndP hp hu (by show scope.names.lookup y≠_;rw[k];decide)]at q
   exact q
 ·exact e0.hok.fresh (Nat.le_of_lt (x.above y c (PySem.mem_of_lookup h)))
 ·unfold start
  show _=N.length
  rw[List.length_append,List.length_map,List.length_replicate]
  omega
theorem a3b{CX:CXT}{P:Program}{w:World}{K:W.Frag}{mg:Str→Option Value}{base:Heap}{k:Nat}{f:Addr}{name qual:Str}{params:Arguments}{body:List Stmt}{scope:Scope}{dV kV doc pm cdv ct oc:Value}{an od:Option Addr}
  {osl:Array (Option Value)} {N ps:List Str} {sp:Sp} (lk:K.lookup f=some ⟨oc,od,.func (W.fnOf name qual params body scope dV kV doc pm an cdv ct),osl⟩) (hcd:W.codeIn K cdv qual=true) (S:FnScope N ps scope)
  (len:∀vs H Q E,sp vs H Q E→vs.length=ps.length)
  (hbody:∀(A:Around) (outer:List Env) (s:Shared) (H:Hp) (vs:List V) (Q:VK) (E:XK),Room k (A.deeper (envOfC qual scope s.heap.objs.size f cdv))→sp vs H Q E →
   ∃t,PSs (X9 CX P w K mg base N qual scope f cdv A outer s H E) body t∧t { nx:=fun _ H'=>Q .non H',rt:=Q } (start N vs) H) :
  FnOk P w K mg base CX (k+1) f (W.fnOf name qual params body scope dV kV doc pm an cdv ct) ps sp:=by
 refine⟨len,fun A outer s H args us vs Q E hr e0 hb r hsp=>?_⟩
 have hl:=len _ _ _ _ hsp
 have KX:K.In s.heap:=e0.mod.kin.keeps fun b o e=>(e0.bs b o e).1
 have lim:s.heap.NoLimit:=e0.mod.nolimit.keeps fun b o e=>(e0.bs b o e).1
 have hkind:∀y∈ps.zip us,scope.names.lookup y.1=some .local∨(scope.names.lookup y.1=some .cell∧((cellsFrom (s.heap.objs.size+1) scope.names []).lookup y.1).isSome=true):=fun⟨n,v⟩ hy=>by
  rcases S.par n (List.of_mem_zip hy).1 with q | q
  ·exact .inl q
  ·exact .inr ⟨q,W.cellsFrom_some _ _ _ (.inl q)⟩
 refine codeAny_call_function hr.depth (KX _ _ lk) rfl S.co S.gen rfl (W.codeRec_of KX hcd) (hb _ _ _ _ ?_)
 refine wpAny_newFunctionEnv_cells S.kind hkind fun env he s1 x=>?_
 subst he
 refine⟨lim.keeps x.toInCall.keep,codeAny_func ?_⟩
 obtain⟨t,ht,hq⟩:=hbody A outer s H vs Q E (hr.deeper _) hsp
 have I:Inv (X9 CX P w K mg base N qual scope f cdv A outer s H E) [] (start N vs) H s1:=a8q S hr.hd e0 hl r x
 refine wpAny_mono (ht [] s1 (start N vs) H _ I hq) (fun fl s' hs=>?_) fun e s' hs=>hs
 have fin:∀{σ':St} {H':Hp} {v:V} {u:Value},Inv (X9 CX P w K mg base N qual scope f cdv A outer s H E) [] σ' H' s'→RelV v u→Q v H'→CE outer P w H s Q u s' :=
  fun{σ' H' v u} J rv q=>⟨v,H',J.os,J.bare,J.base,J.hok,rv,q⟩
 cases fl with
 | ret u =>
  obtain⟨v,σ',H',J,rv,q⟩:=hs
  exact fin J rv q
 | next =>
  obtain⟨σ',H',J,q⟩:=hs
  exact fin (v:=V.non) (u:=Value.none) J rfl q
 | brk =>
  obtain⟨_,_,_,q⟩:=hs
  exact False.elim q
 | cont =>
  obtain⟨_,_,_,q⟩:=hs
  exact False.elim q
section
variable {X:Cx}{x:Str}{p pos:Pos}{e:Expr}{es:List Expr}{t:TA}{id T:String}{r:List V→Hp→VK→Prop}
def tCB(r:List V→Hp→VK→Prop)(t:TA):TE:=fun σ H Q=>t σ H fun vs H1=>r vs H1 Q
theorem m5(hc:T8 X (.builtin id) r)(hg:Gl X x)(hm:X.mg x=none)(hv:bootBuiltins x=some (.builtin id))(ha:PA X (e::es) t)(hn:x≠"__name__" := by decide)(hdb:(x == ("__debug__" : Str))=false:=by decide)
  (he:starEach (e::es) X.env=(false,eval e X.env)::starEach es X.env:=by rfl) (hpl:(backTo pos (starEach es X.env)).any (·.1)=false:=by rfl):PE X (.Call (.Name x p) (e::es) [] pos) (tCB r t):=by
 intro pins s σ H Q I h
 refine wpAny_Call_Name_kw (X6 I hg hm hv ?_ hn hdb)
 exact PyProof.Rows.callWith_builtin1 (t6 (ha pos pins s σ H _ I h) fun us s1 ⟨vs,H1,I1,r1,q1⟩=>hc pins s1 σ H1 vs us Q I1 r1 q1) he hpl
theorem V9(hc:T8 X (.type T) r)(hg:Gl X x)(hm:X.mg x=none)(hv:bootBuiltins x=some (.type T))(ha:PA X (e::es) t)(hn:x≠"__name__" := by decide)(hdb:(x == ("__debug__" : Str))=false:=by decide)
  (he:starEach (e::es) X.env=(false,eval e X.env)::starEach es X.env:=by rfl) (hpl:(backTo pos (starEach es X.env)).any (·.1)=false:=by rfl):PE X (.Call (.Name x p) (e::es) [] pos) (tCB r t):=by
 intro pins s σ H Q I h
 refine wpAny_Call_Name_kw (X6 I hg hm hv ?_ hn hdb)
 exact PyProof.Rows.callWith_type1 (t6 (ha pos pins s σ H _ I h) fun us s1 ⟨vs,H1,I1,r1,q1⟩=>hc pins s1 σ H1 vs us Q I1 r1 q1) he hpl
end
end L2
namespace HT
open PySem PyProof.Rows
def lexLt:List Int→List Int→Bool
 | [],[]=>false
 | [],_::_=>true
 | _::_,[]=>false
 | x::xs,y::ys=>if x=y then lexLt xs ys else decide (x<y)
theorem lexLt_cons(x y:Int)(xs ys:List Int):lexLt (x::xs) (y::ys)=if x=y then lexLt xs ys else decide (x<y):=rfl
section
variable {prog:Program}{w:World}{A:Around}{E:Value→Shared→Prop}{s:Shared}
def sIx(n d:Nat):Option Int→Nat
 | none=>d
 | some v=>if v<0 then(v+(n:Int)).toNat else min v.toNat n
theorem sIx_nat(n d k:Nat):sIx n d (some (k:Int))=min k n:=by
 show(if(k:Int)<0 then((k:Int)+(n:Int)).toNat else min (k:Int).toNat n)=min k n
 rw[if_neg (by omega),Int.toNat_natCast]
end
end HT
namespace L2
open PySem PySem.Spec PyProof.Rows
abbrev TO:=St→Hp→(Option Int→Hp→Prop)→Prop
def PO(X:Cx)(e:Option Expr)(t:TO):Prop :=
 ∀(pins:List (Addr×Obj)) (s:Shared) (σ:St) (H:Hp) (Q:Option Int→Hp→Prop),Inv X pins σ H s→t σ H Q →
  wpAny (model X.prog X.w) X.A (evalPart e X.env) (fun u s'=>∃o H',Inv X pins σ H' s'∧IsPart u o∧Q o H') X.xe s
def a6H:TO:=fun _ H Q=>Q none H
def b1b(t:TE):TO:=fun σ H Q=>t σ H fun x H1=>∃i,x=.int i∧Q (some i) H1
section
variable {X:Cx}{e:Expr}{te:TE}{lo hi:Option Expr}{tl th:TO}{pos p2:Pos}
theorem b1C:PO X none a6H:=by
 intro pins s σ H Q I h
 rw[evalPart_none]
 exact wpAny_pure ⟨none,H,I,.none,h⟩
theorem Z6(h:PE X e te):PO X (some e) (b1b te):=by
 intro pins s σ H Q I hw
 rw[evalPart_some]
 refine t6 (h pins s σ H _ I hw) fun u s1 ⟨x,H1,I1,r1,q1⟩=>?_
 obtain⟨i,rfl,q⟩:=q1
 obtain⟨t,rfl⟩:=r1
 exact⟨some i,H1,I1,.int i t,q⟩
def SlR(X:Cx)(r:V→Option Int→Option Int→Hp→VK→Prop):Prop :=
 ∀(pins:List (Addr×Obj)) (s:Shared) (σ:St) (H:Hp) (x:V) (v vl vu:Value) (lo hi:Option Int) (sl:Addr) (Q:VK),Inv X pins σ H s→RelV x v→s.heap.IsSliceOf sl vl vu .none→IsPart vl lo→IsPart vu hi→r x lo hi H Q →
  ∃T id,typeLookup (.type T) "__getitem__" = pure (some (.builtin id))∧s.TypeIs v T∧wpAny (model X.prog X.w) X.A (getItem v (.ref sl)) (EP X pins σ Q) X.xe s
def tSl(r:V→Option Int→Option Int→Hp→VK→Prop)(te:TE)(tl th:TO):TE:=fun σ H Q=>te σ H fun x H1=>tl σ H1 fun l H2=>th σ H2 fun u H3=>r x l u H3 Q
theorem a1A{r:V→Option Int→Option Int→Hp→VK→Prop}(hr:SlR X r)(he:PE X e te)(hl:PO X lo tl)(hu:PO X hi th):PE X (.Subscript e (.Slice lo hi none p2) pos) (tSl r te tl th):=by
 intro pins s σ H Q I h
 refine Subscript_ (t6 (he pins s σ H _ I h) fun v s1 ⟨x,H1,I1,r1,q1⟩=>?_)
 refine wpAny_Slice (t6 (hl pins s1 σ H1 _ I1 q1) fun vl s2 ⟨l,H2,I2,pl,q2⟩=>t6 (hu pins s2 σ H2 _ I2 q2) fun vu s3 ⟨u,H3,I3,pu,q3⟩=>?_)
 rw[evalPart_none]
 refine wpAny_pure ?_
 have I4:Inv X pins σ H3 { s3 with heap:=s3.heap.push { cls:=.type "slice",data:=.fields #[vl,vu,.none] } }:=I3.kept (t':=s3.toks) fun b ob q=>Heap.get?_push_of_some _ q
 obtain⟨T,id,hT,ht,hg⟩:=hr pins { s3 with heap:=s3.heap.push { cls:=.type "slice",data:=.fields #[vl,vu,.none] } } σ H3 x v vl vu l u s3.heap.objs.size Q I4 r1 (Heap.IsSliceOf.new ..) pl pu q3
 show wpAny (model X.prog X.w) X.A (subscriptTail e (.Slice lo hi none p2) v (.ref s3.heap.objs.size)) (EP X pins σ Q) X.xe { s3 with heap:=s3.heap.push { cls:=.type "slice",data:=.fields #[vl,vu,.none] } }
 exact tail_any (ops:=[.ref s3.heap.objs.size,v]) ht hT hg (by with_unfolding_all rfl)
def a3U(xs:List V)(lo hi:Option Int):List V:=(xs.drop (HT.sIx xs.length 0 lo)).take (HT.sIx xs.length xs.length hi-HT.sIx xs.length 0 lo)
theorem a6l(xs:List V)(lo hi:Option Int):(a3U xs lo hi).length≤xs.length:=by
 unfold a3U
 rw[List.length_take,List.length_drop]
 omega
end
def V2(n:Nat)(i:Int):Option Nat:=if 0≤i then(if i<n then some i.toNat else none)else if -(n:Int)≤i then some (i+n).toNat else none
def atI{α:Type}(xs:List α)(i:Int):Option α:=(V2 xs.length i).bind fun j=>xs[j]?
theorem a6I{n:Nat}{i:Int}{j:Nat}(h:V2 n i=some j):seqIndex? i n=some j∧j<n∧-(n:Int)≤i∧i<n:=by
 unfold V2 at h
 by_cases h0:0≤i
 ·rw[if_pos h0]at h
  by_cases h1:i<n
  ·rw[if_pos h1]at h
   have e:i.toNat=j:=Option.some.inj h
   exact⟨by rw[seqIndex_of h0 h1,e],by omega,by omega,h1⟩
  ·rw[if_neg h1]at h;cases h
 ·rw[if_neg h0]at h
  by_cases h1 : -(n:Int)≤i
  ·rw[if_pos h1]at h
   have e:(i+n).toNat=j:=Option.some.inj h
   exact⟨by rw[seqIndex_neg (by omega) h1,e],by omega,h1,by omega⟩
  ·rw[if_neg h1]at h;cases h
theorem a6J{α:Type}{xs:List α}{i:Int}{v:α}(h:atI xs i=some v):∃j,seqIndex? i xs.length=some j∧xs[j]? = some v∧j<xs.length∧-(xs.length:Int)≤i∧i<xs.length:=by
 unfold atI at h
 cases e:V2 xs.length i with
 | none=>rw[e]at h;cases h
 | some j =>
  rw[e]at h
  obtain⟨h1,h2,h3,h4⟩:=a6I e
  exact⟨j,h1,h,h2,h3,h4⟩
theorem a9L{α:Type}(xs:List α)(v:α):atI (xs++[v]) (-1)=some v:=by
 have hl:(xs++[v]).length=xs.length+1:=by simp
 have e:V2 (xs++[v]).length (-1)=some xs.length:=by
  unfold V2
  rw[hl,if_neg (by decide),if_pos (by omega)]
  congr 1
  omega
 unfold atI
 rw[e]
 show(xs++[v])[xs.length]? = some v
 simp
def b1D(b:Expr):Prop:=∀o i,subscripted b false o i=operate [o,i] (getItem o i)
def IxR(X:Cx)(r:R2):Prop :=
 ∀(value slice:Expr) (pins:List (Addr×Obj)) (s:Shared) (σ:St) (H:Hp) (x y:V) (v u:Value) (Q:VK),Inv X pins σ H s→RelV x v→RelV y u→r x y H Q →
  subscripted slice false v u=operate [v,u] (getItem v u)→wpAny (model X.prog X.w) X.A (subscriptTail value slice v u) (EP X pins σ Q) X.xe s
def MtR(X:Cx)(id:String)(r:V→List V→Hp→VK→Prop):Prop :=
 ∀(pins:List (Addr×Obj)) (s:Shared) (σ:St) (H:Hp) (x:V) (xs:List V) (v:Value) (us:List Value) (Q:VK),Inv X pins σ H s→RelV x v→Vals xs us→r x xs H Q →
  wpAny (model X.prog X.w) X.A (call (.builtin id) (v::us)) (EP X pins σ Q) X.xe s
section
variable {X:Cx}{a b:Expr}{ta tb:TE}{pos:Pos}
theorem i5{r:R2}(hr:IxR X r)(ha:PE X a ta)(hb:PE X b tb)(hs:b1D b):PE X (.Subscript a b pos) (tOp r ta tb):=by
 intro pins s σ H Q I h
 exact Subscript_ (a9J ha hb I h fun v u s2 x y H2 I2 rx ry q=>hr a b pins s2 σ H2 x y v u Q I2 rx ry q (hs _ _))
def a9M(K:W.Frag):R2:=fun x y H Q=>∃p xs i v,x=.ref p∧y=.int i∧SqL K H p xs∧atI xs i=some v∧Q v H
def a9N(K:W.Frag):R2:=fun x y H Q=>∃p xs i v,x=.ref p∧y=.int i∧SqT K H p xs∧atI xs i=some v∧Q v H
theorem b1E:IxR X (a9M X.K):=by
 intro value slice pins s σ H x y v u Q I rx ry h hs
 obtain⟨p,xs,i,z,rfl,rfl,hq,he,q⟩:=h
 cases rx
 obtain⟨t,rfl⟩:=ry
 obtain⟨its,r,pl,hz⟩:=I.list hq
 obtain⟨j,h1,h2,h3,h4,h5⟩:=a6J he
 obtain⟨w,ew,rw'⟩:=r.get h2
 have hl:=r.length
 have hn:=a3a
 have fin:EP X pins σ Q w s:=⟨z,H,I,rw',q⟩
 by_cases h0:0≤i
 ·have hj:i.toNat=j:=by
   rw[seqIndex_of h0 h5]at h1
   exact Option.some.inj h1
  exact item_listR pl.isList h0 (by omega) (by rw[hj];simpa using ew) fin hs
 ·have hj:(i+(its.toArray.size:Int)).toNat=j:=by
   rw[seqIndex_neg (by omega) h4]at h1
   rw[List.size_toArray,← hl]
   exact Option.some.inj h1
  exact subscriptTail_builtinR (x:=w) pl.isList.typeIs slot_list_getitem.lookup
   (wpAny_getItem_list_neg (Q:=fun r s'=>r=w∧EP X pins σ Q r s') pl.isList (by omega) (by rw[List.size_toArray]<;>omega) (by omega) (by rw[hj];simpa using ew) ⟨rfl,fin⟩) hs
theorem b3r:IxR X (a9N X.K):=by
 intro value slice pins s σ H x y v u Q I rx ry h hs
 obtain⟨p,xs,i,z,rfl,rfl,hq,he,q⟩:=h
 cases rx
 obtain⟨t,rfl⟩:=ry
 obtain⟨its,r,pl,hz⟩:=I.tuple hq
 obtain⟨j,h1,h2,h3,h4,h5⟩:=a6J he
 obtain⟨w,ew,rw'⟩:=r.get h2
 have hl:=r.length
 have hn:=a3a
 have fin:EP X pins σ Q w s:=⟨z,H,I,rw',q⟩
 exact subscriptTail_builtinR (x:=w) pl.typeIs slot_tuple_getitem.lookup
  (getItem_tuple (j:=j) (Q:=fun r s'=>r=w∧EP X pins σ Q r s') pl (by omega) (by omega) (by rw[List.size_toArray,← hl];exact h1) (by simpa using ew) ⟨rfl,fin⟩) hs
theorem a7v(its:List Value)(n j:Nat)(u:Value):Obj.mapSeq (·.setIfInBounds j u) { cls:=.type "list",data:=.seq its.toArray n }={ cls:=.type "list",data:=.seq (its.set j u).toArray n }:=by
 simp[Obj.mapSeq]
theorem Inv.lst{pins:List (Addr×Obj)}{σ:St}{H:Hp}{s:Shared}{p:Addr}{xs:List V}(I:Inv X pins σ H s)(h:H p=some (.lst xs)) :
  ∃(its:List Value) (n:Nat),Vals xs its∧s.heap.get? p=some { cls:=.type "list",data:=.seq its.toArray n }∧xs.length≤sizeLine:=by
 obtain⟨z,its,n,r,e⟩:=I.hok p _ h
 exact⟨its,n,r,e,z⟩
theorem Inv.lstUpd{pins:List (Addr×Obj)}{σ:St}{H:Hp}{s:Shared}{p:Addr}{xs ys:List V}{its its':List Value}{n n':Nat}{f:Obj→Obj}(I:Inv X pins σ H s)(h:H p=some (.lst xs))
  (ho:s.heap.get? p=some { cls:=.type "list",data:=.seq its.toArray n }) (hf:f { cls:=.type "list",data:=.seq its.toArray n }={ cls:=.type "list",data:=.seq its'.toArray n' }) (r:Vals ys its') (hz:ys.length≤sizeLine) (t:Nat) :
  Inv X pins σ (upd H p (.lst ys)) { s with heap:=s.heap.update p f,toks:=t }:=by
 have e:(s.heap.update p f).get? p=some { cls:=.type "list",data:=.seq its'.toArray n' }:=by
  rw[Heap.get?_update_self f ho (by rw[hf]<;>rfl),hf]
 refine I.write (x:=p) (e:=p) (by rw[h];trivial) (.inl rfl) (fun b u hb q=>(Heap.get?_update_other _ _ (Ne.symm hb)).trans q) ⟨_,e⟩ ?_
 exact⟨hz,its',n',r,e⟩
def b1c:V→V→V→Hp→(Hp→Prop)→Prop:=fun o i v H Q=>∃p xs k j,o=.ref p∧i=.int k∧H p=some (.lst xs)∧V2 xs.length k=some j∧Q (upd H p (.lst (xs.set j v)))
theorem a0R:b3g X b1c:=by
 intro pins s σ H o i v ov iv u Q I ro ri rv h
 obtain⟨p,xs,k,j,rfl,rfl,hp,hj,q⟩:=h
 cases ro
 obtain⟨t,rfl⟩:=ri
 obtain⟨its,n,r,ho,hz⟩:=I.lst hp
 obtain⟨h1,h2,h3,h4⟩:=a6I hj
 have hl:=r.length
 have hn:=a3a
 have I':Inv X pins σ (upd H p (.lst (xs.set j v))) { s with heap:=s.heap.update p (Obj.mapSeq (·.setIfInBounds j u)) } :=
  I.lstUpd hp ho (a7v its n j u) (r.set rv j) (by rw[List.length_set];exact hz) s.toks
 by_cases h0:0≤k
 ·have hk:k.toNat=j:=by
   rw[seqIndex_of h0 h4]at h1
   exact Option.some.inj h1
  exact W.ki_setAt ho h0 (by omega) (by rw[List.size_toArray,← hl];exact h4) (by rw[hk];exact⟨_,I',q⟩)
 ·have hk:(k+(its.toArray.size:Int)).toNat=j:=by
   rw[seqIndex_neg (by omega) h3]at h1
   rw[List.size_toArray,← hl]
   exact Option.some.inj h1
  exact W.ki_setBack ho (by omega) (by rw[List.size_toArray,← hl];exact h3) (by omega) (by rw[hk];exact⟨_,I',q⟩)
theorem a5l(lo hi:Option Int)(n:Nat):(sliceBounds lo hi none n).1=((HT.sIx n 0 lo:Nat):Int)∧(sliceBounds lo hi none n).2.1=((HT.sIx n n hi:Nat):Int)∧(sliceBounds lo hi none n).2.2=1:=by
 refine⟨?_,?_,rfl⟩
 ·cases lo with
  | none=>simp[sliceBounds,HT.sIx]
  | some i =>
   simp only[sliceBounds,HT.sIx,Option.getD_none,show(1:Int) > 0 by decide,if_true]
   by_cases h:i<0
   ·simp only[h,if_true]<;>omega
   ·simp only[h,if_false]<;>omega
 ·cases hi with
  | none=>simp[sliceBounds,HT.sIx]
  | some i =>
   simp only[sliceBounds,HT.sIx,Option.getD_none,show(1:Int) > 0 by decide,if_true]
   by_cases h:i<0
   ·simp only[h,if_true]<;>omega
   ·simp only[h,if_false]<;>omega
theorem a41(its:List Value)(lo hi:Option Int):slicePick its.toArray lo hi none=((its.drop (HT.sIx its.length 0 lo)).take (HT.sIx its.length its.length hi-HT.sIx its.length 0 lo)).toArray:=by
 obtain⟨h1,h2,h3⟩:=a5l lo hi its.toArray.size
 unfold slicePick
 rw[h1,h2,h3]
 simp only[sliceRange_one,pick_run,List.size_toArray]<;>rfl
def a9O(K:W.Frag):V→Option Int→Option Int→Hp→VK→Prop:=fun x lo hi H Q=>∃a xs,x=.ref a∧SqL K H a xs∧∀p,H p=none→Q (.ref p) (upd H p (.lst (a3U xs lo hi)))
theorem b1F:SlR X (a9O X.K):=by
 intro pins s σ H x v vl vu lo hi sl Q I rx hs pl pu h
 obtain⟨a,xs,rfl,hx,q⟩:=h
 cases rx
 obtain⟨its,r,ht,hz⟩:=I.list hx
 have hlen:=r.length
 refine⟨"list",_,slot_list_getitem.lookup,ht.isList.typeIs,?_⟩
 refine wpAny_getItem_list_slice ht.isList hs pl pu .none (by simp) ?_ (by rw[List.size_toArray]<;>omega)
 rw[a41,← hlen]
 refine⟨.ref s.heap.objs.size,_,I.laid (t':=s.toks) (o:=.lst (a3U xs lo hi)) (fun b ob q=>Heap.get?_push_of_some _ q) (Nat.le_refl _) ?_,rfl,q _ (I.hok.fresh (Nat.le_refl _))⟩
 exact⟨Nat.le_trans (a6l xs lo hi) hz,_,0,(r.drop (HT.sIx xs.length 0 lo)).take (HT.sIx xs.length xs.length hi-HT.sIx xs.length 0 lo),Heap.get?_push_size _ rfl⟩
def a48:V→Bool
 | .non=>true
 | .bl _=>true
 | .int _=>true
 | .str _=>true
 | _=>false
def eqV:V→V→Bool
 | .non,.non=>true
 | .bl a,.bl b=>a == b
 | .bl a,.int b=>(if a then 1 else 0) == b
 | .int a,.bl b=>a == (if b then 1 else 0)
 | .int a,.int b=>a == b
 | .str a,.str b=>a == b
 | _,_=>false
theorem b3t{A:Around}{s:Shared}{y x:V}{u v:Value}(ry:RelV y u)(rx:RelV x v)(fy:a48 y=true)(fx:a48 x=true):SeqAt.EqAt A s u v (eqV y x):=by
 cases y with
 | non =>
  cases ry
  cases x with
  | non=>cases rx;exact SeqAt.EqAt.same _
  | bl b=>cases rx;exact SeqAt.EqAt.none_bool b
  | int b=>obtain⟨t,rfl⟩:=rx;exact SeqAt.EqAt.none_int b t
  | str b=>obtain⟨t,rfl⟩:=rx;exact SeqAt.EqAt.none_str b t
  | _=>exact absurd (show false=true from fx) Bool.false_ne_true
 | bl a =>
  cases ry
  cases x with
  | non=>cases rx;exact SeqAt.EqAt.bool_none a
  | bl b=>cases rx;exact SeqAt.EqAt.bool_bool a b
  | int b=>obtain⟨t,rfl⟩:=rx;exact SeqAt.EqAt.bool_int a b t
  | str b=>obtain⟨t,rfl⟩:=rx;exact SeqAt.EqAt.bool_str a b t
  | _=>exact absurd (show false=true from fx) Bool.false_ne_true
 | int a =>
  obtain⟨t',rfl⟩:=ry
  cases x with
  | non=>cases rx;exact SeqAt.EqAt.int_none a t'
  | bl b=>cases rx;exact SeqAt.EqAt.int_bool a t' b
  | int b=>obtain⟨t,rfl⟩:=rx;exact SeqAt.EqAt.int_int a t' b t
  | str b=>obtain⟨t,rfl⟩:=rx;exact SeqAt.EqAt.int_str a t' b t
  | _=>exact absurd (show false=true from fx) Bool.false_ne_true
 | str a =>
  obtain⟨t',rfl⟩:=ry
  cases x with
  | non=>cases rx;exact SeqAt.EqAt.str_none a t'
  | bl b=>cases rx;exact SeqAt.EqAt.str_bool a t' b
  | int b=>obtain⟨t,rfl⟩:=rx;exact SeqAt.EqAt.str_int a t' b t
  | str b=>obtain⟨t,rfl⟩:=rx;exact SeqAt.EqAt.str_str a t' b t
  | _=>exact absurd (show false=true from fx) Bool.false_ne_true
 | _=>exact absurd (show false=true from fy) Bool.false_ne_true
theorem a5m:T8 X (.builtin "len") (fun xs H Q=>∃p ys,xs=[.ref p]∧(SqL X.K H p ys∨SqT X.K H p ys)∧Q (.int ys.length) H):=by
 intro pins s σ H xs us Q I r h
 obtain⟨p,ys,rfl,hq,q⟩:=h
 obtain⟨u,rfl,rx⟩:=b1a r
 cases rx
 have hn:=a3a
 rcases hq with hq | hq
 ·obtain⟨its,r',pl,hz⟩:=I.list hq
  have hlen:=r'.length
  exact Calls.call_len_list pl.isList (by simp only[List.size_toArray]<;>omega) ⟨.int ys.length,H,I.tok _,⟨s.toks+1,by rw[List.size_toArray,hlen]⟩,q⟩
 ·obtain⟨its,r',pl,hz⟩:=I.tuple hq
  have hlen:=r'.length
  exact len_tuple pl (by simp only[List.size_toArray]<;>omega) ⟨.int ys.length,H,I.tok _,⟨s.toks+1,by rw[List.size_toArray,hlen]⟩,q⟩
theorem a5n:T8 X (.type "list") (fun xs H Q=>∃p ys,xs=[.ref p]∧(SqL X.K H p ys∨SqT X.K H p ys)∧∀l,H l=none→Q (.ref l) (upd H l (.lst ys))):=by
 intro pins s σ H xs us Q I r h
 obtain⟨p,ys,rfl,hq,q⟩:=h
 obtain⟨u,rfl,rx⟩:=b1a r
 cases rx
 have fin:∀(its:List Value),Vals ys its→ys.length≤sizeLine→∀(h':Heap) (c':Nat),(∀b o',s.heap.get? b=some o'→h'.get? b=some o') →
   h'.get? s.heap.objs.size=some { cls:=.type "list",dict:=none,data:=.seq its.toArray c',slots := #[] }→EP X pins σ Q (.ref s.heap.objs.size) { s with heap:=h' }:=fun its r' hz h' c' kp e =>
  ⟨.ref s.heap.objs.size,_,I.laid (t':=s.toks) kp (Nat.le_refl _) (show ObjOk X.prog X.w _ h' _ (.lst ys)from⟨hz,its,c',r',e⟩),rfl,q _ (I.hok.fresh (Nat.le_refl _))⟩
 rcases hq with hq | hq
 ·obtain⟨its,r',pl,hz⟩:=I.list hq
  have hlen:=r'.length
  obtain⟨o,ho,hc,n,hd⟩:=pl.isList
  exact call_list_seq p (.inl rfl) ho hc hd (fun h' c' kp e=>fin its r' hz h' c' kp e) (by simp only[List.size_toArray]<;>omega)
 ·obtain⟨its,r',pl,hz⟩:=I.tuple hq
  have hlen:=r'.length
  obtain⟨o,ho,hc,n,hd⟩:=pl
  exact call_list_seq p (.inr rfl) ho hc hd (fun h' c' kp e=>fin its r' hz h' c' kp e) (by simp only[List.size_toArray]<;>omega)
def tyV(K:W.Frag)(T:String)(x:V)(H:Hp):Prop:=match x with
 | .str _=>T = "str"
 | .int _=>T = "int"
 | .ref p=>(T = "list"∧∃xs,SqL K H p xs)∨(T = "tuple"∧∃o,K.lookup p=some o∧o.cls=.type "tuple"∧o.dict=none) ∨
   (T = "dict"∧((∃kvs,H p=some (.dK kvs))∨∃kvs,H p=some (.dT kvs)))∨(T = "set"∧∃S n,H p=some (.set S n))
 | _=>False
theorem b3v{pins:List (Addr×Obj)}{σ:St}{H:Hp}{s:Shared}{T:String}{x:V}{v:Value}(I:Inv X pins σ H s)(r:RelV x v)(ty:tyV X.K T x H) :
  s.TypeIs v T∧∀a,v=.ref a→∃ob,s.heap.get? a=some ob∧ob.dict=none:=by
 cases x with
 | str z =>
  obtain⟨t,rfl⟩:=r
  cases (show T = "str" from ty)
  exact⟨typeIs_str s z t,fun _ e=>nomatch e⟩
 | int i =>
  obtain⟨t,rfl⟩:=r
  cases (show T = "int" from ty)
  exact⟨typeIs_int s i t,fun _ e=>nomatch e⟩
 | ref p =>
  cases r
  rcases ty with⟨rfl,xs,hq⟩ | ⟨rfl,o,hk,hc,hd⟩ | ⟨rfl,hk⟩ | ⟨rfl,S,n,hk⟩
  ·obtain⟨its,_,pl,_⟩:=I.list hq
   refine⟨pl.isList.typeIs,fun a e=>?_⟩
   cases e
   obtain⟨o,n,e,c,hd,_⟩:=pl
   exact⟨o,e,hd⟩
  ·refine⟨⟨o,I.kIn p o hk,hc⟩,fun a e=>?_⟩
   cases e
   exact⟨o,I.kIn _ o hk,hd⟩
  ·have z:∃o,s.heap.get? p=some o∧o.ExactDict:=by
    rcases hk with⟨kvs,hk⟩ | ⟨kvs,hk⟩
    ·obtain⟨_,_,_,_,o,_,_,e,ex,_⟩:=I.hok p _ hk
     exact⟨o,e,ex⟩
    ·obtain⟨_,_,_,_,o,_,_,e,ex,_⟩:=I.hok p _ hk
     exact⟨o,e,ex⟩
   obtain⟨o,e,ex⟩:=z
   refine⟨⟨o,e,ex.1⟩,fun a e2=>?_⟩
   cases e2
   exact⟨o,e,ex.2.1⟩
  ·obtain⟨o,_,_,_,e,ex,_⟩:=I.hok p _ hk
   refine⟨⟨o,e,ex.1⟩,fun a e2=>?_⟩
   cases e2
   exact⟨o,e,ex.2.1⟩
 | _=>exact False.elim ty
def tBM(K:W.Frag)(T:String)(r:V→List V→Hp→VK→Prop)(to:TE)(t:TA):TE:=fun σ H Q=>to σ H fun x H1=>tyV K T x H1∧t σ H1 fun xs H2=>r x xs H2 Q
variable {o e:Expr}{es:List Expr}{to:TE}{t:TA}{name:Str}{apos cpos:Pos}{T id:String}{r:V→List V→Hp→VK→Prop}
theorem b4B(pa:PlainAttrs T)(slot:Slot T name id)(hty:typeOf (.builtin id)=pure (.type "method_descriptor"))(hm:MtR X id r)(ho:PE X o to)(ha:PA X (e::es) t)
  (hbase:attributeBase o name X.env (eval o X.env)=eval o X.env:=by rfl)
  (hfew:((backTo cpos (starEach (e::es) X.env)).all (fun x=>!x.1) && (backToKw cpos (keywordEach [] X.env)).all (fun x=>x.1.isSome)
   && decide ((e::es).length+([]:List Keyword).length+(if([]:List Keyword).isEmpty then 0 else 1)<30))=true:=by rfl)
  (hline:(apos.endLine == cpos.line)=true:=by rfl) (hs:starEach (e::es) X.env=(false,eval e X.env)::starEach es X.env:=by rfl) (hplain:(backTo cpos (starEach es X.env)).any (·.1)=false:=by rfl) :
  PE X (.Call (.Attribute o name apos) (e::es) [] cpos) (tBM X.K T r to t):=by
 intro pins s σ H Q I h
 refine wpAny_Call_method_late hbase hfew hline rfl (t6 (ho pins s σ H _ I h) fun v s1 ⟨x,H1,I1,r1,ty,q1⟩=>?_)
 obtain⟨h1,h2⟩:=b3v I1 r1 ty
 refine⟨T,id,pa,slot,hty,h1,h2,?_⟩
 have hA:=ha cpos pins s1 σ H1 _ I1 q1
 rw[hs]at hA ⊢
 refine Calls.callWith_builtin (by show(false || (backTo cpos (starEach es X.env)).any (·.1))=false;rw[hplain]<;>rfl) (Calls.evalArgs_plain ?_)
 exact t6 hA fun us s2 ⟨vs,H2,I2,r2,q2⟩=>hm pins s2 σ H2 x vs v us Q I2 r1 r2 q2
end
def MtM(X:Cx)(id:String)(r:V→List V→Hp→VK→Prop):Prop :=
 ∀(pins:List (Addr×Obj)) (s:Shared) (σ:St) (H:Hp) (x:V) (xs:List V) (v:Value) (us:List Value) (Q:VK),Inv X pins σ H s→RelV x v→Vals xs us→r x xs H Q →
  wpAny (model X.prog X.w) X.A (call (.builtin id) (v::us)) (EP X pins σ Q) X.xe s
theorem Vals.one:∀{x:V} {us:List Value},Vals [x] us→∃u,us=[u]∧RelV x u
 | _,_,.cons r .nil=>⟨_,rfl,r⟩
theorem Vals.zero:∀{us:List Value},Vals [] us→us=[]
 | _,.nil=>rfl
theorem Vals.eraseIdx:∀{xs:List V} {us:List Value} (i:Nat),Vals xs us→Vals (xs.eraseIdx i) (us.eraseIdx i)
 | _,_,_,.nil=>.nil
 | _,_,0,.cons _ t=>t
 | _,_,i+1,.cons r t=>.cons r (Vals.eraseIdx i t)
theorem Vals.reverse{xs:List V}{us:List Value}(h:Vals xs us):Vals xs.reverse us.reverse:=by
 induction h with
 | nil=>exact .nil
 | cons r t ih=>rw[List.reverse_cons,List.reverse_cons];exact Vals.append ih (.cons r .nil)
theorem Vals.rep{xs:List V}{us:List Value}(h:Vals xs us):∀k:Nat,Vals (List.replicate k xs).flatten (List.replicate k us).flatten
 | 0=>.nil
 | k+1=>by
  rw[List.replicate_succ,List.replicate_succ,List.flatten_cons,List.flatten_cons]
  exact Vals.append h (Vals.rep h k)
theorem a4x{α:Type}:∀(l:List α) (i:Nat),(l.eraseIdx i).length≤l.length
 | [],_=>Nat.le_refl _
 | _::_,0=>Nat.le_succ _
 | _::r,i+1=>Nat.succ_le_succ (a4x r i)
theorem a4y(its:List Value):∀(k:Nat) (acc:List Value),
  List.foldl (fun x1 x2=>x1++x2) acc.toArray (List.replicate k its.toArray)=(acc++(List.replicate k its).flatten).toArray
 | 0,acc=>by simp
 | k+1,acc=>by
  have e:acc.toArray++its.toArray=(acc++its).toArray:=by simp
  have e2:(acc++its)++(List.replicate k its).flatten=acc++(List.replicate (k+1) its).flatten:=by
   rw[List.replicate_succ,List.flatten_cons,List.append_assoc]
  rw[← e2,← a4y its k (acc++its),← e,List.replicate_succ,List.foldl_cons]
section
variable {X:Cx}{pins:List (Addr×Obj)}{σ:St}{H:Hp}{s:Shared}{l b:Addr}{xs ys zs:List V}
theorem Inv.lset{its its':List Value}{n:Nat}{f:Array Value→Array Value}{t':Nat}(I:Inv X pins σ H s)(hH:H l=some (.lst xs))
  (e:s.heap.get? l=some { cls:=.type "list",data:=.seq its.toArray n }) (hf:f its.toArray=its'.toArray) (hv:Vals ys its') (hz:ys.length≤sizeLine) :
  Inv X pins σ (upd H l (.lst ys)) { s with heap:=s.heap.update l (Obj.mapSeq f),toks:=t' }:=by
 have q:=PySem.IsL.update e f
 rw[hf]at q
 refine I.write (x:=l) (e:=l) (by rw[hH];exact trivial) (.inl rfl) (fun b' u hb hu=>(Heap.get?_update_other s.heap (Obj.mapSeq f) (Ne.symm hb)).trans hu) ⟨_,q⟩ ?_
 exact⟨hz,its',_,hv,q⟩
theorem Inv.lnew{its:List Value}{t':Nat}(I:Inv X pins σ H s)(hv:Vals ys its)(hz:ys.length≤sizeLine) :
  Inv X pins σ (upd H s.heap.objs.size (.lst ys)) { s with heap:=s.heap.push { cls:=.type "list",data:=.seq its.toArray },toks:=t' } :=
 I.laid (fun _ _ q=>Heap.get?_push_of_some _ q) (Nat.le_refl _) ⟨hz,its,0,hv,Heap.get?_push_size _ rfl⟩
theorem Inv.fresh(I:Inv X pins σ H s):H s.heap.objs.size=none:=I.hok.fresh (Nat.le_refl _)
theorem Inv.lstM(I:Inv X pins σ H s)(hH:H l=some (.lst xs)):xs.length≤sizeLine∧∃(its:List Value) (n:Nat),Vals xs its∧xs.length=its.length∧s.heap.get? l=some { cls:=.type "list",data:=.seq its.toArray n }:=by
 obtain⟨z,its,n,r,e⟩:=I.hok l _ hH
 exact⟨z,its,n,r,r.length,e⟩
theorem a9P{n:Nat}(h:n≤sizeLine):Builtin.List.listTooLong n=false:=by
 unfold Builtin.List.listTooLong
 exact decide_eq_false (by omega)
end
section
variable {X:Cx}
def a6K:V→List V→Hp→VK→Prop:=fun x vs H Q=>∃l xs y,x=.ref l∧vs=[y]∧H l=some (.lst xs)∧xs.length<sizeLine∧Q .non (upd H l (.lst (xs++[y])))
theorem F5:MtM X "list.append" a6K:=by
 intro pins s σ H x vs v us Q I rx rv h
 obtain⟨l,xs,y,rfl,rfl,hH,hz,q⟩:=h
 cases rx
 obtain⟨u,rfl,ru⟩:=rv.one
 obtain⟨z,its,n,r,hl,e⟩:=I.lstM hH
 refine call_meets F.slot_list_append ⟨_,e,rfl⟩ F.entry_list_append (F.args_list_append_2 _ _) (PySem.list_append l its.toArray n u (by rw[List.size_toArray];omega)) ⟨e,?_⟩
 refine⟨.non,_,I.lset (its':=its++[u]) hH e (by simp) (r.append (.cons ru .nil)) ?_,rfl,q⟩
 rw[List.length_append,List.length_singleton]
 omega
def a8s:V→List V→Hp→VK→Prop:=fun x vs H Q=>∃l xs i k y,x=.ref l∧vs=[.int i]∧H l=some (.lst xs)∧-(2 ^ 63)≤i∧i<2 ^ 63∧seqIndex? i xs.length=some k∧xs[k]? = some y∧Q y (upd H l (.lst (xs.eraseIdx k)))
theorem a9Q:MtM X "list.pop" a8s:=by
 intro pins s σ H x vs v us Q I rx rv h
 obtain⟨l,xs,i,k,y,rfl,rfl,hH,h1,h2,hk,hy,q⟩:=h
 cases rx
 obtain⟨u,rfl,ru⟩:=rv.one
 obtain⟨t,rfl⟩:=ru
 obtain⟨z,its,n,r,hl,e⟩:=I.lstM hH
 obtain⟨w,hw,rw'⟩:=r.get hy
 refine call_meets F.slot_list_pop ⟨_,e,rfl⟩ F.entry_list_pop (F.args_list_pop_2 _ _)
  (MeetsSeq.list_pop_at l its.toArray n i t k w (fitsIndex_both h1 h2) (by rw[List.size_toArray,← hl];exact hk) (by rw[← Array.getElem?_toList];exact hw) (by rw[List.size_toArray];omega)) ⟨e,?_⟩
 refine⟨y,_,I.lset (its':=its.eraseIdx k) hH e ?_ (r.eraseIdx k) ?_,rw',q⟩
 ·show its.toArray.eraseIdxIfInBounds k=(its.eraseIdx k).toArray
  rw[List.eraseIdxIfInBounds_toArray]
 ·have:=a4x xs k
  omega
def b3w:R2:=fun x y H Q=>∃l k xs,x=.ref l∧y=.int k∧H l=some (.lst xs)∧-(2 ^ 63)≤k∧k<2 ^ 63∧xs.length*k.toNat≤sizeLine ∧
 ∀p,H p=none→Q (.ref p) (upd H p (.lst (List.replicate k.toNat xs).flatten))
theorem b1G{α:Type}(xs:List α)(k:Nat):(List.replicate k xs).flatten.length=k*xs.length:=by
 induction k with
 | zero=>simp
 | succ k ih=>rw[List.replicate_succ,List.flatten_cons,List.length_append,ih,Nat.succ_mul,Nat.add_comm]
theorem a8t:V8 X (binaryOp .Mult) b3w:=by
 intro pins s σ H x y v u Q I rx ry h
 obtain⟨l,k,xs,rfl,rfl,hH,h1,h2,hz,q⟩:=h
 cases rx
 obtain⟨t,rfl⟩:=ry
 obtain⟨z,its,n,r,hl,e⟩:=I.lstM hH
 have hlen:its.toArray.size*k.toNat≤sizeLine:=by rw[List.size_toArray,← hl];exact hz
 have hcap:¬its.toArray.size*k.toNat > (2 ^ 63-1)/8:=by
  have:(sizeLine:Nat)≤(2 ^ 63-1)/8:=by decide
  omega
 have hfit:¬(!Builtin.List.listFitsIndex k)=true:=by
  rw[fitsIndex_both h1 h2]
  exact Bool.false_ne_true
 have hlong:¬Builtin.List.listTooLong (its.toArray.size*k.toNat)=true:=by
  rw[a9P hlen]
  exact Bool.false_ne_true
 have hnew:List.foldl (fun x1 x2=>x1++x2) #[] (List.replicate (if its.toArray.isEmpty=true then 0 else k.toNat) its.toArray)=(List.replicate k.toNat its).flatten.toArray:=by
  have f0:∀m:Nat,List.foldl (fun x1 x2=>x1++x2) #[] (List.replicate m its.toArray)=(List.replicate m its).flatten.toArray:=fun m=>by
   have:=a4y its m []
   rw[List.nil_append]at this
   exact this
  rw[f0]
  cases its with
  | nil=>simp
  | cons a r'=>rw[if_neg (by simp)]
 refine wpAny_binaryOp_repeat_ref (T := "list") (U := "int") (by decide) ⟨_,e,rfl⟩ (fun s'=>typeIs_int s' k t) noFill_list_mul F.fills_int_mul F.slot_int_rmul repeat_list F.slot_int_index.lookup
  (call_meets F.slot_int_rmul (typeIs_int s k t) F.entry_int_rmul (F.args_int_rmul_2 _ _) (int___rmul___int_list k t l its.toArray n)
   ⟨e,rfl,⟨_,e,rfl⟩,call_meets F.slot_list_mul ⟨_,e,rfl⟩ F.entry_list_mul (F.args_list_mul_2 _ _) (AutoListH.list___mul___list_int_3 l its.toArray n k t hfit hcap hlong) ⟨e,?_⟩⟩)
 rw[hnew]
 exact⟨.ref _,_,I.lnew (t':=s.toks) (r.rep k.toNat) (by rw[b1G,Nat.mul_comm];exact hz),rfl,q _ I.fresh⟩
end
end L2
namespace Att
open PySem PySem.W PySem.Calls PyProof.Rows
theorem a3d{P:Params}{h:Heap}:∀(ns:List Int) (vs:List Value),WellAll P h vs (ns.map WData.int)→IntsAre vs ns:=by
 intro ns
 induction ns with
 | nil =>
  intro vs w
  rw[List.map_nil]at w
  cases w
  exact .nil
 | cons n ns ih =>
  intro vs w
  rw[List.map_cons]at w
  cases w with
  | cons a b =>
   cases a
   exact .cons _ _ (ih _ b)
theorem script_of{l:OpenLaw}{n:Nat}(hn:l.most=some n){P:Params}{h:Heap}{args:List WData}{vals:List Value}
  (hpre:l.row.toRowW.claim.pre args=true) (hwl:WellAll P h vals args) :
  ∃a vs ns,vals=[Value.ref a]∧args=[WData.list (ns.map WData.int)]∧h.get? a=some { cls:=.type "list",data:=.seq vs.toArray }∧IntsAre vs ns∧ns.length≤n:=by
 have hsh:WShape.hasAll [] args [.list .int]=true:=(pre_splitW hpre).1
 have hc:l.pre.holds [] { args:=args }=true:=(pre_splitW hpre).2
 obtain⟨d,r,rfl,h1,h2⟩:=hasAllW_cons hsh
 obtain rfl:=hasAllW_nil h2
 obtain⟨xs,rfl,h3⟩:=hasW_list h1
 obtain⟨ns,rfl⟩:=items_int h3
 have hlen:ns.length≤n:=by
  unfold OpenLaw.pre at hc
  have h4:(WTm.not (.lt (.lit (.int (n:Int))) (.len (.arg 0)))).holds [] { args:=[.list (ns.map .int)] }=true:=by
   have h4:=(holds_andW hc).1
   rw[hn]at h4
   exact h4
  have h5:=condW_of h4 (w_not (w_lt w_lit (w_len_list (w_arg rfl))))
  rw[List.length_map]at h5
  refine Nat.le_of_not_lt fun q=>?_
  have q':(n:Int)<((ns.length:Nat):Int):=by omega
  first
   | (rw[decide_eq_true q']at h5;exact absurd h5 (by decide))
   | (simp at h5;omega)
 cases hwl with
 | cons w1 w2 =>
  cases w2
  cases w1 with
  | list ho hall=>exact⟨_,_,ns,rfl,rfl,ho,a3d ns _ hall,hlen⟩
theorem post_true(l:OpenLaw)(args:List WData):l.row.toRowW.claim.post args (.bool true) args=true :=
 postW_of (r:=l.row.toRowW) (X:=(true == true))
  (show WShape.has [] (.bool true) .bool=true by first | rfl | decide | simp[WShape.has,WShape.arms,WShape.armsAll])
  (show(WTm.eq .res (.lit (.bool true))).value [] { args:=args,res:=some (.bool true),after:=args }=some (.bool (true == true))from w_eq_bool (w_res rfl) w_lit) rfl
end Att
namespace L2
open PySem PySem.Spec PyProof.Rows
theorem a4z:∀{vs:List Value} {ns:List Int},IntsAre vs ns→Vals (ns.map V.int) vs
 | _,_,.nil=>.nil
 | _,_,.cons n t h=>.cons ⟨t,rfl⟩ (a4z h)
def b5l(H:Hp):Prop:=∀b,H b=none∨∃o xs,H b=some (.frz o (.lst xs))
def n9(s:Stmt):Arguments:=match s with
 | .FunctionDef _ a _ _ _ _ _ _ _ _=>a
 | _=>{ posonlyargs:=[],args:=[],vararg:=none,kwonlyargs:=[],kw_defaults:=[],kwarg:=none,defaults:=[] }
def l7(s:Stmt):List Stmt:=match s with
 | .FunctionDef _ _ b _ _ _ _ _ _ _=>b
 | _=>[]
def c9(s:Stmt):Scope:=match s with
 | .FunctionDef _ _ _ _ _ _ sc _ _ _=>sc
 | _=>{ kind:=.function,names:=[],isGenerator:=false,isCoroutine:=false }
abbrev CX0:CXT:=fun _ _ _ _ _ _=>False
abbrev E0:XK:=fun _ _ _=>False
structure Fun(K:W.Frag)(x qual:Str)(st:Stmt)(f:Addr)(fd:FuncData):Prop where
 ex:∃(oc:Value) (od:Option Addr) (kV doc pm:Value) (an:Option Addr) (cdv ct:Value) (osl:Array (Option Value)),
  fd=W.fnOf x qual (n9 st) (l7 st) (c9 st) .none kV doc pm an cdv ct∧K.lookup f=some ⟨oc,od,.func fd,osl⟩∧W.codeIn K cdv qual=true
 kp:W.keepIn K (.ref f)=true
section
variable {P:Program}{w:World}{K:W.Frag}{mg:Str→Option Value}{base:Heap}
theorem Fun.ok{x qual:Str}{st:Stmt}{f:Addr}{fd:FuncData}{N ps:List Str}{k:Nat}{sp:Sp}(F:Fun K x qual st f fd)(S:FnScope N ps (c9 st))(len:∀vs H Q E,sp vs H Q E→vs.length=ps.length)
  (hbody:∀(cdv:Value) (A:Around) (outer:List Env) (s:Shared) (H:Hp) (vs:List V) (Q:VK) (E:XK),Room k (A.deeper (envOfC qual (c9 st) s.heap.objs.size f cdv))→sp vs H Q E →
   ∃t,PSs (X9 CX0 P w K mg base N qual (c9 st) f cdv A outer s H E).nox (l7 st) t∧t { nx:=fun _ H'=>Q .non H',rt:=Q } (start N vs) H):FnOk P w K mg base CX0 (k+1) f fd ps sp:=by
 obtain⟨oc,od,kV,doc,pm,an,cdv,ct,osl,rfl,lk,hcd⟩:=F.ex
 refine a3b lk hcd S len fun A outer s H vs Q E hr hsp=>?_
 obtain⟨t,h,q⟩:=hbody cdv A outer s H vs Q E hr hsp
 exact⟨t,h.nox,q⟩
theorem Fun.binds{x qual:Str}{st:Stmt}{f:Addr}{fd:FuncData}{ps:List Str}(F:Fun K x qual st f fd)
  (h:∀(kV doc pm:Value) (an:Option Addr) (cdv ct:Value) (us:List Value),us.length=ps.length→bindArgs (W.fnOf x qual (n9 st) (l7 st) (c9 st) .none kV doc pm an cdv ct) ⟨us,[]⟩=pure (ps.zip us)):Binds K fd ps []:=by
 obtain⟨oc,od,kV,doc,pm,an,cdv,ct,osl,rfl,lk,hcd⟩:=F.ex
 exact .all (h kV doc pm an cdv ct)
theorem B2{x qual:Str}{st:Stmt}{f:Addr}{oc:Value}{od an:Option Addr}{osl:Array (Option Value)}{kV doc pm cdv ct:Value}(l:K.lookup f=some ⟨oc,od,.func (W.fnOf x qual (n9 st) (l7 st) (c9 st) .none kV doc pm an cdv ct),osl⟩)
  (c:W.codeIn K cdv qual=true) (k:W.keepIn K (.ref f)=true):Fun K x qual st f (W.fnOf x qual (n9 st) (l7 st) (c9 st) .none kV doc pm an cdv ct):=⟨⟨oc,od,kV,doc,pm,an,cdv,ct,osl,rfl,l,c⟩,k⟩
end
theorem a8u{n:Nat}(h:n≤1000):n<sizeLine:=Nat.lt_of_le_of_lt h (by decide)
section
variable {X:Cx}
theorem pv(i:Nat){x:Str}{pos:Pos}(hN:X.N[i]? = some x:=by rfl)(hv:Vis X.env.scope x:=by first | exact Or.inl rfl | exact Or.inr (Or.inl rfl) | exact Or.inr (Or.inr rfl))(hd:(x == ("__debug__" : Str))=false:=by decide)
  (hcd:(x == ("__classdict__" : Str))=false:=by decide):PE X (.Name x pos) (R9 i):=b28 hN hv hd hcd
end
def Same(H H':Hp):Prop:=∀b o,H b=some o→H' b=some o
theorem Same.refl(H:Hp):Same H H:=fun _ _ h=>h
theorem Same.trans{H H1 H2:Hp}(a:Same H H1)(b:Same H1 H2):Same H H2:=fun c o h=>b c o (a c o h)
theorem Same.free{H H':Hp}(e:Same H H'){l:Addr}(h:H' l=Option.none):H l=Option.none:=by
 cases q:H l with
 | none=>rfl
 | some o =>
  rw[e l o q]at h
  cases h
theorem Same.seq{K:W.Frag}{H H':Hp}{a:Addr}{xs:List V}(e:Same H H')(h:SqL K H a xs):SqL K H' a xs:=by
 rcases h with(h | ⟨o,h⟩) | h
 ·exact .inl (.inl (e _ _ h))
 ·exact .inl (.inr ⟨o,e _ _ h⟩)
 ·exact .inr h
end L2
set_option maxHeartbeats 4000000
namespace L2
open PySem PySem.Spec PyProof.Rows
theorem ObjOk.there{P:Program}{w:World}{H:Hp}{h:Heap}{a:Addr}{o:HO}(x:ObjOk P w H h a o):∃ob,h.get? a=some ob:=by
 cases o with
 | lst xs=>obtain⟨_,_,_,_,e⟩:=x;exact⟨_,e⟩
 | tup xs=>obtain⟨_,_,_,p⟩:=x;obtain⟨o,e,_⟩:=p;exact⟨_,e⟩
 | dK kvs=>obtain⟨_,_,_,_,o,_,_,e,_⟩:=x;exact⟨_,e⟩
 | dT kvs=>obtain⟨_,_,_,_,o,_,_,e,_⟩:=x;exact⟨_,e⟩
 | set S n=>obtain⟨o,_,_,_,e,_⟩:=x;exact⟨_,e⟩
 | ins C dx fs=>obtain⟨_,_,_,e,_⟩:=x;exact⟨_,e⟩
 | own y=>obtain⟨_,e⟩:=x;exact⟨_,e⟩
 | xd fs=>obtain⟨_,⟨_,_,_,e,_⟩,_⟩:=x;exact⟨_,e⟩
 | rng lo hi=>obtain⟨_,_,_,e⟩:=x;exact⟨_,e⟩
 | frz ob u=>obtain⟨e,_⟩:=x;exact⟨_,e⟩
 | tbl ps=>obtain⟨_,e,_⟩:=x;exact⟨_,e⟩
 | met f y=>exact⟨_,(show h.get? a=some _ from x)⟩
 | ext φ=>obtain⟨_,⟨_,e⟩,_⟩:=x;exact⟨_,e⟩
def Imp(X:Cx)(pins:List (Addr×Obj))(H:Hp)(b:Addr):Prop:=H b≠none∨(b ∉ X.ex∧∃o,X.s₀.heap.get? b=some o)∨∃p∈X.pn++pins,p.1=b
def a2Q:Option Addr→Value
 | none=>.none
 | some n=>if n%2=0 then .ref (n/2)else .none
def a2R:Option Addr→Option Addr
 | none=>none
 | some n=>if n%2=0 then none else some (n/2)
def TrX(h B:Heap)(e:Addr)(cls:Value)(cx:Option Addr)(fl:Value):Prop :=
 ∃oe vs T oT ts,(h.get? e=some oe∧oe.cls=cls∧oe.data=.fields vs∧oe.dict=a2R cx)∧(vs[1]? = some (.ref T)∧vs[2]? = some (a2Q cx))∧(B.get? T=none∧T≠e)∧h.get? T=some oT∧oT.data=.fields ts∧ts[3]? = some fl
theorem Obj.dict_mapF(o:Obj)(g:Array Value→Array Value):(Obj.mapFields g o).dict=o.dict:=by
 obtain⟨a,b,c,d⟩:=o
 cases c<;>rfl
theorem a0S(T:Addr):(Value.ref T != Value.none)=true:=by simp
inductive Ph where | new | fly | any
def XTr(B h:Heap)(a:Addr)(cls:Value)(cx:Option Addr):Ph→Prop
 | .new=>∃oe vs,h.get? a=some oe∧oe.cls=cls∧oe.data=.fields vs∧vs[1]? = some .none∧vs[2]? = some (a2Q cx)∧oe.dict=a2R cx
 | .fly=>TrX h B a cls cx .none
 | .any=>∃fl,TrX h B a cls cx fl
theorem XTr.there{B h:Heap}{a:Addr}{cls:Value}{cx:Option Addr}{ph:Ph}(x:XTr B h a cls cx ph):∃oe vs,h.get? a=some oe∧oe.cls=cls∧oe.data=.fields vs∧vs[2]? = some (a2Q cx)∧oe.dict=a2R cx:=by
 cases ph with
 | new=>obtain⟨oe,vs,h1,h2,h3,_,h4,h5⟩:=x;exact⟨oe,vs,h1,h2,h3,h4,h5⟩
 | fly=>obtain⟨oe,vs,_,_,_,⟨h1,h2,h3,h5⟩,⟨_,h4⟩,_⟩:=x;exact⟨oe,vs,h1,h2,h3,h4,h5⟩
 | any=>obtain⟨_,oe,vs,_,_,_,⟨h1,h2,h3,h5⟩,⟨_,h4⟩,_⟩:=x;exact⟨oe,vs,h1,h2,h3,h4,h5⟩
section
variable {M:Model}{A:Around}{E:Value→Shared→Prop}{s:Shared}
def a3e(B:Heap)(l:List Env)(e:Addr)(cls:Value)(cx:Option Addr)(fl:Value)(h h':Heap):Prop:=B.StaysIn h'∧h'.FunFrames B l∧TrX h' B e cls cx fl∧h.UpToSlots h'
theorem a6L{B:Heap}{env:Env}{outer:List Env}{L e:Addr}{oe:Obj}{vs:Array Value}{head:Value}{cx:Option Addr}{nx:Bool}{Q:Unit→Shared→Prop}(fr:A.frames=some (env::outer))(ff:s.heap.FunFrames B (env::outer))(hf:env.frame=some L)
  (ge:s.heap.get? e=some oe) (st:B.StaysIn s.heap) (be:B.get? e=none) (de:oe.data=.fields vs) (z1:1<vs.size) (z2:vs[2]? = some (a2Q cx)) (z6:oe.dict=a2R cx) (q:∀h',a3e B (env::outer) e oe.cls cx (rawInt L) s.heap h'→Q () { s with heap:=h' }) :
  wpAny M A (do let a ← frameOf env;let pl ← entryPlaceOf L nx;let b ← EntryCells.newEntry head a .none (rawInt L) .none pl;setField (.ref e) 1 b) Q E s:=by
 have nf:∀b o,s.heap.get? b=some o→(∀ws,o.data≠.fields ws)→b≠e:=fun b o gb nb zb=>by subst zb;rw[ge]at gb;cases gb;exact nb vs de
 have out:e ∉ (env::outer).filterMap (·.frame):=fun m=>by obtain⟨_,o,go,no⟩:=ff.mem m;exact nf e o go no rfl
 refine wpAny_bind (wpAny_frameOf_fun fr ff hf fun h1 only=>wpAny_bind (wpAny_entryPlaceOf fun pl place=>?_))
 unfold EntryCells.newEntry newFields
 refine wpAny_bind (wpAny_newObj_type ?_ (place.sizeOk5 _ _ _ _ _))
 have ge1:h1.get? e=some oe:=(only.2.1 e out).trans ge
 have st1:B.StaysIn h1:=fun b o gb=>(only.2.1 b fun m=>by have:=(ff.mem m).1;rw[this]at gb;cases gb).trans (st b o gb)
 have ne1:h1.objs.size≠e:=fun z=>absurd (Heap.lt_size ge1) (by rw[z];exact Nat.lt_irrefl _)
 refine wpAny_setField (Heap.get?_push_of_some _ ge1) de z1 (q _ ?_)
 have far:∀{ob:Obj} {g:Obj→Obj} {b:Addr} {o:Obj},b≠e→h1.get? b=some o→((h1.push ob).update e g).get? b=some o:=fun ne gb=>(Heap.get?_update_other _ _ (Ne.symm ne)).trans (Heap.get?_push_of_some _ gb)
 refine⟨fun b o gb=>far (fun z=>by rw[z,be]at gb;cases gb) (st1 b o gb),ff.of_keeps fun b o gb nb=>?_,?_,fun b o gb nb=>?_⟩
 ·obtain⟨sl,g⟩:=only.2.2 b o gb;exact⟨_,far (nf b o gb nb) g,rfl⟩
 ·have dd:=Obj.data_mapFields de (·.setIfInBounds 1 (Value.ref h1.objs.size))
  refine⟨_,_,h1.objs.size,_,_,⟨Heap.get?_update_self _ (Heap.get?_push_of_some _ ge1) (Obj.isFreed_of_fields dd),Obj.cls_mapFields _ _,dd,(Obj.dict_mapF _ _).trans z6⟩,⟨by simp[z1],by rw[Array.getElem?_setIfInBounds_ne (by decide)];exact z2⟩,⟨st1.fresh,ne1⟩,(Heap.get?_update_other _ _ (Ne.symm ne1)).trans (Heap.get?_push_size h1 rfl),rfl,?_⟩
  first | (simp;done) | (rcases place with rfl | ⟨_,_,_,_,_,_,_,rfl⟩<;>simp)
 ·obtain⟨sl,g⟩:=only.2.2 b o gb;exact⟨sl,far (nf b o gb nb) g⟩
theorem a7w{B:Heap}{env:Env}{outer:List Env}{L e:Addr}{oe:Obj}{vs:Array Value}{cx:Option Addr}{Q:Unit→Shared→Prop}(fr:A.frames=some (env::outer))(ff:s.heap.FunFrames B (env::outer))(hf:env.frame=some L)
  (ge:s.heap.get? e=some oe) (st:B.StaysIn s.heap) (be:B.get? e=none) (de:oe.data=.fields vs) (z1:vs[1]? = some .none) (z2:vs[2]? = some (a2Q cx)) (z6:oe.dict=a2R cx) (q:∀h',a3e B (env::outer) e oe.cls cx (rawInt L) s.heap h'→Q () { s with heap:=h' }):wpAny M A (noteFrame (.ref e) env) Q E s:=by
 unfold noteFrame
 simp only[hf]
 refine wpAny_bind (wpAny_field ge de z1 ?_)
 rw[if_neg (by decide)]
 exact a6L fr ff hf ge st be de (Array.getElem?_eq_some_iff.mp z1).1 z2 z6 q
theorem b1H{B:Heap}{env:Env}{outer:List Env}{L e:Addr}{cls:Value}{cx:Option Addr}{Q:Unit→Shared→Prop}(fr:A.frames=some (env::outer))(ff:s.heap.FunFrames B (env::outer))(hf:env.frame=some L)
  {fl:Value} (t:TrX s.heap B e cls cx fl) (nl:¬(fl == rawInt L)=true) (st:B.StaysIn s.heap) (be:B.get? e=none) (q:∀h',a3e B (env::outer) e cls cx (rawInt L) s.heap h'→Q () { s with heap:=h' }):wpAny M A (noteFrame (.ref e) env) Q E s:=by
 obtain⟨oe,vs,T,oT,ts,⟨ge,rfl,de,z6⟩,⟨z1,z2⟩,⟨bT,nT⟩,gT,dT,z3⟩:=t
 unfold noteFrame
 simp only[hf]
 refine wpAny_bind (wpAny_field ge de z1 ?_)
 rw[if_pos (a0S T)]
 refine wpAny_bind (wpAny_field gT dT z3 ?_)
 rw[if_neg nl]
 refine wpAny_bind (wpAny_setField gT dT (Array.getElem?_eq_some_iff.mp z3).1 ?_)
 have far:∀{g:Obj→Obj} b,b≠T→(s.heap.update T g).get? b=s.heap.get? b:=fun b ne=>Heap.get?_update_other _ _ (Ne.symm ne)
 have nf:∀b o,s.heap.get? b=some o→(∀ws,o.data≠.fields ws)→b≠T:=fun b o gb nb zb=>by subst zb;rw[gT]at gb;cases gb;exact nb ts dT
 refine a6L fr (ff.of_keeps fun b o gb nb=>⟨o,(far b (nf b o gb nb)).trans gb,rfl⟩) hf ((far e (Ne.symm nT)).trans ge) (fun b o gb=>(far b fun z=>by rw[z,bT]at gb;cases gb).trans (st b o gb)) be de (Array.getElem?_eq_some_iff.mp z1).1 z2 z6 fun h' x=>q h' ⟨x.1,x.2.1,x.2.2.1,fun b o gb nb=>?_⟩
 exact x.2.2.2 b o ((far b (nf b o gb nb)).trans gb) nb
theorem a7x{B:Heap}{env:Env}{L e:Addr}{cls:Value}{cx:Option Addr}{fl:Value}{Q:Unit→Shared→Prop}(hf:env.frame=some L)(t:TrX s.heap B e cls cx fl)(el:(fl == rawInt L)=true)(q:Q () s):wpAny M A (noteFrame (.ref e) env) Q E s:=by
 obtain⟨oe,vs,T,oT,ts,⟨ge,rfl,de,z6⟩,⟨z1,z2⟩,⟨bT,nT⟩,gT,dT,z3⟩:=t
 unfold noteFrame
 simp only[hf]
 refine wpAny_bind (wpAny_field ge de z1 ?_)
 rw[if_pos (a0S T)]
 refine wpAny_bind (wpAny_field gT dT z3 ?_)
 rw[if_pos el]
 exact wpAny_pure q
theorem a5o{B:Heap}{l:List Env}{e:Addr}{cls fl:Value}{cx fr:Option Addr}{Q:Unit→Shared→Prop}(st:B.StaysIn s.heap)(ff:s.heap.FunFrames B l)(t:TrX s.heap B e cls cx fl)
  (q:∀h',a3e B l e cls cx (fr.elim Value.none fun f=>rawInt f) s.heap h'→Q () { s with heap:=h' }):wpAny M A (setFlight (.ref e) fr) Q E s:=by
 obtain⟨oe,vs,T,oT,ts,⟨ge,rfl,de,z6⟩,⟨z1,z2⟩,⟨bT,nT⟩,gT,dT,z3⟩:=t
 have z4:3<ts.size:=(Array.getElem?_eq_some_iff.mp z3).1
 have far:∀{g:Obj→Obj} b,b≠T→(s.heap.update T g).get? b=s.heap.get? b:=fun b ne=>Heap.get?_update_other _ _ (Ne.symm ne)
 have nf:∀b o,s.heap.get? b=some o→(∀ws,o.data≠.fields ws)→b≠T:=fun b o gb nb zb=>by subst zb;rw[gT]at gb;cases gb;exact nb ts dT
 unfold setFlight
 refine wpAny_bind (wpAny_field ge de z1 ?_)
 rw[if_pos (a0S T)]
 refine wpAny_setField gT dT z4 (q _ ⟨fun b o gb=>(far b fun z=>by rw[z,bT]at gb;cases gb).trans (st b o gb),ff.of_keeps fun b o gb nb=>⟨o,(far b (nf b o gb nb)).trans gb,rfl⟩,?_,fun b o gb nb=>⟨o.slots,(far b (nf b o gb nb)).trans gb⟩⟩)
 have dd:=Obj.data_mapFields dT (·.setIfInBounds 3 (fr.elim Value.none fun f=>rawInt f))
 exact⟨oe,vs,T,_,_,⟨(far e (Ne.symm nT)).trans ge,rfl,de,z6⟩,⟨z1,z2⟩,⟨bT,nT⟩,Heap.get?_update_self _ gT (Obj.isFreed_of_fields dd),dd,by simp[z4]⟩
end
structure XAt(X:Cx)(pins:List (Addr×Obj))(H:Hp)(s:Shared)(a:Addr)(cls:Value)(cx:Option Addr)(B:Heap)(ph:Ph):Prop where
 free:H a=none
 stays:B.StaysIn s.heap
 fresh:B.get? a=none
 frames:s.heap.FunFrames B X.stack
 cov:∀b o,s.heap.get? b=some o→Imp X pins H b→b ∉ L7 X.stack→B.get? b=some o
 tr:XTr B s.heap a cls cx ph
section
variable {X:Cx}{pins:List (Addr×Obj)}{σ:St}{H:Hp}{s:Shared}{a:Addr}{cls:Value}{cx:Option Addr}{B h':Heap}{ph:Ph}
theorem Imp.there(I:Inv X pins σ H s){b:Addr}(i:Imp X pins H b):∃o,s.heap.get? b=some o:=by
 rcases i with i | ⟨hx,o,i⟩ | ⟨p,hp,e⟩
 ·cases q:H b with
  | none=>exact absurd q i
  | some u=>exact(I.hok b u q).there
 ·exact I.base.there b o i hx
 ·exact⟨p.2,by rw[← e];exact(I.pin p hp).1⟩
theorem Inv.exc(I:Inv X pins σ H s)(cov:∀b o,s.heap.get? b=some o→Imp X pins H b→b ∉ L7 X.stack→B.get? b=some o)(st:B.StaysIn h')(ups:s.heap.UpToSlots h') :
  Inv X pins σ H { s with heap:=h' }:=by
 have fr:∀b,b∈L7 X.stack→∀o,s.heap.get? b=some o→∃sl,h'.get? b=some { o with slots:=sl }:=fun b hb o e=>by
  obtain⟨_,o',e',d⟩:=I.stack.mem hb
  rw[e]at e';cases e'
  exact ups b o e d
 have nfr:∀b,b ∉ X.fs→b≠X.env.locals→b ∉ L7 X.stack:=fun b h1 h2 z=>(List.mem_cons.mp (I.stkSub b z)).elim h2 h1
 have neL:∀b o,X.s₀.heap.get? b=some o→b≠X.env.locals:=fun b o e=>Nat.ne_of_lt (Nat.lt_of_lt_of_le (Heap.lt_size e) I.ok.above)
 have cellK:∀c v,s.heap.IsCell c v→h'.IsCell c v:=fun c v ⟨o,ho,hd⟩=>by
  obtain⟨sl,q⟩:=ups c o ho (fun vs z=>by rw[hd]at z;cases z)
  exact⟨_,q,hd⟩
 refine⟨I.ok,I.os,I.bare,⟨fun b o e n hb hx=>?_,fun b o e n hb hx=>?_,I.base.free,fun b o e hx=>?_,I.base.tups,I.base.frzs,I.base.tbls⟩,?_,fun x c e=>?_,I.free,I.freeC,fun p hp=>?_,?_,I.len⟩
 ·exact st _ _ (cov b o (I.base.keep b o e n hb hx) (.inr (.inl ⟨hx,o,e⟩)) (nfr b hb (neL b o e)))
 ·obtain⟨sl,e1⟩:=I.base.slot b o e n hb hx
  have hb':b∈L7 X.stack:=by
   rcases I.ok.stk with q | ⟨q,hf⟩
   ·rw[q];exact hb
   ·rw[q];unfold L7;rw[List.filterMap_cons,hf];exact List.mem_cons_of_mem _ hb
  obtain⟨sl',e2⟩:=fr b hb' _ e1
  exact⟨sl',e2⟩
 ·obtain⟨o',e1⟩:=I.base.there b o e hx
  by_cases hb:b∈L7 X.stack
  ·obtain⟨sl,q⟩:=fr b hb _ e1
   exact⟨_,q⟩
  ·exact⟨o',st _ _ (cov b o' e1 (.inr (.inl ⟨hx,o,e⟩)) hb)⟩
 ·obtain⟨m,hn,hl⟩:=I.loc
  refine⟨m,ups.ns hn,fun i x v e1 e2 e3=>?_⟩
  obtain⟨u,r,l⟩:=hl i x v e1 e2 e3
  refine⟨u,r,?_⟩
  rcases l with l | ⟨k,c,e,z⟩
  ·exact .inl l
  ·exact .inr ⟨k,c,e,cellK c _ z⟩
 ·obtain⟨v,z⟩:=I.cell x c e
  exact⟨v,cellK c v z⟩
 ·obtain⟨e,n,ne,nf,d⟩:=I.pin p hp
  exact⟨st _ _ (cov p.1 p.2 e (.inr (.inr ⟨p,hp,rfl⟩)) (nfr p.1 nf ne)),n,ne,nf,d⟩
 ·intro b u e
  refine(I.hok b u e).stay (fun c v hc q=>?_) (fun _ q=>q) (fun _ _ q=>q) fun _ _ _ q=>q
  have hc':H c≠none:=by
   rcases hc with z | z
   ·rw[z,e];exact fun q=>nomatch q
   ·rw[z];exact fun q=>nomatch q
  exact st _ _ (cov c v q (.inl hc') fun z=>hc' (I.stkFree c z))
theorem XAt.cov'(x:XAt X pins H s a cls cx B ph)(I:Inv X pins σ H s)(st:B.StaysIn h'):∀b o,h'.get? b=some o→Imp X pins H b→b ∉ L7 X.stack→B.get? b=some o:=fun b o e i n=>by
 obtain⟨o1,e1⟩:=i.there I
 have q:=x.cov b o1 e1 i n
 have q2:=st _ _ q
 rw[e]at q2;cases q2
 exact q
variable {M:Model}{A:Around}{E:Value→Shared→Prop}{Q:Unit→Shared→Prop}
theorem a9R{e:Value}{env env0:Env}(h:env0.frame=env.frame):noteFrame e env=noteFrame e env0:=by
 unfold noteFrame PySem.frameOf
 rw[h]
theorem a6M{env0:Env}{out0:List Env}{F:Addr}(hA:A.frames=some X.stack)(hs:X.stack=env0::out0)(h0:env0.frame=X.env.frame)(hf:X.env.frame=some F)(I:Inv X pins σ H s)(x:XAt X pins H s a cls cx B ph)
  (hQ:∀h',Inv X pins σ H { s with heap:=h' }→XAt X pins H { s with heap:=h' } a cls cx B .any→Q () { s with heap:=h' }):wpAny M A (noteFrame (.ref a) X.env) Q E s:=by
 have hfr:A.frames=some (env0::out0):=by rw[hA,hs]
 have hl:s.heap.FunFrames B (env0::out0):=by rw[← hs];exact x.frames
 rw[a9R h0]
 have hf:env0.frame=some F:=h0.trans hf
 have fin:∀{fl:Value} h',a3e B (env0::out0) a cls cx fl s.heap h'→Q () { s with heap:=h' }:=fun h' ⟨k1,k2,k3,k4⟩ =>
  hQ h' (I.exc x.cov k1 k4) ⟨x.free,k1,x.fresh,by rw[hs];exact k2,x.cov' I k1,_,k3⟩
 have on:∀fl,TrX s.heap B a cls cx fl→wpAny M A (noteFrame (.ref a) env0) Q E s:=fun fl t=>by
  by_cases z:(fl == rawInt F)=true
  ·exact a7x hf t z (hQ s.heap I ⟨x.free,x.stays,x.fresh,x.frames,x.cov,fl,t⟩)
  ·exact b1H hfr hl hf t z x.stays x.fresh fin
 cases ph with
 | new =>
  obtain⟨oe,vs,he,hc,hd,h1,h2,h6⟩:=x.tr
  refine a7w hfr hl hf he x.stays x.fresh hd h1 h2 h6 fun h' hN=>?_
  rw[hc]at hN
  exact fin h' hN
 | fly=>exact on _ x.tr
 | any=>obtain⟨fl,t⟩:=x.tr;exact on fl t
theorem b1I(I:Inv X pins σ H s)(x:XAt X pins H s a cls cx B ph)(hn:ph≠.new)
  (hQ:∀h',Inv X pins σ H { s with heap:=h' }→XAt X pins H { s with heap:=h' } a cls cx B .fly→Q () { s with heap:=h' }):wpAny M A (setFlight (.ref a) none) Q E s:=by
 have go:∀fl,TrX s.heap B a cls cx fl→wpAny M A (setFlight (.ref a) none) Q E s:=fun fl ht =>
  a5o x.stays x.frames ht fun h' ⟨k1,k2,k3,k4⟩=>hQ h' (I.exc x.cov k1 k4) ⟨x.free,k1,x.fresh,k2,x.cov' I k1,k3⟩
 cases ph with
 | new=>exact absurd rfl hn
 | fly=>exact go _ x.tr
 | any=>obtain⟨fl,t⟩:=x.tr;exact go fl t
end
def B7(P:Program)(w:World):CXT:=fun outer H s E e s' =>
 ∃(a:Addr) (cls:Value) (cx:Option Addr) (H':Hp) (B:Heap),e=.ref a∧s'.os=s.os∧AllBare s'.gens∧Un (L7 outer) [] H H' s.heap s'.heap∧HOk P w H' s'.heap∧B.StaysIn s'.heap∧B.get? a=none∧s'.heap.FunFrames B outer ∧
  TrX s'.heap B a cls cx .none∧H' a=none∧(∀b o,s'.heap.get? b=some o→(H' b≠none∨∃o',s.heap.get? b=some o')→b ∉ L7 outer→B.get? b=some o)∧E cls cx H'
def XAcc(X:Cx)(E:XK):Prop:=∀(pins:List (Addr×Obj)) (σ:St) (H:Hp) (s:Shared) (a:Addr) (cls:Value) (cx:Option Addr) (B:Heap) (ph:Ph),Inv X pins σ H s→XAt X pins H s a cls cx B ph→E cls cx H→X.xe (.ref a) s
theorem T9{P:Program}{w:World}{K:W.Frag}{mg:Str→Option Value}{base:Heap}{N:List Str}{qual:Str}{scope:Scope}{f:Addr}{cd:Value}{A:Around}{outer:List Env}{s:Shared}{H:Hp}{E:XK} :
  XAcc (X9 (B7 P w) P w K mg base N qual scope f cd A outer s H E) E:=by
 intro pins σ H1 s1 a cls cx B ph I x e
 show wpAny (model P w) (A.deeper (envOfC qual scope s.heap.objs.size f cd)) (leaving (envOfC qual scope s.heap.objs.size f cd) (.ref a)) _ _ s1
 unfold leaving
 refine wpAny_bind (a6M (X:=X9 (B7 P w) P w K mg base N qual scope f cd A outer s H E) I.ok.frames rfl rfl rfl I x fun h1 I1 x1=>?_)
 refine b1I I1 x1 (fun z=>nomatch z) fun h2 I2 x2=>?_
 refine⟨a,cls,cx,H1,B,rfl,I2.os,I2.bare,I2.base,I2.hok,x2.stays,x2.fresh,x2.frames.2.2,x2.tr,x2.free,fun b o e1 i n=>?_,e⟩
 have nl:b≠(envOfC qual scope s.heap.objs.size f cd).locals:=fun z=>by
  rcases i with i | ⟨o',i⟩
  ·exact i (by rw[z];exact I2.free)
  ·have:=Heap.lt_size i
   rw[z]at this
   exact absurd this (Nat.lt_irrefl _)
 refine x2.cov b o e1 (i.elim .inl fun z=>.inr (.inl ⟨List.not_mem_nil,z⟩)) fun z=>?_
 rcases List.mem_cons.mp (I2.stkSub b z)with q | q
 ·exact nl q
 ·exact n q
theorem XAcc.passes{X:Cx}{E:XK}(acc:XAcc X E):a1o (B7 X.prog X.w) X E:=by
 intro pins σ H s e s' I h
 obtain⟨a,cls,cx,H',B,rfl,os,bare,un,hok,st,fr,ff,tr,free,cov,hE⟩:=h
 have I':Inv X pins σ H' s':=I.call' (ch:=[]) os un hok bare (fun b z=>absurd z (by simp))
 refine acc pins σ H' s' a cls cx B .fly I' ⟨free,st,fr,ff,fun b o e i n=>cov b o e ?_ n,tr⟩ hE
 rcases i with i | ⟨hx,o',i⟩ | ⟨p,hp,q⟩
 ·exact .inl i
 ·exact .inr (I.base.there b o' i hx)
 ·exact .inr ⟨p.2,by rw[← q];exact(I.pin p hp).1⟩
end L2
namespace PySem.W
open PySem PySem.Spec PySem.Calls PyProof.Rows
structure ExcT(K:Frag)(C:Addr):Prop where
 ga:findIn K (.ref C) "__getattribute__" = some (some (.builtin "BaseException.__getattribute__"))
 gt:findIn K (.ref C) "__getattr__" = some none
 cl:findIn K (.ref C) "__class__" = some (some (.builtin "object.__class__"))
 mo:mroIn K C (.type "object")=some true
 sb:subIn K (.ref C) (.type "BaseException")=some true
section
variable {prog:Program}{w:World}{A:Around}{E:Value→Shared→Prop}{h:Heap}{g:Array GenState}{d:Drawn}{t:Nat}{os:OsState}{K:Frag}{x C:Addr}{o:Obj}{R:Result→Shared→Prop}
theorem a42{tp:Value}(X:K.In h)(hx:h.get? x=some o)(hc:o.cls=.ref C)(hm:mroIn K C (.type "object")=some true)
  (q:R (.ok (.ret (.ref C))) ⟨h,g,d,t,os⟩):codeAny (model prog w) A (.call (.builtin "getset_descriptor.__get__") ⟨[.builtin "object.__class__",.ref x,tp],[]⟩) R ⟨h,g,d,t,os⟩:=by
 have L0:Looks (model prog w) h (typeOf (.ref x)) (.ref C):=hc▸(Looks.ld hx).andThen .now
 have L1:=looks_mroIn (M:=model prog w) X hm
 refine codeAny_call_builtin KF.slot_gs.plain KF.entry_gs (KF.slot_gs.check _ _ _ _ _ _ _ _ KF.type_class (KF.args_gs _ _ _) ?_)
 unfold Builtin.«getset_descriptor.__get__» Builtin.Getset_descriptor.descrGet
 rw[dga_obj]
 refine wpAny_bind (wpAny_pure ?_)
 unfold Builtin.Getset_descriptor.descrGetter Builtin.Getset_descriptor.descrCheckInstance Builtin.Getset_descriptor.descrNameAndClass isInstance
 simp only[KF.owner_class]
 repeat lk
 refine⟨Code.quiet_builtin _ (by decide +kernel),codeAny_builtin KF.entry_class ?_⟩
 unfold Builtin.«object.__class__» shownTypeOf
 repeat lk
 exact q
theorem a3f{tk:Tok}{Q:Fin→Shared→Prop}(X:K.In h)(T:ExcT K C)(hx:h.get? x=some o)(hc:o.cls=.ref C)(q:Q (.done (.ret (.ref C))) ⟨h,g,d,t,os⟩) :
  wpAny (model prog w) A (Builtin.«object.__getattribute__» ⟨[.ref x,.str "__class__" tk],[]⟩) Q E ⟨h,g,d,t,os⟩:=by
 have L0:Looks (model prog w) h (typeOf (.ref x)) (.ref C):=hc▸(Looks.ld hx).andThen .now
 have L1:=looks_findIn (M:=model prog w) X T.cl
 have hT5:(⟨h,g,d,t,os⟩:Shared).TypeIs (.builtin "object.__class__") "getset_descriptor" := F.typeOf_object_class
 have f5:=F.typeOf_object_class
 have f6:=F.slot_gs_get.lookup
 have f7:=F.slot_gs_set.lookup
 repeat (any_goals (first | assumption | (with_reducible refine L0.at ?_) | (with_reducible refine wpAny_bind (L0.at ?_)) | (with_reducible refine L1.at ?_) | (with_reducible refine wpAny_bind (L1.at ?_)) | wp_step))
 refine a42 X hx hc T.mo ?_
 repeat (any_goals (first | assumption | wp_step))
theorem a5p{M:Model}{nameV:Value}{Q:Unit→Shared→Prop}(X:K.In h)(T:ExcT K C)(hx:h.get? x=some o)(hc:o.cls=.ref C)(hq:Q () ⟨h,g,d,t,os⟩):wpAny M A (checkBuiltinCall "BaseException.__getattribute__" ⟨[.ref x,nameV],[]⟩) Q E ⟨h,g,d,t,os⟩:=by
 have hk:builtinKind "BaseException.__getattribute__" = some .slot:=by decide +kernel
 have hsplit:splitId "BaseException.__getattribute__" = some ("BaseException","__getattribute__"):=by decide +kernel
 have L0:Looks M h (typeOf (.ref x)) (.ref C):=hc▸(Looks.ld hx).andThen .now
 have L1:=looks_subIn (M:=M) X T.sb
 have L2:Looks M h (isInstance (.ref x) (.type "BaseException")) true:=L0.andThen L1
 have ha:=F.args_bexc_ga (.ref x) nameV
 simp only[checkBuiltinCall,hk,hsplit]
 refine wpAny_bind (L2.at ?_)
 repeat (first | assumption | wp_step)
theorem a5q{tk:Tok}{Q:Value→Shared→Prop}(X:K.In h)(T:ExcT K C)(hx:h.get? x=some o)(hc:o.cls=.ref C)(hq:Q (.ref C) ⟨h,g,d,t,os⟩):wpAny (model prog w) A (getAttrBy (.ref x) (.str "__class__" tk) false) Q E ⟨h,g,d,t,os⟩:=by
 have L0:Looks (model prog w) h (typeOf (.ref x)) (.ref C):=hc▸(Looks.ld hx).andThen .now
 have L1:=looks_findIn (M:=model prog w) X T.ga
 have L2:=looks_findIn (M:=model prog w) X T.gt
 have f3:=F.attr_ValueError.ga.bind (.ref x)
 have hx2:(Value.builtin "BaseException.__getattribute__" == Value.builtin "object.__getattribute__")=false:=by decide +kernel
 have hx1:(onTheHeap (Value.ref C) && Value.builtin "BaseException.__getattribute__" == Value.builtin "object.__getattribute__")=false:=by rw[hx2];rfl
 repeat (any_goals (first | assumption | (with_reducible refine L0.at ?_) | (with_reducible refine wpAny_bind (L0.at ?_)) | (with_reducible refine L1.at ?_) | (with_reducible refine wpAny_bind (L1.at ?_)) | (with_reducible refine L2.at ?_) | (with_reducible refine wpAny_bind (L2.at ?_)) | wp_step))
 refine codeAny_call_builtin F.attr_ValueError.ga.plain F.entry_bexc_ga (a5p X T hx hc (a3f X T hx hc ?_))
 repeat (any_goals (first | assumption | wp_step))
theorem a3V{Q:Option Value→Shared→Prop}(X:K.In h)(T:ExcT K C)(hx:h.get? x=some o)(hc:o.cls=.ref C)(hq:Q (some (.ref C)) ⟨h,g,d,t+1,os⟩):wpAny (model prog w) A (getAttr? (.ref x) "__class__") Q E ⟨h,g,d,t,os⟩:=by
 unfold getAttr? getAttrBy?
 repeat (any_goals (first | assumption | with_reducible apply a5q X T hx hc | wp_step))
end
def b3x(x C:Addr)(h:Heap):Prop:=∃o vs,h.get? x=some o∧o.cls=.ref C∧o.data=.fields vs
theorem kitx_exc{K:Frag}{x C:Addr}(T:ExcT K C):KitX K (.ref x) (.ref C) (b3x x C) where
 ty:=fun _ _ _ ⟨_,_,hx,hc,_⟩=>hc▸(Looks.ld hx).andThen .now
 it:=fun M h X _=>by
  have hm:=T.mo
  unfold mroIn at hm
  obtain⟨cd,hcd⟩:∃cd,clsIn K C=some cd:=by
   cases q:clsIn K C with
   | none=>rw[q]at hm;cases hm
   | some cd=>exact⟨cd,rfl⟩
  unfold clsIn at hcd
  split at hcd
  ·rename_i c' d' cd' sl' ho
   intro A' Q' E' s' k q
   unfold isType loadHead
   exact wpAny_bind (wpAny_loadPart (k _ _ (X _ _ ho)) (wpAny_pure q))
  ·cases hcd
 ne:=fun h tp dd its n sl X htp=>by
  have hm:=T.mo
  unfold mroIn at hm
  obtain⟨cd,hcd⟩:∃cd,clsIn K C=some cd:=by
   cases q:clsIn K C with
   | none=>rw[q]at hm;cases hm
   | some cd=>exact⟨cd,rfl⟩
  refine Bool.eq_false_iff.mpr fun q=>?_
  have e:C=tp:=Value.ref.inj (beq_iff_eq.mp q)
  subst e
  unfold clsIn at hcd
  split at hcd
  ·rename_i c' d' cd' sl' ho
   have z:=(X _ _ ho).symm.trans htp
   cases z
  ·cases hcd
 ca:=fun{_ _ _ _ _ s} X ⟨_,_,hx,hc,_⟩ k=>by
  obtain⟨h,g,d,t,os⟩:=s
  exact a3V X T hx hc k
end PySem.W
namespace L2
open PySem PySem.Spec PyProof.Rows
abbrev TJ:=St→Hp→Str→(Str→Hp→Prop)→Prop
def a5r:List Value:=[.type "ValueError",.type "Exception",.type "BaseException",.type "object"]
theorem b1J{K:W.Frag}{h₀:Heap}{C:Addr}(KX:K.In h₀)(q:W.excIn K C a5r "ValueError.__new__" = true) :
  ∃bm N nm q bs hdct sn sub ab col dd k0 k1 k2 k3 k5 mN,h₀.get? C=some (excClassObj nm q C N bs bm hdct sn sub ab col dd k0 k1 k2 k3 k5 "ValueError.__new__")∧h₀.Ns N mN∧mN "__init__" = none∧OwnTail h₀ a5r bm:=by
 unfold W.excIn at q
 split at q
 ·rename_i dd cd sl ho
  split at q
  ·rename_i C' bm k0 k1 k2 k3 n k5 hm hs
   simp only[Bool.and_eq_true,beq_iff_eq,Bool.not_eq_true']at q
   obtain⟨⟨⟨⟨⟨rfl,rfl⟩,hdel⟩,ht⟩,hok⟩,hni⟩:=q
   obtain⟨nm,bs,mro,ns,qn,hd,sn,sub,ab,col,del⟩:=cd
   dsimp only at hm hdel hok hni
   subst hm hdel
   have hsl:sl = #[k0,k1,k2,k3,some (.builtin "ValueError.__new__"),k5]:=by
    obtain⟨l⟩:=sl
    simp only at hs
    rw[hs]
   subst hsl
   exact⟨bm,ns,nm,qn,bs,hd,sn,sub,ab,col,dd,k0,k1,k2,k3,k5,_,KX _ _ ho,.of_isNs (W.isNs_of_in KX hok),W.nsMap_none_of_in KX hok hni,W.tail_of_in KX ht⟩
  ·cases q
 ·cases q
section
variable {X:Cx}{E:XK}
theorem XAt.first{pins:List (Addr×Obj)}{σ:St}{H:Hp}{s:Shared}{h':Heap}{a:Addr}{cls:Value}{cx:Option Addr}{oe:Obj}{vs:Array Value}(I:Inv X pins σ H s)(k:∀b o,s.heap.get? b=some o→h'.get? b=some o)
  (n:s.heap.get? a=none) (g:h'.get? a=some oe) (hc:oe.cls=cls) (hd:oe.data=.fields vs) (z1:vs[1]? = some .none) (z2:vs[2]? = some (a2Q cx)) (z6:oe.dict=a2R cx) :
  Inv X pins σ H { s with heap:=h' }∧XAt X pins H { s with heap:=h' } a cls cx (W.hideAll s.heap (L7 X.stack)) .new:=by
 have I':Inv X pins σ H { s with heap:=h' }:=I.kept (t':=s.toks) k
 have fr:H a=none:=by
  cases q:H a with
  | none=>rfl
  | some u=>obtain⟨o,e⟩:=(I.hok a u q).there;rw[n]at e;cases e
 refine⟨I',fr,fun b o e=>k b o (W.of_hideAll _ e),?_,(W.funFrames_hide I.stack fun env he b hb=>List.mem_filterMap.mpr ⟨env,he,hb⟩).of_keeps fun b o e _=>⟨o,k b o e,rfl⟩,fun b o e i n=>?_,⟨oe,vs,g,hc,hd,z1,z2,z6⟩⟩
 ·cases q:(W.hideAll s.heap (L7 X.stack)).get? a with
  | none=>rfl
  | some o=>have:=W.of_hideAll _ q;rw[n]at this;cases this
 ·obtain⟨o1,e1⟩:=i.there I
  have e2:=k _ _ e1
  rw[e]at e2;cases e2
  exact W.hideAll_get _ e1 n
theorem XAt.made{pins:List (Addr×Obj)}{σ:St}{H:Hp}{s:Shared}{h':Heap}{a:Addr}{cls:Value}{vs:List Value}(I:Inv X pins σ H s)(m:Heap.MadeExcOf s.heap h' a cls vs) :
  Inv X pins σ H { s with heap:=h' }∧XAt X pins H { s with heap:=h' } a cls none (W.hideAll s.heap (L7 X.stack)) .new:=by
 obtain⟨t,he,_,_⟩:=m.there
 exact XAt.first I m.keeps m.new he rfl rfl rfl rfl rfl
def a8v(C:Addr)(E:XK)(ta:TA):TS:=fun _ σ H=>ta σ H fun vs H1=>vs.length≤sizeLine∧E (.ref C) none H1
theorem a9S{x:Str}{C:Addr}{e₀:Expr}{J8:List Expr}{np cpos pos:Pos}{ta:TA}(acc:XAcc X E)(q:W.excIn X.K C a5r "ValueError.__new__" = true)(hg:Gl X x)(hm:X.mg x=some (.ref C))(ha:PA X (e₀::J8) ta)
  (hc:X.calm=true:=by rfl) (hex:X.ex=[]:=by rfl)
  (he:starEach (e₀::J8) X.env=(false,eval e₀ X.env)::starEach J8 X.env:=by rfl) (hplain:(backTo cpos (starEach J8 X.env)).any (·.1)=false:=by rfl) (hd:(x == ("__debug__" : Str))=false:=by decide) :
  PS X (.Raise (some (.Call (.Name x np) (e₀::J8) [] cpos)) none pos) (a8v C E ta):=by
 intro pins s σ H D I h
 obtain⟨tl,N,nm,qn,bs,hdct,sn,sub,ab,col,dd,k0,k1,k2,k3,k5,mN,hC,hN,hni,T⟩:=b1J I.mod.kin q
 have hp:=ha cpos pins s σ H _ I h
 rw[he]at hp
 refine wpAny_Raise_call_subT (C:=C) (nm:=nm) (q:=qn) (N:=N) (bs:=bs) (bm:=tl) (hdct:=hdct) (sn:=sn) (sub:=sub) (ab:=ab) (col:=col) (dd:=dd) (k0:=k0) (k1:=k1) (k2:=k2) (k3:=k3) (k5:=k5)
  PySem.F.excBase_ValueError (mN:=mN) (T.hasType PySem.F.excBase_ValueError.hasBase) (I.ok.hd hc) (by rw[he];show(false || (backTo cpos (starEach J8 X.env)).any (·.1))=false;rw[hplain];rfl) hni (a6C I hg hm ⟨rfl,?_⟩ hd)
 rw[he]
 refine Calls.evalArgs_plain (t6 hp fun us s2 ⟨vs,H2,I2,rv,z,hE⟩=>⟨rfl,by rw[← rv.length];exact z,I2.bk _ _ hC,hN.keeps I2.bk,T.keeps I2.bk,fun h' e m=>?_⟩)
 obtain⟨I3,x3⟩:=XAt.made I2 m
 exact acc pins σ H2 _ e _ none _ .new I3 x3 hE
end
def a2S(a:Addr)(cls:Value)(cx:Option Addr):HO:=.ext fun h=>∃o vs,h.get? a=some o∧o.cls=cls∧o.data=.fields vs∧vs[2]? = some (a2Q cx)∧o.dict=a2R cx
section
variable {X:Cx}{pins:List (Addr×Obj)}{σ:St}{H:Hp}{s:Shared}{a:Addr}{cls:Value}{cx:Option Addr}{B:Heap}{ph:Ph}
theorem XAt.nofr(x:XAt X pins H s a cls cx B ph):a ∉ L7 X.stack:=fun z=>by
 obtain⟨oe,vs,e,_,d,_⟩:=x.tr.there
 obtain⟨_,o,e',d'⟩:=x.frames.mem z
 rw[e]at e';cases e'
 exact d' vs d
end
theorem v9{X:Cx}{P:Program}{w:World}:a1o (B7 P w) X E0:=fun _ _ _ _ _ _ _ h=>by
 obtain⟨_,_,_,_,_,_,_,_,_,_,_,_,_,_,_,_,hE⟩:=h
 exact hE.elim
section
variable {P:Program}{w:World}{K:W.Frag}{mg:Str→Option Value}{base:Heap}
theorem Fun.okE{x qual:Str}{st:Stmt}{f:Addr}{fd:FuncData}{N ps:List Str}{k:Nat}{sp:Sp}(F:Fun K x qual st f fd)(S:FnScope N ps (c9 st))(len:∀vs H Q E,sp vs H Q E→vs.length=ps.length)
  (hbody:∀(cdv:Value) (A:Around) (outer:List Env) (s:Shared) (H:Hp) (vs:List V) (Q:VK) (E:XK),Room k (A.deeper (envOfC qual (c9 st) s.heap.objs.size f cdv))→sp vs H Q E →
   ∃t,PSs (X9 (B7 P w) P w K mg base N qual (c9 st) f cdv A outer s H E) (l7 st) t∧t { nx:=fun _ H'=>Q .non H',rt:=Q } (start N vs) H):FnOk P w K mg base (B7 P w) (k+1) f fd ps sp:=by
 obtain⟨oc,od,kV,doc,pm,an,cdv,ct,osl,rfl,lk,hcd⟩:=F.ex
 exact a3b lk hcd S len fun A outer s H vs Q E hr hsp=>hbody cdv A outer s H vs Q E hr hsp
structure FunD(K:W.Frag)(x qual:Str)(st:Stmt)(dT:Addr)(f:Addr)(fd:FuncData):Prop where
 ex:∃(oc:Value) (od:Option Addr) (kV doc pm:Value) (an:Option Addr) (cdv ct:Value) (osl:Array (Option Value)),
  fd=W.fnOf x qual (n9 st) (l7 st) (c9 st) (.ref dT) kV doc pm an cdv ct∧K.lookup f=some ⟨oc,od,.func fd,osl⟩∧W.codeIn K cdv qual=true
 kp:W.keepIn K (.ref f)=true
theorem FunD.okE{x qual:Str}{st:Stmt}{dT f:Addr}{fd:FuncData}{N ps:List Str}{k:Nat}{sp:Sp}(F:FunD K x qual st dT f fd)(S:FnScope N ps (c9 st))(len:∀vs H Q E,sp vs H Q E→vs.length=ps.length)
  (hbody:∀(cdv:Value) (A:Around) (outer:List Env) (s:Shared) (H:Hp) (vs:List V) (Q:VK) (E:XK),Room k (A.deeper (envOfC qual (c9 st) s.heap.objs.size f cdv))→sp vs H Q E →
   ∃t,PSs (X9 (B7 P w) P w K mg base N qual (c9 st) f cdv A outer s H E) (l7 st) t∧t { nx:=fun _ H'=>Q .non H',rt:=Q } (start N vs) H):FnOk P w K mg base (B7 P w) (k+1) f fd ps sp:=by
 obtain⟨oc,od,kV,doc,pm,an,cdv,ct,osl,rfl,lk,hcd⟩:=F.ex
 exact a3b lk hcd S len fun A outer s H vs Q E hr hsp=>hbody cdv A outer s H vs Q E hr hsp
theorem FunD.binds{x qual:Str}{st:Stmt}{dT f:Addr}{fd:FuncData}{ps:List Str}{ds:List Value}{items:List Value}{o:Obj}{nn:Nat}(F:FunD K x qual st dT f fd)(ho:K.lookup dT=some o)(hs:o.data=.seq items.toArray nn)
  (h:∀(kV doc pm:Value) (an:Option Addr) (cdv ct:Value) (us:List Value),(us++ds).length=ps.length→∃k:Option (Array Value)→Sem (List (Str×Value)),
   bindArgs (W.fnOf x qual (n9 st) (l7 st) (c9 st) (.ref dT) kV doc pm an cdv ct) ⟨us,[]⟩=seqItems? (.ref dT) >>= k∧k (some items.toArray)=pure (ps.zip (us++ds))):Binds K fd ps ds:=by
 obtain⟨oc,od,kV,doc,pm,an,cdv,ct,osl,rfl,lk,hcd⟩:=F.ex
 intro s us KX hl
 obtain⟨k,h1,h2⟩:=h kV doc pm an cdv ct us hl
 exact W.binds_K KX rfl ho hs h1 h2
end
structure RoomW(k:Nat)(A:Around):Prop where
 dp:A.depth+3*k+5<recursionLimit
 un:A.units+16*k+200<cLine
theorem Room.w{k:Nat}{A:Around}(r:Room k A)(h:Option Value):RoomW k (A.mark h):=⟨r.dp,r.un⟩
theorem RoomW.deeper{k:Nat}{A:Around}(r:RoomW (k+1) A)(env:Env):RoomW k (A.deeper env) :=
 ⟨by have:=r.dp;show A.depth+1+3*k+5<_;omega,by have:=r.un;show A.units+3+16*k+200<_;omega⟩
def b3y:V→Option Value
 | .ty n=>some (.type n)
 | .ref a=>some (.ref a)
 | _=>none
theorem b1K{y:V}{c u:Value}(e:b3y y=some c)(r:RelV y u):u=c:=by
 cases y with
 | ty n=>cases e;exact r
 | ref a=>cases e;exact r
 | _=>cases e
inductive TyX(K:W.Frag)(H:Hp):V→Value→Prop where
 | of {x:V} {t:Value} (h:TyOf K H x t):TyX K H x t
 | exc {a C:Addr} {cx:Option Addr} (h:H a=some (a2S a (.ref C) cx)) (T:W.ExcT K C):TyX K H (.ref a) (.ref C)
section
variable {X:Cx}{pins:List (Addr×Obj)}{σ:St}{H:Hp}{s:Shared}{A:Around}{E:Value→Shared→Prop}{Q:Value→Shared→Prop}
theorem TyX.kit{x:V}{u t:Value}(I:Inv X pins σ H s)(rx:RelV x u)(ty:TyX X.K H x t):∃Φ:Heap→Prop,W.KitX X.K u t Φ∧Φ s.heap∧u≠.builtin "__main__.__loader__#opaque" := by
 cases ty with
 | @exc a C cx h T =>
  cases (show u=Value.ref a from rx)
  obtain⟨⟨o,vs,h1,h2,h3,_⟩,_⟩:=(show ObjOk X.prog X.w H s.heap a (a2S a (.ref C) cx)from I.hok a _ h)
  exact⟨_,W.kitx_exc T,⟨o,vs,h1,h2,h3⟩,fun z=>nomatch z⟩
 | of h =>
 cases h with
 | non=>cases (show u=Value.none from rx);exact⟨_,W.kitx_none,True.intro,fun z=>nomatch z⟩
 | bl y=>cases (show u=Value.bool y from rx);exact⟨_,W.kitx_bool,True.intro,fun z=>nomatch z⟩
 | int i=>obtain⟨t,q⟩:=(show ∃t,u=Value.int i t from rx);cases q;exact⟨_,W.kitx_int,True.intro,fun z=>nomatch z⟩
 | str y=>obtain⟨t,q⟩:=(show ∃t,u=Value.str y t from rx);cases q;exact⟨_,W.kitx_str,True.intro,fun z=>nomatch z⟩
 | flt y=>obtain⟨t,q⟩:=(show ∃t,u=Value.float y t from rx);cases q;exact⟨_,W.kitx_float,True.intro,fun z=>nomatch z⟩
 | @lst a xs ea =>
  cases (show u=Value.ref a from rx)
  obtain⟨_,_,n,_,h1⟩:=(show ObjOk X.prog X.w H s.heap a (.lst xs)from I.hok a _ ea)
  exact⟨_,W.kitx_list,⟨_,h1,rfl⟩,fun z=>nomatch z⟩
 | @frz a ob xs ea =>
  cases (show u=Value.ref a from rx)
  obtain⟨_,_,_,n,_,h1⟩:=(show ObjOk X.prog X.w H s.heap a (.frz ob (.lst xs))from I.hok a _ ea)
  exact⟨_,W.kitx_list,⟨_,h1,rfl⟩,fun z=>nomatch z⟩
 | @tup a xs ea =>
  cases (show u=Value.ref a from rx)
  obtain⟨_,_,_,p⟩:=(show ObjOk X.prog X.w H s.heap a (.tup xs)from I.hok a _ ea)
  obtain⟨o,h1,h2,_⟩:=p
  exact⟨_,W.kitx_tuple,⟨o,h1,h2⟩,fun z=>nomatch z⟩
 | @dK a kvs ea =>
  cases (show u=Value.ref a from rx)
  obtain⟨_,_,vs,_,p⟩:=(show ObjOk X.prog X.w H s.heap a (.dK kvs)from I.hok a _ ea)
  obtain⟨o,es,ep,h1,h2,_⟩:=p
  exact⟨_,W.kitx_dict,⟨o,h1,h2.1⟩,fun z=>nomatch z⟩
 | @dT a kvs ea =>
  cases (show u=Value.ref a from rx)
  obtain⟨_,_,xs,_,o,es,ep,h1,h2,_⟩:=(show ObjOk X.prog X.w H s.heap a (.dT kvs)from I.hok a _ ea)
  exact⟨_,W.kitx_dict,⟨o,h1,h2.1⟩,fun z=>nomatch z⟩
 | @ins a C dx fs ea cl ha hn htk hm =>
  cases (show u=Value.ref a from rx)
  obtain⟨mA,O,_⟩:=b1z I.hok ea
  obtain⟨od,J,_⟩:=O.look
  exact⟨_,W.kitx_own (cl.get _) cl.hd ha hn htk hm,J,fun z=>nomatch z⟩
def a7y(K:W.Frag):List V→Hp→VK→Prop:=fun xs H Q=>∃x y t c b,xs=[x,y]∧b3y y=some c∧TyX K H x t∧W.kitOne K t c=some b∧Q (.bl b) H
theorem a9T:T8 X (.builtin "isinstance") (a7y X.K):=by
 intro pins s σ H xs us Q I r h
 obtain⟨x,y,t,c,b,rfl,e1,e2,e3,q⟩:=h
 obtain⟨u,v,rfl,r1,r2⟩:=a7u r
 obtain rfl:=b1K e1 r2
 obtain⟨Φ,Z,p,n⟩:=e2.kit I r1
 exact W.kia_one Z I.kIn p e3 n fun tk=>⟨.bl b,H,I.tok _,rfl,q⟩
end
def a9U:List V→List V→Bool
 | [],[]=>true
 | x::xs,y::ys=>eqV x y && a9U xs ys
 | _,_=>false
section
variable {X:Cx}{pins:List (Addr×Obj)}{σ:St}{H:Hp}{s:Shared}
theorem A8:V8 X (binaryOp .Mult) (rI IntMulOk fun i j=>.int (i*j)):=opI fun _ _ _ _ _ _ _ hc q=>mul_int q hc
theorem B4:V8 X (binaryOp .FloorDiv) (rI (fun _ j=>0<j∧j.natAbs.log2<9000) fun i j=>.int (i/j)):=opI fun i j _ _ _ _ _ hc q=>by
 have h0:j≠0:=by have:=hc.1;omega
 refine floordiv_int h0 ?_ (.inl (PyProof.noPylong_of_log2 hc.2))
 rw[Int.fdiv_eq_ediv_of_nonneg _ (Int.le_of_lt hc.1)]
 exact q
end
open PySem.W PySem.Calls
theorem a6m{ns:List Int}(h:WData.layableAll [WData.list (ns.map WData.int)]=true):∀n∈ns,Builtin.Int.intBits n≤2 ^ 20:=fun n hn=>by
 have h1:(WData.list (ns.map WData.int)).layable=true:=layableW_arg h _ (List.mem_singleton.mpr rfl)
 have h2:=layableW_item h1 (WData.int n) (List.mem_map.mpr ⟨n,hn,rfl⟩)
 have h3:=(layableW_iff.mp h2).2.2
 simpa only[WData.weight,Builtin.Int.intBits]using h3
theorem b4C{P:Program}{w:World}{outer:List Env}(H:Hp)(s:Shared)(e:Value)(s':Shared)(h:B7 P w outer H s (fun _ _ _=>False) e s'):False:=by
 obtain⟨_,_,_,_,_,_,_,_,_,_,_,_,_,_,_,_,hE⟩:=h
 exact hE
structure Own(P:Program)(w:World)(K:W.Frag)(mg:Str→Option Value)(base:Heap)(k:Nat)(x:Str)(ps:List Str)(sp:Sp):Prop where
 ex:∃f fd,FnOk P w K mg base (B7 P w) k f fd ps sp∧Binds K fd ps []∧W.keepIn K (.ref f)=true∧mg x=some (.ref f)
structure OwnD(P:Program)(w:World)(K:W.Frag)(mg:Str→Option Value)(base:Heap)(k:Nat)(x:Str)(ps:List Str)(sp:Sp)(d:V):Prop where
 ex:∃f fd du,FnOk P w K mg base (B7 P w) k f fd ps sp∧Binds K fd ps []∧Binds K fd ps [du]∧RelV d du∧W.keepIn K (.ref f)=true∧mg x=some (.ref f)
section
variable {X:Cx}{k k':Nat}{ps:List Str}{sp:Sp}{x:Str}{p pos:Pos}{e:Expr}{es:List Expr}{t:TA}{E:XK}{d:V}
theorem r6(G:Own X.prog X.w X.K X.mg X.base k x ps sp)(hr:Room k' X.A)(hk:k≤k')(hx:a1o (B7 X.prog X.w) X E)(ha:PA X (e::es) t)(hg:Gl X x:=by rfl)
  (hdb:(x == ("__debug__" : Str))=false:=by decide) (he:starEach (e::es) X.env=(false,eval e X.env)::starEach es X.env:=by rfl) (hpl:(backTo pos (starEach es X.env)).any (·.1)=false:=by rfl) :
  PE X (.Call (.Name x p) (e::es) [] pos) (a0B sp [] E t):=by
 obtain⟨f,fd,F,b,kp,m⟩:=G.ex
 exact b1A F (hr.mono hk) hg m kp b .nil hx ha hdb he hpl
end
theorem b3z:bootBuiltins "int" = some (.type "int"):=by decide +kernel
theorem b1L:bootBuiltins "bool" = some (.type "bool"):=by decide +kernel
theorem a0M:bootBuiltins "list" = some (.type "list"):=by decide +kernel
theorem a5s:bootBuiltins "tuple" = some (.type "tuple"):=by decide +kernel
theorem Q4:bootBuiltins "isinstance" = some (.builtin "isinstance"):=by decide +kernel
theorem D0:bootBuiltins "len" = some (.builtin "len"):=by decide +kernel
theorem Z7{H:Hp}{p:Addr}(h:H p=none)(o:HO):Same H (upd H p o):=fun b u q=>by rw[f9 (l3 q h)];exact q
def Scr(K:W.Frag)(H:Hp)(a:Addr)(xs:List V):Prop:=(∃o,H a=some (.frz o (.lst xs))) ∨
  ∃(o:Obj) (its:Array Value) (n:Nat),K.lookup a=some o∧o.cls=.type "list"∧o.dict=none∧o.data=.seq its n∧its.size≤sizeLine∧Vals xs its.toList
theorem Scr.seq{K:W.Frag}{H:Hp}{a:Addr}{xs:List V}(h:Scr K H a xs):SqL K H a xs:=h.elim (fun z=>.inl (.inr z)) .inr
theorem Scr.of{K:W.Frag}{H:Hp}{a:Addr}{xs:List V}(h:SqL K H a xs)(o:b5l H):Scr K H a xs:=by
 rcases h with(h | h) | h
 ·rcases o a with z | ⟨o,ys,z⟩
  ·rw[h]at z;cases z
  ·rw[h]at z;cases z
 ·exact .inl h
 ·exact .inr h
theorem Scr.same{K:W.Frag}{H H':Hp}{a:Addr}{xs:List V}(g:Same H H')(h:Scr K H a xs):Scr K H' a xs:=h.elim (fun⟨o,z⟩=>.inl ⟨o,g _ _ z⟩) .inr
theorem Scr.upd{K:W.Frag}{H:Hp}{a l:Addr}{xs ys:List V}{o:HO}(hl:H l=some (.lst ys))(h:Scr K H a xs):Scr K (L2.upd H l o) a xs:=h.elim (fun⟨ob,z⟩=>.inl ⟨ob,by rw[f9 (b4z z hl (by intro q;cases q))];exact z⟩) .inr
theorem small{n:Nat}(h:n≤1000):n≤sizeLine:=Nat.le_of_lt (a8u h)
section
variable {prog:Program}{w:World}{A:Around}{R:Result→Shared→Prop}{s:Shared}
theorem a6n{elt target iter:Expr}{ifs:List Expr}{scope:Scope}{pos:Pos}{it acc:Value}{env:Env}{N:Value→Shared→Prop}(hN:N=notedBy (model prog w) A env fun e s'=>R (.error e) s')(I:Nat→Shared→Prop)
  (turn:∀n s,I n s→wpAny (model prog w) A (pyNext it) (fun r s₁=>match r with
   | none=>R (.ok .next) s₁
   | some v=>wpAny (model prog w) A (letOwnedTupleGo target it v) (fun _ s₁'=>wpAny (model prog w) A (assign target env v) (fun _ s₂ =>
     wpAny (model prog w) A (forIn ifs true fun c r=>if r=true then do let ok ← isTrue c env (eval c env);pure (ForInStep.yield ok)else pure (ForInStep.yield r)) (fun ok s₃ =>
      if ok=true then wpAny (model prog w) A (eval elt env) (fun x s₄ =>
       wpAny (model prog w) A (call (.builtin "list.append") [acc,x]) (fun _ s₅=>∃m,m<n∧I m s₅) N s₄) N s₃
      else ∃m,m<n∧I m s₃) N s₂) N s₁') N s₁) N s)
  (n:Nat) (h:I n s) :
  codeAny (model prog w) A (.compLoop (.ListComp elt [⟨target,iter,ifs,0⟩] scope pos) 0 it acc env) R s:=by
 subst hN
 refine codeAny_loop rfl I (fun k z q=>?_) n h
 show wpAny _ A ((compTurn (.ListComp elt [⟨target,iter,ifs,0⟩] scope pos) 0 it acc env).onRaise (fun ex=>do noteFrame ex env;theTreesLotGoes ex)) _ _ z
 refine wpAny_noted ?_
 rw[compTurn_list]
 refine wpAny_bind (wpAny_standAt (wpAny_bind (t6 (turn k z q) fun r z1 q1=>?_)))
 cases r with
 | none=>exact wpAny_pure q1
 | some v =>
  refine wpAny_bind (t6 q1 fun _ z2 q2=>?_)
  refine wpAny_bind (t6 q2 fun _ z3 q3=>?_)
  refine wpAny_bind (t6 q3 fun ok z4 q4=>?_)
  cases ok with
  | false=>exact wpAny_pure ⟨rfl,q4⟩
  | true=>exact wpAny_bind (wpAny_bind (t6 q4 fun x z5 q5=>wpAny_bind (t6 q5 fun _ z6 q6=>wpAny_pure (wpAny_pure ⟨rfl,q6⟩))))
end
def J3(cells:List (Str×Addr)):List (Str×NameKind)→List (Str×Addr)→List (Str×Addr)
 | [],acc=>acc
 | (n,k)::r,acc=>if k == .free then(match cells.lookup n with
   | some c=>J3 cells r ((n,c)::acc)
   | none=>J3 cells r acc)else J3 cells r acc
theorem a07{cells:List (Str×Addr)}{x:Str}{c:Addr}:∀{names:List (Str×NameKind)} {acc:List (Str×Addr)},(∀d,acc.lookup x=some d→cells.lookup x=some d)→(J3 cells names acc).lookup x=some c→cells.lookup x=some c
 | [],acc,h,e=>h c e
 | (n,k)::r,acc,h,e=>by
  unfold J3 at e
  split at e
  ·split at e
   ·rename_i c' hc'
    refine a07 (fun d q=>?_) e
    rw[List.lookup_cons]at q
    split at q
    ·rename_i hx
     have hx':x=n:=by simpa using hx
     cases q
     rw[hx'];exact hc'
    ·exact h d q
   ·exact a07 h e
  ·exact a07 h e
theorem a0e{cells:List (Str×Addr)}{x:Str}:∀{names:List (Str×NameKind)} {acc:List (Str×Addr)},(∃d,acc.lookup x=some d)→∃d,(J3 cells names acc).lookup x=some d
 | [],acc,h=>h
 | (n,k)::r,acc,h=>by
  unfold J3
  split
  ·split
   ·refine a0e ?_
    rw[List.lookup_cons]
    split
    ·exact⟨_,rfl⟩
    ·exact h
   ·exact a0e h
  ·exact a0e h
theorem S4{cells:List (Str×Addr)}{x:Str}:∀{names:List (Str×NameKind)} {acc:List (Str×Addr)},(x,NameKind.free)∈names→(∃c,cells.lookup x=some c)→∃d,(J3 cells names acc).lookup x=some d
 | [],acc,h,_=>by simp at h
 | (n,k)::r,acc,h,hc=>by
  unfold J3
  rcases List.mem_cons.mp h with e | h
  ·cases e
   obtain⟨c,hc⟩:=hc
   rw[if_pos (by rfl),hc]
   exact a0e ⟨c,by simp[List.lookup_cons]⟩
  ·split
   ·split
    ·exact S4 h hc
    ·exact S4 h hc
   ·exact S4 h hc
theorem a1B{env:Env}:∀(names:List (Str×NameKind)) (acc:List (Str×Addr)),(∀y∈names,y.2=.free→∃c,env.cells.lookup y.1=some c) →
  (forIn names acc fun(x:Str×NameKind) (cs:List (Str×Addr))=>if(x.2 == NameKind.free)=true then do let a ← cellOf env x.1;pure (ForInStep.yield ((x.1,a)::cs))else pure (ForInStep.yield cs):Sem (List (Str×Addr)))=pure (J3 env.cells names acc)
 | [],acc,_=>rfl
 | (n,k)::r,acc,h=>by
  rw[List.forIn_cons]
  unfold J3
  by_cases hk:(k == NameKind.free)=true
  ·obtain⟨c,hc⟩:=h (n,k) List.mem_cons_self (by simpa using hk)
   have e:cellOf env n=pure c:=by unfold cellOf;rw[hc]
   rw[if_pos hk,if_pos hk,hc,e]
   exact a1B r _ fun y hy=>h y (List.mem_cons_of_mem _ hy)
  ·rw[if_neg hk,if_neg hk]
   exact a1B r acc fun y hy=>h y (List.mem_cons_of_mem _ hy)
theorem a0f{scope:Scope}{env:Env}(h:∀y∈scope.names,y.2=.free→∃c,env.cells.lookup y.1=some c):closureFor scope env=pure (J3 env.cells scope.names []):=by
 have:=a1B (env:=env) scope.names [] h
 unfold closureFor
 exact(congrArg (· >>= pure) this).trans (by first | rfl | simp)
theorem U0{env:Env}:∀{names:List (Str×NameKind)} {x:Str} {k':NameKind},
  (names.map fun(n,k)=>if(k == NameKind.free && env.scope.kind == .function && env.kindOf n == some .cell)then(n,NameKind.cell)else(n,k)).lookup x=some k' →
  ∃k,names.lookup x=some k∧(k'=k∨(k=.free∧k'=.cell))
 | [],_,_,h=>by simp at h
 | (n,k)::r,x,k',h=>by
  rw[List.map_cons]at h
  dsimp only at h
  by_cases hc:(k == NameKind.free && env.scope.kind == .function && env.kindOf n == some .cell)=true
  ·rw[if_pos hc,List.lookup_cons]at h
   rw[List.lookup_cons]
   split at h
   ·rename_i hx
    cases h
    have hk:k=.free:=by
     have:=(Bool.and_eq_true _ _▸(Bool.and_eq_true _ _▸hc).1).1
     simpa using this
    exact⟨k,rfl,.inr ⟨hk,rfl⟩⟩
   ·rename_i hx
    obtain⟨k2,q1,q2⟩:=U0 h
    exact⟨k2,q1,q2⟩
  ·rw[if_neg hc,List.lookup_cons]at h
   rw[List.lookup_cons]
   split at h
   ·rename_i hx
    cases h
    exact⟨k,rfl,.inl rfl⟩
   ·rename_i hx
    obtain⟨k2,q1,q2⟩:=U0 h
    exact⟨k2,q1,q2⟩
theorem S0{env:Env}:∀{names:List (Str×NameKind)} {x:Str},names.lookup x=some .free →
  (names.map fun(n,k)=>if(k == NameKind.free && env.scope.kind == .function && env.kindOf n == some .cell)then(n,NameKind.cell)else(n,k)).lookup x=some .cell ∨
  (names.map fun(n,k)=>if(k == NameKind.free && env.scope.kind == .function && env.kindOf n == some .cell)then(n,NameKind.cell)else(n,k)).lookup x=some .free
 | [],_,h=>by simp at h
 | (n,k)::r,x,h=>by
  rw[List.map_cons]
  dsimp only
  rw[List.lookup_cons]at h
  by_cases hc:(k == NameKind.free && env.scope.kind == .function && env.kindOf n == some .cell)=true
  ·rw[if_pos hc,List.lookup_cons]
   split at h
   ·rename_i hx
    left;rfl
   ·rename_i hx
    exact S0 (env:=env) h
  ·rw[if_neg hc,List.lookup_cons]
   split at h
   ·rename_i hx
    right;exact h
   ·rename_i hx
    exact S0 (env:=env) h
structure CompSc(Sc scope:Scope)(N Nc:List Str)(k:Nat)(js:List Nat):Prop where
 cell:∀y∈scope.names,y.2≠.cell
 kind:scope.kind=.function
 names:∀y∈scope.names,y.2=.local→scope.names.lookup y.1=some .local
 free:∀y∈scope.names,y.2=.free→Sc.names.lookup y.1=some .cell∨Sc.names.lookup y.1=some .free
 nd:Nc.Nodup
 len:Nc.length=k+js.length
 cap:(Nc.drop k).map some=js.map fun j=>N[j]?
 caps:∀x∈Nc.drop k,scope.names.lookup x=some .free
def x6(k:Nat)(js:List Nat)(σ:St):St:=List.replicate k none++js.map fun j=>(σ[j]?).getD none
theorem M7{names:List (Str×NameKind)}{x:Str}{k:NameKind}(h:names.lookup x=some k):(x,k)∈names:=PySem.mem_of_lookup h
abbrev y6(X:Cx)(scope:Scope)(Nc:List Str)(C:Addr)(s3:Shared)(H3:Hp)(fp:List Addr)(xe:Value→Shared→Prop):Cx :=
 { X with N:=Nc,s₀:=s3,H₀:=H3,env:=compEnvC scope (J3 X.env.cells scope.names []) C X.env,outer:=X.stack,ex:=fp,fn:=fun _=>false,pn:=[],xe:=xe }
section
variable {X:Cx}{pins:List (Addr×Obj)}{σ:St}{H3:Hp}{s3:Shared}{scope:Scope}{Nc:List Str}{k:Nat}{js:List Nat}{fp:List Addr}{xe:Value→Shared→Prop}{h₁:Heap}{m₀:Str→Option Value}{tk:Nat}
theorem a1C(I:Inv X pins σ H3 s3)(S:CompSc X.env.scope scope X.N Nc k js):∀y∈scope.names,y.2=.free→∃c,X.env.cells.lookup y.1=some c:=fun y hy hk=>I.ok.has y.1 (S.free y hy hk)
theorem J9{x:Str}{c:Addr}(e:(J3 X.env.cells scope.names []).lookup x=some c):X.env.cells.lookup x=some c:=a07 (fun d q=>by simp at q) e
theorem a9V(I:Inv X pins σ H3 s3)(S:CompSc X.env.scope scope X.N Nc k js)(hf:∀b∈fp,FpOk X pins H3 b)(hfo:∀b∈fp,b<s3.heap.objs.size)(hns:h₁.Ns s3.heap.objs.size m₀)(old:∀b o,s3.heap.get? b=some o→h₁.get? b=some o) :
  Inv (y6 X scope Nc s3.heap.objs.size s3 H3 fp xe) [] (x6 k js σ) H3 { s3 with heap:=h₁,toks:=tk }:=by
 have ok:=I.ok
 have hb0:∀b o,X.base.get? b=some o→b<X.s₀.heap.objs.size:=fun b o e=>Nat.lt_of_lt_of_le (Heap.lt_size e) ok.bsz
 refine⟨⟨ok.mod,S.kind,ok.glob,ok.blt,Nat.le_refl _,fun x y c h1 h2=>ok.inj x y c (J9 h1) (J9 h2),fun x hx=>?_,(fun x c z=>nomatch z),ok.hd,ok.frames,.inl rfl,fun b hb=>⟨Nat.ne_of_lt (hfo b hb),fun x c e=>(hf b hb).2.2.2.2.1 x c (J9 e)⟩,I.bs,Nat.le_trans ok.bsz I.sz,fun b o e hb=>?_,fun b hb z=>?_,I.stack,I.stkFree⟩,
  rfl,I.bare,Un.kept old,⟨m₀,hns,fun i x v e1 e2 e3=>?_⟩,fun x c e=>?_,I.hok.fresh (Nat.le_refl _),fun x c e=>I.freeC x c (J9 e),fun p hp=>absurd (show p∈([]:List (Addr×Obj))from hp) (by simp),I.hok.kept old,?_⟩
 ·have hx:(relabel scope X.env).names.lookup x=some .cell∨(relabel scope X.env).names.lookup x=some .free:=hx
  have hfree:scope.names.lookup x=some .free:=by
   rcases hx with hx | hx
   ·obtain⟨k2,q1,q2⟩:=U0 (env:=X.env) hx
    rcases q2 with q2 | ⟨q2,_⟩
    ·subst q2;exact absurd rfl (S.cell _ (M7 q1))
    ·rw[q2]at q1;exact q1
   ·obtain⟨k2,q1,q2⟩:=U0 (env:=X.env) hx
    rcases q2 with q2 | ⟨q2,q3⟩
    ·subst q2;exact q1
    ·cases q3
  exact S4 (M7 hfree) (ok.has x (S.free _ (M7 hfree) rfl))
 ·rcases(hf b hb).2.2.2.1 with z | z
  ·exact ok.noex b o e z
  ·exact absurd (Nat.lt_of_lt_of_le (hb0 b o e) z) (Nat.lt_irrefl _)
 ·rcases List.mem_cons.mp (I.stkSub b z)with q | q
  ·exact(hf b hb).2.1 q
  ·exact(hf b hb).2.2.1 q
 ·have hlen:(List.replicate k (none:Option V)).length=k:=List.length_replicate
  by_cases hi:i<k
  ·unfold x6 at e2
   rw[List.getElem?_append_left (by omega),List.getElem?_replicate]at e2
   split at e2<;>cases e2
  ·unfold x6 at e2
   rw[List.getElem?_append_right (by omega),hlen,List.getElem?_map]at e2
   cases hj:js[i-k]? with
   | none=>rw[hj]at e2;cases e2
   | some j =>
    rw[hj]at e2
    have e2':(σ[j]?).getD none=some v:=Option.some.inj e2
    have hσ:σ[j]? = some (some v):=by
     cases q:σ[j]? with
     | none=>rw[q]at e2';cases e2'
     | some y=>rw[q]at e2';simp at e2';rw[e2']
    have hx:(Nc.drop k)[i-k]? = some x:=by rw[List.getElem?_drop];rw[show k+(i-k)=i by omega];exact e1
    have hNj:X.N[j]? = some x:=by
     have:=congrArg (fun l=>l[i-k]?) S.cap
     simp only[List.getElem?_map,hx,hj,Option.map_some]at this
     exact(Option.some.inj this).symm
    have hfr:scope.names.lookup x=some .free:=S.caps x (List.mem_of_getElem? hx)
    have hk:=S.free _ (M7 hfr) rfl
    obtain⟨m,hn,hl⟩:=I.loc
    obtain⟨u,r,l⟩:=hl j x v hNj hσ (.inr hk)
    refine⟨u,r,.inr ⟨S0 hfr,?_⟩⟩
    rcases l with⟨l1,_⟩ | ⟨_,c,hc,hcell⟩
    ·have l1:X.env.scope.names.lookup x=some .local:=l1
     rcases hk with hk | hk
     ·rw[l1]at hk;cases hk
     ·rw[l1]at hk;cases hk
    ·obtain⟨d,hd⟩:=S4 (cells:=X.env.cells) (acc:=[]) (M7 hfr) ⟨c,hc⟩
     have:=J9 hd
     rw[hc]at this;cases this
     obtain⟨o,ho,hdd⟩:=hcell
     exact⟨c,hd,⟨o,old _ _ ho,hdd⟩⟩
 ·obtain⟨v,o,ho,hd⟩:=I.cell x c (J9 e)
  exact⟨v,o,old _ _ ho,hd⟩
 ·unfold x6
  rw[List.length_append,List.length_replicate,List.length_map]
  exact S.len.symm
end
def PF(X:Cx)(ifs:List Expr)(t:TT):Prop :=
 ∀(pins:List (Addr×Obj)) (s:Shared) (σ:St) (H:Hp) (Q:Bool→Hp→Prop),Inv X pins σ H s→t σ H Q →
  wpAny (model X.prog X.w) X.A (forIn ifs true fun c r=>if r=true then do let ok ← isTrue c X.env (eval c X.env);pure (ForInStep.yield ok)else pure (ForInStep.yield r)) (TP X pins σ Q) X.xe s
def b1e:TT:=fun _ H Q=>Q true H
theorem S5{X:Cx}:PF X [] b1e:=fun pins s σ H Q I h=>wpAny_tests_nil ⟨H,I,h⟩
theorem a8w{X:Cx}{c:Expr}{t:TT}(h:PT X c t):PF X [c] t:=fun pins s σ H Q I q=>wpAny_tests_one (h pins s σ H Q I q)
def S6(J:It)(g:TG)(tf:TT)(te:TE)(k:Nat)(σ0:St)(D:Addr)(Fin:Hp→Prop)(H1:Hp):Prop :=
 ∃W:Nat→Nat→List V→Hp→Prop,(∃m,W 0 m [] (upd H1 D (.lst [])))∧∀i m ys H,W i m ys H →
  (J.stop i H∧Fin H)∨(J.go i H∧∃N:List V→Hp→Prop,(∀ys' H',N ys' H'→∃m',m'<m∧W (i+1) m' ys' H')∧∀x H',J.yld i H x H'→g x σ0 H' fun σ2 H2=>(σ2.drop k=σ0.drop k∧σ2.length=σ0.length)∧tf σ2 H2 fun b H3 =>
   if b=true then te σ2 H3 fun y H4=>H4 D=some (.lst ys)∧ys.length<sizeLine∧N (ys++[y]) (upd H4 D (.lst (ys++[y])))else N ys H3)
section
variable {X:Cx}{pins:List (Addr×Obj)}{σ:St}{H:Hp}{s:Shared}{elt tg iter:Expr}{ifs:List Expr}{scope:Scope}{pos:Pos}{Nc:List Str}{k:Nat}{js:List Nat}{g:TG}{tf:TT}{te:TE}
theorem a1D{J:It}{fp:List Addr}{it:Addr}{tn:Nat→Heap→Prop}{E:Value→Shared→Prop}{RR:Value→Addr→Result→Shared→Prop}{Fin:Addr→Hp→Prop}(hc:X.calm=true)(S:CompSc X.env.scope scope X.N Nc k js)
  (hg:∀C s3 H3 fp xe,PG (y6 X scope Nc C s3 H3 fp xe) tg g) (hf:∀C s3 H3 fp xe,PF (y6 X scope Nc C s3 H3 fp xe) ifs tf)
  (he:∀C D H3,∃xe:Value→Shared→Prop,(∀e s',xe e s'→notedBy (model X.prog X.w) X.A (compEnvC scope (J3 X.env.cells scope.names []) C X.env) (fun e s'=>RR (.ref D) C (.error e) s') e s') ∧
   ∀s3,Inv X pins σ H3 s3→C=s3.heap.objs.size→(∀b∈fp,FpOk X pins H3 b)→PE (y6 X scope Nc C s3 H3 fp xe) elt te)
  (I2:Inv X pins σ H s) (T:Turn X.prog X.w X.K tg J fp it tn) (st2:tn 0 s.heap) (f2:∀b∈fp,FpOk X pins H b) (hR:∀D,H D=none→S6 J g tf te k (x6 k js σ) D (Fin D) H)
  (hRR:∀D C H' s' m',Inv X pins σ H' s'→s'.heap.Ns C m'→H' C=none→C≠X.env.locals→X.s₀.heap.objs.size≤C→(∀x c,X.env.cells.lookup x=some c→c≠C)→(∀p∈X.pn++pins,p.1≠C)→Fin D H'→RR (.ref D) C (.ok .next) s') :
  wpAny (model X.prog X.w) X.A (newList []) (fun acc s₃=>wpAny (model X.prog X.w) X.A (newFunctionEnv scope X.env.globals (J3 X.env.cells scope.names []) [] X.env.qual none .none (some X.env)) (fun cenv s₄ =>
   codeAny (model X.prog X.w) X.A (.compStart (.ListComp elt [⟨tg,iter,ifs,0⟩] scope pos) 0 (.ref it) acc { cenv with scope:=relabel scope X.env }) (RR acc cenv.locals) s₄) E s₃) E s:=by
 refine wpAny_newObj_type (wpAny_newFunctionEnv S.cell (by intro y hy;simp at hy) (fun h₁ hns₁ hsb₁=>?_) S.kind)
 dsimp only at hns₁ hsb₁ ⊢
 have I3:Inv X pins σ (upd H s.heap.objs.size (.lst [])) { s with heap:=s.heap.push { cls:=.type "list",data:=.seq ([]:List Value).toArray },toks:=s.toks }:=I2.lnew (its:=[]) .nil (Nat.zero_le _)
 have hDn:H s.heap.objs.size=none:=I2.fresh
 obtain⟨W,⟨m0,w0⟩,turn⟩:=hR _ hDn
 generalize hs3:({ s with heap:=s.heap.push { cls:=.type "list",data:=.seq ([]:List Value).toArray },toks:=s.toks }:Shared)=s3 at I3
 have e3:s3.heap=s.heap.push { cls:=.type "list",dict:=none,data:=.seq ([]:List Value).toArray }:=by rw[← hs3]
 rw[← e3]at hns₁ hsb₁ ⊢
 have fpo:∀b∈fp,b<s.heap.objs.size:=fun b hb=>by obtain⟨o,e,_⟩:=T.obj _ _ st2 b hb;exact Heap.lt_size e
 have sz3:s3.heap.objs.size=s.heap.objs.size+1:=by rw[e3,Heap.size_push]
 have fpo3:∀b∈fp,b<s3.heap.objs.size:=fun b hb=>by rw[sz3];exact Nat.lt_succ_of_lt (fpo b hb)
 have f3:∀b∈fp,FpOk X pins (upd H s.heap.objs.size (.lst [])) b:=fun b hb=>⟨by rw[f9 (Nat.ne_of_lt (fpo b hb))];exact(f2 b hb).1,(f2 b hb).2⟩
 have old:∀b o,s3.heap.get? b=some o→h₁.get? b=some o:=fun b o e=>hsb₁.extBut b o (Nat.ne_of_lt (Heap.lt_size e)) (Heap.get?_push_of_some _ e)
 have oldS:∀b o,s.heap.get? b=some o→h₁.get? b=some o:=fun b o e=>old b o (by rw[e3];exact Heap.get?_push_of_some _ e)
 obtain⟨xe,hxe,hel⟩:=he s3.heap.objs.size s.heap.objs.size (upd H s.heap.objs.size (.lst []))
 have hel:=hel s3 I3 rfl f3
 have I4:Inv (y6 X scope Nc s3.heap.objs.size s3 (upd H s.heap.objs.size (.lst [])) fp xe) [] (x6 k js σ) (upd H s.heap.objs.size (.lst [])) { s3 with heap:=h₁,toks:=s.toks+([]:List (Str×Value)).length } :=
  a9V I3 S f3 fpo3 hns₁ old
 have st4:tn 0 h₁:=T.keep _ _ _ st2 fun b hb o e=>oldS b o e
 have es3:({ s3 with heap:=h₁,toks:=s.toks+([]:List (Str×Value)).length }:Shared)={ s with heap:=h₁,toks:=s.toks+([]:List (Str×Value)).length }:=by rw[← hs3]
 rw[es3]at I4
 have ok:=I2.ok
 have lk:=I3.lt
 have hCL:s3.heap.objs.size≠X.env.locals:=Nat.ne_of_gt lk
 have stat:∀{H':Hp},(∀b∈fp,H' b=none)→∀b∈fp,FpOk (y6 X scope Nc s3.heap.objs.size s3 (upd H s.heap.objs.size (.lst [])) fp xe) [] H' b:=fun hn b hb =>
  ⟨hn b hb,Nat.ne_of_lt (fpo3 b hb),fun z=>(List.mem_cons.mp (I3.stkSub b z)).elim (fun q=>(f3 b hb).2.1 q) fun q=>(f3 b hb).2.2.1 q,.inl hb,fun x c e=>(f3 b hb).2.2.2.2.1 x c (J9 e),fun p hp=>absurd (show p∈([]:List (Addr×Obj))from hp) (by simp)⟩
 have loop:codeAny (model X.prog X.w) X.A (.compLoop (.ListComp elt [⟨tg,iter,ifs,0⟩] scope pos) 0 (.ref it) (.ref s.heap.objs.size) (compEnvC scope (J3 X.env.cells scope.names []) s3.heap.objs.size X.env))
    (RR (.ref s.heap.objs.size) s3.heap.objs.size) { s with heap:=h₁,toks:=s.toks+([]:List (Str×Value)).length }:=by
  refine a6n rfl (fun n s'=>∃i ys H',Inv (y6 X scope Nc s3.heap.objs.size s3 (upd H s.heap.objs.size (.lst [])) fp xe) [] (x6 k js σ) H' s'∧tn i s'.heap∧(∀b∈fp,H' b=none)∧W i n ys H') ?_ m0 ⟨0,[],_,I4,st4,fun b hb=>(f3 b hb).1,w0⟩
  rintro n s5 ⟨i,ys,H5,I5,st5,fr5,w5⟩
  rcases turn i n ys H5 w5 with⟨stop,fin⟩ | ⟨go,Nx,hNx,step⟩
  ·refine t6 (T.done (y6 X scope Nc s3.heap.objs.size s3 (upd H s.heap.objs.size (.lst [])) fp xe) rfl rfl rfl hc i [] s5 (x6 k js σ) H5 _ I5 (stat fr5) st5 stop) fun r s6 ⟨hr,I6⟩=>?_
   subst hr
   obtain⟨m6,hn6,_⟩:=I6.loc
   have J:Inv X pins σ H5 s6:=I3.call' (ch:=fp) (I6.os.trans rfl) I6.base I6.hok I6.bare fun b hb=>⟨(f3 b hb).2.2.2.1,(f3 b hb).2.1,(f3 b hb).2.2.2.2.1,(f3 b hb).2.2.2.2.2⟩
   refine hRR _ _ H5 s6 m6 J hn6 I6.free hCL (I3.sz) (fun x c e z=>?_) (fun p hp z=>?_) fin
   ·obtain⟨v,q⟩:=I3.cell x c e
    exact absurd q.lt (by rw[z];exact Nat.lt_irrefl _)
   ·exact absurd (Heap.lt_size (I3.pin p hp).1) (by rw[z];exact Nat.lt_irrefl _)
  ·refine t6 (T.item (y6 X scope Nc s3.heap.objs.size s3 (upd H s.heap.objs.size (.lst [])) fp xe) rfl rfl rfl hc i [] s5 (x6 k js σ) H5 _ I5 (stat fr5) st5 go) fun r s6 ⟨u,hr,h6⟩=>?_
   subst hr
   refine t6 h6 fun _ s7 ⟨x,H7,I7,r7,y7,st7,fr7⟩=>?_
   have I7':=I7.pinned (stat fr7) (T.obj _ _ st7)
   refine wpAny_mono (hg _ _ _ _ _ _ s7 _ H7 x u _ I7' r7 (step x H7 y7)) (fun _ s8 ⟨σ8,H8,I8,⟨d8,l8⟩,q8⟩=>?_) fun e s' z=>hxe e s' z
   refine wpAny_mono (hf _ _ _ _ _ _ s8 σ8 H8 _ I8 q8) (fun b s9 ⟨H9,I9,q9⟩=>?_) fun e s' z=>hxe e s' z
   have again:∀{H':Hp} {s':Shared} {ys':List V},Inv (y6 X scope Nc s3.heap.objs.size s3 (upd H s.heap.objs.size (.lst [])) fp xe) ([]++a10 fp s7.heap) σ8 H' s'→Nx ys' H' →
     ∃m,m<n∧∃i ys H',Inv (y6 X scope Nc s3.heap.objs.size s3 (upd H s.heap.objs.size (.lst [])) fp xe) [] (x6 k js σ) H' s'∧tn i s'.heap∧(∀b∈fp,H' b=none)∧W i m ys H':=fun{H' s' ys'} I' hw=>by
    obtain⟨m',hm,w'⟩:=hNx _ _ hw
    refine⟨m',hm,i+1,ys',H',(I'.unpinned).weak l8.symm fun j v e=>?_,T.keep _ _ _ st7 fun b hb o e=>(I'.pin (b,o) (List.mem_append_right _ (List.mem_append_right _ (a0A hb e)))).1,fun b hb=>?_,w'⟩
    ·by_cases hj:j<k
     ·unfold x6 at e
      rw[List.getElem?_append_left (by rw[List.length_replicate];exact hj),List.getElem?_replicate]at e
      split at e<;>cases e
     ·have e':((x6 k js σ).drop k)[j-k]? = some (some v):=by rw[List.getElem?_drop,show k+(j-k)=j by omega];exact e
      rw[← d8,List.getElem?_drop,show k+(j-k)=j by omega]at e'
      exact e'
    ·obtain⟨o,e,d⟩:=T.obj _ _ st7 b hb
     exact(I'.pin (b,o) (List.mem_append_right _ (List.mem_append_right _ (a0A hb e)))).2.1
   cases b with
   | false =>
    rw[if_neg Bool.false_ne_true]at q9 ⊢
    exact again I9 q9
   | true =>
    rw[if_pos rfl]at q9 ⊢
    refine wpAny_mono (hel _ s9 σ8 H9 _ I9 q9) (fun v s10 ⟨y,H10,I10,r10,hD,hz,w'⟩=>?_) fun e s' z=>hxe e s' z
    refine wpAny_mono (F5 (X:=y6 X scope Nc s3.heap.objs.size s3 (upd H s.heap.objs.size (.lst [])) fp xe) _ s10 σ8 H10 (.ref s.heap.objs.size) [y] (.ref s.heap.objs.size) [v] (fun _ H'=>H'=upd H10 s.heap.objs.size (.lst (ys++[y]))) I10 rfl (.cons r10 .nil)
     ⟨_,ys,y,rfl,rfl,hD,hz,rfl⟩) (fun _ s11 ⟨_,H11,I11,_,q11⟩=>?_) fun e s' z=>hxe e s' z
    subst q11
    exact again I11 w'
 exact codeAny_compStart_list loop (T.self _ 0 _ _ _ st4 loop)
end
def a08(wi:TI)(g:TG)(tf:TT)(te:TE)(k:Nat)(js:List Nat):TE:=fun σ H Q=>wi σ H fun J H1=>∀D,H1 D=none→S6 J g tf te k (x6 k js σ) D (fun H'=>Q (.ref D) H') H1
def a5t(i:Nat)(wi:TI)(g:TG)(tf:TT)(te:TE)(k:Nat)(js:List Nat):TS:=fun N σ H=>wi σ H fun J H1=>∀D,H1 D=none→S6 J g tf te k (x6 k js σ) D (fun H'=>N.nx (σ.set i (some (.ref D))) H') H1
section
variable {X:Cx}{elt tg iter:Expr}{ifs:List Expr}{scope:Scope}{pos:Pos}{Nc:List Str}{k:Nat}{js:List Nat}{wi:TI}{g:TG}{tf:TT}{te:TE}
theorem U1(hc:X.calm=true)(S:CompSc X.env.scope scope X.N Nc k js)(hi:PI X tg iter wi)(hg:∀C s3 H3 fp xe,PG (y6 X scope Nc C s3 H3 fp xe) tg g)(hf:∀C s3 H3 fp xe,PF (y6 X scope Nc C s3 H3 fp xe) ifs tf)
  (he:∀C s3 H3 fp xe,PE (y6 X scope Nc C s3 H3 fp xe) elt te) (hs:∀x,foldedSetIterable iter X.env x=pure x:=by intro _;rfl):PE X (.ListComp elt [⟨tg,iter,ifs,0⟩] scope pos) (a08 wi g tf te k js):=by
 intro pins s σ H Q I h
 rw[eval_ListComp]
 refine wpAny_comprehension_free (use:=none) rfl hs (a0f (a1C I S)) S.kind S.names (t6 (hi pins s σ H _ I h) fun v s1 h1=>t6 h1 fun itv s2 h2=>?_)
 obtain⟨it,fp,tn,J,H2,rfl,I2,T,st2,f2,hR⟩:=h2
 refine a1D (RR:=fun acc C=>compPost (model X.prog X.w) X.A X.xe none (EP X pins σ Q) acc C) (Fin:=fun D H'=>Q (.ref D) H') hc S hg hf (fun C D H3=>⟨fun _ _=>False,fun _ _ z=>z.elim,fun s3 _ _ _=>he _ _ _ _ _⟩) I2 T st2 f2 hR ?_
 intro D C H' s' m' I' hn hC hCL hsz hcl hpn q
 exact⟨m',hn,fun h' hs'=>⟨.ref D,H',I'.turned (t':=s'.toks) (fun b o hb e=>(hs'.2 b hb).trans e) hC hCL (.inr hsz) hcl hpn,rfl,q⟩⟩
theorem a1E{i:Nat}{y:Str}{py spos:Pos}(hc:X.calm=true)(S:CompSc X.env.scope scope X.N Nc k js)(hN:X.N.Nodup)(hy:X.N[i]? = some y)(hi:PI X tg iter wi)(hg:∀C s3 H3 fp xe,PG (y6 X scope Nc C s3 H3 fp xe) tg g)(hf:∀C s3 H3 fp xe,PF (y6 X scope Nc C s3 H3 fp xe) ifs tf)
  (he:∀C s3 H3 fp xe,PE (y6 X scope Nc C s3 H3 fp xe) elt te) (hl:X.env.scope.names.lookup y=some .local:=by rfl) (hs:∀x,foldedSetIterable iter X.env x=pure x:=by intro _;rfl)
  (hsw:swapsWith (.ListComp elt [⟨tg,iter,ifs,0⟩] scope pos) (some (.Name y py)) spos.line X.env=pure true:=by rfl):PS X (.Assign [.Name y py] (.ListComp elt [⟨tg,iter,ifs,0⟩] scope pos) spos) (a5t i wi g tf te k js):=by
 intro pins s σ H N I h
 rw[exec_Assign_Name_used _ _ _ _ hsw]
 refine wpAny_bind (wpAny_standAt (wpAny_bind ?_))
 show wpAny _ X.A (do let _ ← comprehension (.ListComp elt [⟨tg,iter,ifs,0⟩] scope pos) scope X.env _ (newList []) false (eval iter X.env) (some (assign (.Name y py) X.env))) _ _ s
 refine wpAny_bind (t6 (wpAny_comprehension_free (use:=some (assign (.Name y py) X.env)) (Q:=fun _ z=>SP X pins N .next z) rfl hs (a0f (a1C I S)) S.kind S.names
  (t6 (hi pins s σ H _ I h) fun v s1 h1=>t6 h1 fun itv s2 h2=>?_)) fun _ z hq=>wpAny_pure (wpAny_pure hq))
 obtain⟨it,fp,tn,J,H2,rfl,I2,T,st2,f2,hR⟩:=h2
 refine a1D (RR:=fun acc C=>compPost (model X.prog X.w) X.A X.xe (some (assign (.Name y py) X.env)) (fun _ z=>SP X pins N .next z) acc C) (Fin:=fun D H'=>N.nx (σ.set i (some (.ref D))) H') hc S hg hf
  (fun C D H3=>⟨fun _ _=>False,fun _ _ z=>z.elim,fun s3 _ _ _=>he _ _ _ _ _⟩) I2 T st2 f2 hR ?_
 intro D C H' s' m' I' hn hC hCL hsz hcl hpn q
 show wpAny _ X.A (assign (.Name y py) X.env (.ref D)) _ _ s'
 refine wpAny_assign_Name (a4o (v:=.ref D) I' hN hy (.inl hl) rfl (fun s'' I'' ⟨a,hsb,ha⟩=>?_) (.inr hl))
 have hCa:C≠a:=by
  rcases ha with ha | ha
  ·rw[ha];exact hCL
  ·exact fun z=>hcl y a ha z.symm
 exact⟨m',hn.sameBut hsb hCa,fun h' hs'=>⟨_,H',I''.turned (t':=s''.toks) (fun b o hb e=>(hs'.2 b hb).trans e) hC hCL (.inr hsz) hcl hpn,q⟩⟩
end
theorem a8x{K:W.Frag}{a:Addr}{xs:List V}{g:TG}{tf:TT}{te:TE}{k:Nat}{σ0:St}{D:Addr}{Fin:Hp→Prop}{H1:Hp}(Pv:Nat→List V→Hp→Prop)(h0:Pv 0 [] (upd H1 D (.lst [])))(hl:∀i ys H,i≤xs.length→Pv i ys H→SqL K H a xs)
  (hs:∀i x ys H,xs[i]? = some x→Pv i ys H→g x σ0 H fun σ2 H2=>(σ2.drop k=σ0.drop k∧σ2.length=σ0.length)∧tf σ2 H2 fun b H3 =>
   if b=true then te σ2 H3 fun y H4=>H4 D=some (.lst ys)∧ys.length<sizeLine∧Pv (i+1) (ys++[y]) (upd H4 D (.lst (ys++[y])))else Pv (i+1) ys H3)
  (hd:∀ys H,Pv xs.length ys H→Fin H):S6 (Itl K a) g tf te k σ0 D Fin H1:=by
 refine⟨fun i m ys H=>m=xs.length-i∧i≤xs.length∧Pv i ys H,⟨xs.length,by simp,Nat.zero_le _,h0⟩,?_⟩
 rintro i m ys H ⟨rfl,hi,p⟩
 have q:=hl i ys H hi p
 by_cases hlt:i<xs.length
 ·refine .inr ⟨⟨xs,xs[i],q,by simp[hlt]⟩,Pv (i+1),fun ys' H' z=>⟨xs.length-(i+1),by omega,rfl,hlt,z⟩,fun x H' y=>?_⟩
  obtain⟨e,y⟩:=y
  subst e
  exact hs i x ys _ (y xs q) p
 ·have e:i=xs.length:=by omega
  subst e
  exact .inl ⟨⟨xs,q,Nat.le_refl _⟩,hd ys H p⟩
theorem a7z{lo:Int}{n:Nat}{g:TG}{tf:TT}{te:TE}{k:Nat}{σ0:St}{D:Addr}{Fin:Hp→Prop}{H1:Hp}(Pv:Nat→List V→Hp→Prop)(h0:Pv 0 [] (upd H1 D (.lst [])))
  (hs:∀i ys H,i<n→Pv i ys H→g (.int (lo+i)) σ0 H fun σ2 H2=>(σ2.drop k=σ0.drop k∧σ2.length=σ0.length)∧tf σ2 H2 fun b H3 =>
   if b=true then te σ2 H3 fun y H4=>H4 D=some (.lst ys)∧ys.length<sizeLine∧Pv (i+1) (ys++[y]) (upd H4 D (.lst (ys++[y])))else Pv (i+1) ys H3)
  (hd:∀ys H,Pv n ys H→Fin H):S6 (Itr lo n) g tf te k σ0 D Fin H1:=by
 refine⟨fun i m ys H=>m=n-i∧i≤n∧Pv i ys H,⟨n,by simp,Nat.zero_le _,h0⟩,?_⟩
 rintro i m ys H ⟨rfl,hi,p⟩
 by_cases hlt:i<n
 ·refine .inr ⟨hlt,Pv (i+1),fun ys' H' z=>⟨n-(i+1),by omega,rfl,hlt,z⟩,fun x H' y=>?_⟩
  obtain⟨e,y⟩:=y
  subst e y
  exact hs i ys _ hlt p
 ·have e:i=n:=by omega
  subst e
  exact .inl ⟨Nat.le_refl _,hd ys H p⟩
section
variable {X:Cx}{pins:List (Addr×Obj)}{σ:St}{H:Hp}{s:Shared}
theorem Inv.turnedL{h':Heap}{t':Nat}{ch:List Addr}{p:Addr}{o:HO}(I:Inv X pins σ H s)(k:∀b u,b ∉ ch→s.heap.get? b=some u→h'.get? b=some u)(hf:∀b∈ch,FpOk X pins H b)(hp:s.heap.objs.size≤p)(new:ObjOk X.prog X.w (upd H p o) h' p o) :
  Inv X pins σ (upd H p o) { s with heap:=h',toks:=t' }:=by
 have hn:=I.hok.fresh hp
 have nch:∀b u,H b=some u→b ∉ ch:=fun b u q z=>by rw[(hf b z).1]at q;cases q
 refine I.call (g':=s.gens) (d':=s.drawn) (ch:=ch) ⟨fun b u q _ _ hx=>k b u hx q,fun b u q _ _ hx=>⟨u.slots,k b u hx q⟩,fun b u q n _=>?_,fun b u q hx=>⟨u,k b u hx q⟩,fun b xs q=>?_,fun b u xs q=>?_,fun b ps q=>⟨#[],?_⟩⟩ (fun b u q=>?_) I.bare
  fun b hb=>⟨(hf b hb).2.2.2.1,(hf b hb).2.1,(hf b hb).2.2.2.2.1,(hf b hb).2.2.2.2.2⟩
 ·rw[f9 (Nat.ne_of_lt (Nat.lt_of_lt_of_le (Heap.lt_size q) hp))];exact n
 ·rw[f9 (l3 q hn)];exact q
 ·rw[f9 (l3 q hn)];exact q
 ·rw[f9 (l3 q hn),q];simp
 ·by_cases hb:b=p
  ·subst hb;rw[k9]at q;cases q;exact new
  ·rw[f9 hb]at q
   refine(I.hok b u q).stay (fun c v hc r=>k c v ?_ r) (fun c z=>?_) (fun c xs z=>?_) fun c ob u z=>?_
   ·rcases hc with hc | hc
    ·rw[hc];exact nch b u q
    ·exact nch c _ hc
   ·rw[f9 (l3 z hn)];exact z
   ·rw[f9 (l3 z hn)];exact z
   ·rw[f9 (l3 z hn)];exact z
theorem Inv.turnedN{h':Heap}{t':Nat}{ch:List Addr}(I:Inv X pins σ H s)(k:∀b u,b ∉ ch→s.heap.get? b=some u→h'.get? b=some u)(hf:∀b∈ch,FpOk X pins H b):Inv X pins σ H { s with heap:=h',toks:=t' }:=by
 have nch:∀b u,H b=some u→b ∉ ch:=fun b u q z=>by rw[(hf b z).1]at q;cases q
 refine I.call (g':=s.gens) (d':=s.drawn) (ch:=ch) ⟨fun b u q _ _ hx=>k b u hx q,fun b u q _ _ hx=>⟨u.slots,k b u hx q⟩,fun b u q n _=>n,fun b u q hx=>⟨u,k b u hx q⟩,fun b xs q=>q,fun b u xs q=>q,fun b ps q=>⟨#[],by rw[q];simp⟩⟩ (fun b u q=>?_) I.bare
  fun b hb=>⟨(hf b hb).2.2.2.1,(hf b hb).2.1,(hf b hb).2.2.2.2.1,(hf b hb).2.2.2.2.2⟩
 refine(I.hok b u q).stay (fun c v hc r=>k c v ?_ r) (fun c z=>z) (fun c xs z=>z) fun c ob u z=>z
 rcases hc with hc | hc
 ·rw[hc];exact nch b u q
 ·exact nch c _ hc
end
def Ite(K:W.Frag)(a:Addr):It :=
 ⟨fun i H=>∃xs x,SqL K H a xs∧xs[i]? = some x,fun i H v H'=>∃p x,v=.ref p∧H p=none∧H'=upd H p (.tup [.int i,x])∧∀xs,SqL K H a xs→xs[i]? = some x,fun i H=>∃xs,SqL K H a xs∧xs.length≤i⟩
theorem a8y{P:Program}{w:World}{K:W.Frag}{elts:List Expr}{x1}{tpos:Pos}(a it e:Addr)(hne:e≠it):Turn P w K (.Tuple elts x1 tpos) (Ite K a) [e,it] e (fun i h=>(∃old,IsEnum h e it i old)∧h.IsListIter it a i) where
 mem:=by simp
 obj:=fun i h ⟨⟨old,st⟩,it1⟩ b hb=>by
  rcases List.mem_cons.mp hb with q | hb
  ·subst q
   exact⟨_,st,fun v z=>nomatch (show Data.fields _=Data.cell v from z)⟩
  ·have q:b=it:=by simpa using hb
   subst q
   obtain⟨o,e1,c,d⟩:=it1
   exact⟨o,e1,fun v z=>by rw[d]at z;cases z⟩
 keep:=fun i h h' ⟨⟨old,st⟩,it1⟩ k=>⟨⟨old,k e (by simp) _ st⟩,it1.at fun o q=>k it (by simp) o q⟩
 item:=by
  intro X hP hw hK hc i pins s σ H E I hf st hg
  subst hP hw hK
  obtain⟨⟨old,st⟩,it1⟩:=st
  obtain⟨xs,x,hq,hx⟩:=hg
  obtain⟨its,rv,p,hz⟩:=I.list hq
  obtain⟨u,hu,ru⟩:=rv.get hx
  refine wpAny_pyNext_enum_item st it1 p.isList (x:=u) (by simpa using hu) hne fun h' q1 q2 q3 q4 q5=>⟨_,rfl,?_⟩
  refine wpAny_letOwnedTupleGo_enum (s:={ s with heap:=h',toks:=s.toks+1 }) q1 fun h2 r1 r2=>?_
  have ne1:s.heap.objs.size≠e:=Nat.ne_of_gt (Heap.lt_size st)
  have k2:∀b o,b ∉ [e,it]→s.heap.get? b=some o→h2.get? b=some o:=fun b o hb q=>by
   have hb1:b≠e:=fun z=>hb (by simp[z])
   have hb2:b≠it:=fun z=>hb (by simp[z])
   exact(r2.2 b hb1).trans (q5 b o hb1 hb2 q)
  have I1:Inv X pins σ (upd H s.heap.objs.size (.tup [.int i,x])) { s with heap:=h2,toks:=s.toks+1 }:=I.turnedL k2 hf (Nat.le_refl _)
   ⟨by show 2≤sizeLine;decide,[.int i s.toks,u],.cons ⟨_,rfl⟩ (.cons ru .nil),⟨_,(r2.2 _ ne1).trans q3,rfl,_,rfl⟩⟩
  refine⟨.ref s.heap.objs.size,_,I1,rfl,⟨_,x,rfl,I.fresh,rfl,fun ys hy=>by rw[I.list_inj hy hq];exact hx⟩,⟨⟨_,by rw[show((i+1:Nat):Int)=(i:Int)+1 by omega];exact r1⟩,?_⟩,fun b hb=>?_⟩
  ·exact q2.extBut r2.extBut (Ne.symm hne)
  ·obtain⟨o,e1,_⟩:∃o,s.heap.get? b=some o∧True:=by
    rcases List.mem_cons.mp hb with q | hb
    ·exact⟨_,by rw[q];exact st,trivial⟩
    ·have q:b=it:=by simpa using hb
     obtain⟨o,e1,_⟩:=it1
     exact⟨o,by rw[q];exact e1,trivial⟩
   rw[f9 (Nat.ne_of_lt (Heap.lt_size e1))]
   exact(hf b hb).1
 done:=by
  intro X hP hw hK hc i pins s σ H E I hf st hg
  subst hP hw hK
  obtain⟨⟨old,st⟩,it1⟩:=st
  obtain⟨xs,hq,hx⟩:=hg
  obtain⟨its,rv,p,hz⟩:=I.list hq
  have hl:=rv.length
  exact wpAny_pyNext_enum_end (I.ok.hd hc) st it1 p.isList (by simp;omega) fun h' eb=>⟨rfl,I.turnedN (t':=s.toks) (fun b o hb q=>eb b o (fun z=>hb (by simp[z])) q) hf⟩
 self:=fun _ _ _ _ _ st h=>wpAny_pyIter_enum st.1.choose_spec h
theorem a8z{K:W.Frag}{a:Addr}{xs:List V}{g:TG}{tf:TT}{te:TE}{k:Nat}{σ0:St}{D:Addr}{Fin:Hp→Prop}{H1:Hp}(Pv:Nat→List V→Hp→Prop)(h0:Pv 0 [] (upd H1 D (.lst [])))(hl:∀i ys H,i≤xs.length→Pv i ys H→SqL K H a xs)
  (hs:∀i x ys H p,xs[i]? = some x→Pv i ys H→H p=none→g (.ref p) σ0 (upd H p (.tup [.int i,x])) fun σ2 H2=>(σ2.drop k=σ0.drop k∧σ2.length=σ0.length)∧tf σ2 H2 fun b H3 =>
   if b=true then te σ2 H3 fun y H4=>H4 D=some (.lst ys)∧ys.length<sizeLine∧Pv (i+1) (ys++[y]) (upd H4 D (.lst (ys++[y])))else Pv (i+1) ys H3)
  (hd:∀ys H,Pv xs.length ys H→Fin H):S6 (Ite K a) g tf te k σ0 D Fin H1:=by
 refine⟨fun i m ys H=>m=xs.length-i∧i≤xs.length∧Pv i ys H,⟨xs.length,by simp,Nat.zero_le _,h0⟩,?_⟩
 rintro i m ys H ⟨rfl,hi,p⟩
 have q:=hl i ys H hi p
 by_cases hlt:i<xs.length
 ·refine .inr ⟨⟨xs,xs[i],q,by simp[hlt]⟩,Pv (i+1),fun ys' H' z=>⟨xs.length-(i+1),by omega,rfl,hlt,z⟩,fun v H' y=>?_⟩
  obtain⟨c,x,rfl,hc,rfl,y⟩:=y
  exact hs i x ys _ c (y xs q) p hc
 ·have e:i=xs.length:=by omega
  subst e
  exact .inl ⟨⟨xs,q,Nat.le_refl _⟩,hd ys H p⟩
theorem a9W{K:PySem.W.Frag}{a:Addr}{xs:List V}{g:TG}{tb:TS}{D:Ends}{σ:St}{H:Hp}(Pv:Nat→St→Hp→Prop)(h0:Pv 0 σ H)(hl:∀i σ H,i≤xs.length→Pv i σ H→SqL K H a xs)
  (hs:∀i x σ H p,xs[i]? = some x→Pv i σ H→H p=none→g (.ref p) σ (upd H p (.tup [.int i,x])) fun σ2 H2=>tb { D with nx:=Pv (i+1),ct:=Pv (i+1),bk:=D.nx } σ2 H2) (hd:∀σ H,Pv xs.length σ H→D.nx σ H) :
  ∃W:Nat→Nat→St→Hp→Prop,(∃m,W 0 m σ H)∧∀i m σ H,W i m σ H →
   ((Ite K a).stop i H∧D.nx σ H)∨((Ite K a).go i H∧∃N:St→Hp→Prop,(∀σ' H',N σ' H'→∃m',m'<m∧W (i+1) m' σ' H')∧∀x H',(Ite K a).yld i H x H'→g x σ H' fun σ2 H2=>tb { D with nx:=N,ct:=N,bk:=D.nx } σ2 H2):=by
 refine⟨fun i m σ H=>m=xs.length-i∧i≤xs.length∧Pv i σ H,⟨xs.length,by simp,Nat.zero_le _,h0⟩,?_⟩
 rintro i m σ H ⟨rfl,hi,p⟩
 have q:=hl i σ H hi p
 by_cases hlt:i<xs.length
 ·refine .inr ⟨⟨xs,xs[i],q,by simp[hlt]⟩,Pv (i+1),fun σ' H' z=>⟨xs.length-(i+1),by omega,rfl,hlt,z⟩,fun v H' y=>?_⟩
  obtain⟨c,x,rfl,hc,rfl,y⟩:=y
  exact hs i x σ _ c (y xs q) p hc
 ·have e:i=xs.length:=by omega
  subst e
  exact .inl ⟨⟨xs,q,Nat.le_refl _⟩,hd σ H p⟩
theorem a5u:bootBuiltins "enumerate" = some (.type "enumerate"):=by decide +kernel
def a7A(K:W.Frag)(ta:TA):TI:=fun σ H R=>ta σ H fun vs H1=>∃a,vs=[.ref a]∧(∃xs,SqL K H1 a xs)∧R (Ite K a) H1
section
variable {X:Cx}
theorem a6N{elts:List Expr}{x1}{tpos:Pos}{l:Expr}{ta:TA}{p pos:Pos}(hg:Gl X "enumerate")(hm:X.mg "enumerate" = none)(ha:PA X [l] ta)(hs:starEach [l] X.env=[(false,eval l X.env)]:=by rfl) :
  PI X (.Tuple elts x1 tpos) (.Call (.Name "enumerate" p) [l] [] pos) (a7A X.K ta):=by
 intro pins s σ H R I h
 refine Call_ (X6 I hg hm a5u (PyProof.Rows.callWith_type1 (t6 (ha pos pins s σ H _ I h) fun us s1 ⟨vs,H1,I1,r1,q1⟩=>?_) hs rfl))
 obtain⟨a,e,⟨xs,hq⟩,q⟩:=q1
 subst e
 obtain⟨u,rfl,ru⟩:=r1.one
 cases (show u=Value.ref a from ru)
 obtain⟨its,rv,pl,hz⟩:=I1.list hq
 refine call_enumerate_list pl.isList fun h' q1 q2 q3 q4=>?_
 have I2:Inv X pins σ H1 { s1 with heap:=h' }:=I1.kept (t':=s1.toks) q4
 refine wpAny_pyIter_enum (s:={ s1 with heap:=h' }) q1 ?_
 refine⟨s1.heap.objs.size+1,[s1.heap.objs.size+1,s1.heap.objs.size],_,_,H1,rfl,I2,a8y a s1.heap.objs.size _ (Nat.succ_ne_self _),⟨⟨_,q1⟩,q2⟩,fun b hb=>?_,q⟩
 have hb':s1.heap.objs.size≤b:=by
  rcases List.mem_cons.mp hb with z | z
  ·rw[z];exact Nat.le_succ _
  ·have z:b=s1.heap.objs.size:=by simpa using z
   rw[z];exact Nat.le_refl _
 exact I1.fpOk hb' (I1.hok.fresh hb')
end
section
variable {X:Cx}
theorem a8A:bootBuiltins "max" = some (.builtin "max"):=by decide +kernel
end
section
variable {X:Cx}{K:W.Frag}
theorem k7(hK:X.K=K:=by rfl):IxR X (a9M K):=hK▸b1E
theorem j8(hK:X.K=K:=by rfl):IxR X (a9N K):=hK▸b3r
theorem a1F(hK:X.K=K:=by rfl):SlR X (a9O K):=hK▸b1F
def a6O(K:W.Frag):List V→Hp→VK→Prop:=fun xs H Q=>∃p ys,xs=[.ref p]∧(SqL K H p ys∨SqT K H p ys)∧Q (.int ys.length) H
theorem l9(hK:X.K=K:=by rfl):T8 X (.builtin "len") (a6O K):=hK▸a5m
def a6P(K:W.Frag):List V→Hp→VK→Prop:=fun xs H Q=>∃p ys,xs=[.ref p]∧(SqL K H p ys∨SqT K H p ys)∧∀l,H l=none→Q (.ref l) (upd H l (.lst ys))
theorem Q5(hK:X.K=K:=by rfl):T8 X (.type "list") (a6P K):=hK▸a5n
theorem a0l(hK:X.K=K:=by rfl):T8 X (.builtin "isinstance") (a7y K):=hK▸a9T
theorem G6{es:List Expr}{k:Nat}{t:TGs}{n:Nat}{pos:Pos}(hc:X.calm=true)(h:PGs X es t)(hK:X.K=K:=by rfl)(hn:(assignEach es X.env).length=n:=by rfl)(hst:(assignEach es X.env).findIdx? (·.1)=none:=by rfl) :
  PG X (.Tuple es k pos) (a7p K n t):=hK▸b3h hc h hn hst
variable {o e:Expr}{es:List Expr}{to:TE}{t:TA}{name:Str}{apos cpos:Pos}{T id:String}{r:V→List V→Hp→VK→Prop}
theorem Q6(pa:PlainAttrs T)(slot:Slot T name id)(hty:typeOf (.builtin id)=pure (.type "method_descriptor"))(hm:MtR X id r)(ho:PE X o to)(ha:PA X (e::es) t)(hK:X.K=K:=by rfl)
  (hbase:attributeBase o name X.env (eval o X.env)=eval o X.env:=by rfl)
  (hfew:((backTo cpos (starEach (e::es) X.env)).all (fun x=>!x.1) && (backToKw cpos (keywordEach [] X.env)).all (fun x=>x.1.isSome)
   && decide ((e::es).length+([]:List Keyword).length+(if([]:List Keyword).isEmpty then 0 else 1)<30))=true:=by rfl)
  (hline:(apos.endLine == cpos.line)=true:=by rfl) (hs:starEach (e::es) X.env=(false,eval e X.env)::starEach es X.env:=by rfl) (hplain:(backTo cpos (starEach es X.env)).any (·.1)=false:=by rfl) :
  PE X (.Call (.Attribute o name apos) (e::es) [] cpos) (tBM K T r to t):=hK▸b4B pa slot hty hm ho ha hbase hfew hline hs hplain
end
theorem a2E{h h' B B':Heap}:∀{l:List Env},h.FunFrames B l→(∀b∈L7 l,h'.get? b=h.get? b)→(∀b,B.get? b=none→B'.get? b=none)→h'.FunFrames B' l
 | [],_,_,_=>trivial
 | env::J8,⟨k,⟨L,o,f,b,g,n⟩,r⟩,hk,hb=>by
  refine⟨k,⟨L,o,f,hb L b,(hk L ?_).trans g,n⟩,a2E r (fun c hc=>hk c ?_) hb⟩
  ·exact List.mem_filterMap.mpr ⟨env,List.mem_cons_self,f⟩
  ·obtain⟨e,he,q⟩:=List.mem_filterMap.mp hc
   exact List.mem_filterMap.mpr ⟨e,List.mem_cons_of_mem _ he,q⟩
section
variable {X:Cx}{E:XK}{pins pins':List (Addr×Obj)}{σ σ':St}{H3 H':Hp}{s3 s':Shared}{scope:Scope}{Nc:List Str}{C a:Addr}{fp:List Addr}{xe:Value→Shared→Prop}{cls:Value}{cx:Option Addr}{B:Heap}
theorem a7B(acc:XAcc X E)(I3:Inv X pins σ H3 s3)(hC:C=s3.heap.objs.size)(hfp:∀b∈fp,FpOk X pins H3 b)(I:Inv (y6 X scope Nc C s3 H3 fp xe) pins' σ' H' s')(x:XAt (y6 X scope Nc C s3 H3 fp xe) pins' H' s' a cls cx B .any)(hE:E cls cx H') :
  ∃m,s'.heap.Ns C m∧∀h',Heap.SameBut C s'.heap h'→∀cenv:Env,cenv.locals=C→wpAny (model X.prog X.w) X.A (passOn "comprehension.variables-let-go" (.ref a) cenv:Sem Value) (fun _ _=>False) X.xe { s' with heap:=h' }:=by
 obtain⟨m,hn,_⟩:=id I.loc
 refine⟨m,hn,fun h' hs cenv _=>?_⟩
 have J:Inv X pins σ H' s':=I3.call' (ch:=fp) (I.os.trans rfl) I.base I.hok I.bare fun b hb=>⟨(hfp b hb).2.2.2.1,(hfp b hb).2.1,(hfp b hb).2.2.2.2.1,(hfp b hb).2.2.2.2.2⟩
 have lt3:∀b o,s3.heap.get? b=some o→b≠C:=fun b o g z=>absurd (Heap.lt_size g) (by rw[z,hC];exact Nat.lt_irrefl _)
 have hCL:C≠X.env.locals:=by rw[hC];exact Nat.ne_of_gt I3.lt
 have hsz:X.s₀.heap.objs.size≤C:=by rw[hC];exact I3.sz
 have hcl:∀y c,X.env.cells.lookup y=some c→c≠C:=fun y c e z=>by
  obtain⟨v,o,ho,_⟩:=I3.cell y c e
  exact lt3 c o ho z
 have hpn:∀p∈X.pn++pins,p.1≠C:=fun p hp z=>lt3 p.1 p.2 (I3.pin p hp).1 z
 have hC0:H' C=none:=I.free
 have J':Inv X pins σ H' { s' with heap:=h' }:=J.turned (t':=s'.toks) (fun b o hb e=>(hs.2 b hb).trans e) hC0 hCL (.inr hsz) hcl hpn
 have nC:∀b∈L7 X.stack,b≠C:=fun b hb=>by
  obtain⟨_,o,g,_⟩:=I3.stack.mem hb
  exact lt3 b o g
 obtain⟨fl,oe,vs,T,oT,ts,⟨ge,ec,de,z6⟩,⟨z1,z2⟩,⟨bT,nT⟩,gT,dT,z3⟩:=x.tr
 have nf:∀{b:Addr} {o:Obj} {ws:Array Value},s'.heap.get? b=some o→o.data=.fields ws→b≠C:=fun g d z=>by
  obtain⟨o,es,ep,ho,hd,_⟩:=id hn
  rw[z]at g
  have:s'.heap.get? C=some o:=ho
  rw[g]at this;cases this
  rw[d]at hd;cases hd
 have ge':=(hs.2 a (nf ge de)).trans ge
 have gT':=(hs.2 T (nf gT dT)).trans gT
 have hid:∀{b:Addr},B.get? b=none→(W.hideAll B [C]).get? b=none:=fun{b} q=>by
  cases w:(W.hideAll B [C]).get? b with
  | none=>rfl
  | some o=>rw[W.of_hideAll _ w]at q;cases q
 have st:(W.hideAll B [C]).StaysIn h':=fun b o e=>by
  have hb:b≠C:=fun z=>by rw[z,W.hideAll_none [C] (by simp)]at e;cases e
  exact(hs.2 b hb).trans (x.stays b o (W.of_hideAll _ e))
 have ff:h'.FunFrames (W.hideAll B [C]) X.stack:=a2E x.frames (fun b hb=>hs.2 b (nC b hb)) fun b q=>hid q
 have tr:TrX h' (W.hideAll B [C]) a cls cx fl:=⟨oe,vs,T,oT,ts,⟨ge',ec,de,z6⟩,⟨z1,z2⟩,⟨hid bT,nT⟩,gT',dT,z3⟩
 have xx:XAt X pins H' { s' with heap:=h' } a cls cx (W.hideAll B [C]) .any:=by
  refine⟨x.free,st,hid x.fresh,ff,fun b o e i n=>?_,fl,tr⟩
  have hb:b≠C:=by
   rcases i with i | ⟨_,o',i⟩ | ⟨p,hp,q⟩
   ·exact fun z=>i (by rw[z];exact hC0)
   ·exact Nat.ne_of_lt (Nat.lt_of_lt_of_le (Heap.lt_size i) hsz)
   ·rw[← q];exact hpn p hp
  refine W.hideAll_get _ (x.cov b o ((hs.2 b hb).symm.trans e) ?_ n) (by simpa using hb)
  by_cases hh:H' b=none
  ·refine .inr (.inl ⟨fun hf=>?_,?_⟩)
   ·obtain⟨_,_,_,f4,_,f6⟩:=hfp b hf
    rcases i with i | ⟨hx,o',i⟩ | ⟨p,hp,q⟩
    ·exact i hh
    ·rcases f4 with f4 | f4
     ·exact hx f4
     ·exact absurd (Nat.lt_of_lt_of_le (Heap.lt_size i) f4) (Nat.lt_irrefl _)
    ·exact f6 p hp q
   ·rcases i with i | ⟨hx,o',i⟩ | ⟨p,hp,q⟩
    ·exact absurd hh i
    ·exact I3.base.there b o' i hx
    ·exact⟨p.2,by rw[← q];exact(I3.pin p hp).1⟩
  ·exact .inl hh
 unfold PySem.passOn
 refine wpAny_bind (wpAny_field (s:={ s' with heap:=h' }) ge' de z1 ?_)
 rw[if_neg (by simp)]
 refine wpAny_bind (a5o (s:={ s' with heap:=h' }) st ff tr fun h2 k=>wpAny_throw ?_)
 exact acc pins σ H' _ a cls cx _ .any (J'.exc xx.cov k.1 k.2.2.2) ⟨xx.free,k.1,xx.fresh,k.2.1,xx.cov' J' k.1,_,k.2.2.1⟩ hE
end
def a5v(X:Cx)(scope:Scope)(Nc:List Str)(C:Addr)(H3:Hp)(fp:List Addr)(pins:List (Addr×Obj))(σ:St)(E:XK):Value→Shared→Prop:=fun e s' =>
 ∃s3 a cls cx H' B ph pins' σ',e=.ref a∧Inv X pins σ H3 s3∧C=s3.heap.objs.size∧(∀b∈fp,FpOk X pins H3 b)∧Inv (y6 X scope Nc C s3 H3 fp fun _ _=>False) pins' σ' H' s'∧XAt (y6 X scope Nc C s3 H3 fp fun _ _=>False) pins' H' s' a cls cx B ph∧E cls cx H'
section
variable {X:Cx}{E:XK}{elt tg iter:Expr}{ifs:List Expr}{scope:Scope}{pos:Pos}{Nc:List Str}{k:Nat}{js:List Nat}{wi:TI}{g:TG}{tf:TT}{te:TE}
theorem a9X{pins:List (Addr×Obj)}{σ:St}{H3:Hp}{s3:Shared}{C:Addr}{fp:List Addr}(I3:Inv X pins σ H3 s3)(hC:C=s3.heap.objs.size)(hfp:∀b∈fp,FpOk X pins H3 b):XAcc (y6 X scope Nc C s3 H3 fp (a5v X scope Nc C H3 fp pins σ E)) E :=
 fun pins' σ' H' s' a cls cx B ph I x hE=>⟨s3,a,cls,cx,H',B,ph,pins',σ',rfl,I3,hC,hfp,I.wish _,⟨x.free,x.stays,x.fresh,x.frames,x.cov,x.tr⟩,hE⟩
theorem a7C{pins:List (Addr×Obj)}{σ:St}{H3:Hp}{C F:Addr}{fp:List Addr}{env0:Env}{out0:List Env}{R:Value→Shared→Prop}(acc:XAcc X E)(hs0:X.stack=env0::out0)(h0:env0.frame=X.env.frame)(hF:X.env.frame=some F)
  (hR:∀a s',(∃m,s'.heap.Ns C m∧∀h',Heap.SameBut C s'.heap h'→∀cenv:Env,cenv.locals=C→wpAny (model X.prog X.w) X.A (passOn "comprehension.variables-let-go" (.ref a) cenv:Sem Value) (fun _ _=>False) X.xe { s' with heap:=h' })→R (.ref a) s') :
  ∀e s',a5v X scope Nc C H3 fp pins σ E e s'→notedBy (model X.prog X.w) X.A (compEnvC scope (J3 X.env.cells scope.names []) C X.env) R e s':=by
 rintro e s' ⟨s3,a,cls,cx,H',B,ph,pins',σ',rfl,I3,hC,hfp,I,x,hE⟩
 unfold notedBy
 exact a6M (X:=y6 X scope Nc C s3 H3 fp fun _ _=>False) I.ok.frames hs0 h0 hF I x fun h1 I1 x1=>hR a _ (a7B acc I3 hC hfp I1 x1 hE)
theorem a9Y{env0:Env}{out0:List Env}{F:Addr}(acc:XAcc X E)(hc:X.calm=true)(S:CompSc X.env.scope scope X.N Nc k js)(hi:PI X tg iter wi)(hg:∀C s3 H3 fp xe,PG (y6 X scope Nc C s3 H3 fp xe) tg g)(hf:∀C s3 H3 fp xe,PF (y6 X scope Nc C s3 H3 fp xe) ifs tf)
  (he:∀C s3 H3 fp xe,XAcc (y6 X scope Nc C s3 H3 fp xe) E→PE (y6 X scope Nc C s3 H3 fp xe) elt te) (hs:∀x,foldedSetIterable iter X.env x=pure x:=by intro _;rfl)
  (hs0:X.stack=env0::out0:=by rfl) (h0:env0.frame=X.env.frame:=by rfl) (hF:X.env.frame=some F:=by rfl):PE X (.ListComp elt [⟨tg,iter,ifs,0⟩] scope pos) (a08 wi g tf te k js):=by
 intro pins s σ H Q I h
 rw[eval_ListComp]
 refine wpAny_comprehension_free (use:=none) rfl hs (a0f (a1C I S)) S.kind S.names (t6 (hi pins s σ H _ I h) fun v s1 h1=>t6 h1 fun itv s2 h2=>?_)
 obtain⟨it,fp,tn,J,H2,rfl,I2,T,st2,f2,hR⟩:=h2
 refine a1D (RR:=fun acc C=>compPost (model X.prog X.w) X.A X.xe none (EP X pins σ Q) acc C) (Fin:=fun D H'=>Q (.ref D) H') hc S hg hf
  (fun C D H3=>⟨a5v X scope Nc C H3 fp pins σ E,a7C acc hs0 h0 hF fun a s' z=>z,fun s3 I3 hC hfp=>he _ _ _ _ _ (a9X I3 hC hfp)⟩) I2 T st2 f2 hR ?_
 intro D C H' s' m' I' hn hC hCL hsz hcl hpn q
 exact⟨m',hn,fun h' hs'=>⟨.ref D,H',I'.turned (t':=s'.toks) (fun b o hb e=>(hs'.2 b hb).trans e) hC hCL (.inr hsz) hcl hpn,rfl,q⟩⟩
end
def Itz(K:W.Frag)(a b:Addr):It :=
 ⟨fun i H=>∃xs ys x y,SqL K H a xs∧SqL K H b ys∧xs[i]? = some x∧ys[i]? = some y,fun i H v H'=>∃p x y,v=.ref p∧H p=none∧H'=upd H p (.tup [x,y])∧(∀xs,SqL K H a xs→xs[i]? = some x)∧∀ys,SqL K H b ys→ys[i]? = some y,
  fun i H=>∃xs ys,SqL K H a xs∧SqL K H b ys∧(xs.length≤i∨ys.length≤i)⟩
theorem a9Z{P:Program}{w:World}{K:W.Frag}{elts:List Expr}{x1}{tpos:Pos}(l1 l2 z TI TO i1 i2:Addr)(D:ZipApart z TI TO i1 i2 l1 l2):Turn P w K (.Tuple elts x1 tpos) (Itz K l1 l2) [z,TI,TO,i1,i2] z
  (fun i h=>IsZip h z TI TO .none∧IsPair h TI (.ref i1) (.ref i2)∧(∃a b,IsPair h TO a b)∧h.IsListIter i1 l1 i∧h.IsListIter i2 l2 i) where
 mem:=by simp
 obj:=fun i h ⟨hz,hTI,⟨a,b,hTO⟩,h1,h2⟩ c hc=>by
  simp only[List.mem_cons,List.not_mem_nil,or_false]at hc
  rcases hc with rfl | rfl | rfl | rfl | rfl
  ·exact⟨_,hz,fun v z=>nomatch (show Data.fields _=Data.cell v from z)⟩
  ·exact⟨_,hTI,fun v z=>nomatch (show Data.seq _ _=Data.cell v from z)⟩
  ·exact⟨_,hTO,fun v z=>nomatch (show Data.seq _ _=Data.cell v from z)⟩
  ·obtain⟨o,e1,c,d⟩:=h1;exact⟨o,e1,fun v z=>by rw[d]at z;cases z⟩
  ·obtain⟨o,e1,c,d⟩:=h2;exact⟨o,e1,fun v z=>by rw[d]at z;cases z⟩
 keep:=fun i h h' ⟨hz,hTI,⟨a,b,hTO⟩,h1,h2⟩ k=>⟨k z (by simp) _ hz,k TI (by simp) _ hTI,⟨a,b,k TO (by simp) _ hTO⟩,h1.at fun o q=>k i1 (by simp) o q,h2.at fun o q=>k i2 (by simp) o q⟩
 item:=by
  intro X hP hw hK hc i pins s σ H E I hf st hg
  subst hP hw hK
  obtain⟨hz,hTI,⟨a,b,hTO⟩,h1,h2⟩:=st
  obtain⟨xs,ys,x,y,hq,hq',hx,hy⟩:=hg
  obtain⟨its,rv,p,_⟩:=I.list hq
  obtain⟨u,hu,ru⟩:=rv.get hx
  obtain⟨its',rv',p',_⟩:=I.list hq'
  obtain⟨u',hu',ru'⟩:=rv'.get hy
  refine wpAny_pyNext_zip_item D hz hTI hTO h1 h2 p.isList p'.isList (x:=u) (y:=u') (by simpa using hu) (by simpa using hu') fun h' q1 q2 q3 q4 q5 q6 q7=>⟨_,rfl,?_⟩
  refine wpAny_letOwnedTupleGo_zip (s:={ s with heap:=h',toks:=s.toks }) q1 fun h3 r1 r2=>?_
  have nez:s.heap.objs.size≠z:=Nat.ne_of_gt (Heap.lt_size hz)
  have k2:∀c o,c ∉ [z,TI,TO,i1,i2]→s.heap.get? c=some o→h3.get? c=some o:=fun c o hb q =>
   (r2.2 c fun e=>hb (by simp[e])).trans (q7 c o (fun e=>hb (by simp[e])) (fun e=>hb (by simp[e])) (fun e=>hb (by simp[e])) (fun e=>hb (by simp[e])) q)
  have I1:Inv X pins σ (upd H s.heap.objs.size (.tup [x,y])) { s with heap:=h3,toks:=s.toks }:=I.turnedL k2 hf (Nat.le_refl _)
   ⟨by show 2≤sizeLine;decide,[u,u'],.cons ru (.cons ru' .nil),⟨_,(r2.2 _ nez).trans q5,rfl,_,rfl⟩⟩
  refine⟨.ref s.heap.objs.size,_,I1,rfl,⟨_,x,y,rfl,I.fresh,rfl,(fun zs hs=>by rw[I.list_inj hs hq];exact hx),fun zs hs=>by rw[I.list_inj hs hq'];exact hy⟩,
   ⟨r1,(r2.2 _ D.TIz).trans (q7 _ _ D.TIz D.TITO D.TIi1 D.TIi2 hTI),⟨_,_,(r2.2 _ D.TOz).trans q2⟩,q3.extBut r2.extBut D.i1z,q4.extBut r2.extBut D.i2z⟩,fun c hc=>?_⟩
  have:∃o,s.heap.get? c=some o:=by
   simp only[List.mem_cons,List.not_mem_nil,or_false]at hc
   rcases hc with rfl | rfl | rfl | rfl | rfl
   ·exact⟨_,hz⟩
   ·exact⟨_,hTI⟩
   ·exact⟨_,hTO⟩
   ·obtain⟨o,e1,_⟩:=h1;exact⟨o,e1⟩
   ·obtain⟨o,e1,_⟩:=h2;exact⟨o,e1⟩
  obtain⟨o,e1⟩:=this
  rw[f9 (Nat.ne_of_lt (Heap.lt_size e1))]
  exact(hf c hc).1
 done:=by
  intro X hP hw hK hc i pins s σ H E I hf st hg
  subst hP hw hK
  obtain⟨hz,hTI,⟨a,b,hTO⟩,h1,h2⟩:=st
  obtain⟨xs,ys,hq,hq',hx⟩:=hg
  obtain⟨its,rv,p,_⟩:=I.list hq
  obtain⟨its',rv',p',_⟩:=I.list hq'
  have hl:=rv.length
  have hl':=rv'.length
  refine wpAny_pyNext_zip_end (I.ok.hd hc) D hz hTI hTO h1 h2 p.isList p'.isList (hx.imp (fun h=>by simp;omega) fun h=>by simp;omega) fun h' eb=>⟨rfl,I.turnedN (t':=s.toks) (fun c o hb q=>?_) hf⟩
  exact eb c o (fun e=>hb (by simp[e])) (fun e=>hb (by simp[e])) (fun e=>hb (by simp[e])) (fun e=>hb (by simp[e])) q
 self:=fun _ _ _ _ _ st h=>wpAny_pyIter_zip st.1 h
theorem a90{K:W.Frag}{a b:Addr}{xs ys:List V}{g:TG}{tf:TT}{te:TE}{k:Nat}{σ0:St}{D:Addr}{Fin:Hp→Prop}{H1:Hp}(Pv:Nat→List V→Hp→Prop)(h0:Pv 0 [] (upd H1 D (.lst [])))(hl:∀i zs H,Pv i zs H→SqL K H a xs∧SqL K H b ys)
  (hs:∀i x y zs H p,xs[i]? = some x→ys[i]? = some y→Pv i zs H→H p=none→g (.ref p) σ0 (upd H p (.tup [x,y])) fun σ2 H2=>(σ2.drop k=σ0.drop k∧σ2.length=σ0.length)∧tf σ2 H2 fun b H3 =>
   if b=true then te σ2 H3 fun y H4=>H4 D=some (.lst zs)∧zs.length<sizeLine∧Pv (i+1) (zs++[y]) (upd H4 D (.lst (zs++[y])))else Pv (i+1) zs H3)
  (hd:∀zs H,Pv (min xs.length ys.length) zs H→Fin H):S6 (Itz K a b) g tf te k σ0 D Fin H1:=by
 refine⟨fun i m zs H=>m=min xs.length ys.length-i∧i≤min xs.length ys.length∧Pv i zs H,⟨min xs.length ys.length,by simp,Nat.zero_le _,h0⟩,?_⟩
 rintro i m zs H ⟨rfl,hi,p⟩
 obtain⟨q,q'⟩:=hl i zs H p
 by_cases hlt:i<min xs.length ys.length
 ·have h1:i<xs.length:=by omega
  have h2:i<ys.length:=by omega
  refine .inr ⟨⟨xs,ys,xs[i],ys[i],q,q',by simp[h1],by simp[h2]⟩,Pv (i+1),fun ys' H' z=>⟨_,by omega,rfl,hlt,z⟩,fun v H' y=>?_⟩
  obtain⟨c,x,y',rfl,hc,rfl,e1,e2⟩:=y
  exact hs i x y' zs _ c (e1 xs q) (e2 ys q') p hc
 ·have e:i=min xs.length ys.length:=by omega
  subst e
  exact .inl ⟨⟨xs,ys,q,q',by omega⟩,hd zs H p⟩
theorem b3A:bootBuiltins "zip" = some (.type "zip"):=by decide +kernel
def b3B(K:W.Frag)(ta:TA):TI:=fun σ H R=>ta σ H fun vs H1=>∃a b,vs=[.ref a,.ref b]∧(∃xs,SqL K H1 a xs)∧(∃ys,SqL K H1 b ys)∧R (Itz K a b) H1
section
variable {X:Cx}
theorem b3C{elts:List Expr}{x1}{tpos:Pos}{l l':Expr}{ta:TA}{p pos:Pos}(hg:Gl X "zip")(hm:X.mg "zip" = none)(ha:PA X [l,l'] ta)(hs:starEach [l,l'] X.env=(false,eval l X.env)::starEach [l'] X.env:=by rfl)(hpl:(backTo pos (starEach [l'] X.env)).any (·.1)=false:=by rfl) :
  PI X (.Tuple elts x1 tpos) (.Call (.Name "zip" p) [l,l'] [] pos) (b3B X.K ta):=by
 intro pins s σ H R I h
 refine Call_ (X6 I hg hm b3A (PyProof.Rows.callWith_type1 (t6 (ha pos pins s σ H _ I h) fun us s1 ⟨vs,H1,I1,r1,q1⟩=>?_) hs hpl))
 obtain⟨a,b,e,⟨xs,hq⟩,⟨ys,hq'⟩,q⟩:=q1
 subst e
 obtain⟨u,u',rfl,ru,ru'⟩:∃u u',us=[u,u']∧RelV (.ref a) u∧RelV (.ref b) u':=by
  cases r1 with
  | cons r t=>cases t with
   | cons r' t'=>cases t';exact⟨_,_,rfl,r,r'⟩
 cases (show u=Value.ref a from ru)
 cases (show u'=Value.ref b from ru')
 obtain⟨its,rv,pl,hz⟩:=I1.list hq
 obtain⟨its',rv',pl',hz'⟩:=I1.list hq'
 refine call_zip_2 pl.isList pl'.isList fun h' q1 q2 q3 q4 q5 q6 q7=>?_
 have I2:Inv X pins σ H1 { s1 with heap:=h' }:=I1.kept (t':=s1.toks) q7
 refine wpAny_pyIter_zip (s:={ s1 with heap:=h' }) q1 ?_
 have la:a<s1.heap.objs.size:=by obtain⟨o,n,e,_⟩:=pl;exact Heap.lt_size e
 have lb:b<s1.heap.objs.size:=by obtain⟨o,n,e,_⟩:=pl';exact Heap.lt_size e
 refine⟨s1.heap.objs.size+4,[s1.heap.objs.size+4,s1.heap.objs.size+2,s1.heap.objs.size+3,s1.heap.objs.size,s1.heap.objs.size+1],_,_,H1,rfl,I2,a9Z a b (s1.heap.objs.size+4) (s1.heap.objs.size+2) (s1.heap.objs.size+3) s1.heap.objs.size (s1.heap.objs.size+1) ?_,⟨q1,q2,⟨_,_,q3⟩,q4,q5⟩,fun c hc=>?_,q⟩
 ·constructor<;> (simp only[Addr,ne_eq]at *;omega)
 ·have hb':s1.heap.objs.size≤c:=by
   simp only[List.mem_cons,List.not_mem_nil,or_false]at hc
   rcases hc with rfl | rfl | rfl | rfl | rfl<;> (simp only[Addr]at *;omega)
  exact I1.fpOk hb' (I1.hok.fresh hb')
end
def b3D(K:W.Frag):List V→Hp→VK→Prop:=fun xs H Q=>∃(a:Addr) (ns:List Int),xs=[.ref a]∧SqL K H a (ns.map V.int)∧Q (.int ns.sum) H
theorem a3g:∀{ns:List Int} {us:List Value},Vals (ns.map V.int) us→∃ps:List (Int×Tok),us=ps.map (fun p=>Value.int p.1 p.2)∧ps.map (·.1)=ns
 | [],_,.nil=>⟨[],rfl,rfl⟩
 | n::ns,_,.cons r t=>by
  obtain⟨tk,rfl⟩:=r
  obtain⟨ps,rfl,e⟩:=a3g t
  exact⟨(n,tk)::ps,rfl,by rw[List.map_cons,e]⟩
section
variable {X:Cx}
theorem a4A{K:W.Frag}(hc:X.calm=true:=by rfl)(hK:X.K=K:=by rfl):T8 X (.builtin "sum") (b3D K):=by
 subst hK
 intro pins s σ H xs us Q I r h
 obtain⟨a,ns,rfl,hq,q⟩:=h
 obtain⟨u,rfl,ru⟩:=r.one
 cases (show u=Value.ref a from ru)
 obtain⟨its,rv,pl,hz⟩:=I.list hq
 obtain⟨ps,rfl,e⟩:=a3g rv
 have el:(ps.map fun p=>Value.int p.1 p.2).toArray=intItems ps.toArray:=by unfold intItems;simp
 have hl:=pl.isList
 rw[el]at hl
 refine sum_intListG (I.ok.hd hc) hl fun h' tk t' hk=>⟨.int ns.sum,H,I.kept (t':=tk) hk,?_,q⟩
 refine⟨t',?_⟩
 rw[preSum_eq,List.take_of_length_le (by simp),e]
end
theorem a8B:bootBuiltins "sum" = some (.builtin "sum"):=by decide +kernel
def Gd(n:Nat)(lt:Nat→Nat→Bool){α:Type}:KasT α→(α→Prop)→Prop
 | .ret a,P=>P a
 | .ask i j k,P=>i<n∧j<n∧Gd n lt (k (lt i j)) P
theorem Gd.mono{n:Nat}{lt:Nat→Nat→Bool}{α:Type}{P P':α→Prop}(h:∀a,P a→P' a):∀{t:KasT α},Gd n lt t P→Gd n lt t P'
 | .ret a,g=>h a g
 | .ask i j k,g=>⟨g.1,g.2.1,Gd.mono h g.2.2⟩
theorem Gd.bind{n:Nat}{lt:Nat→Nat→Bool}{α β:Type}{P:β→Prop}{f:α→KasT β}:∀{t:KasT α},Gd n lt t (fun a=>Gd n lt (f a) P)→Gd n lt (t.bind f) P
 | .ret a,g=>g
 | .ask i j k,g=>⟨g.1,g.2.1,Gd.bind (t:=k (lt i j)) g.2.2⟩
theorem Gd.wp{n:Nat}{lt:Nat→Nat→Bool}{α:Type}{cmp:Nat→Nat→(Bool→Shared→Prop)→Shared→Prop}{s:Shared}(hc:∀i j C,i<n→j<n→C (lt i j) s→cmp i j C s){P:α→Prop}{Q:α→Shared→Prop}(q:∀a,P a→Q a s):∀{t:KasT α},Gd n lt t P→t.kasWp cmp Q s
 | .ret a,g=>q a g
 | .ask i j k,g=>hc i j _ g.1 g.2.1 (Gd.wp hc q (t:=k (lt i j)) g.2.2)
def ga(p:Array Nat)(k:Nat):Nat:=p.getD k 0
theorem a3h(p:Array Nat)(k:Nat):ga p k=(p[k]?).getD 0:=by
 unfold ga;simp[Array.getD_eq_getD_getElem?]
structure TPre(lt:Nat→Nat→Bool):Prop where
 irr:∀i,lt i i=false
 tr:∀i j k,lt j i=false→lt k j=false→lt k i=false
 asy:∀i j,lt i j=true→lt j i=false
section
variable {n:Nat}{lt:Nat→Nat→Bool}
def Up(lt:Nat→Nat→Bool)(p:Array Nat)(m:Nat):Prop:=∀i j,i≤j→j<m→lt (ga p j) (ga p i)=false
def Dn(lt:Nat→Nat→Bool)(p:Array Nat)(m:Nat):Prop:=∀i j,i≤j→j<m→lt (ga p i) (ga p j)=false
def Pmn(n:Nat)(p:Array Nat):Prop:=p.toList.Perm (List.range n)
theorem Pmn.size{p:Array Nat}(h:Pmn n p):p.size=n:=by have:=h.length_eq;simpa using this
theorem Pmn.bd{p:Array Nat}(h:Pmn n p){k:Nat}(hk:k<n):ga p k<n:=by
 have hs:=h.size
 have:ga p k∈p.toList:=by
  have e:ga p k=p[k]'(by omega):=by unfold ga;simp[Array.getD,hs,hk]
  rw[e];exact Array.getElem_mem_toList _
 exact List.mem_range.mp (h.mem_iff.mp this)
theorem Pmn.rev{p:Array Nat}(h:Pmn n p)(i j:Nat):Pmn n (kas_rev p i j):=((Array.perm_iff_toList_perm.mp (mirror_perm p i j _)).trans h)
theorem Pmn.bub{p:Array Nat}(h:Pmn n p)(i j:Nat):Pmn n (bubble p i j):=((Array.perm_iff_toList_perm.mp (bubble_perm p i j)).trans h)
theorem a12{p:Array Nat}{i j:Nat}(hj:j≤p.size)(k:Nat):ga (kas_rev p i j) k=if i≤k∧k<j then ga p (i+j-1-k)else ga p k:=by
 rw[a3h,kas_rev,getElem?_mirror_all hj]
 split<;>rw[a3h]
theorem b3E{p:Array Nat}{src d:Nat}(hs:src<p.size)(hd:d≤src)(k:Nat):ga (bubble p src d) k=if k=src-d then ga p src else if src-d<k∧k≤src then ga p (k-1)else ga p k:=by
 rw[a3h,getElem?_bubble hs d hd]
 split
 ·rw[a3h]
 ·split<;>rw[a3h]
theorem a5w(T:TPre lt){p:Array Nat}(hp:Pmn n p):∀(f k:Nat),1≤k→k+f≤n→Up lt p k→Gd n lt (kas_asc p f k) (fun m=>k≤m∧m≤k+f∧Up lt p m∧(m<k+f→lt (ga p m) (ga p (m-1))=true))
 | 0,k,_,_,u=>⟨Nat.le_refl _,Nat.le_refl _,u,fun z=>absurd z (by omega)⟩
 | f+1,k,h1,h2,u=>by
  refine⟨hp.bd (by omega),hp.bd (by omega),?_⟩
  cases c:lt (p.getD k 0) (p.getD (k-1) 0)with
  | true=>simp only[if_true];exact⟨Nat.le_refl _,by omega,u,fun _=>c⟩
  | false =>
   simp only[Bool.false_eq_true,if_false]
   refine(a5w T hp f (k+1) (by omega) (by omega) fun i j hij hj=>?_).mono fun m h=>⟨by omega,by omega,h.2.2.1,fun z=>h.2.2.2 (by omega)⟩
   by_cases hjk:j<k
   ·exact u i j hij hjk
   ·have e:j=k:=by omega
    subst e
    by_cases hik:i=j
    ·subst hik;exact T.irr _
    ·exact T.tr _ _ _ (u i (j-1) (by omega) (by omega)) c
theorem a2m(T:TPre lt):∀(f:Nat) (p:Array Nat) (k q:Nat),Pmn n p→q+1≤k→k+f≤n→Dn lt p k→(∀i,k-(q+1)≤i→i<k→lt (ga p (k-1)) (ga p i)=false∧lt (ga p i) (ga p (k-1))=false) →
  Gd n lt (kas_desc f p k q) (fun r=>Pmn n r.1∧k≤r.2.1∧r.2.1≤k+f∧r.2.2+1≤r.2.1∧Dn lt r.1 r.2.1∧∀i,r.2.1-(r.2.2+1)≤i→i<r.2.1→lt (ga r.1 (r.2.1-1)) (ga r.1 i)=false∧lt (ga r.1 i) (ga r.1 (r.2.1-1))=false)
 | 0,p,k,q,hp,hq,hk,d,eq=>⟨hp,Nat.le_refl _,Nat.le_refl _,hq,d,eq⟩
 | f+1,p,k,q,hp,hq,hk,d,eq=>by
  refine⟨hp.bd (by omega),hp.bd (by omega),?_⟩
  have ext:∀p':Array Nat,Dn lt p' k→(lt (ga p' (k-1)) (ga p' k)=false)→Dn lt p' (k+1):=fun p' d' c i j hij hj=>by
   by_cases hjk:j<k
   ·exact d' i j hij hjk
   ·have e:j=k:=by omega
    subst e
    by_cases hik:i=j
    ·subst hik;exact T.irr _
    ·exact T.tr _ _ _ c (d' i (j-1) (by omega) (by omega))
  cases c:lt (p.getD k 0) (p.getD (k-1) 0)with
  | true =>
   simp only[if_true]
   have c':lt (ga p (k-1)) (ga p k)=false:=T.asy _ _ c
   have one:∀p':Array Nat,∀i,k+1-(0+1)≤i→i<k+1→lt (ga p' (k+1-1)) (ga p' i)=false∧lt (ga p' i) (ga p' (k+1-1))=false:=fun p' i h1 h2=>by
    have e:i=k+1-1:=by omega
    rw[e];exact⟨T.irr _,T.irr _⟩
   by_cases hq0:q > 0
   ·rw[if_pos hq0]
    have hps:=hp.size
    have gr:=a12 (p:=p) (i:=k-(q+1)) (j:=k) (by omega)
    have eqv:∀i,i<k→lt (ga (kas_rev p (k-(q+1)) k) i) (ga p i)=false∧lt (ga p i) (ga (kas_rev p (k-(q+1)) k) i)=false:=fun i hi=>by
     rw[gr]
     split
     ·rename_i z
      have a:=eq (k-(q+1)+k-1-i) (by omega) (by omega)
      have b:=eq i z.1 z.2
      exact⟨T.tr _ _ _ b.1 a.2,T.tr _ _ _ a.1 b.2⟩
     ·exact⟨T.irr _,T.irr _⟩
    have gk:ga (kas_rev p (k-(q+1)) k) k=ga p k:=by rw[gr,if_neg (by omega)]
    have dr:Dn lt (kas_rev p (k-(q+1)) k) k:=fun i j hij hj=>T.tr _ _ _ (T.tr _ _ _ (eqv j hj).2 (d i j hij hj)) (eqv i (by omega)).1
    exact(a2m T f _ (k+1) 0 (hp.rev _ _) (by omega) (by omega) (ext _ dr (by rw[gk];exact T.tr _ _ _ c' (eqv (k-1) (by omega)).1)) (one _)).mono fun r h=>⟨h.1,by omega,by omega,h.2.2.2⟩
   ·rw[if_neg hq0]
    exact(a2m T f _ (k+1) 0 hp (by omega) (by omega) (ext _ d c') (one _)).mono fun r h=>⟨h.1,by omega,by omega,h.2.2.2⟩
  | false =>
   simp only[Bool.false_eq_true,if_false]
   refine⟨hp.bd (by omega),hp.bd (by omega),?_⟩
   cases e:lt (p.getD (k-1) 0) (p.getD k 0)with
   | true=>simp only[if_true];exact⟨hp,Nat.le_refl _,Nat.le_add_right _ _,hq,d,eq⟩
   | false =>
    simp only[Bool.false_eq_true,if_false]
    refine(a2m T f p (k+1) (q+1) hp (by omega) (by omega) (ext _ d e) fun i h1 h2=>?_).mono fun r h=>⟨h.1,by omega,by omega,h.2.2.2⟩
    rw[Nat.add_sub_cancel]
    by_cases hik:i=k
    ·subst hik;exact⟨T.irr _,T.irr _⟩
    ·have a:=eq i (by omega) (by omega)
     exact⟨T.tr _ _ _ a.1 c,T.tr _ _ _ e a.2⟩
theorem a5x(T:TPre lt){p:Array Nat}{k:Nat}(hp:Pmn n p)(h1:1≤k)(hk:k≤n)(d:Dn lt p k):Gd n lt (kas_tail3 k n p) (fun r=>Pmn n r.2∧1≤r.1∧r.1≤n∧Up lt r.2 r.1):=by
 have hps:=hp.size
 have gr:=a12 (p:=p) (i:=0) (j:=k) (by omega)
 refine Gd.bind ((a5w T (hp.rev 0 k) (n-k) k h1 (by omega) fun i j hij hj=>?_).mono fun m h=>⟨hp.rev 0 k,by show 1≤m;omega,by show m≤n;omega,h.2.2.1⟩)
 rw[gr,gr,if_pos (by omega),if_pos (by omega)]
 exact d _ _ (by omega) (by omega)
theorem a2F(T:TPre lt){p:Array Nat}{k:Nat}(hp:Pmn n p)(hk:k+1≤n)(d:Dn lt p (k+1)):Gd n lt (kas_descPart k n p) (fun r=>Pmn n r.2∧1≤r.1∧r.1≤n∧Up lt r.2 r.1):=by
 refine Gd.bind ((a2m T (n-(k+1)) p (k+1) 0 hp (by omega) (by omega) d fun i h1 h2=>?_).mono fun r h=>?_)
 ·have e:i=k+1-1:=by omega
  rw[e];exact⟨T.irr _,T.irr _⟩
 ·obtain⟨p',m,q⟩:=r
  obtain⟨hp',hm1,hm2,hq,d',eq⟩:=h
  dsimp only at *
  have hps:=hp'.size
  split
  ·have gr:=a12 (p:=p') (i:=m-(q+1)) (j:=m) (by omega)
   have eqv:∀i,i<m→lt (ga (kas_rev p' (m-(q+1)) m) i) (ga p' i)=false∧lt (ga p' i) (ga (kas_rev p' (m-(q+1)) m) i)=false:=fun i hi=>by
    rw[gr]
    split
    ·rename_i z
     have a:=eq (m-(q+1)+m-1-i) (by omega) (by omega)
     have b:=eq i z.1 z.2
     exact⟨T.tr _ _ _ b.1 a.2,T.tr _ _ _ a.1 b.2⟩
    ·exact⟨T.irr _,T.irr _⟩
   exact a5x T (hp'.rev _ _) (by omega) (by omega) fun i j hij hj=>T.tr _ _ _ (T.tr _ _ _ (eqv j hj).2 (d' i j hij hj)) (eqv i (by omega)).1
  ·exact a5x T hp' (by omega) (by omega) d'
theorem a91(T:TPre lt){p:Array Nat}(hp:Pmn n p)(h1:1≤n):Gd n lt (kas_count n p) (fun r=>Pmn n r.2∧1≤r.1∧r.1≤n∧Up lt r.2 r.1):=by
 have hps:=hp.size
 refine Gd.bind ((a5w T hp (n-1) 1 (Nat.le_refl _) (by omega) fun i j hij hj=>?_).mono fun m h=>?_)
 ·have e:i=j:=by omega
  rw[e];exact T.irr _
 ·obtain⟨hm1,hm2,u,z⟩:=h
  split
  ·exact⟨hp,hm1,by omega,u⟩
  ·rename_i ne
   have hlt:m<n:=by
    have:m≠n:=fun q=>ne (by rw[q];exact beq_self_eq_true _)
    omega
   have zl:=z (by omega)
   split
   ·rename_i m1
    refine⟨hp.bd (by omega),hp.bd (by omega),?_⟩
    cases c:lt (p.getD 0 0) (p.getD (m-1) 0)with
    | true=>simp only[if_true];exact⟨hp,hm1,by omega,u⟩
    | false =>
     simp only[Bool.false_eq_true,if_false]
     have gr:=a12 (p:=p) (i:=0) (j:=m) (by omega)
     refine a2F T (hp.rev 0 m) (by omega) fun i j hij hj=>?_
     have all:∀a b,a<m→b<m→lt (ga p a) (ga p b)=false:=fun a b ha hb =>
      T.tr _ _ _ (u b (m-1) (by omega) (by omega)) (T.tr _ _ _ c (u 0 a (by omega) ha))
     rw[gr,gr]
     by_cases hjm:j<m
     ·rw[if_pos (by omega),if_pos (by omega)];exact all _ _ (by omega) (by omega)
     ·have e:j=m:=by omega
      subst e
      rw[if_neg (show ¬(0≤j∧j<j) by omega)]
      by_cases hij':i=j
      ·subst hij';rw[if_neg (by omega)];exact T.irr _
      ·rw[if_pos (by omega)]
       exact T.tr _ _ _ (T.asy _ _ zl) (all _ _ (by omega) (by omega))
   ·rename_i m1
    have e:m=1:=by omega
    subst e
    refine a2F T hp (by omega) fun i j hij hj=>?_
    by_cases hij':i=j
    ·subst hij';exact T.irr _
    ·have e1:i=0:=by omega
     have e2:j=1:=by omega
     subst e1 e2
     exact T.asy _ _ zl
theorem a2T(T:TPre lt){p:Array Nat}(hp:Pmn n p){k:Nat}(hk:k<n)(u:Up lt p k):∀(f l r:Nat),l≤r→r≤k→r-l≤f→(∀i,i<l→lt (ga p k) (ga p i)=false)→(∀i,r≤i→i<k→lt (ga p i) (ga p k)=false) →
  Gd n lt (kas_place p k f l r) (fun m=>m≤k∧(∀i,i<m→lt (ga p k) (ga p i)=false)∧∀i,m≤i→i<k→lt (ga p i) (ga p k)=false)
 | 0,l,r,h1,h2,h3,a,b=>⟨by omega,a,fun i hi=>b i (by omega)⟩
 | f+1,l,r,h1,h2,h3,a,b=>by
  show Gd n lt (if l≥r then _ else _) _
  split
  ·exact⟨by omega,a,fun i hi=>b i (by omega)⟩
  ·refine⟨hp.bd hk,hp.bd (by omega),?_⟩
   cases c:lt (p.getD k 0) (p.getD ((l+r)/2) 0)with
   | true =>
    simp only[if_true]
    refine a2T T hp hk u f l ((l+r)/2) (by omega) (by omega) (by omega) a fun i hi hik=>?_
    exact T.tr _ _ _ (T.asy _ _ c) (u ((l+r)/2) i hi hik)
   | false =>
    simp only[Bool.false_eq_true,if_false]
    refine a2T T hp hk u f ((l+r)/2+1) r (by omega) (by omega) (by omega) (fun i hi=>?_) b
    exact T.tr _ _ _ (u i ((l+r)/2) (by omega) (by omega)) c
theorem a8C(T:TPre lt):∀(f:Nat) (p:Array Nat) (k:Nat),Pmn n p→k+f=n→Up lt p k→Gd n lt (kas_bin f p k) (fun p'=>Pmn n p'∧Up lt p' n)
 | 0,p,k,hp,hk,u=>by
  have e:k=n:=by omega
  subst e;exact⟨hp,u⟩
 | f+1,p,k,hp,hk,u=>by
  have hps:=hp.size
  refine Gd.bind ((a2T T hp (by omega) u k 0 k (by omega) (by omega) (by omega) (fun i hi=>by omega) (fun i h1 h2=>by omega)).mono fun l h=>?_)
  obtain⟨hl,a,b⟩:=h
  have gb:=b3E (p:=p) (src:=k) (d:=k-l) (by omega) (by omega)
  refine a8C T f _ (k+1) (hp.bub _ _) (by omega) fun i j hij hj=>?_
  rw[gb,gb]
  have el:k-(k-l)=l:=by omega
  rw[el]
  by_cases e:i=j
  ·subst e;exact T.irr _
  by_cases hjl:j=l
  ·rw[if_pos hjl,if_neg (by omega),if_neg (by omega)];exact a i (by omega)
  ·rw[if_neg hjl]
   by_cases hil:i=l
   ·rw[if_pos hil,if_pos (by omega)];exact b (j-1) (by omega) (by omega)
   ·rw[if_neg hil]
    by_cases h1:l<j∧j≤k
    ·rw[if_pos h1]
     by_cases h2:l<i∧i≤k
     ·rw[if_pos h2];exact u _ _ (by omega) (by omega)
     ·rw[if_neg h2];exact u _ _ (by omega) (by omega)
    ·rw[if_neg h1,if_neg (by omega)];exact u _ _ hij (by omega)
theorem a6Q(T:TPre lt)(h1:1≤n):Gd n lt (kas_sort n) (fun p=>Pmn n p∧Up lt p n):=by
 refine Gd.bind ((a91 T (p:=List.toArray (List.range n)) (by unfold Pmn;simp) h1).mono fun r h=>?_)
 obtain⟨hp,m1,m2,u⟩:=h
 split
 ·exact a8C T _ _ _ hp (by omega) (by rw[Nat.max_eq_left m1];exact u)
 ·have e:r.1=n:=by omega
  exact⟨hp,e▸u⟩
end
theorem a2n:∀a:List Int,HT.lexLt a a=false
 | []=>rfl
 | x::xs=>by rw[HT.lexLt_cons,if_pos rfl];exact a2n xs
theorem a3W:∀a b:List Int,HT.lexLt a b=true→HT.lexLt b a=false
 | [],[],h=>by cases h
 | [],_::_,_=>rfl
 | _::_,[],h=>by cases h
 | x::xs,y::ys,h=>by
  rw[HT.lexLt_cons]at h ⊢
  by_cases e:x=y
  ·rw[if_pos e]at h;rw[if_pos e.symm];exact a3W xs ys h
  ·rw[if_neg e]at h;rw[if_neg (Ne.symm e)]
   have:=of_decide_eq_true h
   exact decide_eq_false (by omega)
theorem a5y:∀a b c:List Int,HT.lexLt b a=false→HT.lexLt c b=false→HT.lexLt c a=false
 | [],[],_,_,h=>h
 | [],y::ys,[],_,h=>rfl
 | [],y::ys,z::zs,_,_=>rfl
 | x::xs,[],_,h,_=>by cases h
 | x::xs,y::ys,[],_,h=>by cases h
 | x::xs,y::ys,z::zs,h1,h2=>by
  rw[HT.lexLt_cons]at h1 h2 ⊢
  by_cases e1:y=x
  ·rw[if_pos e1]at h1
   by_cases e2:z=y
   ·rw[if_pos e2]at h2;rw[if_pos (e2.trans e1)];exact a5y xs ys zs h1 h2
   ·rw[if_neg e2]at h2;rw[if_neg (fun q=>e2 (q.trans e1.symm))];rw[← e1];exact h2
  ·rw[if_neg e1]at h1
   have:=of_decide_eq_false h1
   by_cases e2:z=y
   ·rw[if_neg (fun q=>e1 (e2.symm.trans q)),e2];exact h1
   ·rw[if_neg e2]at h2
    have:=of_decide_eq_false h2
    rw[if_neg (by omega)]
    exact decide_eq_false (by omega)
theorem a5z(key:Nat→List Int):TPre (fun i j=>HT.lexLt (key i) (key j)):=⟨fun i=>a2n _,fun i j k h1 h2=>a5y _ _ _ h1 h2,fun i j h=>a3W _ _ h⟩
section
variable {prog:Program}{w:World}{A:Around}{E:Value→Shared→Prop}{s:Shared}{b fin:Bool}{Q:Bool→Shared→Prop}
theorem a2G:∀{vs ws:List Value} {ns ms:List Int} (i:Nat),IntsAre vs ns→IntsAre ws ms→fin=decide (ns.length<ms.length)→Q (HT.lexLt ns ms) s→KatLex prog w A true fin Q (vs.zip ws) i s
 | _,_,_,_,i,.nil,.nil,hf,h=>by rw[List.zip_nil_left];refine kat_nil ?_;rw[hf];exact h
 | _,_,_,_,i,.nil,.cons c u t,hf,h=>by
  rw[List.zip_nil_left];refine kat_nil ?_;rw[hf,decide_eq_true (by simp)];exact h
 | _,_,_,_,i,.cons a t r,.nil,hf,h=>by
  rw[List.zip_nil_right];refine kat_nil ?_;rw[hf,decide_eq_false (by simp)];exact h
 | _,_,_,_,i,.cons (ns:=ns) a t r,.cons (ns:=ms) c u r',hf,h=>by
  rw[List.zip_cons_cons]
  rw[HT.lexLt_cons]at h
  refine kat_cons (wpAny_eqBool_int (kat_go (fun e=>?_) fun e=>?_))
  ·rw[if_pos (by simpa using e)]at h
   exact kat_yes (a2G (i+1) r r' (by rw[hf];simp) h)
  ·rw[if_neg (by simpa using e)]at h
   refine kat_no ?_
   by_cases hi:i=0
   ·subst hi
    show wpAny _ _ (oneLt' true _ _) _ _ _
    exact oneLt_int h
   ·have e0:(true && i == 0)=false:=by simpa using hi
    rw[e0]
    exact kat_one _ _ (PyProof.Rows.lt_int h)
def TupKey(h:Heap)(v:Value)(k:List Int):Prop:=∃a o xs m,v=.ref a∧h.get? a=some o∧o.cls=.type "tuple"∧o.data=.seq xs m∧IntsAre xs.toList k∧k≠[]
theorem TupKey.keeps{h h':Heap}{v:Value}{k:List Int}(t:TupKey h v k)(kp:∀a o,h.get? a=some o→h'.get? a=some o):TupKey h' v k:=by
 obtain⟨a,o,xs,m,e,ho,r⟩:=t
 exact⟨a,o,xs,m,e,kp _ _ ho,r⟩
theorem TupKey.lt{v u:Value}{k l:List Int}{C:Bool→Shared→Prop}{E:Value→Shared→Prop}(t:TupKey s.heap v k)(t':TupKey s.heap u l)(h:C (HT.lexLt k l) s):wpAny (model prog w) A (keyLt' (tuples' true) v u) C E s:=by
 obtain⟨a,o,xs,m,rfl,ho,_,hd,hi,_⟩:=t
 obtain⟨a',o',xs',m',rfl,ho',_,hd',hi',_⟩:=t'
 have z1:xs.size=k.length:=by rw[← hi.length];simp
 have z2:xs'.size=l.length:=by rw[← hi'.length];simp
 exact kat_lt ho hd ho' hd' (a2G 0 hi hi' (by rw[z1,z2]) h)
def TKs(h:Heap):List Value→List (List Int)→Prop
 | [],[]=>True
 | v::vs,k::ks=>TupKey h v k∧TKs h vs ks
 | _,_=>False
theorem TKs.keeps{h h':Heap}(kp:∀a o,h.get? a=some o→h'.get? a=some o):∀{vs:List Value} {ks:List (List Int)},TKs h vs ks→TKs h' vs ks
 | [],[],_=>trivial
 | [],_::_,t=>t.elim
 | _::_,[],t=>t.elim
 | v::vs,k::ks,t=>⟨t.1.keeps kp,TKs.keeps kp t.2⟩
theorem TKs.len{h:Heap}:∀{vs:List Value} {ks:List (List Int)},TKs h vs ks→vs.length=ks.length
 | [],[],_=>rfl
 | [],_::_,t=>t.elim
 | _::_,[],t=>t.elim
 | v::vs,k::ks,t=>by simp[t.2.len]
theorem TKs.at{h:Heap}:∀{vs:List Value} {ks:List (List Int)} (i:Nat),TKs h vs ks→i<vs.length→TupKey h (vs.getD i Value.none) (ks.getD i [])
 | [],_,i,_,hi=>absurd hi (Nat.not_lt_zero _)
 | _::_,[],_,t,_=>t.elim
 | v::vs,k::ks,0,t,_=>t.1
 | v::vs,k::ks,i+1,t,hi=>TKs.at (vs:=vs) (ks:=ks) i t.2 (by simpa using hi)
end
theorem a8D:bootBuiltins "sorted" = some (.builtin "sorted"):=by decide +kernel
theorem a6o:bootBuiltins "reversed" = some (.type "reversed"):=by decide +kernel
theorem a13:∀{ys:List V} {us:List Value} (p:List Nat),Vals ys us→(∀i∈p,i<ys.length)→Vals (p.map fun i=>ys.getD i .non) (p.map fun i=>us.getD i Value.none)
 | _,_,[],_,_=>.nil
 | ys,us,i::p,r,h=>by
  have hi:=h i (by simp)
  obtain⟨u,e,ru⟩:=r.get (List.getElem?_eq_getElem hi)
  refine .cons ?_ (a13 p r fun j hj=>h j (by simp[hj]))
  have e1:ys.getD i .non=ys[i]:=by simp[hi]
  have e2:us.getD i Value.none=u:=by simp[e]
  show RelV (ys.getD i .non) (us.getD i Value.none)
  rw[e1,e2];exact ru
namespace F'
end F'
open PySem PySem.Spec PyProof.Rows PySem.W
section
variable {X:Cx}{pins:List (Addr×Obj)}{σ:St}{H:Hp}{s:Shared}{a:Addr}
theorem Inv.trackO{oe:Obj}{vs:Array Value}{k:Nat}{u:HO}(I:Inv X pins σ H s)(ni:¬Imp X pins H a)(e:s.heap.get? a=some oe)(d:oe.data=.seq vs k)(new:ObjOk X.prog X.w (upd H a u) s.heap a u):Inv X pins σ (upd H a u) s:=by
 have fr:H a=none:=by
  cases q:H a with
  | none=>rfl
  | some v=>exact absurd (.inl (by rw[q];exact nofun)) ni
 refine⟨I.ok,I.os,I.bare,⟨I.base.keep,I.base.slot,fun b o e1 n hx=>?_,I.base.there,fun b xs q=>?_,fun b o u q=>?_,fun b ps q=>?_⟩,I.loc,I.cell,?_,fun y c q=>?_,fun p hp=>?_,fun b u q=>?_,I.len⟩
 ·rw[f9 (fun z=>ni (.inr (.inl ⟨by rw[← z];exact hx,o,by rw[← z];exact e1⟩)))]
  exact I.base.free b o e1 n hx
 ·have q1:=I.base.tups b xs q
  rw[f9 (l3 q1 fr)];exact q1
 ·have q1:=I.base.frzs b o u q
  rw[f9 (l3 q1 fr)];exact q1
 ·obtain⟨more,q1⟩:=I.base.tbls b ps q
  exact⟨more,by rw[f9 (l3 q1 fr)];exact q1⟩
 ·rw[f9 fun z=>?_]
  ·exact I.free
  ·obtain⟨m,⟨o,es,ep,ho,hd,_⟩,_⟩:=I.loc
   rw[z,e]at ho;cases ho
   rw[d]at hd;cases hd
 ·rw[f9 fun z=>?_]
  ·exact I.freeC y c q
  ·obtain⟨v,o,ho,hd⟩:=I.cell y c q
   rw[z,e]at ho;cases ho
   rw[d]at hd;cases hd
 ·obtain⟨h1,h2,h3,h4,h5⟩:=I.pin p hp
  exact⟨h1,by rw[f9 (fun z=>ni (.inr (.inr ⟨p,hp,z⟩)))];exact h2,h3,h4,h5⟩
 ·by_cases hb:b=a
  ·subst hb
   rw[k9]at q;cases q
   exact new
  ·rw[f9 hb]at q
   refine(I.hok b u q).stay (fun _ _ _ z=>z) (fun c z=>?_) (fun c xs z=>?_) fun c ob u z=>?_
   ·rw[f9 (l3 z fr)];exact z
   ·rw[f9 (l3 z fr)];exact z
   ·rw[f9 (l3 z fr)];exact z
end
section
variable {X:Cx}
def XAccAt(X:Cx)(σ:St)(E:XK):Prop:=∀(pins:List (Addr×Obj)) (H:Hp) (s:Shared) (a:Addr) (cls:Value) (cx:Option Addr) (B:Heap) (ph:Ph),Inv X pins σ H s→XAt X pins H s a cls cx B ph→E cls cx H→X.xe (.ref a) s
theorem XAccAt.passes{σ:St}{E:XK}(acc:XAccAt X σ E):∀(pins:List (Addr×Obj)) (H:Hp) (s:Shared) (e:Value) (s':Shared),Inv X pins σ H s→B7 X.prog X.w X.stack H s E e s'→X.xe e s':=by
 intro pins H s e s' I h
 obtain⟨a,cls,cx,H',B,rfl,os,bare,un,hok,st,fr,ff,tr,free,cov,hE⟩:=h
 have I':Inv X pins σ H' s':=I.call' (ch:=[]) os un hok bare (fun b z=>absurd z (by simp))
 refine acc pins H' s' a cls cx B .fly I' ⟨free,st,fr,ff,fun b o e i n=>cov b o e ?_ n,tr⟩ hE
 rcases i with i | ⟨hx,o',i⟩ | ⟨p,hp,q⟩
 ·exact .inl i
 ·exact .inr (I.base.there b o' i hx)
 ·exact .inr ⟨p.2,by rw[← q];exact(I.pin p hp).1⟩
end
def Itv(K:W.Frag)(a:Addr)(n:Nat):It :=
 ⟨fun i H=>i<n∧∃xs,SqL K H a xs∧xs.length=n,fun i H x H'=>H'=H∧∀xs,SqL K H a xs→xs[n-1-i]? = some x,fun i H=>n≤i∧∃xs,SqL K H a xs∧xs.length=n⟩
theorem a92{P:Program}{w:World}{K:PySem.W.Frag}{tg:Expr}(a it:Addr)(n:Nat)(hne:a≠it):Turn P w K tg (Itv K a n) [it] it (fun i h=>i≤n∧h.IsRevIter it a ((n:Int)-1-(i:Int))) where
 mem:=by simp
 obj:=fun i h ⟨_,o,e1,c,d⟩ b hb=>by
  have q:b=it:=by simpa using hb
  subst q
  exact⟨o,e1,fun v z=>by rw[d]at z;cases z⟩
 keep:=fun i h h' ⟨l,st⟩ k=>⟨l,st.at fun o q=>k it (by simp) o q⟩
 item:=by
  intro X hP hw hK hc i pins s σ H E I hf hst hg
  subst hP hw hK
  obtain⟨f0,f1,f2,f3,f4,f5⟩:=hf it (by simp)
  obtain⟨hi,xs,hq,hn⟩:=hg
  obtain⟨its,rv,p,hz⟩:=I.list hq
  have hl:=rv.length
  have hsz:its.toArray.size=n:=by rw[List.size_toArray];omega
  have W:=Walks.listRev (prog:=X.prog) (w:=X.w) (I.ok.hd hc) it a hne its.toArray
  rw[hsz]at W
  refine W.item i s _ _ hi ⟨hst.1,hst.2,p.isList⟩ fun v h' tk hv st' kk=>?_
  have hj:n-1-i<xs.length:=by omega
  obtain⟨u,hu,ru⟩:=rv.get (List.getElem?_eq_getElem hj)
  have hv':its[n-1-i]? = some v:=by simpa using hv
  rw[hu]at hv'
  cases hv'
  have I1:Inv X pins σ H { s with heap:=h',toks:=tk }:=I.turned (fun b o hb e=>kk b o (by simpa using hb) e) f0 f1 f3 f4 f5
  obtain⟨l',⟨o,eo,ec,ed⟩,_⟩:=st'
  exact⟨_,rfl,a7q (s:={ s with heap:=h',toks:=tk }) (n := "list_reverseiterator") eo ec ed (by decide) ⟨xs[n-1-i],H,I1,ru,⟨rfl,fun ys hy=>by rw[I.list_inj hy hq];exact List.getElem?_eq_getElem hj⟩,⟨l',⟨o,eo,ec,ed⟩⟩,fun b hb=>(hf b hb).1⟩⟩
 done:=by
  intro X hP hw hK hc i pins s σ H E I hf hst hg
  subst hP hw hK
  obtain⟨f0,f1,f2,f3,f4,f5⟩:=hf it (by simp)
  obtain⟨hi,xs,hq,hn⟩:=hg
  obtain⟨its,rv,p,hz⟩:=I.list hq
  have hl:=rv.length
  have hsz:its.toArray.size=n:=by rw[List.size_toArray];omega
  have W:=Walks.listRev (prog:=X.prog) (w:=X.w) (I.ok.hd hc) it a hne its.toArray
  rw[hsz]at W
  have e:i=n:=by have:=hst.1;omega
  subst e
  exact W.done s _ _ ⟨hst.1,hst.2,p.isList⟩ fun h' tk kp=>⟨rfl,I.turned (fun b o hb e=>kp b o (by simpa using hb) e) f0 f1 f3 f4 f5⟩
 self:=fun A i s Q E st h=>by
  obtain⟨_,st⟩:=st
  exact wpAny_pyIter_revIter st h
theorem b1M{K:PySem.W.Frag}{a:Addr}{xs:List V}{g:TG}{tb:TS}{D:Ends}{σ:St}{H:Hp}(Pv:Nat→St→Hp→Prop)(h0:Pv 0 σ H)(hl:∀i σ H,i≤xs.length→Pv i σ H→SqL K H a xs)
  (hs:∀i x σ H,xs.reverse[i]? = some x→Pv i σ H→g x σ H fun σ2 H2=>tb { D with nx:=Pv (i+1),ct:=Pv (i+1),bk:=D.nx } σ2 H2) (hd:∀σ H,Pv xs.length σ H→D.nx σ H) :
  ∃W:Nat→Nat→St→Hp→Prop,(∃m,W 0 m σ H)∧∀i m σ H,W i m σ H →
   ((Itv K a xs.length).stop i H∧D.nx σ H)∨((Itv K a xs.length).go i H∧∃N:St→Hp→Prop,(∀σ' H',N σ' H'→∃m',m'<m∧W (i+1) m' σ' H')∧∀x H',(Itv K a xs.length).yld i H x H'→g x σ H' fun σ2 H2=>tb { D with nx:=N,ct:=N,bk:=D.nx } σ2 H2):=by
 refine⟨fun i m σ H=>m=xs.length-i∧i≤xs.length∧Pv i σ H,⟨xs.length,by simp,Nat.zero_le _,h0⟩,?_⟩
 rintro i m σ H ⟨rfl,hi,p⟩
 have q:=hl i σ H hi p
 by_cases hlt:i<xs.length
 ·refine .inr ⟨⟨hlt,xs,q,rfl⟩,Pv (i+1),fun σ' H' z=>⟨xs.length-(i+1),by omega,rfl,hlt,z⟩,fun v H' y=>?_⟩
  obtain⟨rfl,y⟩:=y
  refine hs i v σ _ ?_ p
  rw[List.getElem?_reverse hlt]
  exact y xs q
 ·have e:i=xs.length:=by omega
  subst e
  exact .inl ⟨⟨Nat.le_refl _,xs,q,rfl⟩,hd σ H p⟩
def b3F(K:W.Frag)(ta:TA):TI:=fun σ H R=>ta σ H fun vs H1=>∃a xs,vs=[.ref a]∧SqL K H1 a xs∧R (Itv K a xs.length) H1
section
variable {X:Cx}{tg:Expr}
theorem b3G{l:Expr}{ta:TA}{p pos:Pos}(hg:Gl X "reversed")(hm:X.mg "reversed" = none)(ha:PA X [l] ta)(hs:starEach [l] X.env=[(false,eval l X.env)]:=by rfl) :
  PI X tg (.Call (.Name "reversed" p) [l] [] pos) (b3F X.K ta):=by
 intro pins s σ H R I h
 refine Call_ (X6 I hg hm a6o (PyProof.Rows.callWith_type1 (t6 (ha pos pins s σ H _ I h) fun us s1 ⟨vs,H1,I1,r1,q1⟩=>?_) hs rfl))
 obtain⟨a,xs,e,hq,q⟩:=q1
 subst e
 obtain⟨u,rfl,ru⟩:=r1.one
 cases (show u=Value.ref a from ru)
 obtain⟨its,rv,pl,hz⟩:=I1.list hq
 have la:a<s1.heap.objs.size:=by obtain⟨o,n,e,_⟩:=pl;exact Heap.lt_size e
 have hlen:=rv.length
 refine call_reversed_list pl.isList ?_
 have el:((its.toArray.size:Nat):Int)-1=(xs.length:Int)-1-((0:Nat):Int):=by simp;omega
 rw[el]
 have I2:Inv X pins σ H1 { s1 with heap:=s1.heap.push (revObj a ((xs.length:Int)-1-((0:Nat):Int))) }:=I1.kept (t':=s1.toks) fun b o e=>Heap.get?_push_of_some _ e
 have hit:(s1.heap.push (revObj a ((xs.length:Int)-1-((0:Nat):Int)))).IsRevIter s1.heap.objs.size a ((xs.length:Int)-1-((0:Nat):Int)):=⟨_,Heap.get?_push_size _ rfl,rfl,rfl⟩
 refine wpAny_pyIter_revIter (s:={ s1 with heap:=s1.heap.push (revObj a ((xs.length:Int)-1-((0:Nat):Int))) }) hit ?_
 refine⟨s1.heap.objs.size,[s1.heap.objs.size],_,_,H1,rfl,I2,a92 a s1.heap.objs.size xs.length (Nat.ne_of_lt la),⟨Nat.zero_le _,hit⟩,fun b hb=>?_,q⟩
 have z:b=s1.heap.objs.size:=by simpa using hb
 subst z
 exact I1.fpOk (Nat.le_refl _) (I1.hok.fresh (Nat.le_refl _))
end
section
variable {prog:Program}{w:World}{A:Around}{E:Value→Shared→Prop}{s:Shared}{fin:Bool}{Q:Bool→Shared→Prop}
theorem b1N{v:Value}(hv:(v == v)=true){E:Value→Shared→Prop}(h:Q true s):wpAny (model prog w) A (eqBool v v) Q E s:=by
 unfold eqBool
 refine wpAny_holding ?_
 rw[if_pos hv]
 exact wpAny_bind (wpAny_rule (wpAny_pure h))
theorem a2H:∀{vs:List Value} (i:Nat),(∀v∈vs,(v == v)=true)→Q fin s→KatLex prog w A true fin Q (vs.zip vs) i s
 | [],i,_,h=>by rw[List.zip_nil_left];exact kat_nil h
 | v::vs,i,hv,h=>by
  rw[List.zip_cons_cons]
  exact kat_cons (b1N (hv v (by simp)) (kat_yes (a2H (i+1) (fun u hu=>hv u (by simp[hu])) h)))
theorem a3i{rs rs':List Value}:∀{vs ws:List Value} {ns ms:List Int} (i:Nat),IntsAre vs ns→IntsAre ws ms→ns.length=ms.length→ns≠ms→Q (HT.lexLt ns ms) s→KatLex prog w A true fin Q ((vs++rs).zip (ws++rs')) i s
 | _,_,_,_,i,.nil,.nil,_,hn,_=>absurd rfl hn
 | _,_,_,_,i,.nil,.cons c u t,hf,_,_=>by simp at hf
 | _,_,_,_,i,.cons a t r,.nil,hf,_,_=>by simp at hf
 | _,_,_,_,i,.cons (ns:=ns) a t r,.cons (ns:=ms) c u r',hf,hn,h=>by
  rw[List.cons_append,List.cons_append,List.zip_cons_cons]
  rw[HT.lexLt_cons]at h
  refine kat_cons (wpAny_eqBool_int (kat_go (fun e=>?_) fun e=>?_))
  ·have e':a=c:=by simpa using e
   rw[if_pos e']at h
   exact kat_yes (a3i (i+1) r r' (by simpa using hf) (fun z=>hn (by rw[e',z])) h)
  ·rw[if_neg (by simpa using e)]at h
   refine kat_no ?_
   by_cases hi:i=0
   ·subst hi
    show wpAny _ _ (oneLt' true _ _) _ _ _
    exact oneLt_int h
   ·have e0:(true && i == 0)=false:=by simpa using hi
    rw[e0]
    exact kat_one _ _ (PyProof.Rows.lt_int h)
def TupPre(h:Heap)(v:Value)(k:List Int):Prop:=∃a o xs m vs rs,v=.ref a∧h.get? a=some o∧o.cls=.type "tuple"∧o.data=.seq xs m∧xs.toList=vs++rs∧IntsAre vs k∧k≠[]∧∀u∈xs.toList,(u == u)=true
theorem TupPre.keeps{h h':Heap}{v:Value}{k:List Int}(t:TupPre h v k)(kp:∀a o,h.get? a=some o→h'.get? a=some o):TupPre h' v k:=by
 obtain⟨a,o,xs,m,vs,rs,e,ho,r⟩:=t
 exact⟨a,o,xs,m,vs,rs,e,kp _ _ ho,r⟩
theorem TupPre.lt{v u:Value}{k l:List Int}{C:Bool→Shared→Prop}(t:TupPre s.heap v k)(t':TupPre s.heap u l)(hl:k.length=l.length)(hn:k≠l)(h:C (HT.lexLt k l) s):wpAny (model prog w) A (keyLt' (tuples' true) v u) C E s:=by
 obtain⟨a,o,xs,m,vs,rs,rfl,ho,_,hd,hx,hi,_⟩:=t
 obtain⟨a',o',xs',m',vs',rs',rfl,ho',_,hd',hx',hi',_⟩:=t'
 refine kat_lt ho hd ho' hd' ?_
 rw[hx,hx']
 exact a3i 0 hi hi' hl hn h
theorem TupPre.lt_self{v:Value}{k:List Int}{C:Bool→Shared→Prop}(t:TupPre s.heap v k)(h:C false s):wpAny (model prog w) A (keyLt' (tuples' true) v v) C E s:=by
 obtain⟨a,o,xs,m,vs,rs,rfl,ho,_,hd,hx,hi,_,hv⟩:=t
 refine kat_lt ho hd ho hd (a2H 0 hv ?_)
 rw[decide_eq_false (Nat.lt_irrefl _)]
 exact h
def TPs(h:Heap):List Value→List (List Int)→Prop
 | [],[]=>True
 | v::vs,k::ks=>TupPre h v k∧TPs h vs ks
 | _,_=>False
theorem TPs.keeps{h h':Heap}(kp:∀a o,h.get? a=some o→h'.get? a=some o):∀{vs:List Value} {ks:List (List Int)},TPs h vs ks→TPs h' vs ks
 | [],[],_=>trivial
 | [],_::_,t=>t.elim
 | _::_,[],t=>t.elim
 | v::vs,k::ks,t=>⟨t.1.keeps kp,TPs.keeps kp t.2⟩
theorem TPs.at{h:Heap}:∀{vs:List Value} {ks:List (List Int)} (i:Nat),TPs h vs ks→i<vs.length→TupPre h (vs.getD i Value.none) (ks.getD i [])
 | [],_,i,_,hi=>absurd hi (Nat.not_lt_zero _)
 | _::_,[],_,t,_=>t.elim
 | v::vs,k::ks,0,t,_=>t.1
 | v::vs,k::ks,i+1,t,hi=>TPs.at (vs:=vs) (ks:=ks) i t.2 (by simpa using hi)
theorem a3X:∀{h:Heap} {vs:List Value} {ks:List (List Int)},TPs h vs ks→∃fs,KatTups h vs fs∧fs.length=vs.length∧∀v∈fs,∃i t,v=Value.int i t
 | _,[],[],_=>⟨[],.nil,rfl,fun v h=>by cases h⟩
 | _,[],_::_,t=>t.elim
 | _,_::_,[],t=>t.elim
 | h,v::vs,k::ks,⟨t,r⟩=>by
  obtain⟨fs,h1,h2,h3⟩:=a3X r
  obtain⟨a,o,xs,m,us,rs,rfl,ho,hc,hd,hx,hi,hn,_⟩:=t
  obtain⟨xl⟩:=xs
  cases hi with
  | nil=>exact absurd rfl hn
  | cons n tk hr =>
   simp only at hx
   subst hx
   exact⟨.int n tk::fs,.cons ho hc hd (by simp) h1,by simp[h2],fun v hv=>by
    rcases List.mem_cons.mp hv with rfl | hv
    ·exact⟨n,tk,rfl⟩
    ·exact h3 v hv⟩
theorem a7D{l:Addr}{vs:List Value}{lt:Nat→Nat→Bool}{Q:Value→Shared→Prop}(hl:s.heap.IsList l vs.toArray)(T:TPre lt)(h64:vs.length<64)
  (hk:∀h2:Heap,(∀b o,s.heap.get? b=some o→h2.get? b=some o)→∃fs,KatTups h2 vs fs∧fs.length=vs.length∧∀v∈fs,∃i t,v=Value.int i t)
  (hc:∀h2:Heap,(∀b o,s.heap.get? b=some o→h2.get? b=some o)→∀(A:Around) (i j:Nat) (C:Bool→Shared→Prop) (E:Value→Shared→Prop),i<vs.length→j<vs.length→C (lt i j) { s with heap:=h2 }→wpAny (model prog w) A (keyLt' (tuples' true) (vs.getD i Value.none) (vs.getD j Value.none)) C E { s with heap:=h2 })
  (h:∀(h':Heap) (p:List Nat) (c:Nat),(∀b o,s.heap.get? b=some o→h'.get? b=some o)→h'.get? (s.heap.objs.size+1)=some (seqObj "list" (p.map fun i=>vs.getD i Value.none).toArray c)→p.Perm (List.range vs.length) →
   p.Pairwise (fun i j=>lt j i=false)→Q (.ref (s.heap.objs.size+1)) { s with heap:=h' }) :
  wpAny (model prog w) A (call (.builtin "sorted") [.ref l]) Q E s:=by
 refine Calls.call_function_entry kind_sorted plain_sorted entry_sorted (args_sorted1 _) ?_
 unfold Builtin.«sorted»
 refine wpAny_bind (m:=checkCount "sorted" 1 1 _) (wpAny_pure ?_)
 refine wpAny_bind (collect_list hl ?_ (by rw[sizeLine_eq];omega))
 refine wpAny_bind (wpAny_newList ?_ (by rw[sizeLine_eq];omega))
 have hsz:((s.heap.push (seqObj "list" #[] 0)).update s.heap.objs.size (Obj.mapSeq (· ++ vs.toArray))).objs.size=s.heap.objs.size+1:=by
  rw[Heap.size_update,size_push']
 show wpAny _ _ _ _ _ { s with heap:=((s.heap.push (seqObj "list" #[] 0)).update s.heap.objs.size (Obj.mapSeq (· ++ vs.toArray))).push (seqObj "list" vs.toArray 0) }
 rw[hsz]
 generalize hh1:(((s.heap.push (seqObj "list" #[] 0)).update s.heap.objs.size (Obj.mapSeq (· ++ vs.toArray))).push (seqObj "list" vs.toArray 0))=h1
 have hoL:h1.get? (s.heap.objs.size+1)=some (seqObj "list" vs.toArray 0):=by
  rw[← hh1,← hsz];exact Heap.get?_push_size _ rfl
 have keep:∀b o,s.heap.get? b=some o→h1.get? b=some o:=fun b o q=>by
  have hlt:b<s.heap.objs.size:=Heap.lt_size q
  rw[← hh1,Heap.get?_push_ne _ _ _ (by rw[hsz];exact Nat.ne_of_lt (Nat.lt_succ_of_lt hlt)),Heap.get?_update_ne _ _ _ _ (Nat.ne_of_lt hlt),Heap.get?_push_ne _ _ _ (Nat.ne_of_lt hlt)]
  exact q
 have hz1:h1.objs.size=s.heap.objs.size+2:=by rw[← hh1,size_push',hsz]
 have nD:∀b o,s.heap.get? b=some o→b≠s.heap.objs.size+1:=fun b o q=>Nat.ne_of_lt (Nat.lt_succ_of_lt (Heap.lt_size q))
 generalize hA:s.heap.objs.size+1=D at *
 refine wpAny_bind (wpAny_holding (wpAny_call_entry slot_list_sort ⟨_,hoL,rfl⟩ entry_list_sort ?body (args_list_sort _)))
 case body =>
  have hD:D<h1.objs.size:=Heap.lt_size hoL
  have s1:=Heap.SameBut.update h1 D (Obj.mapSeq fun _=>(#[]:Array Value))
  obtain⟨e1,ho1⟩:∃e1,(h1.update D (Obj.mapSeq fun _=>(#[]:Array Value))).get? D=some (seqObj "list" #[] e1):=⟨_,get?_update_seq hoL fun _ => #[]⟩
  have keep2:∀b o,s.heap.get? b=some o→(((h1.update D (Obj.mapSeq fun _=>(#[]:Array Value))).push (seqObj "tuple" vs.toArray 0)).push (seqObj "list" #[] 0)).get? b=some o:=fun b o q=>by
   have hb:b≠D:=nD b o q
   exact Heap.get?_push_of_some _ (Heap.get?_push_of_some _ ((s1.2 b hb).trans (keep b o q)))
  have ho6:(((h1.update D (Obj.mapSeq fun _=>(#[]:Array Value))).push (seqObj "tuple" vs.toArray 0)).push (seqObj "list" #[] 0)).get? D=some (seqObj "list" #[] e1):=Heap.get?_push_of_some _ (Heap.get?_push_of_some _ ho1)
  rw[list_sort_plain]
  refine wpAny_bind (listItems_at (s:={ s with heap:=h1 }) hoL rfl ?_)
  refine wpAny_bind (listUpdate_at (s:={ s with heap:=h1 }) hoL rfl ?_ (by rw[List.size_toArray,sizeLine_eq];omega) (Nat.zero_le _))
  refine wpAny_bind (seqEpoch_at ho1 rfl ?_)
  refine wpAny_bind (wpAny_newTuple ?_ (by show vs.length≤_;rw[sizeLine_eq];omega))
  refine wpAny_bind (wpAny_newList ?_ (Nat.zero_le _))
  refine wpAny_holding ?_
  show wpAny (model prog w) _ _ _ E { s with heap:=((h1.update D (Obj.mapSeq fun _=>(#[]:Array Value))).push (seqObj "tuple" vs.toArray 0)).push (seqObj "list" #[] 0) }
  dsimp only
  generalize ((h1.update D (Obj.mapSeq fun _=>(#[]:Array Value))).push (seqObj "tuple" vs.toArray 0)).push (seqObj "list" #[] 0)=h2 at keep2 ho6 ⊢
  have last:∀(st':SortSt) (p:List Nat),(arrOf st').map (·.2)=(p.map fun i=>vs.getD i Value.none).toArray→failedOf st'=none→p.Perm (List.range vs.length)→p.Pairwise (fun i j=>lt j i=false) →
    wpAny (model prog w) A.in1.in1 (do
     let touched:=(← seqEpoch D) != e1
     Builtin.List.listUpdate (.ref D) fun _=>(arrOf st').map (·.2)
     if let some e:=failedOf st' then rule "list.sort.comparison-raised";throw e
     if touched then rule "list.sort.modified";raiseError "ValueError" "list modified during sort"
     ret .none:Sem PySem.Fin) (fun fin s'=>∃v,fin=.done (.ret v)∧wpAny (model prog w) A.in1 (pure (.done (.ret (.ref D))):Sem PySem.Fin) (fun fin s'=>∃v,fin=.done (.ret v)∧Q v s') E s') E { s with heap:=h2 }:=by
   intro st' p hout hf hp hs
   have hsz3:((p.map fun i=>vs.getD i Value.none).toArray).size=vs.length:=by rw[List.size_toArray,List.length_map,hp.length_eq,List.length_range]
   have s2:=Heap.SameBut.update h2 D (Obj.mapSeq fun _=>(p.map fun i=>vs.getD i Value.none).toArray)
   obtain⟨c2,hc2⟩:∃c2,(h2.update D (Obj.mapSeq fun _=>(p.map fun i=>vs.getD i Value.none).toArray)).get? D=some (seqObj "list" (p.map fun i=>vs.getD i Value.none).toArray c2):=⟨_,get?_update_seq ho6 fun _=>_⟩
   rw[hout,hf]
   refine wpAny_bind (seqEpoch_at ho6 rfl ?_)
   refine wpAny_bind (listUpdate_at (s:={ s with heap:=h2 }) ho6 rfl ?_ (Nat.zero_le _) (Nat.le_trans (Nat.le_of_eq hsz3) (by rw[sizeLine_eq];omega)))
   simp only[bne_self_eq_false,Bool.false_eq_true,if_false]
   exact wpAny_pure ⟨_,rfl,wpAny_pure ⟨_,rfl,h _ p c2 (fun b o q=>by
    have hb:b≠D:=nD b o q
    exact(s2.2 b hb).trans (keep2 b o q)) hc2 hp hs⟩⟩
  by_cases h2':vs.toArray.size<2
  ·rw[if_pos h2',if_pos h2']
   refine wpAny_bind (wpAny_pure ?_)
   rw[StateT.run_pure]
   refine wpAny_bind (wpAny_pure ?_)
   have hlen:vs.length<2:=by simpa using h2'
   refine last (SortSt.mk' general' (vs.toArray.zip vs.toArray) #[] 7 none) (List.range vs.length) ?_ rfl (List.Perm.refl _) ?_
   ·show(vs.toArray.zip vs.toArray).map (·.2)=_
    match vs,hlen with
    | [],_=>simp
    | [_],_=>simp
   ·match hn:vs.length,hlen with
    | 0,_=>exact .nil
    | 1,_=>exact List.pairwise_singleton _ _
  ·rw[if_neg h2',if_neg h2']
   have hlen:2≤vs.length:=by simp at h2';omega
   obtain⟨fs,t1,t2,t3⟩:=hk h2 keep2
   refine wpAny_bind (kat_kind (T:=.type "int") t1 (by omega) (fun v hv=>by obtain⟨i,t,rfl⟩:=t3 v hv;exact .of_pure rfl) (by decide) ?_)
   have eb:(Value.type "int" != Value.type "tuple")=true:=by decide +kernel
   rw[eb]
   have gd:=a6Q (n:=vs.length) T (by omega)
   refine wpAny_bind (wpAny_mono (kat_run (κ:=tuples' true) (vs:=vs) (ks:=vs) (Q:=fun st' s'=>∃p:Array Nat,p.size=vs.length∧arrOf st'=p.map (kas_item (vs.toArray.zip vs.toArray))∧failedOf st'=none∧s'={ s with heap:=h2 }∧Pmn vs.length p∧Up lt p vs.length)
    (G:=fun p s'=>s'={ s with heap:=h2 }∧Pmn vs.length p∧Up lt p vs.length)
    rfl hlen h64 (fun p' st' s' a1 a2 a3 a4=>⟨p',a1,a2,a3,a4⟩) (gd.wp (fun i j C hi hj hC=>hc h2 keep2 _ i j C _ hi hj hC) fun p hp=>⟨rfl,hp⟩)) ?_ fun _ _ x=>x)
   rintro⟨⟨⟩,st'⟩ s' ⟨p,hp,har,hf,rfl,hP,hU⟩
   refine last st' p.toList (kat_snds rfl har) hf hP ?_
   rw[List.pairwise_iff_getElem]
   intro i j hi hj hij
   have hU':=hU i j (by omega) (by rw[← hp];simpa using hj)
   simp only[Array.length_toList]at hi hj
   have e1:ga p i=p[i]:=by unfold ga;simp[Array.getD,hi]
   have e2:ga p j=p[j]:=by unfold ga;simp[Array.getD,hj]
   rw[e1,e2]at hU'
   simpa using hU'
theorem a6p{l:Addr}{vs:List Value}{ks:List (List Int)}{Q:Value→Shared→Prop}(hl:s.heap.IsList l vs.toArray)(hk:TPs s.heap vs ks)(h64:vs.length<64)
  (hd:∀i j,i<vs.length→j<vs.length→i≠j→(ks.getD i []).length=(ks.getD j []).length∧ks.getD i []≠ks.getD j [])
  (h:∀(h':Heap) (p:List Nat) (c:Nat),(∀b o,s.heap.get? b=some o→h'.get? b=some o)→h'.get? (s.heap.objs.size+1)=some (seqObj "list" (p.map fun i=>vs.getD i Value.none).toArray c)→p.Perm (List.range vs.length) →
   p.Pairwise (fun i j=>HT.lexLt (ks.getD j []) (ks.getD i [])=false)→Q (.ref (s.heap.objs.size+1)) { s with heap:=h' }) :
  wpAny (model prog w) A (call (.builtin "sorted") [.ref l]) Q E s:=by
 refine a7D hl (a5z fun i=>ks.getD i []) h64 (fun h2 kp=>a3X (hk.keeps kp)) (fun h2 kp A i j C E hi hj hC=>?_) h
 have hk2:=hk.keeps kp
 by_cases z:i=j
 ·subst z
  refine TupPre.lt_self (s:={ s with heap:=h2 }) (hk2.at i hi) ?_
  rw[a2n]at hC
  exact hC
 ·obtain⟨e,n⟩:=hd i j hi hj z
  exact TupPre.lt (s:={ s with heap:=h2 }) (hk2.at i hi) (hk2.at j hj) e n hC
end
def VPs(K:W.Frag)(H:Hp):List V→List (List Int)→Prop
 | [],[]=>True
 | v::vs,k::ks=>(∃a rs,v=.ref a∧SqT K H a (k.map V.int++rs)∧k≠[]∧∀r∈rs,∃b,r=.ref b)∧VPs K H vs ks
 | _,_=>False
def a8E(K:W.Frag):List V→Hp→VK→Prop:=fun xs H Q=>∃(a:Addr) (ys:List V) (ks:List (List Int)),xs=[.ref a]∧SqL K H a ys∧VPs K H ys ks∧ys.length<64∧(∀i j,i<ys.length→j<ys.length→i≠j→(ks.getD i []).length=(ks.getD j []).length∧ks.getD i []≠ks.getD j []) ∧
 ∀l (p:List Nat),H l=none→p.Perm (List.range ys.length)→p.Pairwise (fun i j=>HT.lexLt (ks.getD j []) (ks.getD i [])=false)→Q (.ref l) (upd H l (.lst (p.map fun i=>ys.getD i .non)))
theorem a3j:∀{k:List Int} {rs:List V} {us:List Value},Vals (k.map V.int++rs) us→∃vs ws,us=vs++ws∧IntsAre vs k∧Vals rs ws
 | [],rs,us,r=>⟨[],us,rfl,.nil,r⟩
 | n::k,rs,_,.cons r t=>by
  obtain⟨vs,ws,e,h1,h2⟩:=a3j (k:=k) t
  obtain⟨tk,e2⟩:=r
  exact⟨.int n tk::vs,ws,by rw[e,e2];rfl,.cons n tk h1,h2⟩
theorem a2I:∀{vs:List Value} {ns:List Int},IntsAre vs ns→∀u∈vs,∃m t,u=Value.int m t
 | _,_,.nil,u,hu=>by cases hu
 | _,_,.cons m t r,u,hu=>by
  rcases List.mem_cons.mp hu with rfl | hu
  ·exact⟨m,t,rfl⟩
  ·exact a2I r u hu
theorem a93(n:Int)(t:Tok):(Value.int n t == Value.int n t)=true:=by simp
theorem a94(a:Addr):(Value.ref a == Value.ref a)=true:=by simp
section
variable {X:Cx}
theorem a3Y{pins:List (Addr×Obj)}{σ:St}{H:Hp}{s:Shared}(I:Inv X pins σ H s):∀{ys:List V} {us:List Value} {ks:List (List Int)},Vals ys us→VPs X.K H ys ks→TPs s.heap us ks
 | [],_,[],.nil,_=>trivial
 | [],_,_::_,_,h=>h.elim
 | _::_,_,[],_,h=>h.elim
 | v::ys,_,k::ks,.cons r rs,⟨⟨a,zs,e,hq,hn,hz⟩,h⟩=>by
  refine⟨?_,a3Y I rs h⟩
  subst e
  obtain⟨its,rv,⟨o,ho,hc,n,hd⟩,_⟩:=I.tuple hq
  obtain⟨vs,ws,e,hi,hw⟩:=a3j rv
  refine⟨a,o,_,n,vs,ws,r,ho,hc,hd,by simpa using e,hi,hn,?_⟩
  intro u hu
  have hu:u∈its:=by simpa using hu
  rw[e]at hu
  rcases List.mem_append.mp hu with hu | hu
  ·obtain⟨m,t,rfl⟩:=a2I hi u hu
   exact a93 m t
  ·obtain⟨j,hj,e2⟩:=List.mem_iff_getElem.mp hu
   have hl:=hw.length
   have hj2:j<zs.length:=by omega
   obtain⟨w',q1,q2⟩:=hw.get (List.getElem?_eq_getElem hj2)
   obtain⟨b,eb⟩:=hz zs[j] (List.getElem_mem hj2)
   rw[eb]at q2
   rw[List.getElem?_eq_getElem hj,e2]at q1
   cases q1
   cases q2
   exact a94 b
theorem a6q{K:W.Frag}(hK:X.K=K:=by rfl):T8 X (.builtin "sorted") (a8E K):=by
 subst hK
 intro pins s σ H xs us Q I r h
 obtain⟨a,ys,ks,rfl,hq,hk,h64,hd,q⟩:=h
 obtain⟨u,rfl,ru⟩:=r.one
 cases (show u=Value.ref a from ru)
 obtain⟨its,rv,pl,hz⟩:=I.list hq
 have hlen:=rv.length
 refine a6p pl.isList (a3Y I rv hk) (by omega) (fun i j hi hj=>hd i j (by omega) (by omega)) fun h' p c kp ho hp hs=>?_
 have hf:H (s.heap.objs.size+1)=none:=I.hok.fresh (Nat.le_succ _)
 have hpy:p.Perm (List.range ys.length):=by rw[hlen];exact hp
 refine⟨.ref (s.heap.objs.size+1),_,I.laid (t':=s.toks) (o:=.lst (p.map fun i=>ys.getD i .non)) kp (Nat.le_succ _) ?_,rfl,q _ p hf hpy hs⟩
 refine⟨?_,p.map fun i=>its.getD i Value.none,c,a13 p rv fun i hi=>List.mem_range.mp (hpy.mem_iff.mp hi),ho⟩
 rw[List.length_map,hpy.length_eq,List.length_range];exact hz
end
theorem a43{pos:Pos}{a b:Int}{c cv:Value}(l:List Value)(h:TriplesOk l)(e:codeAmong pos (l++[rawInt a,rawInt b,c])=some cv):codeAmong pos l=some cv∨cv=c:=by
 fun_induction TriplesOk l with
 | case1 =>
  simp only[List.nil_append,codeAmong,rawInt]at e
  split at e
  ·exact .inr (Option.some.inj e).symm
  ·cases e
 | case2 a t b u x J8 ih =>
  simp only[List.cons_append,codeAmong]at e ⊢
  split at e
  ·exact .inl (by rename_i z;rw[if_pos z];exact e)
  ·rename_i z;rw[if_neg z];exact ih h e
 | case3=>exact h.elim
def a2o(oc:Obj)(q:Str):Prop:=∃vs t,oc.data=.fields vs∧vs[1]? = some (.str q t)
section
variable {X:Cx}{pins:List (Addr×Obj)}{σ:St}{H:Hp}{s:Shared}{params:Arguments}{body:Expr}{scope:Scope}{lpos:Pos}{c P:Addr}{q:Str}{tq:Tok}{qs:Array Value}{Q:Value→Shared→Prop}{E:Value→Shared→Prop}
abbrev a1g(X:Cx)(params:Arguments)(body:Expr)(scope:Scope)(q:Str)(c':Addr)(pm ctv:Value):Obj:=kla_obj "<lambda>" q params body scope (J3 X.env.cells scope.names []) pm c' ctv
theorem Inv.grown{h':Heap}{tk:Nat}{c':Addr}{oc:Obj}{ps:Array Value}{a b:Int}(I:Inv X pins σ H s)(hT:H P=some (.tbl qs))(hqs:qs[0]? = some (Value.str q tq))(eP:s.heap.get? P=some (tabObj ps))(tr:TriplesOk ps.toList)
  (al:∀pos cv,codeAmong pos ps.toList=some cv→∃c oc u,cv=Value.ref c∧H c=some (.frz oc u)∧∃vs q' t t2,oc.data=.fields vs∧vs[1]? = some (Value.str q' t2)∧qs[0]? = some (Value.str q' t))
  (hx:Heap.ExtBut P s.heap h') (hge:s.heap.objs.size≤c') (hoc:h'.get? c'=some oc) (hq:a2o oc q) (htb:h'.get? P=some (tabObj (ps ++ #[rawInt a,rawInt b,.ref c']))) :
  Inv X pins σ (upd H c' (.frz oc (.own c'))) { s with heap:=h',toks:=tk }:=by
 have hn:H c'=none:=I.hok.fresh hge
 have neP:∀b',H b'=none→b'≠P:=fun b' n z=>by rw[z,hT]at n;cases n
 refine I.un (t':=tk) ⟨fun b o e n _ _=>hx b o (neP b n) e,fun b o e n _ _=>⟨o.slots,hx b o (neP b n) e⟩,fun b o e n _=>by rw[f9 (Nat.ne_of_lt (Nat.lt_of_lt_of_le (Heap.lt_size e) hge))];exact n,fun b o e _=>?_,fun b xs e=>by rw[f9 (l3 e hn)];exact e,fun b o u e=>by rw[f9 (l3 e hn)];exact e,fun b qs e=>⟨#[],by rw[f9 (l3 e hn),e];simp⟩⟩ fun b u e=>?_
 ·by_cases z:b=P
  ·rw[z];exact⟨_,htb⟩
  ·exact⟨o,hx b o z e⟩
 ·by_cases z:b=c'
  ·subst z
   rw[k9]at e;cases e
   exact⟨hoc,oc,hoc⟩
  ·rw[f9 z]at e
   by_cases y:b=P
   ·subst y
    rw[hT]at e;cases e
    refine⟨_,htb,by rw[Array.toList_append];exact TriplesOk_snoc _ _ _ _ tr,fun pos cv e=>?_⟩
    rw[Array.toList_append]at e
    rcases a43 _ tr e with e | rfl
    ·obtain⟨c,o,u,e1,e2,r⟩:=al pos cv e
     exact⟨c,o,u,e1,by rw[f9 (l3 e2 hn)];exact e2,r⟩
    ·obtain⟨vs,t,d1,d2⟩:=hq
     exact⟨c',oc,.own c',rfl,k9,vs,q,tq,t,d1,d2,hqs⟩
   ·refine(I.hok b u e).stay (fun d v hd r=>hx d v ?_ r) (fun d r=>by rw[f9 (l3 r hn)];exact r) (fun d xs r=>by rw[f9 (l3 r hn)];exact r) fun d o u r=>by rw[f9 (l3 r hn)];exact r
    rcases hd with rfl | hd
    ·exact y
    ·intro z;rw[z,hT]at hd;cases hd
theorem a95(I:Inv X pins σ H s)(hd:defaultsOf params X.env=([],[]))(hcode:X.env.code=.ref c)(C:CodeHd X.base c P)(hbl:X.base.BuiltinsAt X.mg P)(hT:H P=some (.tbl qs))(hqs:qs[0]? = some (Value.str q tq))(hq:q=X.env.qual ++ "<lambda>")
  (hfree:∀y∈scope.names,y.2=.free→X.env.scope.names.lookup y.1=some .cell∨X.env.scope.names.lookup y.1=some .free)
  (h:∀f c' oc u pm ctv H' s',Inv X pins σ H' s'→(∀a o,H a=some o→H' a=some o)→H' f=some (.frz (a1g X params body scope q c' pm ctv) (.own f))→H' c'=some (.frz oc u)→a2o oc q→Q (.ref f) s') :
  wpAny (model X.prog X.w) X.A (eval (.Lambda params body scope lpos) X.env) Q E s:=by
 refine kla_eval hd ?_
 subst hq
 obtain⟨ps,eP,tr,al⟩:=I.hok P _ hT
 have hcl:=a0f (scope:=scope) (env:=X.env) fun y hy hk=>I.ok.has y.1 (hfree y hy hk)
 have hg:s.heap.Ns mainGlobals X.mg:=I.mod.glob.keeps I.bk
 obtain⟨bm,ob,b1,b2,b3,b4,b5,b6,b7,b8⟩:=hbl
 have hb:s.heap.BuiltinsAt X.mg P:=⟨bm,ob,b1,b2,b3,b4,I.bk _ _ b5,b6,b7,b8⟩
 have lay:∀(H1:Hp) (h1:Heap) (tk:Nat) (c':Addr) (oc:Obj) (u:HO) (pm ctv:Value),Inv X pins σ H1 { s with heap:=h1,toks:=tk }→(∀a o,H a=some o→H1 a=some o)→H1 c'=some (.frz oc u)→a2o oc (X.env.qual ++ "<lambda>")→Q (.ref h1.objs.size) { s with heap:=h1.push (a1g X params body scope (X.env.qual ++ "<lambda>") c' pm ctv),toks:=tk }:=by
  intro H1 h1 tk c' oc u pm ctv I1 ex e3 e4
  have hf:H1 h1.objs.size=none:=I1.hok.fresh (Nat.le_refl _)
  have hgt:(h1.push (a1g X params body scope (X.env.qual ++ "<lambda>") c' pm ctv)).get? h1.objs.size=some (a1g X params body scope (X.env.qual ++ "<lambda>") c' pm ctv):=Heap.get?_push_size _ rfl
  have I2:=I1.laid (a:=h1.objs.size) (o:=.frz (a1g X params body scope (X.env.qual ++ "<lambda>") c' pm ctv) (.own h1.objs.size)) (t':=tk) (fun b o e=>Heap.get?_push_of_some (a1g X params body scope (X.env.qual ++ "<lambda>") c' pm ctv) e) (Nat.le_refl _) ⟨hgt,_,hgt⟩
  refine h _ c' oc u pm ctv _ _ I2 (fun a o e=>?_) k9 ?_ e4
  ·rw[f9 (l3 (ex a o e) hf)];exact ex a o e
  ·rw[f9 (l3 e3 hf)];exact e3
 cases e:codeAmong lpos ps.toList with
 | some cv =>
  obtain⟨c',oc,u,rfl,hc',vs,q',t,t2,d1,d2,d3⟩:=al lpos cv e
  have hq:q'=X.env.qual ++ "<lambda>" := by
   rw[hqs]at d3
   injection d3 with d3
   injection d3 with d3
   exact d3.symm
  subst hq
  refine kla_makeFunctionHit (mg:=X.mg) hcl I.ok.glob hg hcode (C.keeps I.bk) eP tr e hb fun ctv h' tk hk hsz=>?_
  exact lay H h' tk c' oc u _ ctv (I.kept hk) (fun _ _ e=>e) hc' ⟨vs,t2,d1,d2⟩
 | none =>
  have hgP:mainGlobals≠P:=fun z=>by
   obtain⟨o,es,ep,e1,hd,_⟩:=hg
   rw[z,eP]at e1;cases e1;cases hd
  refine kla_makeFunction (mg:=X.mg) hcl I.ok.glob hg hcode (C.keeps I.bk) eP tr e hgP hb fun c' ctv h' tk hx hge hlt hrec htb=>?_
  obtain⟨c2,oc,vs,t,e2,hoc,hd,hv⟩:=hrec
  cases e2
  exact lay _ h' tk c' oc (.own c') _ ctv (I.grown (tk:=tk) hT hqs eP tr al hx hge hoc ⟨vs,t,hd,hv⟩ htb) (fun a o e=>by rw[f9 (l3 e (I.hok.fresh hge))];exact e) k9 ⟨vs,t,hd,hv⟩
end
abbrev a5A(X:Cx)(scope:Scope)(q:Str)(L f c':Addr):Env:=envX q scope L f (.ref c') (J3 X.env.cells scope.names [])
abbrev a7E(X:Cx)(A':Around)(scope:Scope)(q:Str)(Nc:List Str)(f c':Addr)(s:Shared)(H:Hp):Cx :=
 { X with A:=A'.deeper (a5A X scope q s.heap.objs.size f c'),N:=Nc,s₀:=s,H₀:=H,env:=a5A X scope q s.heap.objs.size f c',outer:=X.stack,stack:=a5A X scope q s.heap.objs.size f c'::X.stack,ex:=[],fn:=fun _=>false,calm:=true,pn:=[],xe:=fun _ _=>False }
def a49(js:List Nat)(σ:St)(x:V):St:=some x::js.map fun j=>(σ[j]?).getD none
section
variable {X:Cx}{pins:List (Addr×Obj)}{σ:St}{H:Hp}{s:Shared}{A':Around}{params:Arguments}{body:Expr}{scope:Scope}{q kn:Str}{f c':Addr}{Nc:List Str}{js:List Nat}{h₁:Heap}{tk:Nat}{v:Value}{x:V}
theorem b1O(I:Inv X pins σ H s)(hA:A'.frames=some X.stack)(hh:A'.handled=none)(S:CompSc X.env.scope scope X.N Nc 1 js)(hk0:Nc[0]? = some kn)(hloc:scope.names.lookup kn=some .local)
  (hns:h₁.Ns s.heap.objs.size (fun y=>([(kn,v)]:List (Str×Value)).reverse.lookup y)) (old:∀b o,s.heap.get? b=some o→h₁.get? b=some o) (rv:RelV x v) :
  Inv (a7E X A' scope q Nc f c' s H) [] (a49 js σ x) H { s with heap:=h₁,toks:=tk }:=by
 have ok:=I.ok
 refine⟨⟨ok.mod,S.kind,rfl,rfl,Nat.le_refl _,fun x y c h1 h2=>ok.inj x y c (J9 h1) (J9 h2),fun y hy=>?_,(fun x c z=>nomatch z),fun _=>hh,Around.frames_deeper hA,.inr ⟨rfl,rfl⟩,fun b hb=>absurd (show b∈([]:List Addr)from hb) (by simp),I.bs,Nat.le_trans ok.bsz I.sz,fun b o e hb=>absurd (show b∈([]:List Addr)from hb) (by simp),fun b hb=>absurd (show b∈([]:List Addr)from hb) (by simp),I.stack,I.stkFree⟩,
  rfl,I.bare,Un.kept old,⟨_,hns,fun i y w e1 e2 e3=>?_⟩,fun y c e=>?_,I.hok.fresh (Nat.le_refl _),fun y c e=>I.freeC y c (J9 e),fun p hp=>absurd (show p∈([]:List (Addr×Obj))from hp) (by simp),I.hok.kept old,?_⟩
 ·have hy:scope.names.lookup y=some .cell∨scope.names.lookup y=some .free:=hy
  rcases hy with hy | hy
  ·exact absurd rfl (S.cell _ (M7 hy))
  ·exact S4 (M7 hy) (ok.has y (S.free _ (M7 hy) rfl))
 ·cases i with
  | zero =>
   have e1:Nc[0]? = some y:=e1
   rw[hk0]at e1;cases e1
   have e2:some (some x)=some (some w):=e2
   cases e2
   refine⟨v,rv,.inl ⟨hloc,?_⟩⟩
   show([(kn,v)]:List (Str×Value)).reverse.lookup kn=some v
   simp
  | succ i =>
   have e2:(js.map fun j=>(σ[j]?).getD none)[i]? = some (some w):=e2
   rw[List.getElem?_map]at e2
   cases hj:js[i]? with
   | none=>rw[hj]at e2;cases e2
   | some j =>
    rw[hj]at e2
    have e2':(σ[j]?).getD none=some w:=Option.some.inj e2
    have hσ:σ[j]? = some (some w):=by
     cases z:σ[j]? with
     | none=>rw[z]at e2';cases e2'
     | some y=>rw[z]at e2';simp at e2';rw[e2']
    have e1:Nc[i+1]? = some y:=e1
    have hx:(Nc.drop 1)[i]? = some y:=by rw[List.getElem?_drop,show 1+i=i+1 by omega];exact e1
    have hNj:X.N[j]? = some y:=by
     have:=congrArg (fun l=>l[i]?) S.cap
     simp only[List.getElem?_map,hx,hj,Option.map_some]at this
     exact(Option.some.inj this).symm
    have hfr:scope.names.lookup y=some .free:=S.caps y (List.mem_of_getElem? hx)
    have hk:=S.free _ (M7 hfr) rfl
    obtain⟨m,hn,hl⟩:=I.loc
    obtain⟨u,r,l⟩:=hl j y w hNj hσ (.inr hk)
    refine⟨u,r,.inr ⟨.inr hfr,?_⟩⟩
    rcases l with⟨l1,_⟩ | ⟨_,c,hc,hcell⟩
    ·have l1:X.env.scope.names.lookup y=some .local:=l1
     rcases hk with hk | hk
     ·rw[l1]at hk;cases hk
     ·rw[l1]at hk;cases hk
    ·obtain⟨d,hd⟩:=S4 (cells:=X.env.cells) (acc:=[]) (M7 hfr) ⟨c,hc⟩
     have:=J9 hd
     rw[hc]at this;cases this
     obtain⟨o,ho,hdd⟩:=hcell
     exact⟨c,hd,⟨o,old _ _ ho,hdd⟩⟩
 ·obtain⟨w,o,ho,hd⟩:=I.cell y c (J9 e)
  exact⟨w,o,old _ _ ho,hd⟩
 ·unfold a49
  rw[List.length_cons,List.length_map]
  have:=S.len
  show _=Nc.length
  omega
theorem a96{oc:Obj}{u u':HO}{pm ctv:Value}{te:TE}{Qk:VK}(I:Inv X pins σ H s)(hA:A'.frames=some X.stack)(hh:A'.handled=none)(hdp:A'.depth<recursionLimit)(S:CompSc X.env.scope scope X.N Nc 1 js)(hk0:Nc[0]? = some kn)(hloc:scope.names.lookup kn=some .local)
  (hf:H f=some (.frz (a1g X params body scope q c' pm ctv) u')) (hc:H c'=some (.frz oc u)) (hq:a2o oc q) (hbind:bindArgs (kla_fn "<lambda>" q params body scope (J3 X.env.cells scope.names []) pm (.ref c') ctv) ⟨[v],[]⟩=pure [(kn,v)])
  (hco:scope.isCoroutine=false) (hgen:scope.isGenerator=false) (hbody:PE (a7E X A' scope q Nc f c' s H) body te) (rv:RelV x v) (ht:te (a49 js σ x) H Qk) :
  wpAny (model X.prog X.w) A' (call (.ref f) [v]) (fun w s'=>∃y H2,Inv X pins σ H2 s'∧RelV y w∧Qk y H2∧Un (L7 X.stack) [] H H2 s.heap s'.heap) (fun _ _=>False) s:=by
 have ef:s.heap.get? f=some (a1g X params body scope q c' pm ctv):=(I.hok f _ hf).1
 have ec:s.heap.get? c'=some oc:=(I.hok c' _ hc).1
 obtain⟨vs,t,d1,d2⟩:=hq
 refine wpAny_call (kla_callFunE hdp ef rfl hco hgen rfl ⟨c',oc,vs,t,rfl,ec,d1,d2⟩ ?_)
 rw[hbind]
 refine wpAny_pure (wpAny_newFunctionEnv S.cell (by
  intro y hy
  rw[List.mem_singleton.mp hy]
  exact hloc) (fun h₁ hns hsb=>⟨I.nolimit.fresh _ hsb,?_⟩) S.kind)
 have old:∀b o,s.heap.get? b=some o→h₁.get? b=some o:=fun b o e=>hsb.extBut b o (Nat.ne_of_lt (Heap.lt_size e)) (Heap.get?_push_of_some _ e)
 have J:=b1O (q:=q) (f:=f) (c':=c') (tk:=s.toks+([(kn,v)]:List (Str×Value)).length) I hA hh S hk0 hloc hns old rv
 refine kla_codeExpr (wpAny_mono (hbody [] _ _ H _ J ht) (fun w s' hw=>?_) fun _ _ z=>z.elim)
 obtain⟨y,H2,I2,ry,q2⟩:=hw
 exact⟨y,H2,I.call' (ch:=[]) (I2.os.trans rfl) I2.base I2.hok I2.bare (fun b hb=>absurd hb (by simp)),ry,q2,I2.base⟩
end
section
variable {prog:Program}{w:World}{A:Around}{E:Value→Shared→Prop}{s:Shared}
theorem a6r{r:Addr}{a b c:Int}{t u v:Tok}{n:Nat}{Q:List Value→Shared→Prop}(hh:A.handled=none)(hr:IsRange s.heap r a b c t u v)(hsmall:Builtin.Range.small a b c=true)(hn:Builtin.Range.rangeSize a b c=n)(hlen:n≤2 ^ 24)
  (h:∀h' tk acc,(∀b o,s.heap.get? b=some o→h'.get? b=some o)→ItemsOf (fun i v=>∃t,v=.int (a+i*c) t) acc n→Q acc.toList { s with heap:=h',toks:=tk }) :
  wpAny (model prog w) A (collect (.ref r)) Q E s:=by
 unfold collect
 refine wpAny_bind (wpAny_runValue (codeAny_builtin F.entry_proto_collect ?_))
 rw[Around.under_plainId F.plain_proto_collect _]
 show wpAny _ A.in1 (newList [] >>= fun l=>again (.builtin "list.__iadd__" ⟨[l,.ref r],[]⟩)) _ _ s
 refine wpAny_bind (wpAny_newObj_type ?_)
 refine wpAny_pure ⟨plainId_quiet F.plain_list_iadd _,codeAny_builtin F.entry_list_iadd ?_⟩
 rw[Around.under_plainId F.plain_list_iadd _]
 have hS:(s.heap.push { cls:=.type "list",data:=.seq ([]:List Value).toArray }).get? s.heap.objs.size=some { cls:=.type "list",data:=.seq ([]:List Value).toArray }:=Heap.get?_push_size _ rfl
 show wpAny _ A.in1 (Builtin.List.listExtendWith (.ref s.heap.objs.size) (.ref r) (.ref s.heap.objs.size)) _ _ _
 refine wpAny_extend_range (A:=A) (R:=fun r' s'=>match r' with
  | .ok (.ret v)=>wpAny (model prog w) A (match v with
   | .ref a=>do
    let o ← load a
    match o.data with
     | .seq xs _=>pure xs.toList
     | _=>unsupported "internal:collect"
   | _=>unsupported "internal:collect") Q E s'
  | .ok _=>False
  | .error e=>E e s') (s:={ s with heap:=s.heap.push { cls:=.type "list",data:=.seq ([]:List Value).toArray } }) hh (Heap.get?_push_of_some _ hr) hsmall hn hlen s.heap.objs.size (.ref s.heap.objs.size) 0 hS fun h' tk acc c' hk hS' hi=>?_
 show wpAny _ A (load s.heap.objs.size >>= _) _ _ _
 refine wpAny_bind (wpAny_load hS' ?_)
 exact wpAny_pure (h h' tk acc (fun b o e=>hk b o (Nat.ne_of_lt (Heap.lt_size e)) (Heap.get?_push_of_some _ e)) hi)
end
section
variable {X:Cx}{pins:List (Addr×Obj)}{σ:St}{H:Hp}{s:Shared}{A':Around}{E:Value→Shared→Prop}
theorem FpOk.nstk{H':Hp}{b:Addr}(I:Inv X pins σ H s)(f:FpOk X pins H' b):b ∉ L7 X.stack:=fun z=>by
 rcases List.mem_cons.mp (I.stkSub b z)with q | q
 ·exact f.2.1 q
 ·exact f.2.2.1 q
theorem FpOk.to{H':Hp}{b:Addr}(f:FpOk X pins H b)(n:H' b=none):FpOk X pins H' b:=⟨n,f.2⟩
theorem b1P{xs:List V}{vs:List Value}(r:Vals xs vs){j:Nat}{u:Value}(h:vs[j]? = some u):∃x,xs[j]? = some x∧RelV x u:=by
 have hj:=(List.getElem?_eq_some_iff.mp h).1
 have hl:=r.length
 obtain⟨u',e,q⟩:=r.get (List.getElem?_eq_getElem (l:=xs) (i:=j) (by omega))
 rw[h]at e;cases e
 exact⟨_,List.getElem?_eq_getElem (by omega),q⟩
theorem a3k{D kS:Addr}{vs:List Value}{xs:List V}{e1 e2:Nat}{kA:Array Value}{st:SortSt}{p:List Nat}{P:PySem.Fin→Shared→Prop}(I:Inv X pins σ H s)(fD:FpOk X pins H D)(fk:FpOk X pins H kS)(ne:kS≠D)(hD:s.heap.get? D=some (seqObj "list" #[] e1))(hk:s.heap.get? kS=some (seqObj "list" kA e2))(rv:Vals xs vs)(h64:vs.length<64)(hkA:kA.size≤vs.length)
  (hout:(arrOf st).map (·.2)=(p.map fun i=>vs.getD i Value.none).toArray) (hf:failedOf st=none) (hp:p.Perm (List.range xs.length))
  (h:∀s',Inv X pins σ (upd H D (.lst (p.map fun i=>xs.getD i .non))) s'→P (.done (.ret .none)) s'):wpAny (model X.prog X.w) A' (ksk_tail D false e1 (.ref kS) st) P E s:=by
 have hlen:=rv.length
 have hsz3:((p.map fun i=>vs.getD i Value.none).toArray).size=vs.length:=by rw[List.size_toArray,List.length_map,hp.length_eq,List.length_range,hlen]
 have s1:=Heap.SameBut.update s.heap kS (Obj.mapSeq fun _=>(#[]:Array Value))
 have na1:(s.heap.update kS (Obj.mapSeq fun _=>(#[]:Array Value))).get? D=some (seqObj "list" #[] e1):=(s1.2 D (Ne.symm ne)).trans hD
 have s2:=Heap.SameBut.update (s.heap.update kS (Obj.mapSeq fun _=>(#[]:Array Value))) D (Obj.mapSeq fun _=>(p.map fun i=>vs.getD i Value.none).toArray)
 obtain⟨c2,hc2⟩:∃c2,((s.heap.update kS (Obj.mapSeq fun _=>(#[]:Array Value))).update D (Obj.mapSeq fun _=>(p.map fun i=>vs.getD i Value.none).toArray)).get? D=some (seqObj "list" (p.map fun i=>vs.getD i Value.none).toArray c2):=⟨_,get?_update_seq na1 fun _=>_⟩
 unfold ksk_tail
 rw[hout,hf]
 dsimp only
 refine wpAny_bind (listUpdate_at hk rfl ?_ (by rw[sizeLine_eq];omega) (Nat.zero_le _))
 refine wpAny_bind (wpAny_letGo ?_)
 refine wpAny_bind (seqEpoch_at na1 rfl ?_)
 refine wpAny_bind (listUpdate_at na1 rfl ?_ (Nat.zero_le _) (Nat.le_trans (Nat.le_of_eq hsz3) (by rw[sizeLine_eq];omega)))
 simp only[bne_self_eq_false,Bool.false_eq_true,if_false]
 refine wpAny_pure (h _ ?_)
 have I2:=I.turnedN (t':=s.toks) (ch:=[kS,D]) (h':=((s.heap.update kS (Obj.mapSeq fun _=>(#[]:Array Value))).update D (Obj.mapSeq fun _=>(p.map fun i=>vs.getD i Value.none).toArray))) (fun b u hb e=>by
  simp only[List.mem_cons,List.not_mem_nil,or_false,not_or]at hb
  exact(s2.2 b hb.2).trans ((s1.2 b hb.1).trans e)) (fun b hb=>by
  simp only[List.mem_cons,List.not_mem_nil,or_false]at hb
  rcases hb with rfl | rfl
  ·exact fk
  ·exact fD)
 refine I2.trackO ?_ hc2 rfl ?_
 ·rintro(z | ⟨z,o,e⟩ | ⟨q,hq,e⟩)
  ·exact z fD.1
  ·rcases fD.2.2.2.1 with y | y
   ·exact z y
   ·exact absurd (Heap.lt_size e) (Nat.not_lt.mpr y)
  ·exact fD.2.2.2.2.2 q hq e
 ·refine⟨?_,p.map fun i=>vs.getD i Value.none,c2,a13 p rv fun i hi=>List.mem_range.mp (hp.mem_iff.mp hi),hc2⟩
  rw[List.length_map,hp.length_eq,List.length_range,hlen,sizeLine_eq]
  omega
end
section
variable {X:Cx}{pins:List (Addr×Obj)}{σ:St}{H:Hp}{s:Shared}{A':Around}{E:Value→Shared→Prop}
theorem a8F{D kS:Addr}{vs keys:List Value}{xs ys:List V}{ks:List (List Int)}{e1 e2:Nat}{P:PySem.Fin→Shared→Prop}(I:Inv X pins σ H s)(fD:FpOk X pins H D)(fk:FpOk X pins H kS)(ne:kS≠D)(hD:s.heap.get? D=some (seqObj "list" #[] e1))(hk:s.heap.get? kS=some (seqObj "list" keys.toArray e2))(rv:Vals xs vs)(rk:Vals ys keys)(hl:keys.length=vs.length)(h64:vs.length<64)
  (vp:VPs X.K H ys ks) (hd:∀i j,i<ys.length→j<ys.length→i≠j→(ks.getD i []).length=(ks.getD j []).length∧ks.getD i []≠ks.getD j [])
  (h:∀(p:List Nat) s',p.Perm (List.range xs.length)→p.Pairwise (fun i j=>HT.lexLt (ks.getD j []) (ks.getD i [])=false)→Inv X pins σ (upd H D (.lst (p.map fun i=>xs.getD i .non))) s'→P (.done (.ret .none)) s') :
  wpAny (model X.prog X.w) A' (ksk_end D false vs.toArray e1 (.ref kS) keys.toArray) P E s:=by
 have hxl:=rv.length
 have hyl:=rk.length
 have tp:TPs s.heap keys ks:=a3Y I rk vp
 unfold ksk_end
 simp only[Bool.false_eq_true,if_false]
 by_cases h2':vs.toArray.size<2
 ·rw[if_pos h2',if_pos h2']
  refine wpAny_bind (wpAny_pure ?_)
  rw[StateT.run_pure]
  refine wpAny_bind (wpAny_pure ?_)
  have hlen:vs.length<2:=by simpa using h2'
  refine a3k (st:=SortSt.mk' general' (keys.toArray.zip vs.toArray) #[] 7 none) (p:=List.range xs.length) I fD fk ne hD hk rv h64 (by simp;omega) ?_ rfl (List.Perm.refl _) fun s' J=>h _ s' (List.Perm.refl _) ?_ J
  ·show(keys.toArray.zip vs.toArray).map (·.2)=_
   rw[hxl]
   match vs,keys,hl,hlen with
   | [],[],_,_=>simp
   | [_],[_],_,_=>simp
  ·match hn:xs.length,(show xs.length<2 by omega)with
   | 0,_=>exact .nil
   | 1,_=>exact List.pairwise_singleton _ _
 ·rw[if_neg h2',if_neg h2']
  have hlen:2≤vs.length:=by simp at h2';omega
  obtain⟨fs,t1,t2,t3⟩:=a3X tp
  refine wpAny_bind (kat_kind (T:=.type "int") t1 (by omega) (fun v hv=>by obtain⟨i,t,rfl⟩:=t3 v hv;exact .of_pure rfl) (by decide) ?_)
  have eb:(Value.type "int" != Value.type "tuple")=true:=by decide +kernel
  rw[eb]
  have T:=a5z fun i=>ks.getD i []
  have gd:=a6Q (n:=vs.length) T (by omega)
  refine wpAny_bind (wpAny_mono (kat_run (κ:=tuples' true) (vs:=vs) (ks:=keys) (Q:=fun st' s'=>∃p:Array Nat,p.size=vs.length∧arrOf st'=p.map (kas_item (keys.toArray.zip vs.toArray))∧failedOf st'=none∧s'=s∧Pmn vs.length p∧Up (fun i j=>HT.lexLt (ks.getD i []) (ks.getD j [])) p vs.length)
   (G:=fun p s'=>s'=s∧Pmn vs.length p∧Up (fun i j=>HT.lexLt (ks.getD i []) (ks.getD j [])) p vs.length)
   hl hlen h64 (fun p' st' s' a1 a2 a3 a4=>⟨p',a1,a2,a3,a4⟩) (gd.wp (fun i j C hi hj hC=>?_) fun p hp=>⟨rfl,hp⟩)) ?_ fun _ _ x=>x)
  ·by_cases z:i=j
   ·subst z
    refine TupPre.lt_self (tp.at i (by omega)) ?_
    rw[a2n]at hC
    exact hC
   ·obtain⟨e,n⟩:=hd i j (by omega) (by omega) z
    exact TupPre.lt (tp.at i (by omega)) (tp.at j (by omega)) e n hC
  ·rintro⟨⟨⟩,st'⟩ s' ⟨p,hp,har,hf,rfl,hP,hU⟩
   have hPx:p.toList.Perm (List.range xs.length):=by rw[hxl];exact hP
   refine a3k (p:=p.toList) I fD fk ne hD hk rv h64 (by simp;omega) (kat_snds hl har) hf hPx fun s' J=>h _ s' hPx ?_ J
   rw[List.pairwise_iff_getElem]
   intro i j hi hj hij
   have hU':=hU i j (by omega) (by rw[← hp];simpa using hj)
   simp only[Array.length_toList]at hi hj
   have e1:ga p i=p[i]:=by unfold ga;simp[Array.getD,hi]
   have e2:ga p j=p[j]:=by unfold ga;simp[Array.getD,hj]
   rw[e1,e2]at hU'
   simpa using hU'
theorem a8G{D f:Addr}{vs:List Value}{xs:List V}{n0:Nat}{W:Nat→List V→Hp→Prop}{P:PySem.Fin→Shared→Prop}(I:Inv X pins σ H s)(hD:s.heap.get? D=some (seqObj "list" vs.toArray n0))(fD:FpOk X pins H D)(rv:Vals xs vs)(h64:vs.length<64)(w0:W 0 [] H)
  (turn:∀i x v ys H' s',xs[i]? = some x→RelV x v→W i ys H'→Inv X pins σ H' s'→(∀b o u,H b=some (.frz o u)→H' b=some (.frz o u))→wpAny (model X.prog X.w) A' (call (.ref f) [v]) (fun w s''=>∃y H2,Inv X pins σ H2 s''∧RelV y w∧W (i+1) (ys++[y]) H2∧Un (L7 X.stack) [] H' H2 s'.heap s''.heap) (fun _ _=>False) s')
  (fin:∀ys H',ys.length=xs.length→W xs.length ys H'→H' D=none→∃ks,VPs X.K H' ys ks∧(∀i j,i<ys.length→j<ys.length→i≠j→(ks.getD i []).length=(ks.getD j []).length∧ks.getD i []≠ks.getD j []) ∧
   ∀(p:List Nat) s',p.Perm (List.range xs.length)→p.Pairwise (fun i j=>HT.lexLt (ks.getD j []) (ks.getD i [])=false)→Inv X pins σ (upd H' D (.lst (p.map fun i=>xs.getD i .non))) s'→P (.done (.ret .none)) s') :
  wpAny (model X.prog X.w) A' (ksk_tree D (.ref f) false) P E s:=by
 have ha:D<s.heap.objs.size:=Heap.lt_size hD
 have s1:=Heap.SameBut.update s.heap D (Obj.mapSeq fun _=>(#[]:Array Value))
 obtain⟨e1,ho1⟩:∃e1,(s.heap.update D (Obj.mapSeq fun _=>(#[]:Array Value))).get? D=some (seqObj "list" #[] e1):=⟨_,get?_update_seq hD fun _ => #[]⟩
 have hkS:((s.heap.update D (Obj.mapSeq fun _=>(#[]:Array Value))).push (seqObj "tuple" vs.toArray 0)).objs.size=s.heap.objs.size+1:=by rw[size_push',Heap.size_update]
 have hxl:=rv.length
 unfold ksk_tree
 refine wpAny_bind (listItems_at hD rfl ?_)
 refine wpAny_bind (listUpdate_at hD rfl ?_ (by rw[List.size_toArray,sizeLine_eq];omega) (Nat.zero_le _))
 refine wpAny_bind (seqEpoch_at ho1 rfl ?_)
 refine wpAny_bind (wpAny_newTuple ?_ (by show vs.length≤_;rw[sizeLine_eq];omega))
 refine wpAny_bind (wpAny_newList ?_ (Nat.zero_le _))
 refine wpAny_holding ?_
 show wpAny (model X.prog X.w) A' (ksk_rest D (.ref f) false vs.toArray e1 (.ref ((s.heap.update D (Obj.mapSeq fun _=>(#[]:Array Value))).push (seqObj "tuple" vs.toArray 0)).objs.size)) P E { s with heap:=((s.heap.update D (Obj.mapSeq fun _=>(#[]:Array Value))).push (seqObj "tuple" vs.toArray 0)).push (seqObj "list" #[] 0) }
 have hkO:(((s.heap.update D (Obj.mapSeq fun _=>(#[]:Array Value))).push (seqObj "tuple" vs.toArray 0)).push (seqObj "list" #[] 0)).get? ((s.heap.update D (Obj.mapSeq fun _=>(#[]:Array Value))).push (seqObj "tuple" vs.toArray 0)).objs.size=some (seqObj "list" #[] 0):=Heap.get?_push_size _ rfl
 have hDO:(((s.heap.update D (Obj.mapSeq fun _=>(#[]:Array Value))).push (seqObj "tuple" vs.toArray 0)).push (seqObj "list" #[] 0)).get? D=some (seqObj "list" #[] e1):=Heap.get?_push_of_some _ (Heap.get?_push_of_some _ ho1)
 have I2:=I.turnedN (t':=s.toks) (ch:=[D]) (h':=((s.heap.update D (Obj.mapSeq fun _=>(#[]:Array Value))).push (seqObj "tuple" vs.toArray 0)).push (seqObj "list" #[] 0)) (fun b u hb e=>Heap.get?_push_of_some _ (Heap.get?_push_of_some _ ((s1.2 b (fun z=>hb (by simp[z]))).trans e))) (fun b hb=>by
  simp only[List.mem_singleton]at hb;rw[hb];exact fD)
 rw[hkS]at hkO ⊢
 have fk:FpOk X pins H (s.heap.objs.size+1):=I.fpOk (Nat.le_succ _) (I.hok.fresh (Nat.le_succ _))
 have ne:s.heap.objs.size+1≠D:=Nat.ne_of_gt (Nat.lt_succ_of_lt ha)
 generalize ((s.heap.update D (Obj.mapSeq fun _=>(#[]:Array Value))).push (seqObj "tuple" vs.toArray 0)).push (seqObj "list" #[] 0)=h2 at *
 generalize s.heap.objs.size+1=kS at *
 have nD:=fD.nstk I
 have nk:=fk.nstk I
 unfold ksk_rest
 refine wpAny_bind (wpAny_rule ?_)
 first
  | rw[List.forIn_toArray]
  | (rw[← Array.forIn_toList];simp only[List.toList_toArray])
  | rw[← Array.forIn_toList]
 refine wpAny_bind (ksk_fold (fun i s'=>∃H' ys kA e,Inv X pins σ H' s'∧W i ys H'∧Vals ys kA∧ys.length=i∧s'.heap.get? kS=some (seqObj "list" kA.toArray e)∧s'.heap.get? D=some (seqObj "list" #[] e1)∧H' kS=none∧H' D=none∧∀b o u,H b=some (.frz o u)→H' b=some (.frz o u)) vs 0 { s with heap:=h2 }
  ⟨H,[],[],0,I2,w0,.nil,rfl,hkO,hDO,fk.1,fD.1,fun _ _ _ e=>e⟩ ?step ?done)
 case step =>
  rintro j v s' hv ⟨H',ys,kA,e,I',wj,rk,ly,ok,od,nk',nd',fz⟩
  simp only[Nat.zero_add]at wj ly ⊢
  obtain⟨x,hx,rx⟩:=b1P rv hv
  have hj:j<vs.length:=(List.getElem?_eq_some_iff.mp hv).1
  have hz:=rk.length
  refine wpAny_bind (wpAny_attempt (wpAny_mono (turn j x v ys H' s' hx rx wj I' fz) (fun u s'' hu=>?_) fun _ _ z=>z.elim))
  obtain⟨y,H3,I3,ry,w3,un⟩:=hu
  have ok3:=un.keep kS _ ok nk' nk (by simp)
  have od3:=un.keep D _ od nd' nD (by simp)
  have s3:=Heap.SameBut.update s''.heap kS (Obj.mapSeq (·.push u))
  obtain⟨c2,hc2⟩:∃c2,(s''.heap.update kS (Obj.mapSeq (·.push u))).get? kS=some (seqObj "list" (kA.toArray.push u) c2):=⟨_,get?_update_seq ok3 (·.push u)⟩
  have nk3:=un.free kS _ ok nk' (by simp)
  have nd3:=un.free D _ od nd' (by simp)
  refine wpAny_bind (listUpdate_at ok3 rfl ?_ (by rw[List.size_toArray,sizeLine_eq];omega) (Nat.le_trans (Nat.le_of_eq (Array.size_push ..)) (by rw[List.size_toArray,sizeLine_eq];omega)))
  refine wpAny_pure ⟨rfl,H3,ys++[y],kA++[u],c2,I3.turnedN (ch:=[kS]) (fun b o hb e=>(s3.2 b (fun z=>hb (by simp[z]))).trans e) (fun b hb=>by
   simp only[List.mem_singleton]at hb;rw[hb];exact fk.to nk3),w3,?_,by rw[List.length_append,ly];rfl,?_,(s3.2 D (Ne.symm ne)).trans od3,nk3,nd3,fun b o u e=>un.frzs _ _ _ (fz b o u e)⟩
  ·exact rk.append (.cons ry .nil)
  ·rw[show(kA++[u]).toArray=kA.toArray.push u by simp];exact hc2
 case done =>
  rintro s' ⟨H',ys,kA,e,I',wj,rk,ly,ok,od,nk',nd',fz⟩
  rw[Nat.zero_add]at wj ly
  rw[← hxl]at wj ly
  obtain⟨ks,vp,hd,q⟩:=fin ys H' ly wj nd'
  refine wpAny_bind (listItems_at ok rfl ?_)
  have:=rk.length
  exact a8F I' (fD.to nd') (fk.to nk') ne od ok rv rk (by omega) h64 vp hd q
end
def TbAt(P:Addr)(q:Str)(H:Hp):Prop:=∃(qs:Array Value) (t:Tok),H P=some (.tbl qs)∧qs[0]? = some (Value.str q t)
theorem TbAt.now{P:Addr}{q:Str}{fs ex:List Addr}{H H':Hp}{h h':Heap}(t:TbAt P q H)(u:Un fs ex H H' h h'):TbAt P q H':=by
 obtain⟨qs,t,e,e2⟩:=t
 obtain⟨more,e3⟩:=u.tbls _ _ e
 refine⟨_,t,e3,?_⟩
 have h0:0<qs.size:=by
  by_cases z:0<qs.size
  ·exact z
  ·rw[Array.getElem?_eq_none (by omega)]at e2;cases e2
 rw[Array.getElem?_append_left h0];exact e2
def a4_:List V→Hp→VK→Prop:=fun xs H Q=>∃j:Int,xs=[.int j]∧∀r,H r=none→Q (.ref r) (upd H r (.rng 0 j))
def a8H(K:PySem.W.Frag)(te:TE)(js:List Nat)(σ:St)(Q:VK)(vs:List V)(H1:Hp):Prop:=∃(n:Nat) (r:Addr),vs=[.ref r]∧H1 r=some (.rng 0 (n:Int))∧n<64 ∧
 ∀H2:Hp,(∀a o,H1 a=some o→H2 a=some o)→∃W:Nat→List V→Hp→Prop,W 0 [] H2∧(∀i ys H',i<n→W i ys H'→te (a49 js σ (.int (i:Int))) H' fun y H''=>W (i+1) (ys++[y]) H'') ∧
  ∀ys H',ys.length=n→W n ys H'→∃ks,VPs K H' ys ks∧(∀i j,i<ys.length→j<ys.length→i≠j→(ks.getD i []).length=(ks.getD j []).length∧ks.getD i []≠ks.getD j []) ∧
   ∀l (p:List Nat),H' l=none→p.Perm (List.range n)→p.Pairwise (fun i j=>HT.lexLt (ks.getD j []) (ks.getD i [])=false)→Q (.ref l) (upd H' l (.lst (p.map fun(i:Nat)=>V.int (i:Int))))
def a8I(K:W.Frag)(ta:TA)(te:TE)(js:List Nat):TE:=fun σ H Q=>ta σ H fun xs H1=>a4_ xs H1 fun x H2=>a8H K te js σ Q [x] H2
section
variable {X:Cx}
theorem a6s:T8 X (.type "range") a4_:=by
 intro pins s σ H xs us Q I r h
 obtain⟨j,rfl,q⟩:=h
 obtain⟨u,rfl,ru⟩:=r.one
 obtain⟨t,rfl⟩:=ru
 refine call_range_1 ?_
 have hg:(s.heap.push { cls:=.type "range",data:=.fields #[.int 0 s.toks,.int j t,.int 1 (s.toks+1)] }).get? s.heap.objs.size=some { cls:=.type "range",data:=.fields #[.int 0 s.toks,.int j t,.int 1 (s.toks+1)] }:=Heap.get?_push_size _ rfl
 exact⟨.ref _,_,I.laid (t':=s.toks+1+1) (o:=.rng 0 j) (fun b o e=>Heap.get?_push_of_some _ e) (Nat.le_refl _) ⟨_,_,_,hg⟩,rfl,q _ I.fresh⟩
theorem a6t:∀{n:Nat} {acc:Array Value},ItemsOf (fun i v=>∃t,v=.int (0+(i:Int)*1) t) acc n→Vals ((List.range n).map fun(i:Nat)=>V.int (i:Int)) acc.toList:=by
 intro n acc ⟨hs,hv⟩
 have key:∀(l:List Value) (k:Nat),(∀j v,l[j]? = some v→∃t,v=Value.int ((k+j:Nat):Int) t)→Vals ((List.range' k l.length).map fun(i:Nat)=>V.int (i:Int)) l:=by
  intro l
  induction l with
  | nil=>intro k _;exact .nil
  | cons u l ih =>
   intro k h
   rw[List.length_cons,List.range'_succ,List.map_cons]
   refine .cons ?_ (ih (k+1) fun j v e=>?_)
   ·obtain⟨t,rfl⟩:=h 0 u rfl
    exact⟨t,rfl⟩
   ·obtain⟨t,rfl⟩:=h (j+1) v (by simpa using e)
    exact⟨t,by rw[show k+(j+1)=k+1+j by omega]⟩
 have hl:acc.toList.length=n:=by simpa using hs
 have:=key acc.toList 0 fun j v e=>by
  obtain⟨t,rfl⟩:=hv j v (by simpa using e)
  exact⟨t,by congr 1;omega⟩
 rw[hl,← List.range_eq_range']at this
 exact this
theorem a6u:bootBuiltins "sorted" = some (.builtin "sorted"):=by decide +kernel
theorem a6v:bootBuiltins "range" = some (.type "range"):=by decide +kernel
theorem a97{k:Nat}{e body:Expr}{params:Arguments}{scope:Scope}{p p2 pos pos2 lpos kpos:Pos}{ta:TA}{te:TE}{c P:Addr}{q kn:Str}{Nc:List Str}{js:List Nat}(hr:Room k X.A)(hcalm:X.calm=true)(hg:Gl X "sorted")(hm:X.mg "sorted" = none)(hg2:Gl X "range")(hm2:X.mg "range" = none)(ha:PA X [e] ta)
  (hd:defaultsOf params X.env=([],[])) (hcode:X.env.code=.ref c) (C:CodeHd X.base c P) (hbl:X.base.BuiltinsAt X.mg P) (hq:q=X.env.qual ++ "<lambda>") (hT0:TbAt P q X.H₀) (S:CompSc X.env.scope scope X.N Nc 1 js) (hk0:Nc[0]? = some kn) (hloc:scope.names.lookup kn=some .local)
  (hbd:∀cl pm cv ctv v,bindArgs (kla_fn "<lambda>" q params body scope cl pm cv ctv) ⟨[v],[]⟩=pure [(kn,v)]) (hco:scope.isCoroutine=false) (hgen:scope.isGenerator=false)
  (hbody:∀f c' s' H',PE (a7E X X.A.in1.in1 scope q Nc f c' s' H') body te)
  (he:backTo pos (starEach [Expr.Call (.Name "range" p2) [e] [] pos2] X.env)=(false,eval (.Call (.Name "range" p2) [e] [] pos2) X.env)::backTo pos (starEach [] X.env):=by rfl) (hplain:(backTo pos (starEach [Expr.Call (.Name "range" p2) [e] [] pos2] X.env)).any (·.1)=false:=by rfl)
  (he2:starEach [e] X.env=(false,eval e X.env)::starEach [] X.env:=by rfl) (hpl2:(backTo pos2 (starEach [] X.env)).any (·.1)=false:=by rfl) :
  PE X (.Call (.Name "sorted" p) [.Call (.Name "range" p2) [e] [] pos2] [⟨some "key",.Lambda params body scope lpos,kpos⟩] pos) (a8I X.K ta te js):=by
 intro pins s σ H Q I h
 have hrng:PE X (.Call (.Name "range" p2) [e] [] pos2) (tCB a4_ ta):=V9 a6s hg2 hm2 a6v ha (by decide) (by decide) he2 hpl2
 have hlam:PE X (.Lambda params body scope lpos) (fun σ H Q=>∀f c' oc u pm ctv H',(∀a o,H a=some o→H' a=some o)→H' f=some (.frz (a1g X params body scope q c' pm ctv) (.own f))→H' c'=some (.frz oc u)→a2o oc q→Q (.ref f) H'):=by
  intro pins s σ H Q I h
  obtain⟨qs,tq,hT,hqs⟩:=hT0.now I.base
  exact a95 I hd hcode C hbl hT hqs hq S.free fun f c' oc u pm ctv H' s' I' ex h1 h2 h3=>⟨.ref f,H',I',rfl,h f c' oc u pm ctv H' ex h1 h2 h3⟩
 have hk:=b1B (nm:=some "key") (kpos:=kpos) hlam (b3p (X:=X))
 have har:PA X [.Call (.Name "range" p2) [e] [] pos2] (L5 (tCB a4_ ta) X8):=a6 hrng c8
 refine wpAny_Call_Name_kw (X6 I hg hm a6u ?_)
 refine callWith_kw (t6 (har pos pins s σ H (a8H X.K te js σ Q) I h) fun us s1 ⟨vs,H1,I1,r1,q1⟩=>?_) he hplain
 obtain⟨n,r,rfl,hrr,h64,q2⟩:=q1
 refine t6 (hk pos pins s1 σ H1 (fun zs H2=>∃f c' oc u pm ctv,zs=[.ref f]∧(∀a o,H1 a=some o→H2 a=some o)∧H2 f=some (.frz (a1g X params body scope q c' pm ctv) (.own f))∧H2 c'=some (.frz oc u)∧a2o oc q) I1 fun f c' oc u pm ctv H' ex h1 h2 h3=>⟨f,c',oc,u,pm,ctv,rfl,ex,h1,h2,h3⟩) fun ws s2 ⟨zs,H2,I2,r2,q3⟩=>?_
 obtain⟨f,c',oc,u,pm,ctv,rfl,ex,hf,hc',hcq⟩:=q3
 obtain⟨W,w0,step,fin⟩:=q2 H2 ex
 obtain⟨u1,rfl,ru⟩:=r1.one
 obtain⟨u2,rfl,ru2⟩:=r2.one
 cases (show u1=Value.ref r from ru)
 cases (show u2=Value.ref f from ru2)
 obtain⟨t0,t1,t2,hro⟩:=I2.hok r _ (ex r _ hrr)
 have hh:X.A.handled=none:=I.ok.hd hcalm
 refine call_function_entry_kw kind_sorted plain_sorted entry_sorted (ksk_s1 _ _) ?_
 unfold Builtin.«sorted»
 refine wpAny_bind (m:=checkCount "sorted" 1 1 _) (wpAny_pure ?_)
 have hn:Builtin.Range.rangeSize 0 (n:Int) 1=(n:Int):=by
  unfold Builtin.Range.rangeSize
  rw[if_pos (by omega)]
  by_cases z:(0:Int)<n
  ·rw[if_pos z];omega
  ·rw[if_neg z];omega
 refine wpAny_bind (a6r (A:=X.A.in1) hh hro (small_one (by omega) (by omega) (by omega) (by omega)) hn (by omega) fun h' tk acc kp hi=>?_)
 have rv:Vals ((List.range n).map fun(i:Nat)=>V.int (i:Int)) acc.toList:=a6t hi
 have hal:acc.toList.length=n:=by rw[← rv.length,List.length_map,List.length_range]
 refine wpAny_bind (wpAny_newList ?_ (by rw[sizeLine_eq];omega))
 have I3:Inv X pins σ H2 { s2 with heap:=h',toks:=tk }:=I2.kept kp
 have hD:(h'.push (seqObj "list" acc.toList.toArray 0)).get? h'.objs.size=some (seqObj "list" acc.toList.toArray 0):=Heap.get?_push_size _ rfl
 have fD:FpOk X pins H2 h'.objs.size:=I3.fpOk (Nat.le_refl _) (I3.hok.fresh (Nat.le_refl _))
 have I4:Inv X pins σ H2 { s2 with heap:=h'.push (seqObj "list" acc.toList.toArray 0),toks:=tk }:=I3.kept (t':=tk) fun b o e=>Heap.get?_push_of_some (seqObj "list" acc.toList.toArray 0) e
 show wpAny _ _ _ _ _ { s2 with heap:=h'.push (seqObj "list" acc.toList.toArray 0),toks:=tk }
 refine wpAny_bind (wpAny_holding (wpAny_call_entry_kw slot_list_sort ⟨_,hD,rfl⟩ entry_list_sort ?body (ksk_l1 _ _)))
 case body =>
  show wpAny (model X.prog X.w) X.A.in1.in1 (Builtin.«list.sort» ⟨[.ref h'.objs.size],[(Str.ofString "key",.ref f)]⟩) _ _ _
  rw[ksk_t1]
  have hfr:X.A.in1.in1.frames=some X.stack:=I.ok.frames
  have hdp:X.A.in1.in1.depth<recursionLimit:=by have:=hr.dp;show X.A.depth<_;omega
  refine a8G (W:=W) (xs:=(List.range n).map fun(i:Nat)=>V.int (i:Int)) I4 hD fD rv (by omega) w0 (fun i x v ys H' s' hx rx wi I' fz=>?_) (fun ys H' hl wn hnD=>?_)
  ·rw[List.getElem?_map]at hx
   cases e:(List.range n)[i]? with
   | none=>rw[e]at hx;cases hx
   | some j =>
    rw[e]at hx
    cases hx
    obtain⟨e1,e2⟩:=List.getElem?_eq_some_iff.mp e
    rw[List.getElem_range]at e2
    subst e2
    rw[List.length_range]at e1
    exact a96 I' hfr hh hdp S hk0 hloc (fz _ _ _ hf) (fz _ _ _ hc') hcq (hbd _ _ _ _ _) hco hgen (hbody f c' s' H') rx (step i ys H' e1 wi)
  ·rw[List.length_map,List.length_range]at hl wn
   obtain⟨ks,vp,hd,q⟩:=fin ys H' hl wn
   refine⟨ks,vp,hd,fun p s' hp hs J=>⟨_,rfl,wpAny_pure ⟨_,rfl,.ref h'.objs.size,_,J,rfl,?_⟩⟩⟩
   rw[List.length_map,List.length_range]at hp
   have e:(p.map fun i=>((List.range n).map fun(i:Nat)=>V.int (i:Int)).getD i .non)=p.map fun(i:Nat)=>V.int (i:Int):=by
    refine List.map_congr_left fun i hi=>?_
    have hi:=List.mem_range.mp (hp.mem_iff.mp hi)
    simp[List.getD,hi]
   rw[e]
   exact q _ p hnD hp hs
end
def O1(TB:List (Addr×Str))(H:Hp):Hp:=fun b=>match TB.lookup b with
 | some q=>some (.tbl #[.str q 0])
 | none=>H b
def TbAll(TB:List (Addr×Str))(H:Hp):Prop:=∀P q,TB.lookup P=some q→TbAt P q H
theorem TbAll.now{TB:List (Addr×Str)}{fs ex:List Addr}{H H':Hp}{h h':Heap}(t:TbAll TB H)(u:Un fs ex H H' h h'):TbAll TB H':=fun P q e=>(t P q e).now u
theorem b1Q(TB:List (Addr×Str))(H:Hp):TbAll TB (O1 TB H):=fun P q e=>⟨#[.str q 0],0,by unfold O1;rw[e],rfl⟩
theorem a8J{P:Program}{w:World}{K:W.Frag}{mg mb:Str→Option Value}{CX:CXT}{k:Nat}{fa a:Addr}{fd:FuncData}{x:Str}{sp:Sp}{s₁:Shared}{vs:List Value}{ns:List Int}{TB:List (Addr×Str)}
  (KX:K.In s₁.heap) (hns:s₁.heap.Ns mainGlobals mg) (hb:s₁.heap.Ns builtinsNs mb) (hbb:∀x:Str,x≠"__name__"→mb x=bootBuiltins x) (hlim:s₁.heap.NoLimit) (hg:s₁.gens = #[])
  (ha:s₁.heap.get? a=some { cls:=.type "list",data:=.seq vs.toArray }) (hi:IntsAre vs ns) (hl:ns.length≤sizeLine) (hr:Room k callerA)
  (hT:∀Pa q,TB.lookup Pa=some q→(∃c,s₁.heap.TableAt c Pa #[])∧K.lookup Pa=none)
  (F:∀base:Heap,K.In base→base.Ns mainGlobals mg→(∀b o,s₁.heap.get? b=some o→TB.lookup b=none→b≠a→base.get? b=some o)→FnOk P w K mg base CX k fa fd [x] sp) (hbind:∀(s:Shared) (u:Value),BindsTo s fd ⟨[u],[]⟩ [(x,u)])
  (hsp:∀H:Hp,TbAll TB H→Scr K H a (ns.map V.int)→sp [.ref a] H (fun v _=>v=.bl true) fun _ _ _=>False)
  (hCX:∀H e s',CX [] H s₁ (fun _ _ _=>False) e s'→False) :
  codeAny (model P w) callerA (.call (.ref fa) ⟨[.ref a],[]⟩) (fun r s'=>r=.ok (.ret (.bool true))∧OldK s₁.heap s'.heap∧s'.os=s₁.os∧AllBare s'.gens) s₁:=by
 have rv:=a4z hi
 have lenV:=hi.length
 have tabA:∀{Pa q},TB.lookup Pa=some q→s₁.heap.get? Pa=some (tabObj #[]):=fun{Pa q} e=>by
  obtain⟨⟨c,_,e2⟩,_⟩:=hT Pa q e
  exact e2
 have neA:TB.lookup a=none:=by
  cases e:TB.lookup a with
  | none=>rfl
  | some q=>have:=tabA e;rw[ha]at this;cases this
 have core:∀H0:Hp,Scr K (O1 TB H0) a (ns.map V.int)→HOk P w (O1 TB H0) s₁.heap→(∀b,H0 b=none∨∃o xs,H0 b=some (.frz o (.lst xs)))→(∀b,H0 b≠none→b=a)→(H0 a≠none→K.lookup a=none) →
   codeAny (model P w) callerA (.call (.ref fa) ⟨[.ref a],[]⟩) (fun r s'=>r=.ok (.ret (.bool true))∧OldK s₁.heap s'.heap∧s'.os=s₁.os∧AllBare s'.gens) s₁:=by
  intro H0 hS hok hO hA hK
  have cs:∀b,(∃q,TB.lookup b=some q∧O1 TB H0 b=some (.tbl #[.str q 0]))∨(TB.lookup b=none∧O1 TB H0 b=H0 b):=fun b=>by
   unfold O1
   cases e:TB.lookup b with
   | none=>exact .inr ⟨rfl,rfl⟩
   | some q=>exact .inl ⟨q,rfl,rfl⟩
  have base_of:∀{b:Addr} {o:Obj},s₁.heap.get? b=some o→O1 TB H0 b=none→(a1f s₁.heap (O1 TB H0)).get? b=some o:=fun e n=>a9F e n
  have noA:∀{b:Addr} {o:Obj} {es:Array DictEntry} {ep:Nat},s₁.heap.get? b=some o→o.data=.dict es ep→O1 TB H0 b=none:=fun{b o es ep} e d=>by
   rcases cs b with⟨q,e1,_⟩ | ⟨e1,e2⟩
   ·have:=tabA e1;rw[e]at this;cases this;cases d
   ·rw[e2]
    cases q:H0 b with
    | none=>rfl
    | some u =>
     have e':b=a:=hA b (by rw[q];simp)
     subst e'
     rw[ha]at e;cases e
     cases d
  have nsK:∀{b:Addr} {m:Str→Option Value},s₁.heap.Ns b m→(a1f s₁.heap (O1 TB H0)).Ns b m:=fun{b m} ⟨o,es,ep,e,d,r⟩=>⟨o,es,ep,base_of e (noA e d),d,r⟩
  have hKb:K.In (a1f s₁.heap (O1 TB H0)):=fun b o e=>base_of (KX b o e) (by
   rcases cs b with⟨q,e1,_⟩ | ⟨e1,e2⟩
   ·rw[(hT b q e1).2]at e;cases e
   ·rw[e2]
    cases q:H0 b with
    | none=>rfl
    | some u =>
     have e':b=a:=hA b (by rw[q];simp)
     subst e'
     rw[hK (by rw[q];simp)]at e;cases e)
  have hM:Mod K mg (a1f s₁.heap (O1 TB H0)):=⟨hKb,nsK hns,⟨mb,nsK hb,hbb⟩,let ⟨mc,h1,h2⟩:=hlim; ⟨mc,nsK h1,h2⟩⟩
  have e0:Env0 P w K mg (a1f s₁.heap (O1 TB H0)) callerA [] s₁ (O1 TB H0):=⟨rfl,hM,fun b o e=>b1x e,Nat.le_of_eq (a8i _ _),trivial,fun b hb=>absurd (show b∈([]:List Addr)from hb) (by simp),hok,.of_eq hg⟩
  have bk:∀b o,s₁.heap.get? b=some o→TB.lookup b=none→b≠a→(a1f s₁.heap (O1 TB H0)).get? b=some o:=fun b o e n na=>base_of e (by
   rcases cs b with⟨q,e1,_⟩ | ⟨e1,e2⟩
   ·rw[n]at e1;cases e1
   ·rw[e2]
    cases q:H0 b with
    | none=>rfl
    | some u=>exact absurd (hA b (by rw[q];simp)) na)
  refine codeAny_mono ((F _ hKb (nsK hns) bk).run callerA [] s₁ (O1 TB H0) ⟨[.ref a],[]⟩ [.ref a] [.ref a] _ _ hr e0 (hbind s₁ (.ref a)) (.cons rfl .nil) (hsp _ (b1Q TB H0) hS)) fun r s' h=>?_
  cases r with
  | error e=>exact(hCX _ e s' h).elim
  | ok fl =>
   cases fl with
   | next=>exact False.elim h
   | brk=>exact False.elim h
   | cont=>exact False.elim h
   | ret u =>
    obtain⟨v,H',os,bare,un,hok',r',q⟩:=h
    have q':v=.bl true:=q
    subst q'
    obtain rfl:u=Value.bool true:=r'
    refine⟨rfl,?_,os,bare⟩
    have kpt:∀b o,s₁.heap.get? b=some o→TB.lookup b=none→s'.heap.get? b=some o:=fun b o e n=>by
     rcases cs b with⟨q,e1,_⟩ | ⟨_,e2⟩
     ·rw[n]at e1;cases e1
     ·cases q:H0 b with
      | none=>exact un.keep b o e (by rw[e2,q]) (by intro z;exact absurd (show b∈([]:List Addr)from z) (by simp)) (by simp)
      | some u =>
       rcases hO b with z | ⟨ob,xs,z⟩
       ·rw[q]at z;cases z
       ·rw[← e2]at z
        have z2:=un.frzs b ob _ z
        obtain⟨e1,_⟩:=hok b _ z
        obtain⟨e2,_⟩:=hok' b _ z2
        rw[e]at e1;cases e1
        exact e2
    have tbt:∀b q,TB.lookup b=some q→∃ps,s'.heap.get? b=some (tabObj ps):=fun b q e=>by
     rcases cs b with⟨q',e1,e2⟩ | ⟨e1,_⟩
     ·obtain⟨more,e3⟩:=un.tbls b _ e2
      obtain⟨ps,e4,_⟩:=hok' b _ e3
      exact⟨ps,e4⟩
     ·rw[e]at e1;cases e1
    refine⟨fun b o e=>?_,fun b o e=>?_⟩
    ·cases n:TB.lookup b with
     | none=>exact .inl (kpt b o e n)
     | some q =>
      obtain⟨ps,e4⟩:=tbt b q n
      have e5:=tabA n
      rw[e]at e5;cases e5
      obtain⟨⟨c,ht⟩,_⟩:=hT b q n
      exact .inr (.inl ⟨ht.isCodeTable,rfl,#[],ps,rfl,by rw[e4];simp⟩)
    ·cases n:TB.lookup b with
     | none=>exact⟨o,kpt b o e n⟩
     | some q=>obtain⟨ps,e4⟩:=tbt b q n;exact⟨_,e4⟩
 have tabOk:∀H0 b u,TB.lookup b≠none→O1 TB H0 b=some u→ObjOk P w (O1 TB H0) s₁.heap b u:=fun H0 b u n e=>by
  cases q:TB.lookup b with
  | none=>exact absurd q n
  | some q' =>
   have e':O1 TB H0 b=some (.tbl #[.str q' 0]):=by unfold O1;rw[q]
   rw[e']at e;cases e
   exact⟨#[],tabA q,trivial,fun pos cv z=>by cases z⟩
 cases hk:K.lookup a with
 | some o =>
  have e:=KX a o hk
  rw[ha]at e
  cases e
  refine core (fun _=>none) (.inr ⟨_,vs.toArray,_,hk,rfl,rfl,rfl,by rw[List.size_toArray,lenV];exact hl,by simpa using rv⟩) (fun b u z=>?_) (fun _=>.inl rfl) (fun b z=>absurd rfl z) fun z=>absurd rfl z
  cases n:TB.lookup b with
  | none =>
   have z':O1 TB (fun _=>none) b=none:=by unfold O1;rw[n]
   rw[z']at z;cases z
  | some q=>exact tabOk _ b u (by rw[n];simp) z
 | none =>
  refine core (fun b=>if b=a then some (.frz { cls:=.type "list",data:=.seq vs.toArray } (.lst (ns.map V.int)))else none) (.inl ⟨{ cls:=.type "list",data:=.seq vs.toArray },by unfold O1;rw[neA];exact if_pos rfl⟩) (fun b u z=>?_) (fun b=>?_) (fun b z=>?_) fun _=>hk
  ·cases n:TB.lookup b with
   | some q=>exact tabOk _ b u (by rw[n];simp) z
   | none =>
    have z':O1 TB (fun b=>if b=a then some (.frz { cls:=.type "list",data:=.seq vs.toArray } (.lst (ns.map V.int)))else none) b=(if b=a then some (.frz { cls:=.type "list",data:=.seq vs.toArray } (.lst (ns.map V.int)))else none):=by unfold O1;rw[n]
    rw[z']at z
    by_cases hb:b=a
    ·rw[if_pos hb]at z
     cases z
     subst hb
     exact⟨ha,by rw[List.length_map];exact hl,vs,_,rv,ha⟩
    ·rw[if_neg hb]at z;cases z
  ·by_cases hb:b=a
   ·exact .inr ⟨_,_,if_pos hb⟩
   ·exact .inl (if_neg hb)
  ·by_cases hb:b=a
   ·exact hb
   ·exact absurd (if_neg hb) z
def spT(TB:List (Addr×Str))(sp:Sp):Sp:=fun vs H Q E=>TbAll TB H∧sp vs H Q E
theorem walk_ofT{l:OpenLaw}{n k:Nat}{q:Program}{loose:List Str}{XP:(Str→Option Value)→Heap→Prop}{YP:World→Heap→Prop}{d:DefRec}{K:Params→Frag}{CX:World→CXT}{sp:World→Sp}{x:Str}
  (hn:l.most=some n) (hn2:n≤sizeLine) (hdf:d.params.defaults=[]) (hr:Room k callerA)
  (hY:∀(w:World) (h:Heap),YP w h→(K w.params).In h)
  (F:∀(w:World) (mg mb:Str→Option Value) (fa:Addr) (h:Heap) (mean:ExcName→Option Value),(K w.params).In h→h.Ns mainGlobals mg→mg d.name=some (.ref fa)→Top q (looseW q loose) mean mg mb h →
   ∃(fd:FuncData) (TB:List (Addr×Str)),(∀(s:Shared) (u:Value),BindsTo s fd ⟨[u],[]⟩ [(x,u)])∧(∀Pa qq,TB.lookup Pa=some qq→(∃c,h.TableAt c Pa #[])∧(K w.params).lookup Pa=none) ∧
    ∀base:Heap,(K w.params).In base→base.Ns mainGlobals mg→(∀b o,h.get? b=some o→o.cls≠.none→o.cls≠.type "list"→base.get? b=some o)→FnOk l.prog w (K w.params) mg base (CX w) k fa fd [x] (spT TB (sp w)))
  (hsp:∀(w:World) (H:Hp) (a:Addr) (ns:List Int),ns.length≤n→(∀m∈ns,Builtin.Int.intBits m≤2 ^ 20)→Scr (K w.params) H a (ns.map V.int)→sp w [.ref a] H (fun v _=>v=.bl true) fun _ _ _=>False)
  (hCX:∀(w:World) (H:Hp) (s:Shared) (e:Value) (s':Shared),CX w [] H s (fun _ _ _=>False) e s'→False) :
  WalkO q loose XP YP l.row.toRowW d [] (fun f vs=>PySem.call f vs):=by
 intro w s₀ s₁ mg mb G Y fa o pm cd doc dV kV ho hd hcd hD hmg hg args vals as hpre hlay hrd hwl hlo
 obtain rfl:dV=.none:=Dflts.none hD hdf
 obtain rfl:kV=.none:=Dflts.noKw hD
 obtain⟨a,vs,ns,rfl,rfl,hobj,hints,hlen⟩:=Att.script_of hn hpre hwl
 have KX:=hY w _ Y
 obtain⟨fd,TB,hb,hT,hF⟩:=F w mg mb fa _ _ KX G.T.g hmg G.T
 refine enter_call (codeAny_mono (a8J (TB:=TB) KX G.T.g G.T.b G.T.builtins G.T.nolimit hg hobj hints (Nat.le_trans hlen hn2) hr hT (fun base k1 k2 k3=>hF base k1 k2 fun b o e c1 c2=>k3 b o e (by
  cases z:TB.lookup b with
  | none=>rfl
  | some q' =>
   obtain⟨⟨c,_,e2⟩,_⟩:=hT b q' z
   rw[e]at e2;cases e2;exact absurd rfl c1) (fun z=>by rw[z,hobj]at e;cases e;exact absurd rfl c2)) hb (fun H hO hS=>⟨hO,hsp w H a ns hlen (a6m hlay) hS⟩) fun H e s'=>hCX w H s₁ e s') fun r s' hq=>?_)
 obtain⟨rfl,h2,h3,h4⟩:=hq
 exact⟨.inl ⟨.bool true,.bool true,[],rfl,fun _=>rfl,.bool true,Att.post_true l _,fun _=>⟨List.Pairwise.nil,fun _ hm=>(nomatch hm)⟩⟩,h2,h3,h4⟩
theorem b3H{q:Program}{loose:List Str}{mean:ExcName→Option Value}{mg mb:Str→Option Value}{h:Heap}{K:Frag}{x:Str}{f c:Addr}{oc oc':Value}{od od':Option Addr}{fd:FuncData}{osl osl':Array (Option Value)}{vs:Array Value}{P:Addr}(T:Top q loose mean mg mb h)(KX:K.In h)(hrec:(recsOf q).any (fun d=>d.name == x)=true)(hm:mg x=some (.ref f))(lk:K.lookup f=some ⟨oc,od,.func fd,osl⟩)(hc:fd.code=.ref c)(lc:K.lookup c=some ⟨oc',od',.fields vs,osl'⟩)(hP:vs.getD 11 .none=.ref P) :
  h.TableAt c P #[]∧∀base:Heap,(∀b o,h.get? b=some o→o.cls≠.none→o.cls≠.type "list"→base.get? b=some o)→CodeHd base c P∧base.BuiltinsAt mg P:=by
 obtain⟨d,hd,e⟩:=List.any_eq_true.mp hrec
 have e:d.name=x:=by simpa using e
 subst e
 obtain⟨a,o,fd',c',P',h1,h2,h3,h4,h5,h6⟩:=T.tab d hd
 rw[hm]at h1;cases h1
 rw[KX _ _ lk]at h2;cases h2
 have h3:Data.func fd=Data.func fd':=h3
 cases h3
 rw[hc]at h4;cases h4
 have C:=CodeHd.of h5 h6
 obtain⟨o,vs',file,tf,flags,tg,inF,text,tt,c1,c2,c3,c4,c5,cr⟩:=C
 have hPP:P'=P:=by
  rw[KX _ _ lc]at c1;cases c1
  have c3:Data.fields vs=Data.fields vs':=c3
  cases c3
  rw[hP]at c5;cases c5;rfl
 subst hPP
 refine⟨h6,fun base kp=>⟨⟨o,vs',file,tf,flags,tg,inF,text,tt,kp _ _ c1 (by rw[c2];decide) (by rw[c2];decide),c2,c3,c4,c5,cr⟩,?_⟩⟩
 obtain⟨bm,ob,b1,b2,b3,b4,b5,b6⟩:=T.bmain
 refine⟨bm,ob,b1,b2,fun z=>?_,fun z=>?_,kp _ _ b3 (by rw[b4];decide) (by rw[b4];decide),b4,b5,b6⟩
 ·obtain⟨o',es,ep,e,hd,_⟩:=T.g
  rw[z,e]at b3;cases b3;rw[hd]at b6;cases b6
 ·rw[z,h6.2]at b3;cases b3;cases b4
end L2
namespace HT
open PySem PyProof.Rows
end HT
namespace L2
open PySem PySem.Spec PyProof.Rows
open PySem.W
def Rise(a:Array Nat):Prop:=a.toList.Pairwise (· < ·)
theorem Rise.lt{a:Array Nat}(h:Rise a){i j:Nat}(hij:i<j)(hj:j<a.size):a.getD i 0<a.getD j 0:=by
 have hi:i<a.size:=Nat.lt_trans hij hj
 have:=List.pairwise_iff_getElem.mp h i j (by simpa using hi) (by simpa using hj) hij
 simpa [Array.getD,hi,hj]using this
structure TbR(led:Bool)(t:SetTable):Prop where
 rise:Rise t.place
 dum:t.dummies = #[]
 led:t.led=led
def b3I(e:Int×Value):Int:=match e.2 with
 | .int k _=>k
 | _=>0
def IsI(e:Int×Value):Prop:=∃k t,e=(hashInt k,Value.int k t)
structure SetR(w:World)(h:Heap)(a:Addr)(L:List Int):Prop where
 ex:∃o es ep t,h.get? a=some o∧o.ExactSet∧o.data=.set es ep t∧(∀e∈es.toList,IsI e)∧(es.toList.map b3I).Nodup∧(∀k,k∈es.toList.map b3I↔k∈L)∧es.size<scanBound∧t.fits es.size=true∧TbR (!w.params.followText "set-order") t
section
variable {prog:Program}{w:World}{A:Around}{E:Value→Shared→Prop}{s:Shared}
theorem SetR.frame{h h':Heap}{a:Addr}{L:List Int}(S:SetR w h a L)(e:∀o,h.get? a=some o→h'.get? a=some o):SetR w h' a L:=by
 obtain⟨o,es,ep,t,ho,r⟩:=S.ex
 exact⟨o,es,ep,t,e o ho,r⟩
end
end L2
namespace HT
open PySem PyProof.Rows
inductive IB:List Value→List Value→List Int→List Int→Prop
 | nil:IB [] [] [] []
 | int (a:Int) (t:Tok) (c:Int) (u:Tok) {vs ws:List Value} {ns ms:List Int} (h:IB vs ws ns ms):IB (.int a t::vs) (.int c u::ws) (a::ns) (c::ms)
 | bl (p q:Bool) {vs ws:List Value} {ns ms:List Int} (h:IB vs ws ns ms):IB (.bool p::vs) (.bool q::ws) (b2i p::ns) (b2i q::ms)
theorem IB.len{vs ws:List Value}{ns ms:List Int}(h:IB vs ws ns ms):vs.length=ws.length:=by
 induction h with
 | nil=>rfl
 | int _ _ _ _ _ ih=>simp[ih]
 | bl _ _ _ ih=>simp[ih]
end HT
namespace L2
open PySem PySem.Spec PyProof.Rows
open PySem.W
section
variable {n:Nat}{lt:Nat→Nat→Bool}
def Prx(n:Nat)(p:Array Nat)(m:Nat):Prop:=(∀i,i<m→ga p i<m)∧∀i,m≤i→i<n→ga p i=i
theorem Prx.up{p:Array Nat}{m k:Nat}(h:Prx n p m)(hk:m≤k)(hn:k≤n):Prx n p k:=by
 refine⟨fun i hi=>?_,fun i h1 h2=>h.2 i (by omega) h2⟩
 by_cases z:i<m
 ·have:=h.1 i z;omega
 ·rw[h.2 i (by omega) (by omega)];exact hi
structure DR(n:Nat)(lt:Nat→Nat→Bool)(p:Array Nat)(k:Nat):Prop where
 pre:Prx n p k
 d1:∀i j,i<j→j<k→lt (ga p i) (ga p j)=false
 d2:∀i j,i<j→j<k→lt (ga p j) (ga p i)=false→ga p j<ga p i
structure DG(n:Nat)(lt:Nat→Nat→Bool)(p:Array Nat)(k q:Nat):Prop where
 pre:Prx n p (k-(q+1))
 d1:∀i j,i<j→j<k→lt (ga p i) (ga p j)=false
 d2:∀i j,i<j→j<k-(q+1)→lt (ga p j) (ga p i)=false→ga p j<ga p i
 d3:∀i,i<k-(q+1)→lt (ga p (k-1)) (ga p i)=true
 d4:∀i,k-(q+1)≤i→i<k→lt (ga p (k-1)) (ga p i)=false
theorem DR.snoc{p:Array Nat}{k:Nat}(T:TPre lt)(d:DR n lt p k)(h:∀i,i<k→lt (ga p k) (ga p i)=true)(hk:k<n):DG n lt p (k+1) 0:=by
 have e:k+1-(0+1)=k:=by omega
 refine⟨by rw[e];exact d.pre,fun i j hij hj=>?_,fun i j hij hj=>by rw[e]at hj;exact d.d2 i j hij hj,fun i hi=>by rw[e]at hi;rw[Nat.add_sub_cancel];exact h i hi,fun i h1 h2=>?_⟩
 ·by_cases z:j<k
  ·exact d.d1 i j hij z
  ·have e:j=k:=by omega
   subst e
   exact T.asy _ _ (h i hij)
 ·have e:i=k:=by omega
  subst e
  rw[Nat.add_sub_cancel];exact T.irr _
theorem DG.alike{p:Array Nat}{k q:Nat}(T:TPre lt)(d:DG n lt p k q)(hq:q+1≤k){i j:Nat}(h1:k-(q+1)≤i)(h2:i<k)(h3:k-(q+1)≤j)(h4:j<k):lt (ga p i) (ga p j)=false:=by
 have a:lt (ga p i) (ga p (k-1))=false:=by
  by_cases z:i=k-1
  ·rw[z];exact T.irr _
  ·exact d.d1 i (k-1) (by omega) (by omega)
 exact T.tr _ _ _ (d.d4 j h3 h4) a
theorem DG.rev{p:Array Nat}{k q:Nat}(T:TPre lt)(hp:Pmn n p)(d:DG n lt p k q)(hq:q+1≤k)(hk:k≤n):DR n lt (kas_rev p (k-(q+1)) k) k:=by
 have hps:=hp.size
 have gr:=a12 (p:=p) (i:=k-(q+1)) (j:=k) (by omega)
 have pi:∀i,k-(q+1)≤i→i<n→ga p i=i:=d.pre.2
 refine⟨⟨fun i hi=>?_,fun i h1 h2=>?_⟩,fun i j hij hj=>?_,fun i j hij hj=>?_⟩
 ·rw[gr]
  split
  ·rw[pi _ (by omega) (by omega)];omega
  ·have:=d.pre.1 i (by omega);omega
 ·rw[gr,if_neg (by omega)];exact pi i (by omega) h2
 ·rw[gr,gr]
  by_cases zj:k-(q+1)≤j
  ·rw[if_pos (show k-(q+1)≤j∧j<k by omega)]
   by_cases zi:k-(q+1)≤i
   ·rw[if_pos (by omega)]
    exact d.alike T hq (by omega) (by omega) (by omega) (by omega)
   ·rw[if_neg (by omega)]
    exact d.d1 _ _ (by omega) (by omega)
  ·rw[if_neg (show ¬(k-(q+1)≤j∧j<k) by omega),if_neg (by omega)]
   exact d.d1 _ _ hij hj
 ·rw[gr,gr]
  by_cases zj:k-(q+1)≤j
  ·rw[if_pos (show k-(q+1)≤j∧j<k by omega)]
   by_cases zi:k-(q+1)≤i
   ·rw[if_pos (by omega)]
    intro _
    rw[pi _ (by omega) (by omega),pi _ (by omega) (by omega)]
    omega
   ·rw[if_neg (by omega)]
    intro z
    have a:=d.alike T hq (i:=k-1) (j:=k-(q+1)+k-1-j) (by omega) (by omega) (by omega) (by omega)
    have b:=T.tr _ _ _ z a
    rw[d.d3 i (by omega)]at b
    cases b
  ·rw[if_neg (show ¬(k-(q+1)≤j∧j<k) by omega),if_neg (by omega)]
   exact d.d2 _ _ hij (by omega)
theorem DG.one{p:Array Nat}{k:Nat}(T:TPre lt)(d:DG n lt p k 0)(hk1:1≤k)(hk:k≤n):DR n lt p k:=by
 refine⟨d.pre.up (by omega) hk,d.d1,fun i j hij hj z=>?_⟩
 by_cases e:j=k-1
 ·subst e
  rw[d.d3 i (by omega)]at z
  cases z
 ·exact d.d2 i j hij (by omega) z
end
theorem SqL.ext{K:W.Frag}{H1 H2:Hp}{a:Addr}{xs:List V}(h:SqL K H1 a xs)(ex:∀a o,H1 a=some o→H2 a=some o):SqL K H2 a xs:=by
 rcases h with(h | ⟨o,h⟩) | h
 ·exact .inl (.inl (ex _ _ h))
 ·exact .inl (.inr ⟨o,ex _ _ h⟩)
 ·exact .inr h
def Srt(lt:Keyed→Keyed→Bool)(l:List Keyed):Prop:=l.Pairwise fun x y=>lt y x=false
section
variable {lt:Keyed→Keyed→Bool}{aL bL o ra rb u:List Keyed}{x y:Keyed}
theorem Srt.drop{l:List Keyed}(h:Srt lt l)(n:Nat):Srt lt (l.drop n):=List.Pairwise.sublist (List.drop_sublist n l) h
end
def SameG(st st':SortSt):Prop:=kindOf st'=kindOf st∧arrOf st'=arrOf st∧pendingOf st'=pendingOf st∧failedOf st'=failedOf st
theorem SameG.refl(st:SortSt):SameG st st:=⟨rfl,rfl,rfl,rfl⟩
theorem SameG.trans{a b c:SortSt}(h:SameG a b)(g:SameG b c):SameG a c:=⟨g.1.trans h.1,g.2.1.trans h.2.1,g.2.2.1.trans h.2.2.1,g.2.2.2.trans h.2.2.2⟩
abbrev GS:=Option (Array Keyed)×Array Keyed×Nat×Nat×Nat×Nat×Nat
section
variable {lt:Keyed→Keyed→Bool}{aL bL o ra rb u:List Keyed}{x y:Keyed}
theorem Srt.left{l m:List Keyed}(h:Srt lt (l++m)):Srt lt l:=(List.pairwise_append.mp h).1
end
section
variable {lt:Keyed→Keyed→Bool}{Dm:Keyed→Prop}{a b out:Array Keyed}{na nb:Nat}{x y:Keyed}
theorem Srt.take{l:List Keyed}(h:Srt lt l)(n:Nat):Srt lt (l.take n):=List.Pairwise.sublist (List.take_sublist n l) h
end
section
variable {prog:Program}{w:World}{A:Around}{E:Value→Shared→Prop}{s:Shared}{κ:SortKind}{lt:Keyed→Keyed→Bool}{Dm:Keyed→Prop}{st:SortSt}
theorem Srt.right{l m:List Keyed}(h:Srt lt (l++m)):Srt lt m:=(List.pairwise_append.mp h).2.1
end
def gk(p:Array Keyed)(k:Nat):Keyed:=p.getD k (Value.none,Value.none)
theorem a7F{p:Array Keyed}{k:Nat}(h:k<p.size):p[k]? = some (gk p k):=by unfold gk;simp[Array.getD,h]
theorem a3l(p:Array Keyed)(k:Nat):gk p k=(p[k]?).getD (Value.none,Value.none):=by unfold gk;simp[Array.getD_eq_getD_getElem?]
abbrev a7G(p:Array Keyed)(i j:Nat):Array Keyed:=mirror p i j ((j-i)/2)
theorem b3J{p:Array Keyed}{i j:Nat}(hj:j≤p.size)(k:Nat):gk (a7G p i j) k=if i≤k∧k<j then gk p (i+j-1-k)else gk p k:=by
 rw[a3l,a7G,getElem?_mirror_all hj]
 split<;>rw[a3l]
theorem b3K{p:Array Keyed}{src d:Nat}(hs:src<p.size)(hd:d≤src)(k:Nat):gk (bubble p src d) k=if k=src-d then gk p src else if src-d<k∧k≤src then gk p (k-1)else gk p k:=by
 rw[a3l,getElem?_bubble hs d hd]
 split
 ·rw[a3l]
 ·split<;>rw[a3l]
structure Rst(a0:Array Keyed)(lo hi:Nat)(a:Array Keyed):Prop where
 pm:a.Perm a0
 out:∀x,(x<lo∨hi≤x)→gk a x=gk a0 x
theorem Rst.refl(a:Array Keyed)(lo hi:Nat):Rst a lo hi a:=⟨.refl _,fun _ _=>rfl⟩
theorem Rst.size{a0 a:Array Keyed}{lo hi:Nat}(h:Rst a0 lo hi a):a.size=a0.size:=h.pm.size_eq
theorem Rst.rev{a0 a:Array Keyed}{lo hi i j:Nat}(h:Rst a0 lo hi a)(hi':lo≤i)(hj:j≤hi)(hs:hi≤a0.size):Rst a0 lo hi (a7G a i j) :=
 ⟨(mirror_perm _ _ _ _).trans h.pm,fun x hx=>by rw[b3J (by rw[h.size];omega),if_neg (by omega)];exact h.out x hx⟩
theorem Rst.bub{a0 a:Array Keyed}{lo hi src d:Nat}(h:Rst a0 lo hi a)(h1:lo≤src-d)(hd:d≤src)(h2:src<hi)(hs:hi≤a0.size):Rst a0 lo hi (bubble a src d) :=
 ⟨(bubble_perm _ _ _).trans h.pm,fun x hx=>by rw[b3K (by rw[h.size];omega) hd,if_neg (by omega),if_neg (by omega)];exact h.out x hx⟩
structure StR(st0:SortSt)(lo hi:Nat)(st:SortSt):Prop where
 k:kindOf st=kindOf st0
 p:pendingOf st=pendingOf st0
 f:failedOf st=failedOf st0
 r:Rst (arrOf st0) lo hi (arrOf st)
def UpK(lt:Keyed→Keyed→Bool)(p:Array Keyed)(lo m:Nat):Prop:=∀i j,i≤j→j<m→lt (gk p (lo+j)) (gk p (lo+i))=false
section
variable {prog:Program}{w:World}{A:Around}{E:Value→Shared→Prop}{s:Shared}{κ:SortKind}{lt:Keyed→Keyed→Bool}{Dm:Keyed→Prop}{st0 st:SortSt}{lo n m:Nat}
theorem StR.rev{hi i j:Nat}(R:StR st0 lo hi st)(h1:lo≤i)(h2:j≤hi)(hs:hi≤(arrOf st0).size):StR st0 lo hi (setArr st (a7G (arrOf st) i j)):=⟨R.k,R.p,R.f,R.r.rev h1 h2 hs⟩
end
def PRun(lt:Keyed→Keyed→Bool):List (Nat×Nat×Nat)→List (List Keyed)→Nat→Prop
 | [],[],_=>True
 | p::ps,S::ss,o=>p.1=o∧p.2.1=S.length∧1≤S.length∧Srt lt S∧PRun lt ps ss (o+S.length)
 | _,_,_=>False
section
variable {lt:Keyed→Keyed→Bool}
theorem PRun.len:∀{pl:List (Nat×Nat×Nat)} {segs:List (List Keyed)} {o:Nat},PRun lt pl segs o→pl.length=segs.length∧pl.length≤segs.flatten.length
 | [],[],_,_=>⟨rfl,Nat.le_refl _⟩
 | p::ps,S::ss,o,h=>by
  obtain⟨_,_,h1,_,h2⟩:=h
  have:=PRun.len h2
  simp only[List.length_cons,List.flatten_cons,List.length_append]
  omega
 | [],_::_,_,h=>h.elim
 | _::_,[],_,h=>h.elim
theorem PRun.snoc:∀{pl:List (Nat×Nat×Nat)} {segs:List (List Keyed)} {o:Nat} {c:Nat×Nat×Nat} {S:List Keyed},PRun lt pl segs o→c.1=o+segs.flatten.length→c.2.1=S.length→1≤S.length→Srt lt S→PRun lt (pl++[c]) (segs++[S]) o
 | [],[],o,c,S,_,h1,h2,h3,h4=>⟨by simpa using h1,h2,h3,h4,trivial⟩
 | p::ps,U::ss,o,c,S,h,h1,h2,h3,h4=>by
  obtain⟨a1,a2,a3,a4,a5⟩:=h
  refine⟨a1,a2,a3,a4,PRun.snoc a5 ?_ h2 h3 h4⟩
  rw[h1];simp only[List.flatten_cons,List.length_append];omega
 | [],_::_,_,_,_,h,_,_,_,_=>h.elim
 | _::_,[],_,_,_,h,_,_,_,_=>h.elim
theorem PRun.split:∀{pl:List (Nat×Nat×Nat)} {segs:List (List Keyed)} {o i:Nat},PRun lt pl segs o→i+1<pl.length→∃p1 a b p2 s1 U V s2,pl=p1++a::b::p2∧p1.length=i∧segs=s1++U::V::s2∧a.1=o+s1.flatten.length∧a.2.1=U.length∧b.1=a.1+U.length∧b.2.1=V.length∧1≤U.length∧1≤V.length∧Srt lt U∧Srt lt V ∧
  ∀(W:List Keyed) (c:Nat×Nat×Nat),W.length=U.length+V.length→Srt lt W→c.1=a.1→c.2.1=W.length→PRun lt (p1++c::p2) (s1++W::s2) o
 | p::q::ps,S::S'::ss,o,0,h,_=>by
  obtain⟨a1,a2,a3,a4,b1,b2,b3,b4,b5⟩:=h
  refine⟨[],p,q,ps,[],S,S',ss,rfl,rfl,rfl,by simpa using a1,a2,by omega,b2,a3,b3,a4,b4,fun W c hW hs h1 h2=>⟨by rw[h1];exact a1,h2,by omega,hs,?_⟩⟩
  rw[hW,← Nat.add_assoc]
  exact b5
 | p::ps,S::ss,o,i+1,h,hi=>by
  obtain⟨a1,a2,a3,a4,a5⟩:=h
  obtain⟨p1,a,b,p2,s1,U,V,s2,e1,e2,e3,e4,e5,e6,e7,e8,e9,e10,e11,e12⟩:=PRun.split a5 (i:=i) (by rw[List.length_cons]at hi;omega)
  refine⟨p::p1,a,b,p2,S::s1,U,V,s2,by rw[e1];rfl,by rw[List.length_cons,e2],by rw[e3];rfl,by rw[e4];simp only[List.flatten_cons,List.length_append];omega,e5,e6,e7,e8,e9,e10,e11,fun W c hW hs h1 h2=>⟨a1,a2,a3,a4,e12 W c hW hs h1 h2⟩⟩
 | [p],[S],o,0,h,hi=>by simp at hi
 | [p],S::S'::ss,o,0,h,hi=>by simp at hi
 | p::q::ps,[S],o,0,h,_=>by obtain⟨_,_,_,_,h⟩:=h;exact h.elim
 | [],[],_,_,_,hi=>by simp at hi
 | [],_::_,_,_,h,_=>h.elim
 | _::_,[],_,_,h,_=>h.elim
end
structure SI(lt:Keyed→Keyed→Bool)(st0 st:SortSt)(lo:Nat)(J8:List Keyed):Prop where
 k:kindOf st=kindOf st0
 f:failedOf st=none
 pm:(arrOf st).Perm (arrOf st0)
 run:∃segs,(arrOf st).toList=segs.flatten++J8∧segs.flatten.length=lo∧PRun lt (pendingOf st).toList segs 0
section
variable {prog:Program}{w:World}{A:Around}{E:Value→Shared→Prop}{s:Shared}{κ:SortKind}{lt:Keyed→Keyed→Bool}{Dm:Keyed→Prop}{st0 st:SortSt}{lo n:Nat}{J8:List Keyed}
theorem b1R{a b:Array Keyed}{m:Nat}(hs:a.size=b.size)(h:∀x,x<m→gk a x=gk b x):a.toList.take m=b.toList.take m:=by
 apply List.ext_getElem?
 intro i
 by_cases hi:i<m
 ·rw[List.getElem?_take_of_lt hi,List.getElem?_take_of_lt hi,Array.getElem?_toList,Array.getElem?_toList]
  by_cases hz:i<a.size
  ·rw[a7F hz,a7F (by omega),h i hi]
  ·rw[Array.getElem?_eq_none (by omega),Array.getElem?_eq_none (by omega)]
 ·rw[List.getElem?_eq_none (by rw[List.length_take];omega),List.getElem?_eq_none (by rw[List.length_take];omega)]
theorem SI.add(I:SI lt st0 st lo J8){st1:SortSt}(R:StR st lo (arrOf st).size st1)(hn:1≤n)(hl:lo+n≤(arrOf st).size)(u:UpK lt (arrOf st1) lo n):∃S rest',SI lt st0 st1 lo (S++rest')∧S.length=n∧Srt lt S:=by
 obtain⟨segs,e1,e2,pr⟩:=I.run
 have sz:=R.r.size
 have et:(arrOf st1).toList.take lo=segs.flatten:=by
  rw[b1R sz (fun x hx=>R.r.out x (.inl hx)),e1,← e2,List.take_left]
 have e3:(arrOf st1).toList=segs.flatten++(arrOf st1).toList.drop lo:=by rw[← et,List.take_append_drop]
 refine⟨((arrOf st1).toList.drop lo).take n,((arrOf st1).toList.drop lo).drop n,⟨R.k.trans I.k,R.f.trans I.f,R.r.pm.trans I.pm,segs,by rw[List.take_append_drop];exact e3,e2,by rw[R.p];exact pr⟩,by rw[List.length_take,List.length_drop,Array.length_toList];omega,?_⟩
 refine List.pairwise_iff_getElem.mpr fun i j hi hj hij=>?_
 have hi':=hi
 have hj':=hj
 rw[List.length_take,List.length_drop,Array.length_toList]at hi' hj'
 have at_:∀k,k<n→∀(h:k<(((arrOf st1).toList.drop lo).take n).length),(((arrOf st1).toList.drop lo).take n)[k]=gk (arrOf st1) (lo+k):=fun k hk h=>by
  have e4:(((arrOf st1).toList.drop lo).take n)[k]? = some (gk (arrOf st1) (lo+k)):=by
   rw[List.getElem?_take_of_lt hk,List.getElem?_drop,Array.getElem?_toList,a7F (by omega)]
  rw[List.getElem?_eq_getElem h]at e4
  exact Option.some.inj e4
 rw[at_ i (by omega) hi,at_ j (by omega) hj]
 exact u i j (by omega) (by omega)
theorem SI.push{S:List Keyed}{pw:Nat}(I:SI lt st0 st lo (S++J8))(hn:S.length=n)(h1:1≤n)(hs:Srt lt S):SI lt st0 (setPending st ((pendingOf st).push (lo,n,pw))) (lo+n) J8:=by
 obtain⟨segs,e1,e2,pr⟩:=I.run
 refine⟨I.k,I.f,I.pm,segs++[S],by show(arrOf st).toList=_;rw[e1];simp,by simp only[List.flatten_append,List.flatten_cons,List.flatten_nil,List.length_append,List.length_nil];omega,?_⟩
 show PRun lt ((pendingOf st).push (lo,n,pw)).toList _ 0
 rw[Array.toList_push]
 exact pr.snoc (by show lo=_;omega) (by show n=_;omega) (by omega) hs
end
section
variable {κ:Type} [DecidableEq κ]
def a0s(kvs:List (κ×V))(k:κ):Option V:=(kvs.find? fun kv=>decide (kv.1=k)).map (·.2)
def a14(kvs:List (κ×V))(k:κ)(v:V):List (κ×V) :=
 if(kvs.any fun kv=>decide (kv.1=k))=true then kvs.map (fun kv=>if kv.1=k then(kv.1,v)else kv)else kvs++[(k,v)]
def b1g(kvs:List (κ×V))(k:κ):List (κ×V):=kvs.filter fun kv=>decide (kv.1≠k)
theorem a2U{p:κ×V}{r:List (κ×V)}{k:κ}(e:p.1=k):a0s (p::r) k=some p.2:=by simp[a0s,List.find?_cons,e]
theorem a2V{p:κ×V}{r:List (κ×V)}{k:κ}(e:¬p.1=k):a0s (p::r) k=a0s r k:=by simp[a0s,List.find?_cons,e]
theorem a5B(k:κ):∀kvs:List (κ×V),(kvs.any fun kv=>decide (kv.1=k))=(a0s kvs k).isSome
 | []=>rfl
 | p::r=>by
  rw[List.any_cons]
  by_cases e:p.1=k
  ·simp only[a2U e,decide_eq_true e,Bool.true_or,Option.isSome_some]
  ·rw[a2V e,decide_eq_false e,Bool.false_or];exact a5B k r
theorem RelO.isSome_eq{o:Option V}{u:Option Value}(r:RelO o u):o.isSome=u.isSome:=by
 cases o with
 | none=>cases u with
  | none=>rfl
  | some _=>exact(show False from r).elim
 | some _=>cases u with
  | none=>exact(show False from r).elim
  | some _=>rfl
theorem RelO.getD{o:Option V}{u:Option Value}{d:V}{d':Value}(r:RelO o u)(rd:RelV d d'):RelV (o.getD d) (u.getD d'):=by
 cases o with
 | none=>cases u with
  | none=>exact rd
  | some _=>exact(show False from r).elim
 | some _=>cases u with
  | none=>exact(show False from r).elim
  | some _=>exact r
theorem KV.val{kvs:List (κ×V)}{vs:List (κ×Value)}(r:KV kvs vs)(k:κ):RelO (a0s kvs k) (valueAt vs k):=by
 unfold KV at r
 induction r with
 | nil=>exact True.intro
 | @cons p q ps qs h t ih =>
  obtain⟨h1,h2⟩:=h
  by_cases e:p.1=k
  ·have e':q.1=k:=h1.symm.trans e
   have b:valueAt (q::qs) k=some q.2:=by simp[valueAt,List.find?_cons,e']
   rw[a2U e,b];exact h2
  ·have e':¬q.1=k:=fun z=>e (h1.trans z)
   have b:valueAt (q::qs) k=valueAt qs k:=by simp[valueAt,List.find?_cons,e']
   rw[a2V e,b];exact ih
theorem KV.any{kvs:List (κ×V)}{vs:List (κ×Value)}(r:KV kvs vs)(k:κ):(kvs.any fun kv=>decide (kv.1=k))=vs.any fun kv=>decide (kv.1=k):=by
 unfold KV at r
 induction r with
 | nil=>rfl
 | cons h t ih=>rw[List.any_cons,List.any_cons,ih,h.1]
theorem KV.repl{kvs:List (κ×V)}{vs:List (κ×Value)}(r:KV kvs vs)(k:κ){y:V}{u:Value}(ry:RelV y u) :
  KV (kvs.map fun kv=>if kv.1=k then(kv.1,y)else kv) (vs.map fun kv=>if kv.1=k then(kv.1,u)else kv):=by
 unfold KV at r ⊢
 induction r with
 | nil=>exact .nil
 | @cons p q ps qs h t ih =>
  rw[List.map_cons,List.map_cons]
  refine .cons ?_ ih
  obtain⟨h1,h2⟩:=h
  by_cases e:p.1=k
  ·rw[if_pos e,if_pos (h1.symm.trans e)];exact⟨h1,ry⟩
  ·rw[if_neg e,if_neg (fun z=>e (h1.trans z))];exact⟨h1,h2⟩
theorem KV.put{kvs:List (κ×V)}{vs:List (κ×Value)}(r:KV kvs vs)(k:κ){y:V}{u:Value}(ry:RelV y u):KV (a14 kvs k y) (stored vs k u):=by
 unfold a14 stored
 rw[r.any k]
 by_cases e:(vs.any fun kv=>decide (kv.1=k))=true
 ·rw[if_pos e,if_pos e];exact r.repl k ry
 ·rw[if_neg e,if_neg e];exact Paired.snoc r ⟨rfl,ry⟩
theorem KV.drop{kvs:List (κ×V)}{vs:List (κ×Value)}(r:KV kvs vs)(k:κ):KV (b1g kvs k) (without vs k):=by
 unfold KV at r ⊢
 unfold b1g without
 induction r with
 | nil=>exact .nil
 | @cons p q ps qs h t ih =>
  obtain⟨h1,h2⟩:=h
  rw[List.filter_cons,List.filter_cons]
  by_cases e:p.1=k
  ·have a:¬decide (p.1≠k)=true:=by simp[e]
   have b:¬decide (q.1≠k)=true:=by simp[h1.symm.trans e]
   rw[if_neg a,if_neg b];exact ih
  ·have e':¬q.1=k:=fun z=>e (h1.trans z)
   have a:decide (p.1≠k)=true:=by simp[e]
   have b:decide (q.1≠k)=true:=by simp[e']
   rw[if_pos a,if_pos b];exact .cons ⟨h1,h2⟩ ih
theorem KV.keys{kvs:List (κ×V)}{vs:List (κ×Value)}(r:KV kvs vs):kvs.map (·.1)=vs.map (·.1):=by
 unfold KV at r
 induction r with
 | nil=>rfl
 | cons h t ih=>rw[List.map_cons,List.map_cons,ih,h.1]
theorem KV.length{kvs:List (κ×V)}{vs:List (κ×Value)}(r:KV kvs vs):kvs.length=vs.length:=Paired.length r
end
abbrev KT(H:Hp):List (List E2×V)→List (List E2×Addr×Value)→Prop:=Paired fun p q=>p.1=q.1∧H q.2.1=some (.tup (p.1.map kV))∧RelV p.2 q.2.2
theorem KT.val{H:Hp}{kvs:List (List E2×V)}{xs:List (List E2×Addr×Value)}(r:KT H kvs xs)(k:List E2):RelO (a0s kvs k) ((atKey xs k).map (·.2)):=by
 induction r with
 | nil=>exact True.intro
 | @cons p q ps qs h t ih =>
  obtain⟨h1,_,h2⟩:=h
  by_cases e:p.1=k
  ·have e':q.1=k:=h1.symm.trans e
   have b:atKey (q::qs) k=some q.2:=by simp[atKey,List.find?_cons,e']
   rw[a2U e,b];exact h2
  ·have e':¬q.1=k:=fun z=>e (h1.trans z)
   have b:atKey (q::qs) k=atKey qs k:=by simp[atKey,List.find?_cons,e']
   rw[a2V e,b];exact ih
theorem KT.repl{H:Hp}{kvs:List (List E2×V)}{xs:List (List E2×Addr×Value)}(r:KT H kvs xs)(k:List E2){y:V}{u:Value}(ry:RelV y u) :
  KT H (kvs.map fun kv=>if kv.1=k then(kv.1,y)else kv) (xs.map (putAt k u)):=by
 induction r with
 | nil=>exact .nil
 | @cons p q ps qs h t ih =>
  rw[List.map_cons,List.map_cons]
  refine .cons ?_ ih
  obtain⟨h1,h2,h3⟩:=h
  unfold putAt
  by_cases e:p.1=k
  ·rw[if_pos e,if_pos (h1.symm.trans e)];exact⟨h1,h2,ry⟩
  ·rw[if_neg e,if_neg (fun z=>e (h1.trans z))];exact⟨h1,h2,h3⟩
theorem KT.put{H:Hp}{kvs:List (List E2×V)}{xs:List (List E2×Addr×Value)}(r:KT H kvs xs)(k:List E2){b:Addr}{y:V}{u:Value}(hb:H b=some (.tup (k.map kV)))(ry:RelV y u) :
  KT H (a14 kvs k y) (storedH xs k b u):=by
 have e:(kvs.any fun kv=>decide (kv.1=k))=(atKey xs k).isSome:=by
  rw[a5B,(r.val k).isSome_eq,Option.isSome_map]
 unfold a14 storedH
 rw[e]
 by_cases q:(atKey xs k).isSome=true
 ·rw[if_pos q,if_pos q];exact r.repl k ry
 ·rw[if_neg q,if_neg q];exact Paired.snoc r ⟨rfl,hb,ry⟩
theorem KT.keeps{H H':Hp}{kvs:List (List E2×V)}{xs:List (List E2×Addr×Value)}(r:KT H kvs xs)(ht:∀b ys,H b=some (.tup ys)→H' b=some (.tup ys)):KT H' kvs xs :=
 Paired.mapP r fun _ _ z=>⟨z.1,ht _ _ z.2.1,z.2.2⟩
def DGet(H:Hp)(a:Addr)(y:V)(r:Option V):Prop :=
 (∃kvs k,Rd H a (.dK kvs)∧y=kV k∧r=a0s kvs k)∨∃kvs k b,Rd H a (.dT kvs)∧y=.ref b∧H b=some (.tup (k.map kV))∧r=a0s kvs k
def DPut(H:Hp)(a:Addr)(y v:V)(H':Hp):Prop :=
 (∃kvs k,H a=some (.dK kvs)∧y=kV k∧kvs.length<sizeLine∧H'=upd H a (.dK (a14 kvs k v))) ∨
 ∃kvs k b,H a=some (.dT kvs)∧y=.ref b∧H b=some (.tup (k.map kV))∧kvs.length<sizeLine∧H'=upd H a (.dT (a14 kvs k v))
theorem DGet.k{H:Hp}{a:Addr}{kvs:List (E2×V)}{k:E2}(e:H a=some (.dK kvs)):DGet H a (kV k) (a0s kvs k):=.inl ⟨kvs,k,.inl e,rfl,rfl⟩
theorem DGet.t{H:Hp}{a b:Addr}{kvs:List (List E2×V)}{k:List E2}(e:H a=some (.dT kvs))(eb:H b=some (.tup (k.map kV))):DGet H a (.ref b) (a0s kvs k):=.inr ⟨kvs,k,b,.inl e,rfl,eb,rfl⟩
theorem DPut.k{H:Hp}{a:Addr}{kvs:List (E2×V)}{k:E2}{v:V}(e:H a=some (.dK kvs))(hl:kvs.length<sizeLine):DPut H a (kV k) v (upd H a (.dK (a14 kvs k v))):=.inl ⟨kvs,k,e,rfl,hl,rfl⟩
theorem DPut.t{H:Hp}{a b:Addr}{kvs:List (List E2×V)}{k:List E2}{v:V}(e:H a=some (.dT kvs))(eb:H b=some (.tup (k.map kV)))(hl:kvs.length<sizeLine) :
  DPut H a (.ref b) v (upd H a (.dT (a14 kvs k v))):=.inr ⟨kvs,k,b,e,rfl,eb,hl,rfl⟩
end L2
namespace PySem.W
open PySem PySem.Spec PySem.Calls PyProof.Rows
end PySem.W
namespace PySem.W
open PySem PySem.Spec PySem.Calls PyProof.Rows
end PySem.W
namespace L2
open PySem PySem.Spec PyProof.Rows
end L2
namespace PySem.W
open PySem PySem.Spec PySem.Calls PyProof.Rows
end PySem.W
namespace L2
open PySem PySem.Spec PyProof.Rows
open PySem.W
abbrev DK:=Sum (List E2) (List (List E2))
def dkO(ks:DK)(xs:List V):HO:=match ks with
 | .inl ks=>.dK (ks.zip xs)
 | .inr ks=>.dT (ks.zip xs)
def dkN:DK→Nat
 | .inl ks=>ks.length
 | .inr ks=>ks.length
theorem a3Z{ks:DK}{xs ys:List V}:dkO ks xs≠.lst ys:=by cases ks<;>exact fun z=>nomatch z
inductive D where
 | non | bl (b:Bool) | int (i:Int) | str (x:Str) | ty (n:String) | cls (n:Str) | tup (ds:List D) | lst (ds:List D) | scr (ns:List Int) | exc (c:Str) | obj (c:Str) (ns:List Str) (ds:List D) | dic (ks:DK) (ds:List D) | exv (c f:Str) (d:D)
mutual
def Rp(K:W.Frag)(cl:Str→Addr)(F:Hp):D→V→Prop
 | .non,v=>v=.non
 | .bl b,v=>v=.bl b
 | .int i,v=>v=.int i
 | .str x,v=>v=.str x
 | .ty n,v=>v=.ty n
 | .cls n,v=>v=.ref (cl n)
 | .tup ds,v=>∃a xs,v=.ref a∧F a=some (.tup xs)∧Rps K cl F ds xs
 | .lst ds,v=>∃a xs,v=.ref a∧F a=some (.lst xs)∧Rps K cl F ds xs
 | .scr ns,v=>∃a,v=.ref a∧Scr K F a (ns.map V.int)
 | .exc c,v=>∃a cx,v=.ref a∧F a=some (a2S a (.ref (cl c)) cx)
 | .obj c ns ds,v=>∃a dx xs,v=.ref a∧F a=some (.ins (cl c) dx (ns.zip xs))∧ns.length=xs.length∧Rps K cl F ds xs
 | .dic ks ds,v=>∃a xs,v=.ref a∧F a=some (dkO ks xs)∧dkN ks=xs.length∧Rps K cl F ds xs
 | .exv c f d,v=>∃a dx y,v=.ref a∧F a=some (a2S a (.ref (cl c)) (some (2*dx+1)))∧F dx=some (.xd [(f,y)])∧Rp K cl F d y
def Rps(K:W.Frag)(cl:Str→Addr)(F:Hp):List D→List V→Prop
 | [],vs=>vs=[]
 | d::ds,vs=>∃v r,vs=v::r∧Rp K cl F d v∧Rps K cl F ds r
end
section
variable {K:W.Frag}{cl:Str→Addr}{F F' H H':Hp}
mutual
theorem Rp.mono(g:Same F F'):∀(d:D) (v:V),Rp K cl F d v→Rp K cl F' d v
 | .non,_,h=>by simpa only[Rp]using h
 | .bl _,_,h=>by simpa only[Rp]using h
 | .int _,_,h=>by simpa only[Rp]using h
 | .str _,_,h=>by simpa only[Rp]using h
 | .ty _,_,h=>by simpa only[Rp]using h
 | .cls _,_,h=>by simpa only[Rp]using h
 | .tup ds,v,h=>by
  simp only[Rp]at h ⊢
  obtain⟨a,xs,e,h1,h2⟩:=h
  exact⟨a,xs,e,g _ _ h1,Rps.mono g ds xs h2⟩
 | .lst ds,v,h=>by
  simp only[Rp]at h ⊢
  obtain⟨a,xs,e,h1,h2⟩:=h
  exact⟨a,xs,e,g _ _ h1,Rps.mono g ds xs h2⟩
 | .scr ns,v,h=>by
  simp only[Rp]at h ⊢
  obtain⟨a,e,h1⟩:=h
  exact⟨a,e,h1.same g⟩
 | .exc c,v,h=>by
  simp only[Rp]at h ⊢
  obtain⟨a,cx,e,h1⟩:=h
  exact⟨a,cx,e,g _ _ h1⟩
 | .obj c ns ds,v,h=>by
  simp only[Rp]at h ⊢
  obtain⟨a,dx,xs,e,h1,hl,h2⟩:=h
  exact⟨a,dx,xs,e,g _ _ h1,hl,Rps.mono g ds xs h2⟩
 | .dic ks ds,v,h=>by
  simp only[Rp]at h ⊢
  obtain⟨a,xs,e,h1,hl,h2⟩:=h
  exact⟨a,xs,e,g _ _ h1,hl,Rps.mono g ds xs h2⟩
 | .exv c f d,v,h=>by
  simp only[Rp]at h ⊢
  obtain⟨a,dx,y,e,h1,h2,h3⟩:=h
  exact⟨a,dx,y,e,g _ _ h1,g _ _ h2,Rp.mono g d y h3⟩
theorem Rps.mono(g:Same F F'):∀(ds:List D) (vs:List V),Rps K cl F ds vs→Rps K cl F' ds vs
 | [],_,h=>by simpa only[Rps]using h
 | d::ds,vs,h=>by
  simp only[Rps]at h ⊢
  obtain⟨v,r,e,h1,h2⟩:=h
  exact⟨v,r,e,Rp.mono g d v h1,Rps.mono g ds r h2⟩
end
theorem Rps.nil:Rps K cl F [] []:=by simp only[Rps]
theorem Rps.cons{d:D}{v:V}{ds:List D}{vs:List V}(h:Rp K cl F d v)(t:Rps K cl F ds vs):Rps K cl F (d::ds) (v::vs):=by simp only[Rps];exact⟨v,vs,rfl,h,t⟩
theorem Rps.inv{d:D}{ds:List D}{vs:List V}(h:Rps K cl F (d::ds) vs):∃v r,vs=v::r∧Rp K cl F d v∧Rps K cl F ds r:=by simpa only[Rps]using h
theorem Rps.inv0{vs:List V}(h:Rps K cl F [] vs):vs=[]:=by simpa only[Rps]using h
theorem Rps.length:∀{ds:List D} {vs:List V},Rps K cl F ds vs→ds.length=vs.length
 | [],vs,h=>by rw[h.inv0];rfl
 | d::ds,vs,h=>by obtain⟨v,r,rfl,_,t⟩:=h.inv;simp[t.length]
theorem Rps.get:∀{ds:List D} {vs:List V} {i:Nat} {d:D},Rps K cl F ds vs→ds[i]? = some d→∃v,vs[i]? = some v∧Rp K cl F d v
 | [],_,_,_,_,e=>by simp at e
 | d::ds,vs,0,x,h,e=>by
  obtain⟨v,r,rfl,h1,_⟩:=h.inv
  simp at e;subst e
  exact⟨v,rfl,h1⟩
 | d::ds,vs,i+1,x,h,e=>by
  obtain⟨v,r,rfl,_,t⟩:=h.inv
  obtain⟨u,h1,h2⟩:=t.get (i:=i) (d:=x) (by simpa using e)
  exact⟨u,by simpa using h1,h2⟩
theorem Rps.get'{ds:List D}{vs:List V}{i:Nat}{v:V}(h:Rps K cl F ds vs)(e:vs[i]? = some v):∃d,ds[i]? = some d∧Rp K cl F d v:=by
 have hi:i<ds.length:=by
  have:=(List.getElem?_eq_some_iff.mp e).1
  rw[h.length];exact this
 obtain⟨u,h1,h2⟩:=h.get (List.getElem?_eq_getElem hi)
 rw[e]at h1;cases h1
 exact⟨_,List.getElem?_eq_getElem hi,h2⟩
theorem Rps.append:∀{ds es:List D} {vs us:List V},Rps K cl F ds vs→Rps K cl F es us→Rps K cl F (ds++es) (vs++us)
 | [],_,_,_,h,t=>by rw[h.inv0];exact t
 | d::ds,_,_,_,h,t=>by obtain⟨v,r,rfl,h1,h2⟩:=h.inv;exact .cons h1 (h2.append t)
theorem Rps.one{d:D}{v:V}(h:Rp K cl F d v):Rps K cl F [d] [v]:=.cons h .nil
theorem Rps.set{d:D}{v:V}(r:Rp K cl F d v):∀{ds:List D} {vs:List V} (i:Nat),Rps K cl F ds vs→Rps K cl F (ds.set i d) (vs.set i v)
 | [],_,_,h=>by rw[h.inv0];exact .nil
 | _::_,_,0,h=>by obtain⟨_,_,rfl,_,h2⟩:=h.inv;exact .cons r h2
 | _::_,_,i+1,h=>by obtain⟨_,_,rfl,h1,h2⟩:=h.inv;exact .cons h1 (h2.set r i)
theorem Rps.drop:∀{ds:List D} {vs:List V} (n:Nat),Rps K cl F ds vs→Rps K cl F (ds.drop n) (vs.drop n)
 | _,_,0,h=>h
 | [],_,_+1,h=>by rw[h.inv0];exact .nil
 | _::_,_,n+1,h=>by obtain⟨_,_,rfl,_,h2⟩:=h.inv;exact h2.drop n
theorem Rps.take:∀{ds:List D} {vs:List V} (n:Nat),Rps K cl F ds vs→Rps K cl F (ds.take n) (vs.take n)
 | _,_,0,h=>.nil
 | [],_,_+1,h=>by rw[h.inv0];exact .nil
 | _::_,_,n+1,h=>by obtain⟨_,_,rfl,h1,h2⟩:=h.inv;exact .cons h1 (h2.take n)
theorem Rps.ints:∀{ns:List Int} {vs:List V},Rps K cl F (ns.map D.int) vs→vs=ns.map V.int
 | [],_,h=>h.inv0
 | n::ns,_,h=>by
  obtain⟨v,r,rfl,h1,h2⟩:=h.inv
  rw[h2.ints]
  simp only[Rp]at h1
  rw[h1];rfl
theorem Rps.ofInts:∀{ns:List Int},Rps K cl F (ns.map D.int) (ns.map V.int)
 | []=>.nil
 | _::_=>.cons (by simp only[Rp]) Rps.ofInts
theorem Rps.strs:∀{bs:List Str} {vs:List V},Rps K cl F (bs.map D.str) vs→vs=bs.map V.str
 | [],_,h=>h.inv0
 | n::ns,_,h=>by
  obtain⟨v,r,rfl,h1,h2⟩:=h.inv
  rw[h2.strs]
  simp only[Rp]at h1
  rw[h1];rfl
end
inductive Sl where | no | fz (d:D) | ow (ds:List D) | hd (ds:List D) | od (ks:DK) (ds:List D) | hk (ks:DK) (ds:List D)
abbrev DE:=List Sl
def Mu(env:DE)(i:Nat):Prop:=∃ds:List D,env[i]? = some (.ow ds)∨env[i]? = some (.hd ds)
def isO:Sl→Prop
 | .ow _=>True
 | .od _ _=>True
 | _=>False
def Y0:Sl→DK→List D→Prop
 | .od ks ds,ks',ds'=>ks=ks'∧ds=ds'
 | .hk ks ds,ks',ds'=>ks=ks'∧ds=ds'
 | _,_,_=>False
def Ow(σ:St)(env:DE)(a:Addr):Prop:=∃(i:Nat) (s:Sl),isO s∧env[i]? = some s∧σ[i]? = some (some (V.ref a))
structure RelOd(K:W.Frag)(cl:Str→Addr)(σ:St)(H F:Hp)(env:DE):Prop where
 at_:∀(i:Nat) (s:Sl) (ks:DK) (ds:List D),env[i]? = some s→Y0 s ks ds→∃a xs,σ[i]? = some (some (.ref a))∧H a=some (dkO ks xs)∧F a=none∧dkN ks=xs.length∧Rps K cl F ds xs
 inj:∀(i j:Nat) (s t:Sl) (ks ls:DK) (ds es:List D) (a:Addr),env[i]? = some s→Y0 s ks ds→env[j]? = some t→Y0 t ls es→σ[i]? = some (some (.ref a))→σ[j]? = some (some (.ref a))→i=j
structure Rel(K:W.Frag)(cl:Str→Addr)(σ:St)(H F:Hp)(env:DE):Prop where
 sub:Same F H
 len:σ.length=env.length
 fz:∀(i:Nat) (d:D),env[i]? = some (.fz d)→∃v,σ[i]? = some (some v)∧Rp K cl F d v
 mu:∀(i:Nat) (ds:List D),(env[i]? = some (.ow ds)∨env[i]? = some (.hd ds))→∃a xs,σ[i]? = some (some (.ref a))∧H a=some (.lst xs)∧F a=none∧Rps K cl F ds xs
 inj:∀(i j:Nat) (a:Addr),Mu env i→Mu env j→σ[i]? = some (some (.ref a))→σ[j]? = some (some (.ref a))→i=j
 od:RelOd K cl σ H F env
structure Frm(σ:St)(H F:Hp)(env:DE)(σ':St)(H' F':Hp)(env':DE):Prop where
 fz:Same F F'
 hid:∀a o,H a=some o→F a=none→¬Ow σ env a→H' a=some o∧F' a=none∧¬Ow σ' env' a
 keep:∀(i:Nat) (ds:List D),env[i]? = some (.hd ds)→env'[i]? = some (.hd ds)∧σ'[i]? = σ[i]?
 dom:∀a,H' a=none→H a=none
structure Gr(H F H' F':Hp):Prop where
 fz:Same F F'
 sub:Same F' H'
 hid:∀a o,H a=some o→F a=none→H' a=some o∧F' a=none
section
variable {K:W.Frag}{cl:Str→Addr}{σ σ' σ'':St}{H H' H'' F F' F'':Hp}{env env' env'':DE}
theorem RelOd.to(R:RelOd K cl σ H F env)(he:∀(i:Nat) (s:Sl) (ks:DK) (ds:List D),env'[i]? = some s→Y0 s ks ds→∃t,env[i]? = some t∧Y0 t ks ds∧σ'[i]? = σ[i]?)
  (hh:∀(i:Nat) (a:Addr) (ks:DK) (xs:List V),σ[i]? = some (some (.ref a))→H a=some (dkO ks xs)→F a=none→H' a=some (dkO ks xs)∧F' a=none) (sF:Same F F'):RelOd K cl σ' H' F' env' :=
 ⟨fun i s ks ds h d=>by
  obtain⟨t,h1,d1,e1⟩:=he i s ks ds h d
  obtain⟨a,xs,e,hH,hF,hn,r⟩:=R.at_ i t ks ds h1 d1
  obtain⟨h2,f2⟩:=hh i a ks xs e hH hF
  exact⟨a,xs,by rw[e1];exact e,h2,f2,hn,r.mono sF⟩,
  fun i j s t ks ls ds es a hi di hj dj ei ej=>by
  obtain⟨s1,h1,d1,e1⟩:=he i s ks ds hi di
  obtain⟨t1,h2,d2,e2⟩:=he j t ls es hj dj
  exact R.inj i j s1 t1 ks ls ds es a h1 d1 h2 d2 (by rw[← e1];exact ei) (by rw[← e2];exact ej)⟩
theorem RelOd.gr(R:RelOd K cl σ H F env)(g:Gr H F H' F'):RelOd K cl σ H' F' env:=R.to (fun i s ks ds h d=>⟨s,h,d,rfl⟩) (fun _ a ks xs _ h f=>g.hid a _ h f) g.fz
theorem RelOd.set{i:Nat}{s:Sl}{v:Option V}(R:RelOd K cl σ H F env)(n:∀ks ds,¬Y0 s ks ds):RelOd K cl (σ.set i v) H F (env.set i s) :=
 R.to (fun j t ks ds h d=>by
  by_cases z:j=i
  ·subst z
   have hj:j<env.length:=by have:=(List.getElem?_eq_some_iff.mp h).1;rwa [List.length_set]at this
   rw[List.getElem?_set_self hj]at h;cases h;exact absurd d (n ks ds)
  ·rw[List.getElem?_set_ne (Ne.symm z)]at h
   exact⟨t,h,d,List.getElem?_set_ne (Ne.symm z)⟩) (fun _ a ks xs _ h f=>⟨h,f⟩) (Same.refl _)
theorem RelOd.setE{i:Nat}{s:Sl}(R:RelOd K cl σ H F env)(n:∀ks ds,¬Y0 s ks ds):RelOd K cl σ H F (env.set i s) :=
 R.to (fun j t ks ds h d=>by
  by_cases z:j=i
  ·subst z
   have hj:j<env.length:=by have:=(List.getElem?_eq_some_iff.mp h).1;rwa [List.length_set]at this
   rw[List.getElem?_set_self hj]at h;cases h;exact absurd d (n ks ds)
  ·rw[List.getElem?_set_ne (Ne.symm z)]at h
   exact⟨t,h,d,rfl⟩) (fun _ a ks xs _ h f=>⟨h,f⟩) (Same.refl _)
theorem RelOd.lst(R:RelOd K cl σ H F env)(hh:∀(a:Addr) (o:HO),(∀xs,o≠.lst xs)→H a=some o→F a=none→H' a=some o∧F' a=none)(sF:Same F F'):RelOd K cl σ H' F' env :=
 R.to (fun i s ks ds h d=>⟨s,h,d,rfl⟩) (fun _ a ks xs _ h f=>hh a _ (fun _=>a3Z) h f) sF
theorem RelOd.own(R:RelOd K cl σ H F env)(hh:∀(i:Nat) (s:Sl) (ks:DK) (ds:List D) (a:Addr) (xs:List V),env[i]? = some s→Y0 s ks ds→σ[i]? = some (some (.ref a))→H a=some (dkO ks xs)→F a=none→H' a=some (dkO ks xs)∧F' a=none)(sF:Same F F'):RelOd K cl σ H' F' env :=
 ⟨fun i s ks ds h d=>by
  obtain⟨a,xs,e,hH,hF,hn,r⟩:=R.at_ i s ks ds h d
  obtain⟨h2,f2⟩:=hh i s ks ds a xs h d e hH hF
  exact⟨a,xs,e,h2,f2,hn,r.mono sF⟩,R.inj⟩
theorem RelOd.frzL{a:Addr}{xs:List V}{o:HO}(R:RelOd K cl σ H F env)(hH:H a=some (.lst xs))(hF:F a=none):RelOd K cl σ H (upd F a o) env :=
 R.lst (fun c u n h f=>⟨h,by rw[f9 (fun z=>by rw[z,hH]at h;exact n xs (Option.some.inj h).symm)];exact f⟩) (Z7 hF _)
theorem RelOd.updL{a:Addr}{xs:List V}{o:HO}(R:RelOd K cl σ H F env)(hH:H a=some (.lst xs)):RelOd K cl σ (upd H a o) F env :=
 R.lst (fun c u n h f=>⟨by rw[f9 (fun z=>by rw[z,hH]at h;exact n xs (Option.some.inj h).symm)];exact h,f⟩) (Same.refl _)
theorem RelOd.newO{a:Addr}{o:HO}(R:RelOd K cl σ H F env)(hH:H a=none):RelOd K cl σ (upd H a o) F env :=
 R.lst (fun c u n h f=>⟨by rw[f9 (fun z=>by rw[z,hH]at h;cases h)];exact h,f⟩) (Same.refl _)
theorem RelOd.none(n:∀(i:Nat) (s:Sl) ks ds,env[i]? = some s→¬Y0 s ks ds):RelOd K cl σ H F env:=⟨fun i s ks ds h d=>absurd d (n i s ks ds h),fun i j s t ks ls ds es a h d=>absurd d (n i s ks ds h)⟩
theorem a3m{d:D}:∀ks ds,¬Y0 (.fz d) ks ds:=fun _ _ h=>h
theorem a1G{d:List D}:∀ks ds,¬Y0 (.ow d) ks ds:=fun _ _ h=>h
theorem a3n{d:List D}:∀ks ds,¬Y0 (.hd d) ks ds:=fun _ _ h=>h
theorem a7H:∀ks ds,¬Y0 .no ks ds:=fun _ _ h=>h
theorem Frm.refl:Frm σ H F env σ H F env:=⟨Same.refl _,fun _ _ h f o=>⟨h,f,o⟩,fun _ _ h=>⟨h,rfl⟩,fun _ h=>h⟩
theorem Frm.trans(a:Frm σ H F env σ' H' F' env')(b:Frm σ' H' F' env' σ'' H'' F'' env''):Frm σ H F env σ'' H'' F'' env'' :=
 ⟨a.fz.trans b.fz,fun x o h f w=>by obtain⟨h1,f1,w1⟩:=a.hid x o h f w;exact b.hid x o h1 f1 w1,
  fun i ds h=>by obtain⟨h1,e1⟩:=a.keep i ds h;obtain⟨h2,e2⟩:=b.keep i ds h1;exact⟨h2,e2.trans e1⟩,fun x h=>a.dom x (b.dom x h)⟩
theorem Gr.dom(g:Gr H F H' F')(a:Addr)(h:H' a=none):H a=none:=by
 cases e:H a with
 | none=>rfl
 | some o =>
  cases f:F a with
  | none=>rw[(g.hid a o e f).1]at h;cases h
  | some u=>rw[g.sub _ _ (g.fz _ _ f)]at h;cases h
theorem Rel.gr(R:Rel K cl σ H F env)(g:Gr H F H' F'):Rel K cl σ H' F' env :=
 ⟨g.sub,R.len,fun i d h=>by obtain⟨v,e,r⟩:=R.fz i d h;exact⟨v,e,r.mono g.fz⟩,
  fun i ds h=>by obtain⟨a,xs,e,hH,hF,r⟩:=R.mu i ds h;obtain⟨h1,f1⟩:=g.hid a _ hH hF;exact⟨a,xs,e,h1,f1,r.mono g.fz⟩,R.inj,R.od.gr g⟩
theorem Rel.frm(R:Rel K cl σ H F env)(g:Gr H F H' F'):Frm σ H F env σ H' F' env :=
 ⟨g.fz,fun a o h f w=>by obtain⟨h1,f1⟩:=g.hid a o h f;exact⟨h1,f1,w⟩,fun _ _ h=>⟨h,rfl⟩,g.dom⟩
theorem Rel.not_ow{a:Addr}{xs:List V}(R:Rel K cl σ H F env)(hH:H a=some (.lst xs))(m:∀j,Mu env j→σ[j]?≠some (some (.ref a))):¬Ow σ env a:=fun⟨j,s,oo,q,e⟩=>by
 cases s with
 | ow ds=>exact m j ⟨ds,.inl q⟩ e
 | od ks ds =>
  obtain⟨b,ys,e1,h1,_⟩:=R.od.at_ j _ ks ds q ⟨rfl,rfl⟩
  rw[e]at e1;cases e1
  rw[hH]at h1;exact a3Z (Option.some.inj h1).symm
 | _=>exact oo
theorem Gr.refl(s:Same F H):Gr H F H F:=⟨Same.refl _,s,fun _ _ h f=>⟨h,f⟩⟩
theorem Gr.trans(a:Gr H F H' F')(b:Gr H' F' H'' F''):Gr H F H'' F'':=⟨a.fz.trans b.fz,b.sub,fun x o h f=>by obtain⟨h1,f1⟩:=a.hid x o h f;exact b.hid x o h1 f1⟩
theorem Gr.new{p:Addr}{o:HO}(s:Same F H)(hp:H p=none):Gr H F (upd H p o) (upd F p o):=by
 have fp:F p=none:=s.free hp
 refine⟨Z7 fp o,fun b u e=>?_,fun a u e f=>?_⟩
 ·by_cases z:b=p
  ·subst z;rw[k9]at e ⊢;exact e
  ·rw[f9 z]at e ⊢;exact s _ _ e
 ·have z:a≠p:=fun z=>by rw[z,hp]at e;cases e
  rw[f9 z,f9 z];exact⟨e,f⟩
theorem Rel.freeze{i:Nat}{ds:List D}(R:Rel K cl σ H F env)(h:env[i]? = some (.ow ds)):∃a F',σ[i]? = some (some (.ref a))∧Frm σ H F env σ H F' (env.set i (.fz (.lst ds)))∧Rel K cl σ H F' (env.set i (.fz (.lst ds)))∧Rp K cl F' (.lst ds) (.ref a):=by
 obtain⟨a,xs,e,hH,hF,r⟩:=R.mu i ds (.inl h)
 have hi:i<env.length:=(List.getElem?_eq_some_iff.mp h).1
 have sF:Same F (upd F a (.lst xs)):=Z7 hF _
 have oth:∀j,j≠i→(env.set i (.fz (.lst ds)))[j]? = env[j]?:=fun j hj=>List.getElem?_set_ne (Ne.symm hj)
 have self:(env.set i (.fz (.lst ds)))[i]? = some (.fz (.lst ds)):=List.getElem?_set_self hi
 have mui:∀j,Mu (env.set i (.fz (.lst ds))) j→j≠i∧Mu env j:=fun j ⟨es,q⟩=>by
  by_cases z:j=i
  ·subst z;rw[self]at q;rcases q with q | q<;>cases q
  ·rw[oth j z]at q;exact⟨z,es,q⟩
 have rl:Rp K cl (upd F a (.lst xs)) (.lst ds) (.ref a):=by simp only[Rp];exact⟨a,xs,rfl,k9,r.mono sF⟩
 refine⟨a,upd F a (.lst xs),e,⟨sF,fun b o hb fb w=>?_,fun j es q=>?_,fun _ h=>h⟩,⟨fun b o q=>?_,by rw[List.length_set];exact R.len,fun j d q=>?_,fun j es q=>?_,fun j k b hj hk e1 e2=>R.inj j k b (mui j hj).2 (mui k hk).2 e1 e2,(R.od.lst (fun c u n h f=>⟨h,by rw[f9 (fun z=>by rw[z,hH]at h;exact n xs (Option.some.inj h).symm)];exact f⟩) sF).setE a3m⟩,rl⟩
 ·have z:b≠a:=fun z=>w ⟨i,.ow ds,True.intro,h,by rw[z];exact e⟩
  refine⟨hb,by rw[f9 z];exact fb,fun⟨j,es,oo,q,e1⟩=>?_⟩
  by_cases y:j=i
  ·subst y;rw[self]at q;cases q;exact oo
  ·rw[oth j y]at q;exact w ⟨j,es,oo,q,e1⟩
 ·have z:j≠i:=fun z=>by subst z;rw[h]at q;cases q
  exact⟨by rw[oth j z];exact q,rfl⟩
 ·by_cases z:b=a
  ·subst z;rw[k9]at q;cases q;exact hH
  ·rw[f9 z]at q;exact R.sub _ _ q
 ·by_cases z:j=i
  ·subst z;rw[self]at q;cases q;exact⟨_,e,rl⟩
  ·rw[oth j z]at q;obtain⟨v,e1,r1⟩:=R.fz j d q;exact⟨v,e1,r1.mono sF⟩
 ·have z:j≠i:=(mui j ⟨es,q⟩).1
  rw[oth j z]at q
  obtain⟨b,ys,e1,h1,f1,r1⟩:=R.mu j es q
  have nb:b≠a:=fun y=>z (R.inj j i b ⟨es,q⟩ ⟨ds,.inl h⟩ e1 (by rw[y];exact e))
  exact⟨b,ys,e1,h1,by rw[f9 nb];exact f1,r1.mono sF⟩
theorem Rel.put{i:Nat}{d:D}{v:V}(R:Rel K cl σ H F env)(hi:i<env.length)(nh:∀ds,env[i]?≠some (.hd ds))(r:Rp K cl F d v):Rel K cl (σ.set i (some v)) H F (env.set i (.fz d)):=by
 refine⟨R.sub,by rw[List.length_set,List.length_set];exact R.len,fun j e q=>?_,fun j es q=>?_,fun j k b hj hk e1 e2=>?_,R.od.set a3m⟩
 ·by_cases z:j=i
  ·subst z
   rw[List.getElem?_set_self hi]at q;cases q
   exact⟨v,List.getElem?_set_self (by rw[R.len];exact hi),r⟩
  ·rw[List.getElem?_set_ne (Ne.symm z)]at q
   obtain⟨u,e1,r1⟩:=R.fz j e q
   exact⟨u,by rw[List.getElem?_set_ne (Ne.symm z)];exact e1,r1⟩
 ·have z:j≠i:=fun z=>by
   subst z
   rw[List.getElem?_set_self hi]at q
   rcases q with q | q<;>cases q
  rw[List.getElem?_set_ne (Ne.symm z)]at q
  obtain⟨a,xs,e1,h1,f1,r1⟩:=R.mu j es q
  exact⟨a,xs,by rw[List.getElem?_set_ne (Ne.symm z)];exact e1,h1,f1,r1⟩
 ·have nz:∀j,Mu (env.set i (.fz d)) j→j≠i∧Mu env j:=fun j ⟨es,q⟩=>by
   by_cases z:j=i
   ·subst z
    rw[List.getElem?_set_self hi]at q
    rcases q with q | q<;>cases q
   ·rw[List.getElem?_set_ne (Ne.symm z)]at q;exact⟨z,es,q⟩
  obtain⟨zj,mj⟩:=nz j hj
  obtain⟨zk,mk⟩:=nz k hk
  rw[List.getElem?_set_ne (Ne.symm zj)]at e1
  rw[List.getElem?_set_ne (Ne.symm zk)]at e2
  exact R.inj j k b mj mk e1 e2
theorem Rel.putO{i:Nat}{ds:List D}{a:Addr}{xs:List V}(R:Rel K cl σ H F env)(hi:i<env.length)(hH:H a=some (.lst xs))(hF:F a=none)(na:∀j,Mu env j→σ[j]?≠some (some (.ref a)))(r:Rps K cl F ds xs):Rel K cl (σ.set i (some (.ref a))) H F (env.set i (.ow ds)):=by
 have his:i<σ.length:=by rw[R.len];exact hi
 have nz:∀j,j≠i→Mu (env.set i (.ow ds)) j→Mu env j:=fun j z ⟨es,q⟩=>by
  rw[List.getElem?_set_ne (Ne.symm z)]at q;exact⟨es,q⟩
 refine⟨R.sub,by rw[List.length_set,List.length_set];exact R.len,fun j e q=>?_,fun j es q=>?_,fun j k b hj hk e1 e2=>?_,R.od.set a1G⟩
 ·have z:j≠i:=fun z=>by subst z;rw[List.getElem?_set_self hi]at q;cases q
  rw[List.getElem?_set_ne (Ne.symm z)]at q
  obtain⟨u,e1,r1⟩:=R.fz j e q
  exact⟨u,by rw[List.getElem?_set_ne (Ne.symm z)];exact e1,r1⟩
 ·by_cases z:j=i
  ·subst z
   rw[List.getElem?_set_self hi]at q
   rcases q with q | q
   ·cases q;exact⟨a,xs,List.getElem?_set_self his,hH,hF,r⟩
   ·cases q
  ·rw[List.getElem?_set_ne (Ne.symm z)]at q
   obtain⟨b,ys,e1,h1,f1,r1⟩:=R.mu j es q
   exact⟨b,ys,by rw[List.getElem?_set_ne (Ne.symm z)];exact e1,h1,f1,r1⟩
 ·by_cases zj:j=i
  ·by_cases zk:k=i
   ·rw[zj,zk]
   ·subst zj
    rw[List.getElem?_set_self his]at e1
    rw[List.getElem?_set_ne (Ne.symm zk)]at e2
    cases e1
    exact absurd e2 (na k (nz k zk hk))
  ·rw[List.getElem?_set_ne (Ne.symm zj)]at e1
   by_cases zk:k=i
   ·subst zk
    rw[List.getElem?_set_self his]at e2
    cases e2
    exact absurd e1 (na j (nz j zj hj))
   ·rw[List.getElem?_set_ne (Ne.symm zk)]at e2
    exact R.inj j k b (nz j zj hj) (nz k zk hk) e1 e2
theorem Frm.put{i:Nat}{d:D}{x:Option V}(nh:∀ds,env[i]?≠some (.hd ds)):Frm σ H F env (σ.set i x) H F (env.set i (.fz d)):=by
 refine⟨Same.refl _,fun a o h f w=>⟨h,f,fun⟨j,ds,oo,q,e⟩=>?_⟩,fun j ds q=>?_,fun _ h=>h⟩
 ·by_cases z:j=i
  ·subst z
   have hj:j<env.length:=by have:=(List.getElem?_eq_some_iff.mp q).1;rwa [List.length_set]at this
   rw[List.getElem?_set_self hj]at q
   cases q;exact oo
  ·rw[List.getElem?_set_ne (Ne.symm z)]at q e
   exact w ⟨j,ds,oo,q,e⟩
 ·have z:j≠i:=fun z=>by subst z;exact nh ds q
  rw[List.getElem?_set_ne (Ne.symm z),List.getElem?_set_ne (Ne.symm z)]
  exact⟨q,rfl⟩
theorem Frm.putO{i:Nat}{s0:Sl}{a:Addr}(f:Frm σ H F env σ' H' F' env')(ha:H a=none)(nh:∀ds,env'[i]?≠some (.hd ds)):Frm σ H F env (σ'.set i (some (.ref a))) H' F' (env'.set i s0):=by
 refine⟨f.fz,fun b o h g w=>?_,fun j ds q=>?_,f.dom⟩
 ·obtain⟨h1,f1,w1⟩:=f.hid b o h g w
  refine⟨h1,f1,fun⟨j,ds,oo,q,e⟩=>?_⟩
  by_cases z:j=i
  ·subst z
   have hj:j<σ'.length:=by have:=(List.getElem?_eq_some_iff.mp e).1;rwa [List.length_set]at this
   rw[List.getElem?_set_self hj]at e
   cases e
   rw[ha]at h;cases h
  ·rw[List.getElem?_set_ne (Ne.symm z)]at q e
   exact w1 ⟨j,ds,oo,q,e⟩
 ·obtain⟨q1,e1⟩:=f.keep j ds q
  have z:j≠i:=fun z=>by subst z;exact nh ds q1
  rw[List.getElem?_set_ne (Ne.symm z),List.getElem?_set_ne (Ne.symm z)]
  exact⟨q1,e1⟩
end
inductive XN where | p (c:Str) | v (c f:Str) (d:D)
instance:Coe Str XN:=⟨.p⟩
def XN.nm:XN→Str
 | .p c=>c
 | .v c _ _=>c
def XN.d:XN→D
 | .p c=>.exc c
 | .v c f d=>.exv c f d
def Xf(K:W.Frag)(cl:Str→Addr)(F:Hp):XN→Option Addr→Prop
 | .p _,cx=>cx=none
 | .v _ f d,cx=>∃dx y,cx=some (2*dx+1)∧F dx=some (.xd [(f,y)])∧Rp K cl F d y
inductive R(α:Type) where | ok (a:α) (e:DE) | ex (c:XN)
inductive RS where | nx (e:DE) | rt (d:D) | ro (ds:List D) | rz (dss:List (List D)) | rp (n:Int) (ds:List D) | bk (e:DE) | ct (e:DE) | ex (c:XN)
def bnd{α β:Type}(x:Option (R α))(k:α→DE→Option (R β)):Option (R β):=match x with
 | none=>none
 | some (.ok a e)=>k a e
 | some (.ex c)=>some (.ex c)
def S7{α:Type}(x:Option (R α))(k:α→DE→Option RS):Option RS:=match x with
 | none=>none
 | some (.ok a e)=>k a e
 | some (.ex c)=>some (.ex c)
def opt{α:Type}(x:Option α)(e:DE):Option (R α):=match x with
 | none=>none
 | some a=>some (.ok a e)
@[simp] theorem a3o{α β:Type}(a:α)(e:DE)(k:α→DE→Option (R β)):bnd (some (.ok a e)) k=k a e:=rfl
@[simp] theorem b3L{α β:Type}(c:XN)(k:α→DE→Option (R β)):bnd (some (.ex c)) k=some (.ex c):=rfl
@[simp] theorem b3M{α β:Type}(k:α→DE→Option (R β)):bnd (none:Option (R α)) k=none:=rfl
@[simp] theorem Q7{α:Type}(a:α)(e:DE)(k:α→DE→Option RS):S7 (some (.ok a e)) k=k a e:=rfl
@[simp] theorem b3N{α:Type}(c:XN)(k:α→DE→Option RS):S7 (some (.ex c)) k=some (.ex c):=rfl
@[simp] theorem b3O{α:Type}(k:α→DE→Option RS):S7 (none:Option (R α)) k=none:=rfl
@[simp] theorem a1H{α:Type}(a:α)(e:DE):opt (some a) e=some (.ok a e):=rfl
@[simp] theorem a1I{α:Type}(e:DE):opt (none:Option α) e=none:=rfl
structure FX(σ:St)(H F:Hp)(env:DE)(H' F':Hp):Prop where
 fz:Same F F'
 sub:Same F' H'
 hid:∀a o,H a=some o→F a=none→¬Ow σ env a→H' a=some o∧F' a=none
 dom:∀a,H' a=none→H a=none
section
variable {K:W.Frag}{cl:Str→Addr}{E:XK}{σ σ':St}{H H' H1 F F' F1:Hp}{env env' env1:DE}{α β γ δ:Type}
theorem Frm.fx{H2 F2:Hp}(a:Frm σ H F env σ' H1 F1 env1)(b:FX σ' H1 F1 env1 H2 F2):FX σ H F env H2 F2 :=
 ⟨a.fz.trans b.fz,b.sub,fun x o h f w=>by obtain⟨h1,f1,w1⟩:=a.hid x o h f w;exact b.hid x o h1 f1 w1,fun x h=>a.dom x (b.dom x h)⟩
theorem Frm.toFX(a:Frm σ H F env σ' H1 F1 env1)(s:Same F1 H1):FX σ H F env H1 F1:=⟨a.fz,s,fun x o h f w=>by obtain⟨h1,f1,_⟩:=a.hid x o h f w;exact⟨h1,f1⟩,a.dom⟩
abbrev Py(α β:Type):=α→St→Hp→Hp→Hp→DE→β→Prop
def PM(P:Py α β):Prop:=∀a σ H0 H1 H' F' e b,(∀x:Addr,H1 x=none→H0 x=none)→P a σ H1 H' F' e b→P a σ H0 H' F' e b
def Ct(K:W.Frag)(cl:Str→Addr)(E:XK)(P:Py α β)(r:Option (R α))(σ:St)(H F:Hp)(env:DE)(Q:β→Hp→Prop):Prop:=match r with
 | none=>False
 | some (.ok a e)=>∀b H' F',Frm σ H F env σ H' F' e→Rel K cl σ H' F' e→P a σ H H' F' e b→Q b H'
 | some (.ex c)=>∀H' F',FX σ H F env H' F'→∀cx,Xf K cl F' c cx→E (.ref (cl c.nm)) cx H'
def Rz(K:W.Frag)(cl:Str→Addr)(F' H':Hp)(nw:Addr→Prop)(dss:List (List D))(as:List Addr):Prop:=as.Nodup∧as.length=dss.length∧∀(k:Nat) (a:Addr) (ds:List D),as[k]? = some a→dss[k]? = some ds→∃xs,H' a=some (.lst xs)∧F' a=none∧nw a∧Rps K cl F' ds xs
theorem Rz.imp{nw nw':Addr→Prop}{dss:List (List D)}{as:List Addr}(h:Rz K cl F' H' nw dss as)(i:∀a xs,H' a=some (.lst xs)→F' a=none→nw a→nw' a):Rz K cl F' H' nw' dss as :=
 ⟨h.1,h.2.1,fun k a ds e1 e2=>by obtain⟨xs,h1,h2,h3,h4⟩:=h.2.2 k a ds e1 e2;exact⟨xs,h1,h2,i a xs h1 h2 h3,h4⟩⟩
def Cs(K:W.Frag)(cl:Str→Addr)(E:XK)(r:Option RS)(σ:St)(H F:Hp)(env:DE)(N:Ends):Prop:=match r with
 | none=>False
 | some (.nx e)=>∀σ' H' F',Frm σ H F env σ' H' F' e→Rel K cl σ' H' F' e→N.nx σ' H'
 | some (.bk e)=>∀σ' H' F',Frm σ H F env σ' H' F' e→Rel K cl σ' H' F' e→N.bk σ' H'
 | some (.ct e)=>∀σ' H' F',Frm σ H F env σ' H' F' e→Rel K cl σ' H' F' e→N.ct σ' H'
 | some (.rt d)=>∀v H' F',FX σ H F env H' F'→Rp K cl F' d v→N.rt v H'
 | some (.ro ds)=>∀a xs H' F',FX σ H F env H' F'→H' a=some (.lst xs)→F' a=none→(∀o,H a=some o→Ow σ env a)→Rps K cl F' ds xs→N.rt (.ref a) H'
 | some (.rz dss)=>∀p as H' F',FX σ H F env H' F'→H p=none→H' p=some (.tup (as.map V.ref))→F' p=none→Rz K cl F' H' (fun a=>∀o,H a=some o→Ow σ env a) dss as→N.rt (.ref p) H'
 | some (.rp n ds)=>∀p a xs H' F',FX σ H F env H' F'→H p=none→H' p=some (.tup [.int n,.ref a])→F' p=none→H' a=some (.lst xs)→F' a=none→(∀o,H a=some o→Ow σ env a)→Rps K cl F' ds xs→N.rt (.ref p) H'
 | some (.ex c)=>∀H' F',FX σ H F env H' F'→∀cx,Xf K cl F' c cx→E (.ref (cl c.nm)) cx H'
theorem Ct.mono{P:Py α β}{r:Option (R α)}{Q Q':β→Hp→Prop}(h:Ct K cl E P r σ H F env Q)(q:∀b H',Q b H'→Q' b H'):Ct K cl E P r σ H F env Q':=by
 unfold Ct at h ⊢
 split at h
 ·exact h
 ·exact fun b H' F' f R p=>q _ _ (h b H' F' f R p)
 ·exact h
theorem Ct.from{P2:Py γ δ}{r:Option (R γ)}{Q:δ→Hp→Prop}(f:Frm σ H F env σ H1 F1 env1)(pm:PM P2)(h:Ct K cl E P2 r σ H F env Q):Ct K cl E P2 r σ H1 F1 env1 Q:=by
 unfold Ct at h ⊢
 split at h
 ·exact h
 ·exact fun b H' F' f2 R2 p2=>h b H' F' (f.trans f2) R2 (pm _ _ _ _ _ _ _ _ f.dom p2)
 ·exact fun H' F' x=>h H' F' (f.fx x)
theorem Ct.bnd{P1:Py α β}{P2:Py γ δ}{r:Option (R α)}{k:α→DE→Option (R γ)}{Q:δ→Hp→Prop}(h:Ct K cl E P2 (bnd r k) σ H F env Q)(pm:PM P2) :
  Ct K cl E P1 r σ H F env fun b H1=>∃F1 env1 a,Same F F1∧Rel K cl σ H1 F1 env1∧P1 a σ H H1 F1 env1 b∧Ct K cl E P2 (k a env1) σ H1 F1 env1 Q:=by
 unfold Ct
 rcases r with _ | ⟨a,e⟩ | c
 ·exact h
 ·intro b H1 F1 f R p
  refine⟨F1,e,a,f.fz,R,p,?_⟩
  have h:Ct K cl E P2 (k a e) σ H F env Q:=h
  exact Ct.from f pm h
 ·exact h
theorem Cs.from{r:Option RS}{N:Ends}(f:Frm σ H F env σ' H1 F1 env1)(h:Cs K cl E r σ H F env N):Cs K cl E r σ' H1 F1 env1 N:=by
 unfold Cs at h ⊢
 split at h
 ·exact h
 ·exact fun σ' H' F' f2 R2=>h σ' H' F' (f.trans f2) R2
 ·exact fun σ' H' F' f2 R2=>h σ' H' F' (f.trans f2) R2
 ·exact fun σ' H' F' f2 R2=>h σ' H' F' (f.trans f2) R2
 ·exact fun v H' F' x p=>h v H' F' (f.fx x) p
 ·refine fun a xs H' F' x ha fa nw p=>h a xs H' F' (f.fx x) ha fa (fun o e=>?_) p
  refine Classical.byContradiction fun w=>?_
  cases q:F a with
  | none =>
   obtain⟨h1,f1,w1⟩:=f.hid a o e q w
   exact w1 (nw o h1)
  | some u=>rw[x.fz _ _ (f.fz _ _ q)]at fa;cases fa
 ·refine fun p as H' F' x hp ht fp rz=>h p as H' F' (f.fx x) (f.dom p hp) ht fp (rz.imp fun a xs ha fa nw o e=>?_)
  refine Classical.byContradiction fun w=>?_
  cases q:F a with
  | none =>
   obtain⟨h1,f1,w1⟩:=f.hid a o e q w
   exact w1 (nw o h1)
  | some u=>rw[x.fz _ _ (f.fz _ _ q)]at fa;cases fa
 ·refine fun p a xs H' F' x hp ht fp ha fa nw r=>h p a xs H' F' (f.fx x) (f.dom p hp) ht fp ha fa (fun o e=>?_) r
  refine Classical.byContradiction fun w=>?_
  cases q:F a with
  | none =>
   obtain⟨h1,f1,w1⟩:=f.hid a o e q w
   exact w1 (nw o h1)
  | some u=>rw[x.fz _ _ (f.fz _ _ q)]at fa;cases fa
 ·exact fun H' F' x=>h H' F' (f.fx x)
theorem Cs.bnd{P1:Py α β}{r:Option (R α)}{k:α→DE→Option RS}{N:Ends}(h:Cs K cl E (S7 r k) σ H F env N) :
  Ct K cl E P1 r σ H F env fun b H1=>∃F1 env1 a,Frm σ H F env σ H1 F1 env1∧Rel K cl σ H1 F1 env1∧P1 a σ H H1 F1 env1 b∧Cs K cl E (k a env1) σ H F env N:=by
 unfold Ct
 rcases r with _ | ⟨a,e⟩ | c
 ·exact h
 ·intro b H1 F1 f R p
  exact⟨F1,e,a,f,R,p,h⟩
 ·exact h
end
def PZ(K:W.Frag)(cl:Str→Addr):Py D V:=fun d _ _ _ F' _ v=>Rp K cl F' d v
def PAs(K:W.Frag)(cl:Str→Addr):Py (List D) (List V):=fun ds _ _ _ F' _ vs=>Rps K cl F' ds vs
def PB:Py Bool Bool:=fun b _ _ _ _ _ c=>c=b
def PI':Py (Option Int) (Option Int):=fun b _ _ _ _ _ c=>c=b
def PN(K:W.Frag)(cl:Str→Addr):Py (List D) V:=fun ds σ H H' F' e v=>∃a xs,v=.ref a∧H a=none∧H' a=some (.lst xs)∧F' a=none∧(∀j,Mu e j→σ[j]?≠some (some (.ref a)))∧Rps K cl F' ds xs
theorem a0U{K cl}:PM (PZ K cl):=fun _ _ _ _ _ _ _ _ _ h=>h
theorem b3P{K cl}:PM (PAs K cl):=fun _ _ _ _ _ _ _ _ _ h=>h
theorem a7I:PM PB:=fun _ _ _ _ _ _ _ _ _ h=>h
theorem b5m:PM PI':=fun _ _ _ _ _ _ _ _ _ h=>h
theorem a1h{K cl}:PM (PN K cl):=fun _ _ _ _ _ _ _ _ g ⟨a,xs,e,h,r⟩=>⟨a,xs,e,g a h,r⟩
abbrev ZF:=DE→Option (R D)
abbrev NF:=DE→Option (R (List D))
abbrev AF:=DE→Option (R (List D))
abbrev BF:=DE→Option (R Bool)
abbrev OF:=DE→Option (R (Option Int))
abbrev SF:=DE→Option RS
section
variable (K:W.Frag)(cl:Str→Addr)(E:XK)
def A9(t:TE)(f:ZF):Prop:=∀σ H Q env F,Rel K cl σ H F env→Ct K cl E (PZ K cl) (f env) σ H F env Q→t σ H Q
def Y1(t:TE)(f:NF):Prop:=∀σ H Q env F,Rel K cl σ H F env→Ct K cl E (PN K cl) (f env) σ H F env Q→t σ H Q
def Z3(t:TA)(f:AF):Prop:=∀σ H Q env F,Rel K cl σ H F env→Ct K cl E (PAs K cl) (f env) σ H F env Q→t σ H Q
def Q8(t:TT)(f:BF):Prop:=∀σ H Q env F,Rel K cl σ H F env→Ct K cl E PB (f env) σ H F env Q→t σ H Q
def RfO(t:TO)(f:OF):Prop:=∀σ H Q env F,Rel K cl σ H F env→Ct K cl E PI' (f env) σ H F env Q→t σ H Q
def RfS(t:TS)(f:SF):Prop:=∀(N:Ends) σ H env F,Rel K cl σ H F env→Cs K cl E (f env) σ H F env N→t N σ H
end
def eC(d:D):ZF:=fun e=>some (.ok d e)
def eV(i:Nat):ZF:=fun e=>match e[i]? with
 | some (.fz d)=>some (.ok d e)
 | some (.ow ds)=>some (.ok (.lst ds) (e.set i (.fz (.lst ds))))
 | _=>none
def look(e:DE)(i:Nat):Option D:=match e[i]? with
 | some (.fz d)=>some d
 | some (.ow ds)=>some (.lst ds)
 | some (.hd ds)=>some (.lst ds)
 | _=>none
def Rb(K:W.Frag)(cl:Str→Addr)(F H:Hp)(d:D)(v:V):Prop:=Rp K cl F d v∨∃a xs ds,v=.ref a∧d=.lst ds∧H a=some (.lst xs)∧Rps K cl F ds xs
section
variable {K:W.Frag}{cl:Str→Addr}{E:XK}{σ:St}{H F:Hp}{env:DE}
theorem Rel.look{i:Nat}{d:D}(R:Rel K cl σ H F env)(h:look env i=some d):∃v,σ[i]? = some (some v)∧Rb K cl F H d v:=by
 unfold L2.look at h
 split at h
 ·rename_i q;cases h;obtain⟨v,e,r⟩:=R.fz i d q;exact⟨v,e,.inl r⟩
 ·rename_i ds q;cases h;obtain⟨a,xs,e,hH,_,r⟩:=R.mu i ds (.inl q);exact⟨_,e,.inr ⟨a,xs,ds,rfl,rfl,hH,r⟩⟩
 ·rename_i ds q;cases h;obtain⟨a,xs,e,hH,_,r⟩:=R.mu i ds (.inr q);exact⟨_,e,.inr ⟨a,xs,ds,rfl,rfl,hH,r⟩⟩
 ·cases h
theorem d6{v:V}{d:D}(h:∀F,Rp K cl F d v:=by intro F;simp only[Rp]):A9 K cl E (tC v) (eC d):=fun σ H Q env F R h'=>h' v H F Frm.refl R (h F)
theorem a7{i:Nat}:A9 K cl E (R9 i) (eV i):=by
 intro σ H Q env F R h
 unfold eV at h
 split at h
 ·rename_i d q
  obtain⟨v,e,r⟩:=R.fz i d q
  exact⟨v,e,h v H F Frm.refl R r⟩
 ·rename_i ds q
  obtain⟨a,F',e,fr,R',r⟩:=R.freeze q
  exact⟨_,e,h _ H F' fr R' r⟩
 ·exact h.elim
end
def OpOk(K:W.Frag)(cl:Str→Addr)(r:R2)(g:D→D→Option D):Prop:=∀x y d e z H F Q,Same F H→Rb K cl F H d x→Rb K cl F H e y→g d e=some z→(∀v H' F',Gr H F H' F'→Rp K cl F' z v→Q v H')→r x y H Q
def eB(g:D→D→Option D)(f k:ZF):ZF:=fun e=>bnd (f e) fun d e1=>bnd (k e1) fun d' e2=>opt (g d d') e2
def m7(g:D→D→Option D)(i:Nat)(k:ZF):ZF:=fun e=>match look e i with
 | none=>none
 | some _=>bnd (k e) fun d' e2=>match look e2 i with
  | some d=>opt (g d d') e2
  | none=>none
def a0t(g:D→D→Option D)(i j:Nat):ZF:=fun e=>match look e i,look e j with
 | some d,some d'=>opt (g d d') e
 | _,_=>none
section
variable {K:W.Frag}{cl:Str→Addr}{E:XK}{r:R2}{g:D→D→Option D}{ta tb:TE}{f k:ZF}{i j:Nat}
theorem OpOk.fin{σ:St}{H F:Hp}{env:DE}{x y:V}{d e:D}{Q:VK}(ok:OpOk K cl r g)(R:Rel K cl σ H F env)(hx:Rb K cl F H d x)(hy:Rb K cl F H e y)(h:Ct K cl E (PZ K cl) (opt (g d e) env) σ H F env Q):r x y H Q:=by
 cases hz:g d e with
 | none=>rw[hz]at h;exact h.elim
 | some z =>
  rw[hz]at h
  exact ok x y d e z H F Q R.sub hx hy hz fun v H' F' gr p=>h v H' F' (R.frm gr) (R.gr gr) p
theorem a8(ok:OpOk K cl r g)(ha:A9 K cl E ta f)(hb:A9 K cl E tb k):A9 K cl E (tOp r ta tb) (eB g f k):=by
 intro σ H Q env F R h
 refine ha σ H _ env F R ((Ct.bnd h a0U).mono fun x H1 ⟨F1,e1,d,s1,R1,p1,h1⟩=>?_)
 refine hb σ H1 _ e1 F1 R1 ((Ct.bnd h1 a0U).mono fun y H2 ⟨F2,e2,e,s2,R2,p2,h2⟩=>?_)
 exact ok.fin R2 (.inl (Rp.mono s2 _ _ p1)) (.inl p2) h2
theorem n8(ok:OpOk K cl r g)(hb:A9 K cl E tb k):A9 K cl E (tOp r (R9 i) tb) (m7 g i k):=by
 intro σ H Q env F R h
 unfold m7 at h
 cases q:look env i with
 | none=>rw[q]at h;exact h.elim
 | some d0 =>
  rw[q]at h
  obtain⟨x,e0,_⟩:=R.look q
  refine⟨x,e0,hb σ H _ env F R ((Ct.bnd h a0U).mono fun y H2 ⟨F2,e2,e,s2,R2,p2,h2⟩=>?_)⟩
  cases q2:look e2 i with
  | none=>rw[q2]at h2;exact h2.elim
  | some d =>
   rw[q2]at h2
   obtain⟨x',e',rb⟩:=R2.look q2
   rw[e0]at e';cases e'
   exact ok.fin R2 rb (.inl p2) h2
theorem a30(ok:OpOk K cl r g):A9 K cl E (tOp r (R9 i) (R9 j)) (a0t g i j):=by
 intro σ H Q env F R h
 unfold a0t at h
 cases q:look env i with
 | none=>rw[q]at h;exact h.elim
 | some d =>
  cases q2:look env j with
  | none=>rw[q,q2]at h;exact h.elim
  | some d' =>
   rw[q,q2]at h
   obtain⟨x,e,rb⟩:=R.look q
   obtain⟨y,e',rb'⟩:=R.look q2
   exact⟨x,e,y,e',ok.fin R rb rb' h⟩
end
section
variable {K:W.Frag}{cl:Str→Addr}{E:XK}
theorem Rb.int{F H:Hp}{i:Int}{v:V}(h:Rb K cl F H (.int i) v):v=.int i:=by
 rcases h with h | ⟨_,_,_,_,z,_⟩
 ·simpa only[Rp]using h
 ·cases z
theorem Rb.bl{F H:Hp}{i:Bool}{v:V}(h:Rb K cl F H (.bl i) v):v=.bl i:=by
 rcases h with h | ⟨_,_,_,_,z,_⟩
 ·simpa only[Rp]using h
 ·cases z
theorem Rb.str{F H:Hp}{i:Str}{v:V}(h:Rb K cl F H (.str i) v):v=.str i:=by
 rcases h with h | ⟨_,_,_,_,z,_⟩
 ·simpa only[Rp]using h
 ·cases z
theorem Rb.non{F H:Hp}{v:V}(h:Rb K cl F H .non v):v=.non:=by
 rcases h with h | ⟨_,_,_,_,z,_⟩
 ·simpa only[Rp]using h
 ·cases z
theorem Rb.lst{F H:Hp}{ds:List D}{v:V}(s:Same F H)(h:Rb K cl F H (.lst ds) v):∃a xs,v=.ref a∧H a=some (.lst xs)∧Rps K cl F ds xs:=by
 rcases h with h | ⟨a,xs,ds',e,z,h,r⟩
 ·simp only[Rp]at h
  obtain⟨a,xs,e,h,r⟩:=h
  exact⟨a,xs,e,s _ _ h,r⟩
 ·cases z;exact⟨a,xs,e,h,r⟩
theorem Rb.tup{F H:Hp}{ds:List D}{v:V}(s:Same F H)(h:Rb K cl F H (.tup ds) v):∃a xs,v=.ref a∧H a=some (.tup xs)∧Rps K cl F ds xs:=by
 rcases h with h | ⟨_,_,_,_,z,_⟩
 ·simp only[Rp]at h
  obtain⟨a,xs,e,h,r⟩:=h
  exact⟨a,xs,e,s _ _ h,r⟩
 ·cases z
theorem Rb.scr{F H:Hp}{ns:List Int}{v:V}(s:Same F H)(h:Rb K cl F H (.scr ns) v):∃a,v=.ref a∧Scr K H a (ns.map V.int):=by
 rcases h with h | ⟨_,_,_,_,z,_⟩
 ·simp only[Rp]at h
  obtain⟨a,e,h⟩:=h
  exact⟨a,e,h.same s⟩
 ·cases z
def gI(C:Int→Int→Prop) [∀i j,Decidable (C i j)] (g:Int→Int→D):D→D→Option D
 | .int i,.int j=>if C i j then some (g i j)else none
 | _,_=>none
def gI0(g:Int→Int→D):D→D→Option D
 | .int i,.int j=>some (g i j)
 | _,_=>none
theorem a7J{C:Int→Int→Prop} [∀i j,Decidable (C i j)] {g:Int→Int→V} {g':Int→Int→D} (hg:∀F i j,Rp K cl F (g' i j) (g i j)):OpOk K cl (rI C g) (gI C g'):=by
 intro x y d e z H F Q s hx hy h q
 unfold gI at h
 split at h
 ·rename_i i j
  split at h
  ·rename_i c;cases h
   exact⟨i,j,hx.int,hy.int,c,q _ H F (.refl s) (hg F i j)⟩
  ·cases h
 ·cases h
theorem a5a{g:Int→Int→V}{g':Int→Int→D}(hg:∀F i j,Rp K cl F (g' i j) (g i j)):OpOk K cl (rI0 g) (gI0 g'):=by
 intro x y d e z H F Q s hx hy h q
 unfold gI0 at h
 split at h
 ·rename_i i j
  cases h
  exact⟨i,j,hx.int,hy.int,q _ H F (.refl s) (hg F i j)⟩
 ·cases h
end
section
variable {K:W.Frag}{cl:Str→Addr}{E:XK}{σ:St}{H F:Hp}{env:DE}
theorem Rel.newN{p:Addr}{o:HO}(R:Rel K cl σ H F env)(hp:H p=none):Rel K cl σ (upd H p o) F env∧Frm σ H F env σ (upd H p o) F env:=by
 have fp:F p=none:=R.sub.free hp
 have ne:∀a u,H a=some u→a≠p:=fun a u h z=>by rw[z,hp]at h;cases h
 refine⟨⟨R.sub.trans (Z7 hp _),R.len,R.fz,fun i ds h=>?_,R.inj,R.od.newO hp⟩,⟨Same.refl _,fun a u h f w=>?_,fun _ _ h=>⟨h,rfl⟩,fun a h=>?_⟩⟩
 ·obtain⟨a,xs,e,hH,hF,r⟩:=R.mu i ds h
  exact⟨a,xs,e,by rw[f9 (ne _ _ hH)];exact hH,hF,r⟩
 ·exact⟨by rw[f9 (ne _ _ h)];exact h,f,w⟩
 ·by_cases z:a=p
  ·rw[z];exact hp
  ·rw[f9 z]at h;exact h
theorem Ct.newN{p:Addr}{xs:List V}{ds:List D}{Q:VK}(R:Rel K cl σ H F env)(hp:H p=none)(r:Rps K cl F ds xs)(h:Ct K cl E (PN K cl) (some (.ok ds env)) σ H F env Q):Q (.ref p) (upd H p (.lst xs)):=by
 obtain⟨R',f⟩:=R.newN (o:=.lst xs) hp
 refine h _ _ F f R' ⟨p,xs,rfl,hp,k9,R.sub.free hp,fun j mj e=>?_,r⟩
 obtain⟨ds',q⟩:=mj
 obtain⟨a,ys,e1,hH,_⟩:=R.mu j ds' q
 rw[e]at e1;cases e1
 rw[hp]at hH;cases hH
def zN(f:NF):ZF:=fun e=>bnd (f e) fun ds e1=>some (.ok (.lst ds) e1)
theorem U2{t:TE}{f:NF}(h:Y1 K cl E t f):A9 K cl E t (zN f):=by
 intro σ H Q env F R q
 refine h σ H Q env F R ?_
 unfold zN at q
 rcases hf:f env with _ | ⟨ds,e1⟩ | c
 ·rw[hf]at q;exact q
 ·rw[hf]at q
  rintro b H' F' fr R' ⟨a,xs,rfl,hn,hH,hF,nm,r⟩
  have sF:Same F' (upd F' a (.lst xs)):=Z7 hF _
  refine q _ H' (upd F' a (.lst xs)) ⟨fr.fz.trans sF,fun b o hb fb w=>?_,fr.keep,fr.dom⟩ ⟨fun b o z=>?_,R'.len,fun i d z=>?_,fun i es z=>?_,R'.inj,R'.od.frzL hH hF⟩ (by show Rp K cl _ (.lst ds) _;simp only[Rp];exact⟨a,xs,rfl,k9,r.mono sF⟩)
  ·obtain⟨h1,f1,w1⟩:=fr.hid b o hb fb w
   have nb:b≠a:=fun z=>by rw[z,hn]at hb;cases hb
   exact⟨h1,by rw[f9 nb];exact f1,w1⟩
  ·by_cases y:b=a
   ·subst y;rw[k9]at z;cases z;exact hH
   ·rw[f9 y]at z;exact R'.sub _ _ z
  ·obtain⟨v,e,r1⟩:=R'.fz i d z
   exact⟨v,e,r1.mono sF⟩
  ·obtain⟨b,ys,e,h1,f1,r1⟩:=R'.mu i es z
   have nb:b≠a:=fun y=>nm i ⟨es,z⟩ (by rw[e,y])
   exact⟨b,ys,e,h1,by rw[f9 nb];exact f1,r1.mono sF⟩
 ·rw[hf]at q;exact q
def aN:AF:=fun e=>some (.ok [] e)
def aC(f:ZF)(k:AF):AF:=fun e=>bnd (f e) fun d e1=>bnd (k e1) fun ds e2=>some (.ok (d::ds) e2)
theorem g9:Z3 K cl E X8 aN:=fun σ H Q env F R h=>h [] H F Frm.refl R .nil
theorem b9{te:TE}{ta:TA}{f:ZF}{k:AF}(hf:A9 K cl E te f)(hk:Z3 K cl E ta k):Z3 K cl E (L5 te ta) (aC f k):=by
 intro σ H Q env F R h
 refine hf σ H _ env F R ((Ct.bnd h b3P).mono fun x H1 ⟨F1,e1,d,s1,R1,p1,h1⟩=>?_)
 refine hk σ H1 _ e1 F1 R1 ((Ct.bnd h1 b3P).mono fun xs H2 ⟨F2,e2,ds,s2,R2,p2,h2⟩=>?_)
 exact h2 (x::xs) H2 F2 Frm.refl R2 (.cons (Rp.mono s2 _ _ p1) p2)
def eT(f:AF):ZF:=fun e=>bnd (f e) fun ds e1=>if ds.length≤sizeLine then some (.ok (.tup ds) e1)else none
def eL(f:AF):NF:=fun e=>bnd (f e) fun ds e1=>if ds.length≤sizeLine then some (.ok ds e1)else none
theorem E6{ta:TA}{f:AF}(hf:Z3 K cl E ta f):A9 K cl E (a9K ta) (eT f):=by
 intro σ H Q env F R h
 refine hf σ H _ env F R ((Ct.bnd h a0U).mono fun xs H1 ⟨F1,e1,ds,s1,R1,p1,h1⟩=>?_)
 have hl:ds.length=xs.length:=Rps.length p1
 split at h1
 ·rename_i z
  refine⟨by rw[← hl];exact z,fun p hp=>?_⟩
  have g:Gr H1 F1 (upd H1 p (.tup xs)) (upd F1 p (.tup xs)):=.new R1.sub hp
  exact h1 _ _ _ (R1.frm g) (R1.gr g) (by show Rp K cl _ (.tup ds) _;simp only[Rp];exact⟨p,xs,rfl,k9,Rps.mono g.fz _ _ p1⟩)
 ·exact h1.elim
theorem a0V{ta:TA}{f:AF}(hf:Z3 K cl E ta f):Y1 K cl E (b3n ta) (eL f):=by
 intro σ H Q env F R h
 refine hf σ H _ env F R ((Ct.bnd h a1h).mono fun xs H1 ⟨F1,e1,ds,s1,R1,p1,h1⟩=>?_)
 have hl:ds.length=xs.length:=Rps.length p1
 split at h1
 ·rename_i z
  exact⟨by rw[← hl];exact z,fun p hp=>Ct.newN R1 hp p1 h1⟩
 ·exact h1.elim
def bZ(f:ZF):BF:=fun e=>bnd (f e) fun d e1=>match d with
 | .bl b=>some (.ok b e1)
 | _=>none
theorem U3{t:TE}{f:ZF}(hf:A9 K cl E t f):Q8 K cl E (tB t) (bZ f):=by
 intro σ H Q env F R h
 refine hf σ H _ env F R ((Ct.bnd h a7I).mono fun x H1 ⟨F1,e1,d,s1,R1,p1,h1⟩=>?_)
 split at h1
 ·rename_i b
  have:x=.bl b:=by have:=(show Rp K cl F1 (.bl b) x from p1);simpa only[Rp]using this
  exact⟨b,this,h1 b H1 F1 Frm.refl R1 rfl⟩
 ·exact h1.elim
theorem x8{t:TE}{f:ZF}(hf:A9 K cl E t f):Q8 K cl E (b0_ t) (bZ f):=U3 hf
def G7(f:BF):BF:=fun e=>bnd (f e) fun b e1=>some (.ok (!b) e1)
def Y2(f k:BF):BF:=fun e=>bnd (f e) fun b e1=>if b=true then k e1 else some (.ok false e1)
def Q9(f k:BF):BF:=fun e=>bnd (f e) fun b e1=>if b=true then some (.ok true e1)else k e1
theorem L9{t:TT}{f:BF}(hf:Q8 K cl E t f):Q8 K cl E (b3a t) (G7 f):=by
 intro σ H Q env F R h
 refine hf σ H _ env F R ((Ct.bnd h a7I).mono fun x H1 ⟨F1,e1,d,s1,R1,p1,h1⟩=>?_)
 cases (show x=d from p1)
 exact h1 _ H1 F1 Frm.refl R1 rfl
theorem a0N{t u:TT}{f k:BF}(hf:Q8 K cl E t f)(hk:Q8 K cl E u k):Q8 K cl E (b2_ t u) (Y2 f k):=by
 intro σ H Q env F R h
 refine hf σ H _ env F R ((Ct.bnd h a7I).mono fun x H1 ⟨F1,e1,d,s1,R1,p1,h1⟩=>?_)
 cases (show x=d from p1)
 by_cases z:x=true
 ·rw[if_pos z]at h1 ⊢;exact hk σ H1 Q e1 F1 R1 h1
 ·rw[if_neg z]at h1 ⊢;exact h1 _ H1 F1 Frm.refl R1 rfl
theorem V4{t u:TT}{f k:BF}(hf:Q8 K cl E t f)(hk:Q8 K cl E u k):Q8 K cl E (tOr t u) (Q9 f k):=by
 intro σ H Q env F R h
 refine hf σ H _ env F R ((Ct.bnd h a7I).mono fun x H1 ⟨F1,e1,d,s1,R1,p1,h1⟩=>?_)
 cases (show x=d from p1)
 by_cases z:x=true
 ·rw[if_pos z]at h1 ⊢;exact h1 _ H1 F1 Frm.refl R1 rfl
 ·rw[if_neg z]at h1 ⊢;exact hk σ H1 Q e1 F1 R1 h1
def a98(f:ZF):ZF:=fun e=>bnd (f e) fun d e1=>match d with
 | .bl b=>some (.ok (.bl (!b)) e1)
 | _=>none
def a99(f k:ZF):ZF:=fun e=>bnd (f e) fun d e1=>match d with
 | .bl b=>if b=true then k e1 else some (.ok (.bl false) e1)
 | _=>none
theorem b3Q{t:TE}{f:ZF}(hf:A9 K cl E t f):A9 K cl E (b05 t) (a98 f):=by
 intro σ H Q env F R h
 refine hf σ H _ env F R ((Ct.bnd h a0U).mono fun x H1 ⟨F1,e1,d,s1,R1,p1,h1⟩=>?_)
 split at h1
 ·rename_i b
  have:x=.bl b:=by have:=(show Rp K cl F1 (.bl b) x from p1);simpa only[Rp]using this
  exact⟨b,this,h1 _ H1 F1 Frm.refl R1 (by show Rp K cl F1 (.bl _) _;simp only[Rp])⟩
 ·exact h1.elim
theorem b3R{t u:TE}{f k:ZF}(hf:A9 K cl E t f)(hk:A9 K cl E u k):A9 K cl E (b04 t u) (a99 f k):=by
 intro σ H Q env F R h
 refine hf σ H _ env F R ((Ct.bnd h a0U).mono fun x H1 ⟨F1,e1,d,s1,R1,p1,h1⟩=>?_)
 split at h1
 ·rename_i b
  have:x=.bl b:=by have:=(show Rp K cl F1 (.bl b) x from p1);simpa only[Rp]using this
  refine⟨b,this,?_⟩
  by_cases z:b=true
  ·rw[if_pos z]at h1 ⊢;exact hk σ H1 Q e1 F1 R1 h1
  ·rw[if_neg z]at h1 ⊢;exact h1 _ H1 F1 Frm.refl R1 (by show Rp K cl F1 (.bl _) _;simp only[Rp])
 ·exact h1.elim
def b3S(K:W.Frag)(cl:Str→Addr)(r:V→Hp→VK→Prop)(g:D→Option D):Prop:=∀x d z H F Q,Same F H→Rb K cl F H d x→g d=some z→(∀v H' F',Gr H F H' F'→Rp K cl F' z v→Q v H')→r x H Q
def eU(g:D→Option D)(f:ZF):ZF:=fun e=>bnd (f e) fun d e1=>opt (g d) e1
theorem b5n{r:V→Hp→VK→Prop}{g:D→Option D}{t:TE}{f:ZF}(ok:b3S K cl r g)(hf:A9 K cl E t f):A9 K cl E (tUn r t) (eU g f):=by
 intro σ H Q env F R h
 refine hf σ H _ env F R ((Ct.bnd h a0U).mono fun x H1 ⟨F1,e1,d,s1,R1,p1,h1⟩=>?_)
 cases hz:g d with
 | none=>rw[hz]at h1;exact h1.elim
 | some z =>
  rw[hz]at h1
  exact ok x d z H1 F1 Q R1.sub (.inl p1) hz fun v H' F' gr p=>h1 v H' F' (R1.frm gr) (R1.gr gr) p
def a5C:D→Option D
 | .int i=>some (.int (-i))
 | _=>none
theorem b3T:b3S K cl (rU fun i=>.int (-i)) a5C:=by
 intro x d z H F Q s hx h q
 unfold a5C at h
 split at h
 ·rename_i i;cases h
  exact⟨i,hx.int,q _ H F (.refl s) (by simp only[Rp])⟩
 ·cases h
def a5D(K:W.Frag)(cl:Str→Addr)(r:List V→Hp→VK→Prop)(g:List D→Option D):Prop:=∀xs ds z H F Q,Same F H→Rps K cl F ds xs→g ds=some z→(∀v H' F',Gr H F H' F'→Rp K cl F' z v→Q v H')→r xs H Q
def CbOk1(K:W.Frag)(cl:Str→Addr)(r:List V→Hp→VK→Prop)(g:D→Option D):Prop:=∀x d z H F Q,Same F H→Rb K cl F H d x→g d=some z→(∀v H' F',Gr H F H' F'→Rp K cl F' z v→Q v H')→r [x] H Q
def eCB(g:List D→Option D)(f:AF):ZF:=fun e=>bnd (f e) fun ds e1=>opt (g ds) e1
def y8(g:D→Option D)(i:Nat):ZF:=fun e=>match look e i with
 | some d=>opt (g d) e
 | none=>none
theorem a1J{r:List V→Hp→VK→Prop}{g:List D→Option D}{t:TA}{f:AF}(ok:a5D K cl r g)(hf:Z3 K cl E t f):A9 K cl E (tCB r t) (eCB g f):=by
 intro σ H Q env F R h
 refine hf σ H _ env F R ((Ct.bnd h a0U).mono fun x H1 ⟨F1,e1,d,s1,R1,p1,h1⟩=>?_)
 cases hz:g d with
 | none=>rw[hz]at h1;exact h1.elim
 | some z =>
  rw[hz]at h1
  exact ok x d z H1 F1 Q R1.sub p1 hz fun v H' F' gr p=>h1 v H' F' (R1.frm gr) (R1.gr gr) p
theorem J4{r:List V→Hp→VK→Prop}{g:D→Option D}{i:Nat}(ok:CbOk1 K cl r g):A9 K cl E (tCB r (L5 (R9 i) X8)) (y8 g i):=by
 intro σ H Q env F R h
 unfold y8 at h
 cases q:look env i with
 | none=>rw[q]at h;exact h.elim
 | some d =>
  rw[q]at h
  obtain⟨x,e,rb⟩:=R.look q
  refine⟨x,e,?_⟩
  cases hz:g d with
  | none=>simp only[hz,a1I]at h;exact h.elim
  | some z =>
   simp only[hz,a1H]at h
   exact ok x d z H F Q R.sub rb hz fun v H' F' gr p=>h v H' F' (R.frm gr) (R.gr gr) p
def g1(g:D→Option D):List D→Option D
 | [d]=>g d
 | _=>none
theorem CbOk1.cb{r:List V→Hp→VK→Prop}{g:D→Option D}(ok:CbOk1 K cl r g):a5D K cl r (g1 g):=by
 intro xs ds z H F Q s hx h q
 unfold g1 at h
 split at h
 ·obtain⟨v,r,rfl,h1,h2⟩:=hx.inv
  rw[h2.inv0]
  exact ok v _ z H F Q s (.inl h1) h q
 ·cases h
def a7K(K:W.Frag)(cl:Str→Addr)(r:List V→Hp→VK→Prop)(g:D→Option (List D)):Prop:=∀x d zs H F Q,Same F H→Rb K cl F H d x→g d=some zs→(∀p xs,H p=none→Rps K cl F zs xs→Q (.ref p) (upd H p (.lst xs)))→r [x] H Q
def nCB(g:D→Option (List D))(f:ZF):NF:=fun e=>bnd (f e) fun d e1=>opt (g d) e1
def nCV(g:D→Option (List D))(i:Nat):NF:=fun e=>match look e i with
 | some d=>opt (g d) e
 | none=>none
theorem b3U{r:List V→Hp→VK→Prop}{g:D→Option (List D)}{t:TE}{f:ZF}(ok:a7K K cl r g)(hf:A9 K cl E t f):Y1 K cl E (tCB r (L5 t X8)) (nCB g f):=by
 intro σ H Q env F R h
 refine hf σ H _ env F R ((Ct.bnd h a1h).mono fun x H1 ⟨F1,e1,d,s1,R1,p1,h1⟩=>?_)
 cases hz:g d with
 | none=>rw[hz]at h1;exact h1.elim
 | some z =>
  rw[hz]at h1
  exact ok x d z H1 F1 Q R1.sub (.inl p1) hz fun p xs hp r=>Ct.newN R1 hp r h1
theorem a15{r:List V→Hp→VK→Prop}{g:D→Option (List D)}{i:Nat}(ok:a7K K cl r g):Y1 K cl E (tCB r (L5 (R9 i) X8)) (nCV g i):=by
 intro σ H Q env F R h
 unfold nCV at h
 cases q:look env i with
 | none=>rw[q]at h;exact h.elim
 | some d =>
  rw[q]at h
  obtain⟨x,e,rb⟩:=R.look q
  refine⟨x,e,?_⟩
  cases hz:g d with
  | none=>simp only[hz,a1I]at h;exact h.elim
  | some z =>
   simp only[hz,a1H]at h
   exact ok x d z H F Q R.sub rb hz fun p xs hp r=>Ct.newN R hp r h
def b3V(K:W.Frag)(cl:Str→Addr)(r:R2)(g:D→D→Option (List D)):Prop:=∀x y d e zs H F Q,Same F H→Rb K cl F H d x→Rb K cl F H e y→g d e=some zs→(∀p xs,H p=none→Rps K cl F zs xs→Q (.ref p) (upd H p (.lst xs)))→r x y H Q
def nB(g:D→D→Option (List D))(f k:ZF):NF:=fun e=>bnd (f e) fun d e1=>bnd (k e1) fun d' e2=>opt (g d d') e2
theorem b1i{r:R2}{g:D→D→Option (List D)}{ta tb:TE}{f k:ZF}(ok:b3V K cl r g)(ha:A9 K cl E ta f)(hb:A9 K cl E tb k):Y1 K cl E (tOp r ta tb) (nB g f k):=by
 intro σ H Q env F R h
 refine ha σ H _ env F R ((Ct.bnd h a1h).mono fun x H1 ⟨F1,e1,d,s1,R1,p1,h1⟩=>?_)
 refine hb σ H1 _ e1 F1 R1 ((Ct.bnd h1 a1h).mono fun y H2 ⟨F2,e2,e,s2,R2,p2,h2⟩=>?_)
 cases hz:g d e with
 | none=>rw[hz]at h2;exact h2.elim
 | some z =>
  rw[hz]at h2
  exact ok x y d e z H2 F2 Q R2.sub (.inl (Rp.mono s2 _ _ p1)) (.inl p2) hz fun p xs hp r=>Ct.newN R2 hp r h2
end
section
variable {K:W.Frag}{cl:Str→Addr}{E:XK}{σ:St}{H F:Hp}{env:DE}
instance decMul(i j:Int):Decidable (IntMulOk i j):=by unfold IntMulOk;infer_instance
instance decPow(i j:Int):Decidable (a3T i j):=by unfold a3T;infer_instance
abbrev u5:=gI0 fun i j=>.int (i+j)
abbrev w6:=gI0 fun i j=>.int (i-j)
abbrev t8:=gI IntMulOk fun i j=>.int (i*j)
abbrev r9:=gI (fun _ j=>0<j∧j.natAbs.log2<9000) fun i j=>.int (i/j)
abbrev l5:=gI (fun _ j=>0<j) fun i j=>.int (i%j)
abbrev S1:=gI a3T fun i j=>.int (i ^ j.toNat)
abbrev gLt:=gI0 fun i j=>.bl (decide (i<j))
abbrev gGt:=gI0 fun i j=>.bl (decide (j<i))
theorem B0:OpOk K cl (rI0 fun i j=>.int (i+j)) u5:=a5a fun F i j=>by simp only[Rp]
theorem E7:OpOk K cl (rI0 fun i j=>.int (i-j)) w6:=a5a fun F i j=>by simp only[Rp]
theorem C6:OpOk K cl (rI IntMulOk fun i j=>.int (i*j)) t8:=a7J fun F i j=>by simp only[Rp]
theorem E8:OpOk K cl (rI (fun _ j=>0<j∧j.natAbs.log2<9000) fun i j=>.int (i/j)) r9:=a7J fun F i j=>by simp only[Rp]
theorem v7:OpOk K cl (rI (fun _ j=>0<j) fun i j=>.int (i%j)) l5:=a7J fun F i j=>by simp only[Rp]
theorem a3p:OpOk K cl (rI a3T fun i j=>.int (i ^ j.toNat)) S1:=a7J fun F i j=>by simp only[Rp]
theorem a1K:OpOk K cl (rI0 fun i j=>.bl (decide (i<j))) gLt:=a5a fun F i j=>by simp only[Rp]
theorem a2p:OpOk K cl (rI0 fun i j=>.bl (decide (j<i))) gGt:=a5a fun F i j=>by simp only[Rp]
def toV:D→Option V
 | .non=>some .non
 | .bl b=>some (.bl b)
 | .int i=>some (.int i)
 | .str x=>some (.str x)
 | _=>none
theorem Rb.toV{d:D}{v u:V}(h:Rb K cl F H d v)(e:toV d=some u):v=u:=by
 cases d with
 | non=>cases e;exact h.non
 | bl b=>cases e;exact h.bl
 | int i=>cases e;exact h.int
 | str x=>cases e;exact h.str
 | _=>cases e
def B8(neg:Bool)(d e:D):Option D:=match toV d,toV e with
 | some x,some y=>if a7t x y=true then some (.bl (if neg then !decide (x=y)else decide (x=y)))else none
 | _,_=>none
theorem N5:OpOk K cl rEq (B8 false):=by
 intro x y d e z H F Q s hx hy h q
 unfold B8 at h
 split at h
 ·rename_i u w hu hw
  split at h
  ·rename_i c;cases h
   rw[hx.toV hu,hy.toV hw]
   exact⟨c,q _ H F (.refl s) (by simp only[Rp];rfl)⟩
  ·cases h
 ·cases h
theorem a3q:OpOk K cl rNe (B8 true):=by
 intro x y d e z H F Q s hx hy h q
 unfold B8 at h
 split at h
 ·rename_i u w hu hw
  split at h
  ·rename_i c;cases h
   rw[hx.toV hu,hy.toV hw]
   exact⟨c,q _ H F (.refl s) (by simp only[Rp];rfl)⟩
  ·cases h
 ·cases h
@[simp] theorem b1S(neg:Bool)(a b:Int):B8 neg (.int a) (.int b)=some (.bl (if neg then !decide (a=b)else decide (a=b))):=by
 unfold B8 toV
 simp only[a7t,if_true,V.int.injEq]
def a16(neg:Bool)(d e:D):Option D:=match d,e with
 | .non,.non=>some (.bl (!neg))
 | _,.non=>some (.bl neg)
 | _,_=>none
theorem Rb.notNon{d:D}{v:V}(h:Rb K cl F H d v)(n:d≠.non):v≠.non:=by
 rcases h with h | ⟨_,_,_,rfl,_⟩
 ·cases d<;>simp only[Rp]at h
  ·exact absurd rfl n
  all_goals first | (rw[h];intro z;cases z) | (obtain⟨_,_,rfl,_⟩:=h;intro z;cases z) | (obtain⟨_,rfl,_⟩:=h;intro z;cases z) | (obtain⟨_,_,_,rfl,_⟩:=h;intro z;cases z)
 ·intro z;cases z
theorem a6S:OpOk K cl (fun x y H Q=>y=.non∧Q (.bl (!decide (x=.non))) H) (a16 true):=by
 intro x y d e z H F Q s hx hy h q
 unfold a16 at h
 split at h
 ·cases h;rw[hx.non];exact⟨hy.non,q _ H F (.refl s) (by simp[Rp])⟩
 ·rename_i n;cases h
  exact⟨hy.non,q _ H F (.refl s) (by simp only[Rp];rw[decide_eq_false (hx.notNon n)];rfl)⟩
 ·cases h
theorem Rps.atI{ds:List D}{xs:List V}{i:Int}{d:D}(h:Rps K cl F ds xs)(e:atI ds i=some d):∃v,L2.atI xs i=some v∧Rp K cl F d v:=by
 unfold L2.atI at e ⊢
 rw[← h.length]
 cases q:V2 ds.length i with
 | none=>rw[q]at e;cases e
 | some j=>rw[q]at e;exact h.get e
def j6(d e:D):Option D:=match d,e with
 | .lst ds,.int i=>atI ds i
 | .scr ns,.int i=>(atI ns i).map .int
 | _,_=>none
def i8(d e:D):Option D:=match d,e with
 | .tup ds,.int i=>atI ds i
 | _,_=>none
theorem b1T{α β:Type}(f:α→β)(xs:List α)(i:Int):atI (xs.map f) i=(atI xs i).map f:=by
 unfold L2.atI
 rw[List.length_map]
 cases V2 xs.length i with
 | none=>rfl
 | some j=>simp
theorem n5:OpOk K cl (a9M K) j6:=by
 intro x y d e z H F Q s hx hy h q
 unfold j6 at h
 split at h
 ·obtain⟨a,xs,rfl,hH,r⟩:=hx.lst s
  obtain⟨v,e,p⟩:=r.atI h
  exact⟨a,xs,_,v,rfl,hy.int,.of hH,e,q v H F (.refl s) p⟩
 ·rename_i ns i
  obtain⟨a,rfl,hS⟩:=hx.scr s
  cases hz:atI ns i with
  | none=>rw[hz]at h;cases h
  | some n =>
   rw[hz]at h;cases h
   exact⟨a,_,_,.int n,rfl,hy.int,hS.seq,by rw[b1T,hz];rfl,q _ H F (.refl s) (by simp only[Rp])⟩
 ·cases h
theorem l4:OpOk K cl (a9N K) i8:=by
 intro x y d e z H F Q s hx hy h q
 unfold i8 at h
 split at h
 ·obtain⟨a,xs,rfl,hH,r⟩:=hx.tup s
  obtain⟨v,e,p⟩:=r.atI h
  exact⟨a,xs,_,v,rfl,hy.int,.of hH,e,q v H F (.refl s) p⟩
 ·cases h
def eqD:D→D→Bool
 | .non,.non=>true
 | .bl a,.bl b=>a == b
 | .bl a,.int b=>(if a then 1 else 0) == b
 | .int a,.bl b=>a == (if b then 1 else 0)
 | .int a,.int b=>a == b
 | .str a,.str b=>a == b
 | _,_=>false
def a7L:List D→List D→Bool
 | [],[]=>true
 | x::xs,y::ys=>eqD x y && a7L xs ys
 | _,_=>false
def u7:D→Bool
 | .non=>true
 | .bl _=>true
 | .int _=>true
 | .str _=>true
 | _=>false
theorem Rp.flat{d:D}{v:V}(h:Rp K cl F d v)(f:u7 d=true):toV d=some v∧a48 v=true:=by
 cases d<;>simp only[Rp]at h<;>first | (subst h;exact⟨rfl,rfl⟩) | cases f
theorem Rps.flat:∀{ds:List D} {vs:List V},Rps K cl F ds vs→ds.all u7=true→vs.all a48=true
 | [],_,h,_=>by rw[h.inv0];rfl
 | d::ds,_,h,f=>by
  obtain⟨v,r,rfl,h1,h2⟩:=h.inv
  rw[List.all_cons,Bool.and_eq_true]at f
  rw[List.all_cons,(h1.flat f.1).2,h2.flat f.2];rfl
theorem Rp.eq{d e:D}{v u:V}(h:Rp K cl F d v)(g:Rp K cl F e u)(fd:u7 d=true)(fe:u7 e=true):eqV v u=eqD d e:=by
 have h1:=(h.flat fd).1
 have h2:=(g.flat fe).1
 cases d<;>cases e<;>first | (cases h1;cases h2;rfl) | (cases fd;done) | (cases fe;done)
theorem Rps.eq:∀{ds es:List D} {vs us:List V},Rps K cl F ds vs→Rps K cl F es us→ds.all u7=true→es.all u7=true→a9U vs us=a7L ds es
 | [],[],_,_,h,g,_,_=>by rw[h.inv0,g.inv0];rfl
 | [],_::_,_,_,h,g,_,_=>by rw[h.inv0];obtain⟨_,_,rfl,_,_⟩:=g.inv;rfl
 | _::_,[],_,_,h,g,_,_=>by rw[g.inv0];obtain⟨_,_,rfl,_,_⟩:=h.inv;rfl
 | d::ds,e::es,_,_,h,g,fd,fe=>by
  obtain⟨v,r,rfl,h1,h2⟩:=h.inv
  obtain⟨u,r',rfl,g1,g2⟩:=g.inv
  rw[List.all_cons,Bool.and_eq_true]at fd fe
  unfold a9U a7L
  rw[h1.eq g1 fd.1 fe.1,h2.eq g2 fd.2 fe.2]
theorem Rps.rep{ds:List D}{xs:List V}(h:Rps K cl F ds xs):∀n:Nat,Rps K cl F (List.replicate n ds).flatten (List.replicate n xs).flatten
 | 0=>.nil
 | n+1=>by rw[List.replicate_succ,List.replicate_succ,List.flatten_cons,List.flatten_cons];exact h.append (h.rep n)
def a0u(d e:D):Option (List D):=match d,e with
 | .lst ds,.int k=>if -(2 ^ 63)≤k∧k<2 ^ 63∧ds.length*k.toNat≤sizeLine then some (List.replicate k.toNat ds).flatten else none
 | _,_=>none
theorem a8L:b3V K cl b3w a0u:=by
 intro x y d e zs H F Q s hx hy h q
 unfold a0u at h
 split at h
 ·split at h
  ·rename_i ds k c;cases h
   obtain⟨a,xs,rfl,hH,r⟩:=hx.lst s
   exact⟨a,k,xs,rfl,hy.int,hH,c.1,c.2.1,by rw[← r.length];exact c.2.2,fun p hp=>q p _ hp (r.rep _)⟩
  ·cases h
 ·cases h
def r8:D→Option D
 | .lst ds=>some (.int ds.length)
 | .tup ds=>some (.int ds.length)
 | .scr ns=>some (.int ns.length)
 | _=>none
theorem D1:CbOk1 K cl (a6O K) r8:=by
 intro x d z H F Q s hx h q
 unfold r8 at h
 split at h
 ·cases h
  obtain⟨a,xs,rfl,hH,r⟩:=hx.lst s
  exact⟨a,xs,rfl,.inl (.of hH),q _ H F (.refl s) (by simp only[Rp];rw[r.length])⟩
 ·cases h
  obtain⟨a,xs,rfl,hH,r⟩:=hx.tup s
  exact⟨a,xs,rfl,.inr (.of hH),q _ H F (.refl s) (by simp only[Rp];rw[r.length])⟩
 ·cases h
  obtain⟨a,rfl,hS⟩:=hx.scr s
  exact⟨a,_,rfl,.inl hS.seq,q _ H F (.refl s) (by simp only[Rp];rw[List.length_map])⟩
 ·cases h
def P0:D→Option (List D)
 | .lst ds=>some ds
 | .tup ds=>some ds
 | .scr ns=>some (ns.map .int)
 | _=>none
theorem a1q:a7K K cl (a6P K) P0:=by
 intro x d zs H F Q s hx h q
 unfold P0 at h
 split at h
 ·cases h
  obtain⟨a,xs,rfl,hH,r⟩:=hx.lst s
  exact⟨a,xs,rfl,.inl (.of hH),fun p hp=>q p _ hp r⟩
 ·cases h
  obtain⟨a,xs,rfl,hH,r⟩:=hx.tup s
  exact⟨a,xs,rfl,.inr (.of hH),fun p hp=>q p _ hp r⟩
 ·cases h
  obtain⟨a,rfl,hS⟩:=hx.scr s
  exact⟨a,_,rfl,.inl hS.seq,fun p hp=>q p _ hp Rps.ofInts⟩
 ·cases h
end
inductive R1 where | ret (d:D) | own (ds:List D) | owz (dss:List (List D)) | owp (n:Int) (ds:List D) | ex (c:XN)
def k8(K:W.Frag)(cl:Str→Addr)(g:List D→Option R1):Sp:=fun vs H Q E=>∃ds F,Same F H∧Rps K cl F ds vs∧match g ds with
 | none=>False
 | some (.ret d)=>∀v H' F',Gr H F H' F'→Rp K cl F' d v→Q v H'
 | some (.own es)=>∀a xs H' F',Gr H F H' F'→H a=none→H' a=some (.lst xs)→F' a=none→Rps K cl F' es xs→Q (.ref a) H'
 | some (.owz dss)=>∀p as H' F',Gr H F H' F'→H p=none→H' p=some (.tup (as.map V.ref))→F' p=none→Rz K cl F' H' (fun a=>H a=none) dss as→Q (.ref p) H'
 | some (.owp n es)=>∀p a xs H' F',Gr H F H' F'→H p=none→H' p=some (.tup [.int n,.ref a])→F' p=none→H a=none→H' a=some (.lst xs)→F' a=none→Rps K cl F' es xs→Q (.ref p) H'
 | some (.ex c)=>∀H' F',Gr H F H' F'→∀cx,Xf K cl F' c cx→E (.ref (cl c.nm)) cx H'
def toZ(r:Option R1)(e:DE):Option (R D):=match r with
 | none=>none
 | some (.ret d)=>some (.ok d e)
 | some (.own ds)=>some (.ok (.lst ds) e)
 | some (.owz _)=>none
 | some (.owp _ _)=>none
 | some (.ex c)=>some (.ex c)
def a1i(r:Option R1)(e:DE):Option (R D):=match r with
 | some (.ret d)=>some (.ok d e)
 | some (.own ds)=>some (.ok (.lst ds) e)
 | _=>none
def L6(g:List D→Option R1)(f:AF):ZF:=fun e=>bnd (f e) fun ds e1=>toZ (g ds) e1
def j9(g:List D→Option R1)(f:AF):ZF:=fun e=>bnd (f e) fun ds e1=>a1i (g ds) e1
def put(i:Nat)(s:Sl)(e:DE):Option RS:=match e[i]? with
 | none=>none
 | some (.hd _)=>none
 | some _=>some (.nx (e.set i s))
def a3s(i:Nat)(r:Option R1)(e:DE):Option RS:=match r with
 | none=>none
 | some (.ret d)=>put i (.fz d) e
 | some (.own ds)=>put i (.ow ds) e
 | some (.owz _)=>none
 | some (.owp _ _)=>none
 | some (.ex c)=>some (.ex c)
def a3t(i:Nat)(r:Option R1)(e:DE):Option RS:=match r with
 | some (.ret d)=>put i (.fz d) e
 | some (.own ds)=>put i (.ow ds) e
 | _=>none
def a5b(r:Option R1):Option RS:=match r with
 | none=>none
 | some (.ret d)=>some (.rt d)
 | some (.own ds)=>some (.ro ds)
 | some (.owz dss)=>some (.rz dss)
 | some (.owp n ds)=>some (.rp n ds)
 | some (.ex c)=>some (.ex c)
def a3u(r:Option R1):Option RS:=match r with
 | some (.ret d)=>some (.rt d)
 | some (.own ds)=>some (.ro ds)
 | _=>none
def B9:SF:=fun e=>some (.nx e)
def c6(f k:SF):SF:=fun e=>match f e with
 | some (.nx e1)=>k e1
 | r=>r
def j7(i:Nat)(f:ZF):SF:=fun e=>S7 (f e) fun d e1=>put i (.fz d) e1
def u9(i:Nat)(f:NF):SF:=fun e=>S7 (f e) fun ds e1=>put i (.ow ds) e1
def a0C(i:Nat)(g:List D→Option R1)(f:AF):SF:=fun e=>S7 (f e) fun ds e1=>a3s i (g ds) e1
def y9(i:Nat)(g:List D→Option R1)(f:AF):SF:=fun e=>S7 (f e) fun ds e1=>a3t i (g ds) e1
def t9(f:ZF):SF:=fun e=>S7 (f e) fun d _=>some (.rt d)
def a2q(f:NF):SF:=fun e=>S7 (f e) fun ds _=>some (.ro ds)
def a3v(g:List D→Option R1)(f:AF):SF:=fun e=>S7 (f e) fun ds _=>a3u (g ds)
def P3(i:Nat):SF:=fun e=>match e[i]? with
 | some (.fz d)=>some (.rt d)
 | some (.ow ds)=>some (.ro ds)
 | _=>none
def A4(c:BF)(f k:SF):SF:=fun e=>S7 (c e) fun b e1=>if b=true then f e1 else k e1
def a5E(c:Str)(f:AF):SF:=fun e=>S7 (f e) fun ds _=>if ds.length≤sizeLine then some (.ex (.p c))else none
def K0(i:Nat)(f:ZF):SF:=fun e=>match look e i with
 | some (.lst _)=>S7 (f e) fun d e1=>match e1[i]? with
  | some (.ow ds)=>if ds.length<sizeLine then some (.nx (e1.set i (.ow (ds++[d]))))else none
  | _=>none
 | _=>none
def U9(i:Nat)(k:ZF)(f:ZF):SF:=fun e=>S7 (f e) fun d e1=>match look e1 i with
 | none=>none
 | some _=>S7 (k e1) fun j e2=>match e2[i]?,j with
  | some (.ow ds),.int j=>match V2 ds.length j with
   | some n=>some (.nx (e2.set i (.ow (ds.set n d))))
   | none=>none
  | _,_=>none
section
variable {K:W.Frag}{cl:Str→Addr}{E:XK}{σ:St}{H F:Hp}{env:DE}
theorem Gr.fx{H' F':Hp}(g:Gr H F H' F'):FX σ H F env H' F':=⟨g.fz,g.sub,fun a o h f _=>g.hid a o h f,g.dom⟩
theorem a8M{g:List D→Option R1}{ds:List D}{vs:List V}{Q:VK}(R:Rel K cl σ H F env)(p:Rps K cl F ds vs)(h:Ct K cl E (PZ K cl) (toZ (g ds) env) σ H F env Q):k8 K cl g (vs++[]) H Q E:=by
 rw[List.append_nil]
 refine⟨ds,F,R.sub,p,?_⟩
 unfold toZ at h
 split at h
 ·exact h.elim
 ·exact fun v H' F' gr r=>h v H' F' (R.frm gr) (R.gr gr) r
 ·rename_i es _
  intro a xs H' F' gr ha hH hF r
  have sF:Same F' (upd F' a (.lst xs)):=Z7 hF _
  have gr':Gr H F H' (upd F' a (.lst xs)):=by
   refine⟨gr.fz.trans sF,fun b o z=>?_,fun b o hb fb=>?_⟩
   ·by_cases y:b=a
    ·subst y;rw[k9]at z;cases z;exact hH
    ·rw[f9 y]at z;exact gr.sub _ _ z
   ·obtain⟨h1,f1⟩:=gr.hid b o hb fb
    have nb:b≠a:=fun z=>by rw[z,ha]at hb;cases hb
    exact⟨h1,by rw[f9 nb];exact f1⟩
  exact h _ H' _ (R.frm gr') (R.gr gr') (by show Rp K cl _ (.lst es) _;simp only[Rp];exact⟨a,xs,rfl,k9,r.mono sF⟩)
 ·exact h.elim
 ·exact h.elim
 ·exact fun H' F' gr=>h H' F' gr.fx
theorem b1U{r:Option R1}{e:DE}{P:Py D V}{Q:VK}(h:Ct K cl E P (a1i r e) σ H F env Q):toZ r e=a1i r e∧∀c,r≠some (.ex c):=by
 unfold a1i at h
 split at h
 ·exact⟨rfl,fun c z=>by cases z⟩
 ·exact⟨rfl,fun c z=>by cases z⟩
 ·exact h.elim
theorem a1r{g:List D→Option R1}{t:TA}{f:AF}(hf:Z3 K cl E t f):A9 K cl E (a0B (k8 K cl g) [] E t) (L6 g f):=by
 intro σ H Q env F R h
 refine hf σ H _ env F R ((Ct.bnd h a0U).mono fun vs H1 ⟨F1,e1,ds,s1,R1,p1,h1⟩=>a8M R1 p1 h1)
theorem B5{g:List D→Option R1}{t:TA}{f:AF}(hf:Z3 K cl E t f):A9 K cl E (a0B (k8 K cl g) [] E0 t) (j9 g f):=by
 intro σ H Q env F R h
 refine hf σ H _ env F R ((Ct.bnd h a0U).mono fun vs H1 ⟨F1,e1,ds,s1,R1,p1,h1⟩=>?_)
 refine a8M R1 p1 ?_
 obtain⟨z,n⟩:=b1U h1
 rw[z]
 unfold Ct at h1 ⊢
 split at h1
 ·exact h1
 ·exact h1
 ·rename_i c q
  exact absurd q (by unfold a1i;split<;>intro y<;>cases y)
theorem G0:RfS K cl E b06 B9:=fun N σ H env F R h=>h σ H F Frm.refl R
theorem d7{t u:TS}{f k:SF}(hf:RfS K cl E t f)(hk:RfS K cl E u k):RfS K cl E (b3e t u) (c6 f k):=by
 intro N σ H env F R h
 refine hf _ σ H env F R ?_
 unfold c6 at h
 split at h
 ·rename_i e1 q
  rw[q]
  intro σ' H' F' fr R'
  exact hk N σ' H' e1 F' R' (h.from fr)
 ·rename_i n
  unfold Cs at h ⊢
  split at h
  ·exact h
  ·rename_i e q;exact absurd q (n e)
  all_goals exact h
theorem a31{i:Nat}{s:Sl}{e:DE}{N:Ends}{σ0:St}{H0 F0:Hp}{env0:DE}(h:Cs K cl E (put i s e) σ0 H0 F0 env0 N):i<e.length∧(∀ds,e[i]?≠some (.hd ds))∧Cs K cl E (some (.nx (e.set i s))) σ0 H0 F0 env0 N:=by
 unfold put at h
 split at h
 ·exact h.elim
 ·exact h.elim
 ·rename_i z n q
  exact⟨(List.getElem?_eq_some_iff.mp q).1,fun ds y=>by rw[q]at y;cases y;exact n ds rfl,h⟩
theorem n6{i:Nat}{t:TE}{f:ZF}(hf:A9 K cl E t f):RfS K cl E (a1x t (X7 i)) (j7 i f):=by
 intro N σ H env F R h
 refine hf σ H _ env F R ((Cs.bnd h).mono fun x H1 ⟨F1,e1,d,fr,R1,p1,h1⟩=>?_)
 obtain⟨hi,nh,h2⟩:=a31 h1
 exact h2 _ H1 F1 (fr.trans (Frm.put nh)) (R1.put hi nh p1)
theorem G8{i:Nat}{t:TE}{f:NF}(hf:Y1 K cl E t f):RfS K cl E (a1x t (X7 i)) (u9 i f):=by
 intro N σ H env F R h
 refine hf σ H _ env F R ((Cs.bnd h).mono fun x H1 ⟨F1,e1,ds,fr,R1,p1,h1⟩=>?_)
 obtain⟨a,xs,rfl,hn,hH,hF,nm,r⟩:=p1
 obtain⟨hi,nh,h2⟩:=a31 h1
 exact h2 _ H1 F1 (fr.putO hn nh) (R1.putO hi hH hF nm r)
theorem B1{t:TE}{f:ZF}(hf:A9 K cl E t f):RfS K cl E (a3S t) (t9 f):=by
 intro N σ H env F R h
 exact hf σ H _ env F R ((Cs.bnd h).mono fun x H1 ⟨F1,e1,d,fr,R1,p1,h1⟩=>h1 x H1 F1 (fr.toFX R1.sub) p1)
theorem a32{t:TE}{f:NF}(hf:Y1 K cl E t f):RfS K cl E (a3S t) (a2q f):=by
 intro N σ H env F R h
 refine hf σ H _ env F R ((Cs.bnd h).mono fun x H1 ⟨F1,e1,ds,fr,R1,p1,h1⟩=>?_)
 obtain⟨a,xs,rfl,hn,hH,hF,nm,r⟩:=p1
 exact h1 a xs H1 F1 (fr.toFX R1.sub) hH hF (fun o e=>by rw[hn]at e;cases e) r
theorem a0O{i:Nat}:RfS K cl E (a3S (R9 i)) (P3 i):=by
 intro N σ H env F R h
 unfold P3 at h
 split at h
 ·rename_i d q
  obtain⟨v,e,r⟩:=R.fz i d q
  exact⟨v,e,h v H F (Frm.refl.toFX R.sub) r⟩
 ·rename_i ds q
  obtain⟨a,xs,e,hH,hF,r⟩:=R.mu i ds (.inl q)
  exact⟨_,e,h a xs H F (Frm.refl.toFX R.sub) hH hF (fun o _=>⟨i,.ow ds,True.intro,q,e⟩) r⟩
 ·exact h.elim
theorem C0{c:TT}{t u:TS}{b:BF}{f k:SF}(hc:Q8 K cl E c b)(hf:RfS K cl E t f)(hk:RfS K cl E u k):RfS K cl E (b3f c t u) (A4 b f k):=by
 intro N σ H env F R h
 refine hc σ H _ env F R ((Cs.bnd h).mono fun x H1 ⟨F1,e1,d,fr,R1,p1,h1⟩=>?_)
 cases (show x=d from p1)
 by_cases z:x=true
 ·rw[if_pos z]at h1 ⊢;exact hf N σ H1 e1 F1 R1 (h1.from fr)
 ·rw[if_neg z]at h1 ⊢;exact hk N σ H1 e1 F1 R1 (h1.from fr)
theorem a9_{c:Str}{t:TA}{f:AF}(hf:Z3 K cl E t f):RfS K cl E (a8v (cl c) E t) (a5E c f):=by
 intro N σ H env F R h
 refine hf σ H _ env F R ((Cs.bnd h).mono fun xs H1 ⟨F1,e1,ds,fr,R1,p1,h1⟩=>?_)
 have hl:ds.length=xs.length:=Rps.length p1
 split at h1
 ·rename_i z
  exact⟨by rw[← hl];exact z,h1 H1 F1 (fr.toFX R1.sub) none rfl⟩
 ·exact h1.elim
theorem a33{i:Nat}{g:List D→Option R1}{t:TA}{f:AF}(hf:Z3 K cl E t f):RfS K cl E (a1x (a0B (k8 K cl g) [] E t) (X7 i)) (a0C i g f):=by
 intro N σ H env F R h
 refine hf σ H _ env F R ((Cs.bnd h).mono fun vs H1 ⟨F1,e1,ds,fr,R1,p1,h1⟩=>?_)
 show k8 K cl g (vs++[]) H1 _ E
 rw[List.append_nil]
 refine⟨ds,F1,R1.sub,p1,?_⟩
 unfold a3s at h1
 split at h1
 ·exact h1.elim
 ·obtain⟨hi,nh,h2⟩:=a31 h1
  exact fun v H' F' gr r=>h2 _ H' F' ((fr.trans (R1.frm gr)).trans (Frm.put nh)) ((R1.gr gr).put hi nh r)
 ·obtain⟨hi,nh,h2⟩:=a31 h1
  intro a xs H' F' gr ha hH hF r
  refine h2 _ H' F' ((fr.trans (R1.frm gr)).putO (fr.dom a ha) nh) ((R1.gr gr).putO hi hH hF (fun j mj e=>?_) r)
  obtain⟨es,q⟩:=mj
  obtain⟨b,ys,e',hb,_⟩:=R1.mu j es q
  rw[e]at e';cases e'
  rw[ha]at hb;cases hb
 ·exact h1.elim
 ·exact h1.elim
 ·exact fun H' F' gr=>h1 H' F' (fr.fx gr.fx)
theorem K9{i:Nat}{g:List D→Option R1}{t:TA}{f:AF}(hf:Z3 K cl E t f):RfS K cl E (a1x (a0B (k8 K cl g) [] E0 t) (X7 i)) (y9 i g f):=by
 intro N σ H env F R h
 refine hf σ H _ env F R ((Cs.bnd h).mono fun vs H1 ⟨F1,e1,ds,fr,R1,p1,h1⟩=>?_)
 show k8 K cl g (vs++[]) H1 _ E0
 rw[List.append_nil]
 refine⟨ds,F1,R1.sub,p1,?_⟩
 unfold a3t at h1
 split at h1
 ·rename_i q;rw[q]
  obtain⟨hi,nh,h2⟩:=a31 h1
  exact fun v H' F' gr r=>h2 _ H' F' ((fr.trans (R1.frm gr)).trans (Frm.put nh)) ((R1.gr gr).put hi nh r)
 ·rename_i q;rw[q]
  obtain⟨hi,nh,h2⟩:=a31 h1
  intro a xs H' F' gr ha hH hF r
  refine h2 _ H' F' ((fr.trans (R1.frm gr)).putO (fr.dom a ha) nh) ((R1.gr gr).putO hi hH hF (fun j mj e=>?_) r)
  obtain⟨es,q⟩:=mj
  obtain⟨b,ys,e',hb,_⟩:=R1.mu j es q
  rw[e]at e';cases e'
  rw[ha]at hb;cases hb
 ·exact h1.elim
theorem b0a{g:List D→Option R1}{t:TA}{f:AF}(hf:Z3 K cl E t f):RfS K cl E (a3S (a0B (k8 K cl g) [] E0 t)) (a3v g f):=by
 intro N σ H env F R h
 refine hf σ H _ env F R ((Cs.bnd h).mono fun vs H1 ⟨F1,e1,ds,fr,R1,p1,h1⟩=>?_)
 show k8 K cl g (vs++[]) H1 _ E0
 rw[List.append_nil]
 refine⟨ds,F1,R1.sub,p1,?_⟩
 unfold a3u at h1
 split at h1
 ·rename_i q;rw[q]
  exact fun v H' F' gr r=>h1 v H' F' (fr.fx gr.fx) r
 ·rename_i q;rw[q]
  exact fun a xs H' F' gr ha hH hF r=>h1 a xs H' F' (fr.fx gr.fx) hH hF (fun o e=>by rw[fr.dom a ha]at e;cases e) r
 ·exact h1.elim
theorem Rel.change{i:Nat}{ds es:List D}{a:Addr}{ys:List V}(R:Rel K cl σ H F env)(h:env[i]? = some (.ow ds))(e:σ[i]? = some (some (.ref a)))(r:Rps K cl F es ys) :
  Rel K cl σ (upd H a (.lst ys)) F (env.set i (.ow es))∧Frm σ H F env σ (upd H a (.lst ys)) F (env.set i (.ow es)):=by
 obtain⟨a',xs,e',hH,hF,_⟩:=R.mu i ds (.inl h)
 rw[e]at e';cases e'
 have hi:i<env.length:=(List.getElem?_eq_some_iff.mp h).1
 have self:(env.set i (.ow es))[i]? = some (.ow es):=List.getElem?_set_self hi
 have oth:∀j,j≠i→(env.set i (.ow es))[j]? = env[j]?:=fun j hj=>List.getElem?_set_ne (Ne.symm hj)
 have mui:∀j,Mu (env.set i (.ow es)) j→Mu env j:=fun j ⟨fs,q⟩=>by
  by_cases z:j=i
  ·subst z;exact⟨ds,.inl h⟩
  ·rw[oth j z]at q;exact⟨fs,q⟩
 refine⟨⟨fun b o q=>?_,by rw[List.length_set];exact R.len,fun j d q=>?_,fun j fs q=>?_,fun j k b hj hk=>R.inj j k b (mui j hj) (mui k hk),(R.od.updL hH).setE a1G⟩,⟨Same.refl _,fun b o hb fb w=>?_,fun j fs q=>?_,fun b q=>?_⟩⟩
 ·have z:b≠a:=fun z=>by rw[z,hF]at q;cases q
  rw[f9 z];exact R.sub _ _ q
 ·have z:j≠i:=fun z=>by subst z;rw[self]at q;cases q
  rw[oth j z]at q;exact R.fz j d q
 ·by_cases z:j=i
  ·subst z
   rw[self]at q
   rcases q with q | q
   ·cases q;exact⟨a,ys,e,k9,hF,r⟩
   ·cases q
  ·rw[oth j z]at q
   obtain⟨b,zs,e1,h1,f1,r1⟩:=R.mu j fs q
   have nb:b≠a:=fun y=>z (R.inj j i b ⟨fs,q⟩ ⟨ds,.inl h⟩ e1 (by rw[y];exact e))
   exact⟨b,zs,e1,by rw[f9 nb];exact h1,f1,r1⟩
 ·have z:b≠a:=fun z=>w ⟨i,.ow ds,True.intro,h,by rw[z];exact e⟩
  refine⟨by rw[f9 z];exact hb,fb,fun⟨j,fs,oo,q,e1⟩=>?_⟩
  by_cases y:j=i
  ·subst y;rw[e]at e1;cases e1;exact z rfl
  ·rw[oth j y]at q;exact w ⟨j,fs,oo,q,e1⟩
 ·have z:j≠i:=fun z=>by subst z;rw[h]at q;cases q
  exact⟨by rw[oth j z];exact q,rfl⟩
 ·by_cases z:b=a
  ·rw[z,k9]at q;cases q
  ·rw[f9 z]at q;exact q
theorem S8{i:Nat}{t:TE}{f:ZF}(hf:A9 K cl E t f):RfS K cl E (b07 (tBM K "list" a6K (R9 i) (L5 t X8))) (K0 i f):=by
 intro N σ H env F R h
 unfold K0 at h
 split at h
 ·rename_i ds0 q
  obtain⟨x,e0,rb⟩:=R.look q
  obtain⟨a0,xs0,rfl,hH0,_⟩:=rb.lst R.sub
  refine⟨_,e0,.inl ⟨rfl,xs0,.of hH0⟩,?_⟩
  ·refine hf σ H _ env F R ((Cs.bnd h).mono fun y H1 ⟨F1,e1,d,fr,R1,p1,h1⟩=>?_)
   split at h1
   ·rename_i ds q1
    split at h1
    ·rename_i c
     obtain⟨a,xs,e,hH,hF,r⟩:=R1.mu i ds (.inl q1)
     rw[e0]at e;cases e
     obtain⟨R2,f2⟩:=R1.change q1 e0 (r.append (.one p1))
     exact⟨_,xs,y,rfl,rfl,hH,by rw[← r.length];exact c,h1 σ _ F1 (fr.trans f2) R2⟩
    ·exact h1.elim
   ·exact h1.elim
 ·exact h.elim
theorem a17{i:Nat}{t u:TE}{f k:ZF}(hf:A9 K cl E t f)(hk:A9 K cl E u k):RfS K cl E (a1x t (b3i (R9 i) u b1c)) (U9 i k f):=by
 intro N σ H env F R h
 refine hf σ H _ env F R ((Cs.bnd h).mono fun x H1 ⟨F1,e1,d,fr,R1,p1,h1⟩=>?_)
 cases q:look e1 i with
 | none=>simp only[q]at h1;exact h1.elim
 | some d0 =>
  simp only[q]at h1
  obtain⟨o,e0,_⟩:=R1.look q
  refine⟨o,e0,hk σ H1 _ e1 F1 R1 ((Cs.bnd (h1.from fr)).mono fun y H2 ⟨F2,e2,j,fr2,R2,p2,h2⟩=>?_)⟩
  split at h2
  ·rename_i _ _ ds j q2
   split at h2
   ·rename_i n hn
    obtain⟨a,xs,e,hH,hF,r⟩:=R2.mu i ds (.inl q2)
    rw[e0]at e;cases e
    obtain⟨R3,f3⟩:=R2.change q2 e0 (r.set (Rp.mono fr2.fz _ _ p1) n)
    have hy:y=.int j:=by have:=(show Rp K cl F2 (.int j) y from p2);simpa only[Rp]using this
    exact⟨a,xs,j,n,rfl,hy,hH,by rw[← r.length];exact hn,h2 σ _ F2 (fr2.trans f3) R3⟩
   ·exact h2.elim
  ·exact h2.elim
end
abbrev GF:=D→DE→Option DE
def c7(i:Nat):GF:=fun d e=>match e[i]? with
 | none=>none
 | some (.hd _)=>none
 | some _=>some (e.set i (.fz d))
def a1L:List GF→List D→DE→Option DE
 | [],[],e=>some e
 | b::bs,d::ds,e=>match b d e with
  | none=>none
  | some e1=>a1L bs ds e1
 | _,_,_=>none
def x9(bs:List GF):GF:=fun d e=>match d with
 | .tup ds=>a1L bs ds e
 | _=>none
section
variable (K:W.Frag)(cl:Str→Addr)
def R0(k:Nat)(g:TG)(b:GF):Prop:=∀v σ H Q d env env' F,Rel K cl σ H F env→Rp K cl F d v→b d env=some env'→(∀σ',σ'.drop k=σ.drop k→σ'.length=σ.length→Frm σ H F env σ' H F env'→Rel K cl σ' H F env'→Q σ' H)→g v σ H Q
def a7M(k:Nat)(t:TGs)(bs:List GF):Prop:=∀vs σ H Q ds env env' F,Rel K cl σ H F env→Rps K cl F ds vs→a1L bs ds env=some env'→(∀σ',σ'.drop k=σ.drop k→σ'.length=σ.length→Frm σ H F env σ' H F env'→Rel K cl σ' H F env'→Q σ' H)→t vs σ H Q
end
section
variable {K:W.Frag}{cl:Str→Addr}{E:XK}{σ:St}{H F:Hp}{env:DE}{k:Nat}
theorem b0b{α:Type}{l:List α}{i k:Nat}{x:α}(h:i<k):(l.set i x).drop k=l.drop k:=by
 apply List.ext_getElem?
 intro j
 rw[List.getElem?_drop,List.getElem?_drop,List.getElem?_set_ne (by omega)]
theorem i0{i:Nat}(hi:i<k):R0 K cl k (X7 i) (c7 i):=by
 intro v σ H Q d env env' F R p h q
 unfold c7 at h
 split at h
 ·cases h
 ·cases h
 ·rename_i z n e
  cases h
  have nh:∀ds,env[i]?≠some (.hd ds):=fun ds y=>by rw[e]at y;cases y;exact n ds rfl
  exact q _ (b0b hi) List.length_set (Frm.put nh) (R.put (List.getElem?_eq_some_iff.mp e).1 nh p)
theorem J6:a7M K cl k a9H []:=by
 intro vs σ H Q ds env env' F R p h q
 cases ds with
 | nil=>cases h;exact⟨p.inv0,q σ rfl rfl Frm.refl R⟩
 | cons _ _=>cases h
theorem l6{t:TG}{u:TGs}{b:GF}{bs:List GF}(h1:R0 K cl k t b)(h2:a7M K cl k u bs):a7M K cl k (a2k t u) (b::bs):=by
 intro vs σ H Q ds env env' F R p h q
 cases ds with
 | nil=>cases h
 | cons d ds =>
  obtain⟨v,r,rfl,p1,p2⟩:=p.inv
  unfold a1L at h
  split at h
  ·cases h
  ·rename_i e1 hb
   refine⟨v,r,rfl,h1 v σ H _ d env e1 F R p1 hb fun σ1 d1 l1 f1 R1=>?_⟩
   exact h2 r σ1 H _ ds e1 env' F R1 p2 h fun σ2 d2 l2 f2 R2=>q σ2 (d2.trans d1) (l2.trans l1) (f1.trans f2) R2
theorem a4E:∀{bs:List GF} {ds:List D} {e e':DE},a1L bs ds e=some e'→ds.length=bs.length
 | [],[],_,_,_=>rfl
 | [],_::_,_,_,h=>by cases h
 | _::_,[],_,_,h=>by cases h
 | b::bs,d::ds,e,e',h=>by
  unfold a1L at h
  split at h
  ·cases h
  ·simp[a4E h]
theorem J7{t:TGs}{bs:List GF}{n:Nat}(h:a7M K cl k t bs)(hn:bs.length=n):R0 K cl k (a7p K n t) (x9 bs):=by
 intro v σ H Q d env env' F R p e q
 unfold x9 at e
 split at e
 ·rename_i ds
  simp only[Rp]at p
  obtain⟨a,xs,rfl,hF,r⟩:=p
  exact⟨a,xs,rfl,.of (R.sub _ _ hF),by rw[← r.length,a4E e,hn],h xs σ H Q ds env env' F R r e q⟩
 ·cases e
def V0(f:ZF)(b:GF):SF:=fun e=>S7 (f e) fun d e1=>match b d e1 with
 | none=>none
 | some e2=>some (.nx e2)
theorem a0n{t:TE}{g:TG}{f:ZF}{b:GF}(hf:A9 K cl E t f)(hg:R0 K cl k g b):RfS K cl E (a1x t g) (V0 f b):=by
 intro N σ H env F R h
 refine hf σ H _ env F R ((Cs.bnd h).mono fun x H1 ⟨F1,e1,d,fr,R1,p1,h1⟩=>?_)
 split at h1
 ·exact h1.elim
 ·rename_i e2 hb
  exact hg x σ H1 _ d e1 e2 F1 R1 p1 hb fun σ' _ _ f2 R2=>h1 σ' H1 F1 (fr.trans f2) R2
def B6(b:GF)(body:SF):List D→DE→Option RS
 | [],e=>some (.nx e)
 | d::ds,e=>match b d e with
  | none=>none
  | some e1=>match body e1 with
   | some (.nx e2)=>B6 b body ds e2
   | some (.ct e2)=>B6 b body ds e2
   | some (.bk e2)=>some (.nx e2)
   | r=>r
theorem a1M{b:GF}{body:SF}{g:TG}{tb:TS}{d:D}{x:V}{ds:List D}{e1:DE}{N:Ends}{σ1:St}{H1 F1:Hp}{Pv:St→Hp→Prop}(hb:RfS K cl E tb body)(hg:R0 K cl k g b)
  (f1:Frm σ H F env σ1 H1 F1 e1) (R1:Rel K cl σ1 H1 F1 e1) (p:Rp K cl F1 d x) (h:Cs K cl E (B6 b body (d::ds) e1) σ H F env N)
  (hP:∀σ' H' F' e',Frm σ H F env σ' H' F' e'→Rel K cl σ' H' F' e'→Cs K cl E (B6 b body ds e') σ H F env N→Pv σ' H') :
  g x σ1 H1 fun σ2 H2=>tb { N with nx:=Pv,ct:=Pv,bk:=N.nx } σ2 H2:=by
 unfold B6 at h
 split at h
 ·exact h.elim
 ·rename_i e2 hbd
  refine hg x σ1 H1 _ d e1 e2 F1 R1 p hbd fun σ2 _ _ f2 R2=>?_
  refine hb _ σ2 H1 e2 F1 R2 ?_
  split at h
  ·rename_i e3 q;rw[q]
   exact fun σ' H' F' f3 R3=>hP σ' H' F' e3 ((f1.trans f2).trans f3) R3 h
  ·rename_i e3 q;rw[q]
   exact fun σ' H' F' f3 R3=>hP σ' H' F' e3 ((f1.trans f2).trans f3) R3 h
  ·rename_i e3 q;rw[q]
   exact fun σ' H' F' f3 R3=>h σ' H' F' ((f1.trans f2).trans f3) R3
  ·rename_i n1 n2 n3
   have h2:=h.from (f1.trans f2)
   unfold Cs at h2 ⊢
   split at h2
   ·exact h2
   ·rename_i e q;exact absurd q (n1 e)
   ·rename_i e q;exact absurd q (n3 e)
   ·rename_i e q;exact absurd q (n2 e)
   ·exact h2
   ·exact h2
   ·exact h2
   ·exact h2
   ·exact h2
theorem S9{α:Type}{l:List α}{i:Nat}{x:α}(h:l[i]? = some x):l.drop i=x::l.drop (i+1):=by
 obtain⟨hi,e⟩:=List.getElem?_eq_some_iff.mp h
 rw[← e];exact List.drop_eq_getElem_cons hi
theorem a7N{b:GF}{body:SF}{g:TG}{tb:TS}{ds:List D}{xs:List V}{a:Addr}{N:Ends}(hb:RfS K cl E tb body)(hg:R0 K cl k g b)(R:Rel K cl σ H F env)
  (hl:∀σ' H' F' e',Frm σ H F env σ' H' F' e'→Rel K cl σ' H' F' e'→SqL K H' a xs) (r:Rps K cl F ds xs) (h:Cs K cl E (B6 b body ds env) σ H F env N) :
  ∃W:Nat→Nat→St→Hp→Prop,(∃m,W 0 m σ H)∧∀i m σ H,W i m σ H →
   ((Itl K a).stop i H∧N.nx σ H)∨((Itl K a).go i H∧∃M:St→Hp→Prop,(∀σ' H',M σ' H'→∃m',m'<m∧W (i+1) m' σ' H')∧∀x H',(Itl K a).yld i H x H'→g x σ H' fun σ2 H2=>tb { N with nx:=M,ct:=M,bk:=N.nx } σ2 H2):=by
 refine a9I (xs:=xs) (fun i σ' H'=>∃F' e',Frm σ H F env σ' H' F' e'∧Rel K cl σ' H' F' e'∧Cs K cl E (B6 b body (ds.drop i) e') σ H F env N) ⟨F,env,Frm.refl,R,h⟩ (fun i σ' H' _ ⟨F',e',f,R',_⟩=>hl σ' H' F' e' f R') (fun i x σ' H' hx ⟨F',e',f,R',h'⟩=>?_) (fun σ' H' ⟨F',e',f,R',h'⟩=>?_)
 ·obtain⟨d,hd,p⟩:=r.get' hx
  rw[S9 hd]at h'
  exact a1M hb hg f R' (Rp.mono f.fz _ _ p) h' fun σ2 H2 F2 e2 f2 R2 h2=>⟨F2,e2,f2,R2,h2⟩
 ·rw[← r.length,List.drop_length]at h'
  exact h' σ' H' F' f R'
def seqL:D→Option (List D)
 | .lst ds=>some ds
 | .scr ns=>some (ns.map .int)
 | _=>none
theorem Rp.seqL{d:D}{ds:List D}{v:V}(p:Rp K cl F d v)(s:L2.seqL d=some ds):∃a xs,v=.ref a∧Rps K cl F ds xs∧∀H',Same F H'→SqL K H' a xs:=by
 unfold L2.seqL at s
 split at s
 ·cases s;simp only[Rp]at p
  obtain⟨a,xs,e,h,r⟩:=p
  exact⟨a,xs,e,r,fun H' g=>.of (g _ _ h)⟩
 ·cases s;simp only[Rp]at p
  obtain⟨a,e,h⟩:=p
  exact⟨a,_,e,Rps.ofInts,fun H' g=>(h.same g).seq⟩
 ·cases s
def a18(f:ZF)(b:GF)(body:SF):SF:=fun e=>S7 (f e) fun d e1=>match seqL d with
 | none=>none
 | some ds=>B6 b body ds e1
theorem b3W{t:TE}{g:TG}{tb:TS}{f:ZF}{b:GF}{body:SF}(hf:A9 K cl E t f)(hg:R0 K cl k g b)(hb:RfS K cl E tb body):RfS K cl E (a2P (a28 K t) g tb) (a18 f b body):=by
 intro N σ H env F R h
 refine hf σ H _ env F R ((Cs.bnd h).mono fun x H1 ⟨F1,e1,d,fr,R1,p1,h1⟩=>?_)
 split at h1
 ·exact h1.elim
 ·rename_i ds hs
  obtain⟨a,xs,rfl,r,hl⟩:=Rp.seqL p1 hs
  exact⟨a,rfl,⟨xs,hl H1 R1.sub⟩,a7N hb hg R1 (fun σ' H' F' e' f2 R2=>hl H' (f2.fz.trans R2.sub)) r (h1.from fr)⟩
def L8(lo:Int)(n:Nat):List D:=(List.range n).map fun(i:Nat)=>.int (lo+(i:Int))
theorem a4F{lo:Int}{n i:Nat}(h:i<n):(L8 lo n).drop i=.int (lo+i)::(L8 lo n).drop (i+1):=S9 (by unfold L8;rw[List.getElem?_map,List.getElem?_range h];rfl)
theorem a5F{lo:Int}{n:Nat}:(L8 lo n).length=n:=by unfold L8;rw[List.length_map,List.length_range]
theorem b3X{b:GF}{body:SF}{g:TG}{tb:TS}{lo:Int}{n:Nat}{N:Ends}(hb:RfS K cl E tb body)(hg:R0 K cl k g b)(R:Rel K cl σ H F env)(h:Cs K cl E (B6 b body (L8 lo n) env) σ H F env N) :
  ∃W:Nat→Nat→St→Hp→Prop,(∃m,W 0 m σ H)∧∀i m σ H,W i m σ H →
   ((Itr lo n).stop i H∧N.nx σ H)∨((Itr lo n).go i H∧∃M:St→Hp→Prop,(∀σ' H',M σ' H'→∃m',m'<m∧W (i+1) m' σ' H')∧∀x H',(Itr lo n).yld i H x H'→g x σ H' fun σ2 H2=>tb { N with nx:=M,ct:=M,bk:=N.nx } σ2 H2):=by
 refine a8n (fun i σ' H'=>∃F' e',Frm σ H F env σ' H' F' e'∧Rel K cl σ' H' F' e'∧Cs K cl E (B6 b body ((L8 lo n).drop i) e') σ H F env N) ⟨F,env,Frm.refl,R,h⟩ (fun i σ' H' hx ⟨F',e',f,R',h'⟩=>?_) (fun σ' H' ⟨F',e',f,R',h'⟩=>?_)
 ·rw[a4F hx]at h'
  exact a1M hb hg f R' (by simp only[Rp]) h' fun σ2 H2 F2 e2 f2 R2 h2=>⟨F2,e2,f2,R2,h2⟩
 ·rw[show(L8 lo n).drop n=[]from List.drop_eq_nil_of_le (by rw[a5F];exact Nat.le_refl _)]at h'
  exact h' σ' H' F' f R'
def P4(ds:List D):Option (Int×Nat):=match ds with
 | [.int j]=>if -(2 ^ 62)≤j∧j<2 ^ 62 then some (0,j.toNat)else none
 | _=>none
def Y3(ds:List D):Option (Int×Nat):=match ds with
 | [.int i,.int j]=>if -(2 ^ 62)≤i∧i<2 ^ 62∧-(2 ^ 62)≤j∧j<2 ^ 62 then some (i,(j-i).toNat)else none
 | _=>none
theorem a6T{ds:List D}{vs:List V}{lo:Int}{n:Nat}(h:P4 ds=some (lo,n))(p:Rps K cl F ds vs):∃j:Int,vs=[.int j]∧-(2 ^ 62)≤j∧j<2 ^ 62∧lo=0∧n=j.toNat:=by
 unfold P4 at h
 split at h
 ·rename_i j
  split at h
  ·rename_i c;cases h
   exact⟨j,(Rps.ints (ns:=[j]) p),c.1,c.2,rfl,rfl⟩
  ·cases h
 ·cases h
theorem b1V{ds:List D}{vs:List V}{lo:Int}{n:Nat}(h:Y3 ds=some (lo,n))(p:Rps K cl F ds vs):∃i j:Int,vs=[.int i,.int j]∧(-(2 ^ 62)≤i∧i<2 ^ 62∧-(2 ^ 62)≤j∧j<2 ^ 62)∧lo=i∧n=(j-i).toNat:=by
 unfold Y3 at h
 split at h
 ·rename_i i j
  split at h
  ·rename_i c;cases h
   exact⟨_,j,(Rps.ints (ns:=[_,j]) p),c,rfl,rfl⟩
  ·cases h
 ·cases h
def C8(rg:List D→Option (Int×Nat))(f:AF)(b:GF)(body:SF):SF:=fun e=>S7 (f e) fun ds e1=>match rg ds with
 | none=>none
 | some (lo,n)=>B6 b body (L8 lo n) e1
theorem Z8{t:TA}{g:TG}{tb:TS}{f:AF}{b:GF}{body:SF}(hf:Z3 K cl E t f)(hg:R0 K cl k g b)(hb:RfS K cl E tb body):RfS K cl E (a2P (a7s t) g tb) (C8 P4 f b body):=by
 intro N σ H env F R h
 refine hf σ H _ env F R ((Cs.bnd h).mono fun x H1 ⟨F1,e1,ds,fr,R1,p1,h1⟩=>?_)
 split at h1
 ·exact h1.elim
 ·rename_i lo n hs
  obtain⟨j,e,c1,c2,rfl,rfl⟩:=a6T hs p1
  exact⟨j,e,c1,c2,b3X hb hg R1 (h1.from fr)⟩
theorem a5G{t:TA}{g:TG}{tb:TS}{f:AF}{b:GF}{body:SF}(hf:Z3 K cl E t f)(hg:R0 K cl k g b)(hb:RfS K cl E tb body):RfS K cl E (a2P (b08 t) g tb) (C8 Y3 f b body):=by
 intro N σ H env F R h
 refine hf σ H _ env F R ((Cs.bnd h).mono fun x H1 ⟨F1,e1,ds,fr,R1,p1,h1⟩=>?_)
 split at h1
 ·exact h1.elim
 ·rename_i lo n hs
  obtain⟨i,j,e,c,rfl,rfl⟩:=b1V hs p1
  exact⟨_,j,e,c,b3X hb hg R1 (h1.from fr)⟩
def v8(c:BF)(body:SF):Nat→SF
 | 0,_=>none
 | n+1,e=>S7 (c e) fun b e1=>if b=true then(match body e1 with
   | some (.nx e2)=>v8 c body n e2
   | some (.ct e2)=>v8 c body n e2
   | some (.bk e2)=>some (.nx e2)
   | r=>r)else some (.nx e1)
theorem a1N{tc:TT}{tb:TS}{c:BF}{body:SF}{n:Nat}(hc:Q8 K cl E tc c)(hb:RfS K cl E tb body):RfS K cl E (a8k tc tb) (v8 c body n):=by
 intro N σ H env F R h
 refine⟨fun m σ' H'=>∃F' e',Rel K cl σ' H' F' e'∧Cs K cl E (v8 c body m e') σ' H' F' e' N,⟨n,F,env,R,h⟩,?_⟩
 rintro m σ1 H1 ⟨F1,e1,R1,h1⟩
 cases m with
 | zero=>exact h1.elim
 | succ m =>
  refine hc σ1 H1 _ e1 F1 R1 ((Cs.bnd h1).mono fun x H2 ⟨F2,e2,d,f2,R2,p2,h2⟩=>?_)
  cases (show x=d from p2)
  by_cases z:x=true
  ·rw[if_pos z]at h2 ⊢
   refine⟨fun σ' H'=>∃F' e',Rel K cl σ' H' F' e'∧Cs K cl E (v8 c body m e') σ' H' F' e' N,fun σ' H' q=>⟨m,Nat.lt_succ_self m,q⟩,?_⟩
   refine hb _ σ1 H2 e2 F2 R2 ?_
   split at h2
   ·rename_i e3 q;rw[q]
    exact fun σ' H' F' f3 R3=>⟨F',e3,R3,h2.from (f2.trans f3)⟩
   ·rename_i e3 q;rw[q]
    exact fun σ' H' F' f3 R3=>⟨F',e3,R3,h2.from (f2.trans f3)⟩
   ·rename_i e3 q;rw[q]
    exact fun σ' H' F' f3 R3=>h2 σ' H' F' (f2.trans f3) R3
   ·rename_i n1 n2 n3
    have h3:=h2.from f2
    unfold Cs at h3 ⊢
    split at h3
    ·exact h3
    ·rename_i e q;exact absurd q (n1 e)
    ·rename_i e q;exact absurd q (n3 e)
    ·rename_i e q;exact absurd q (n2 e)
    ·exact h3
    ·exact h3
    ·exact h3
    ·exact h3
    ·exact h3
  ·rw[if_neg z]at h2 ⊢;exact h2 σ1 H2 F2 f2 R2
end
section
variable {K:W.Frag}{cl:Str→Addr}{E:XK}{σ:St}{H F:Hp}{env:DE}{k:Nat}
def unhide(i:Nat)(ds:List D)(r:Option RS):Option RS:=match r with
 | some (.nx e)=>some (.nx (e.set i (.ow ds)))
 | some (.bk _)=>none
 | some (.ct _)=>none
 | r=>r
theorem Rel.hide{i:Nat}{ds:List D}(R:Rel K cl σ H F env)(h:env[i]? = some (.ow ds)):Rel K cl σ H F (env.set i (.hd ds)):=by
 have hi:i<env.length:=(List.getElem?_eq_some_iff.mp h).1
 have self:(env.set i (.hd ds))[i]? = some (.hd ds):=List.getElem?_set_self hi
 have oth:∀j,j≠i→(env.set i (.hd ds))[j]? = env[j]?:=fun j hj=>List.getElem?_set_ne (Ne.symm hj)
 have mui:∀(j:Nat) (fs:List D),(env.set i (.hd ds))[j]? = some (.ow fs)∨(env.set i (.hd ds))[j]? = some (.hd fs)→env[j]? = some (.ow fs)∨env[j]? = some (.hd fs):=fun j fs q=>by
  by_cases z:j=i
  ·subst z;rw[self]at q;rcases q with q | q<;>cases q;exact .inl h
  ·rw[oth j z]at q;exact q
 refine⟨R.sub,by rw[List.length_set];exact R.len,fun j d q=>?_,fun j fs q=>R.mu j fs (mui j fs q),fun j l b ⟨fs,q⟩ ⟨gs,q'⟩=>R.inj j l b ⟨fs,mui j fs q⟩ ⟨gs,mui l gs q'⟩,R.od.setE a3n⟩
 have z:j≠i:=fun z=>by subst z;rw[self]at q;cases q
 rw[oth j z]at q;exact R.fz j d q
theorem Ow.hide{i:Nat}{ds:List D}{a:Addr}(w:Ow σ (env.set i (.hd ds)) a):Ow σ env a:=by
 obtain⟨j,fs,oo,q,e⟩:=w
 by_cases z:j=i
 ·subst z
  have hj:j<env.length:=by have:=(List.getElem?_eq_some_iff.mp q).1;rwa [List.length_set]at this
  rw[List.getElem?_set_self hj]at q;cases q;exact oo.elim
 ·rw[List.getElem?_set_ne (Ne.symm z)]at q;exact⟨j,fs,oo,q,e⟩
theorem Rel.unhide{i:Nat}{ds:List D}(R:Rel K cl σ H F env)(h:env[i]? = some (.hd ds)):Rel K cl σ H F (env.set i (.ow ds)):=by
 have hi:i<env.length:=(List.getElem?_eq_some_iff.mp h).1
 have self:(env.set i (.ow ds))[i]? = some (.ow ds):=List.getElem?_set_self hi
 have oth:∀j,j≠i→(env.set i (.ow ds))[j]? = env[j]?:=fun j hj=>List.getElem?_set_ne (Ne.symm hj)
 have mui:∀(j:Nat) (fs:List D),(env.set i (.ow ds))[j]? = some (.ow fs)∨(env.set i (.ow ds))[j]? = some (.hd fs)→env[j]? = some (.ow fs)∨env[j]? = some (.hd fs):=fun j fs q=>by
  by_cases z:j=i
  ·subst z;rw[self]at q;rcases q with q | q<;>cases q;exact .inr h
  ·rw[oth j z]at q;exact q
 refine⟨R.sub,by rw[List.length_set];exact R.len,fun j d q=>?_,fun j fs q=>R.mu j fs (mui j fs q),fun j l b ⟨fs,q⟩ ⟨gs,q'⟩=>R.inj j l b ⟨fs,mui j fs q⟩ ⟨gs,mui l gs q'⟩,R.od.setE a1G⟩
 have z:j≠i:=fun z=>by subst z;rw[self]at q;cases q
 rw[oth j z]at q;exact R.fz j d q
theorem Cs.hide{i:Nat}{ds:List D}{r:Option RS}{N:Ends}(R:Rel K cl σ H F env)(h:env[i]? = some (.ow ds))(c:Cs K cl E (unhide i ds r) σ H F env N):Cs K cl E r σ H F (env.set i (.hd ds)) N:=by
 have hi:i<env.length:=(List.getElem?_eq_some_iff.mp h).1
 have self:(env.set i (.hd ds))[i]? = some (.hd ds):=List.getElem?_set_self hi
 have fx:∀{H' F'},FX σ H F (env.set i (.hd ds)) H' F'→FX σ H F env H' F':=fun x=>⟨x.fz,x.sub,fun a o h f w=>x.hid a o h f fun y=>w y.hide,x.dom⟩
 rcases r with _ | r
 ·exact c
 cases r with
 | nx e =>
  intro σ' H' F' f R'
  obtain⟨q,eσ⟩:=f.keep i ds self
  refine c σ' H' F' ⟨f.fz,fun a o ha fa w=>?_,fun j fs q'=>?_,f.dom⟩ (R'.unhide q)
  ·obtain⟨h1,f1,w1⟩:=f.hid a o ha fa fun y=>w y.hide
   refine⟨h1,f1,fun⟨j,fs,oo,q2,e2⟩=>?_⟩
   by_cases z:j=i
   ·subst z
    rw[eσ]at e2
    exact w ⟨j,.ow ds,True.intro,h,e2⟩
   ·rw[List.getElem?_set_ne (Ne.symm z)]at q2
    exact w1 ⟨j,fs,oo,q2,e2⟩
  ·have z:j≠i:=fun z=>by subst z;rw[h]at q';cases q'
   obtain⟨q2,e2⟩:=f.keep j fs (by rw[List.getElem?_set_ne (Ne.symm z)];exact q')
   exact⟨by rw[List.getElem?_set_ne (Ne.symm z)];exact q2,e2⟩
 | bk e=>exact c.elim
 | ct e=>exact c.elim
 | rt d=>exact fun v H' F' x p=>c v H' F' (fx x) p
 | ro es=>exact fun a xs H' F' x ha fa nw p=>c a xs H' F' (fx x) ha fa (fun o e=>(nw o e).hide) p
 | rp n es=>exact fun p a xs H' F' x hp ht fp ha fa nw r=>c p a xs H' F' (fx x) hp ht fp ha fa (fun o e=>(nw o e).hide) r
 | rz dss=>exact fun p as H' F' x hp ht fp rz=>c p as H' F' (fx x) hp ht fp (rz.imp fun a xs ha fa nw o e=>(nw o e).hide)
 | ex n=>exact fun H' F' x=>c H' F' (fx x)
def a09(i:Nat)(b:GF)(body:SF):SF:=fun e=>match e[i]? with
 | some (.fz d)=>(match seqL d with
  | none=>none
  | some ds=>B6 b body ds e)
 | some (.ow ds)=>unhide i ds (B6 b body ds (e.set i (.hd ds)))
 | some (.hd ds)=>B6 b body ds e
 | _=>none
theorem Rel.hid_stays{i:Nat}{ds:List D}(R:Rel K cl σ H F env)(h:env[i]? = some (.hd ds)):∃a xs,σ[i]? = some (some (.ref a))∧Rps K cl F ds xs∧H a=some (.lst xs)∧∀σ' H' F' e',Frm σ H F env σ' H' F' e'→H' a=some (.lst xs):=by
 obtain⟨a,xs,e,hH,hF,r⟩:=R.mu i ds (.inr h)
 refine⟨a,xs,e,r,hH,fun σ' H' F' e' f=>(f.hid a _ hH hF fun⟨j,fs,oo,q,e'⟩=>?_).1⟩
 cases fs with
 | ow fs =>
  have z:i=j:=R.inj i j a ⟨ds,.inr h⟩ ⟨fs,.inl q⟩ e e'
  subst z;rw[h]at q;cases q
 | od ks fs =>
  obtain⟨a',xs',e2,h2,_⟩:=R.od.at_ j _ ks fs q ⟨rfl,rfl⟩
  rw[e']at e2;cases e2
  rw[hH]at h2
  exact a3Z (Option.some.inj h2).symm
 | no=>exact oo
 | fz _=>exact oo
 | hd _=>exact oo
 | hk _ _=>exact oo
theorem a34{i:Nat}{g:TG}{tb:TS}{b:GF}{body:SF}(hg:R0 K cl k g b)(hb:RfS K cl E tb body):RfS K cl E (a2P (a28 K (R9 i)) g tb) (a09 i b body):=by
 intro N σ H env F R h
 unfold a09 at h
 split at h
 ·rename_i d q
  split at h
  ·exact h.elim
  ·rename_i ds hs
   obtain⟨v,e,p⟩:=R.fz i d q
   obtain⟨a,xs,rfl,r,hl⟩:=Rp.seqL p hs
   exact⟨_,e,a,rfl,⟨xs,hl H R.sub⟩,a7N hb hg R (fun σ' H' F' e' f2 R2=>hl H' (f2.fz.trans R2.sub)) r h⟩
 ·rename_i ds q
  have hi:i<env.length:=(List.getElem?_eq_some_iff.mp q).1
  have R':=R.hide q
  obtain⟨a,xs,e,r,hH,st⟩:=R'.hid_stays (i:=i) (ds:=ds) (List.getElem?_set_self hi)
  exact⟨_,e,a,rfl,⟨xs,.of hH⟩,a7N hb hg R' (fun σ' H' F' e' f2 R2=>.of (st σ' H' F' e' f2)) r (h.hide R q)⟩
 ·rename_i ds q
  obtain⟨a,xs,e,r,hH,st⟩:=R.hid_stays q
  exact⟨_,e,a,rfl,⟨xs,.of hH⟩,a7N hb hg R (fun σ' H' F' e' f2 R2=>.of (st σ' H' F' e' f2)) r h⟩
 ·exact h.elim
def enD(n:Nat):List D→List D
 | []=>[]
 | d::ds=>.tup [.int n,d]::enD (n+1) ds
theorem a35:∀{ds:List D} {n i:Nat} {d:D},ds[i]? = some d→(enD n ds)[i]? = some (.tup [.int (n+i:Nat),d])
 | [],_,_,_,h=>by simp at h
 | _::_,n,0,_,h=>by simp at h;subst h;rfl
 | _::ds,n,i+1,d,h=>by
  have:=a35 (ds:=ds) (n:=n+1) (i:=i) (d:=d) (by simpa using h)
  show(enD (n+1) ds)[i]? = _
  rw[this,show n+1+i=n+(i+1) by omega]
theorem a36:∀{ds:List D} {n:Nat},(enD n ds).length=ds.length
 | [],_=>rfl
 | _::ds,n=>by show(enD (n+1) ds).length+1=ds.length+1;rw[a36]
theorem b0c{b:GF}{body:SF}{g:TG}{tb:TS}{ds:List D}{xs:List V}{a:Addr}{N:Ends}(hb:RfS K cl E tb body)(hg:R0 K cl k g b)(R:Rel K cl σ H F env)
  (hl:∀σ' H' F' e',Frm σ H F env σ' H' F' e'→Rel K cl σ' H' F' e'→SqL K H' a xs) (r:Rps K cl F ds xs) (h:Cs K cl E (B6 b body (enD 0 ds) env) σ H F env N) :
  ∃W:Nat→Nat→St→Hp→Prop,(∃m,W 0 m σ H)∧∀i m σ H,W i m σ H →
   ((Ite K a).stop i H∧N.nx σ H)∨((Ite K a).go i H∧∃M:St→Hp→Prop,(∀σ' H',M σ' H'→∃m',m'<m∧W (i+1) m' σ' H')∧∀x H',(Ite K a).yld i H x H'→g x σ H' fun σ2 H2=>tb { N with nx:=M,ct:=M,bk:=N.nx } σ2 H2):=by
 refine a9W (xs:=xs) (fun i σ' H'=>∃F' e',Frm σ H F env σ' H' F' e'∧Rel K cl σ' H' F' e'∧Cs K cl E (B6 b body ((enD 0 ds).drop i) e') σ H F env N) ⟨F,env,Frm.refl,R,h⟩ (fun i σ' H' _ ⟨F',e',f,R',_⟩=>hl σ' H' F' e' f R') (fun i x σ' H' p hx ⟨F',e',f,R',h'⟩ hp=>?_) (fun σ' H' ⟨F',e',f,R',h'⟩=>?_)
 ·obtain⟨d,hd,pd⟩:=r.get' hx
  rw[S9 (a35 hd),Nat.zero_add]at h'
  have gr:Gr H' F' (upd H' p (.tup [.int i,x])) (upd F' p (.tup [.int i,x])):=.new R'.sub hp
  refine a1M hb hg (f.trans (R'.frm gr)) (R'.gr gr) ?_ h' fun σ2 H2 F2 e2 f2 R2 h2=>⟨F2,e2,f2,R2,h2⟩
  simp only[Rp]
  exact⟨p,_,rfl,k9,.cons (by simp only[Rp]) (.one (Rp.mono (f.fz.trans gr.fz) _ _ pd))⟩
 ·rw[← r.length,List.drop_eq_nil_of_le (by rw[a36];exact Nat.le_refl _)]at h'
  exact h' σ' H' F' f R'
def a0X(i:Nat)(b:GF)(body:SF):SF:=fun e=>match e[i]? with
 | some (.fz d)=>(match seqL d with
  | none=>none
  | some ds=>B6 b body (enD 0 ds) e)
 | some (.ow ds)=>unhide i ds (B6 b body (enD 0 ds) (e.set i (.hd ds)))
 | some (.hd ds)=>B6 b body (enD 0 ds) e
 | _=>none
theorem b0d{i:Nat}{g:TG}{tb:TS}{b:GF}{body:SF}(hg:R0 K cl k g b)(hb:RfS K cl E tb body):RfS K cl E (a2P (a7A K (L5 (R9 i) X8)) g tb) (a0X i b body):=by
 intro N σ H env F R h
 unfold a0X at h
 split at h
 ·rename_i d q
  split at h
  ·exact h.elim
  ·rename_i ds hs
   obtain⟨v,e,p⟩:=R.fz i d q
   obtain⟨a,xs,rfl,r,hl⟩:=Rp.seqL p hs
   exact⟨_,e,a,rfl,⟨xs,hl H R.sub⟩,b0c hb hg R (fun σ' H' F' e' f2 R2=>hl H' (f2.fz.trans R2.sub)) r h⟩
 ·rename_i ds q
  have hi:i<env.length:=(List.getElem?_eq_some_iff.mp q).1
  have R':=R.hide q
  obtain⟨a,xs,e,r,hH,st⟩:=R'.hid_stays (i:=i) (ds:=ds) (List.getElem?_set_self hi)
  exact⟨_,e,a,rfl,⟨xs,.of hH⟩,b0c hb hg R' (fun σ' H' F' e' f2 R2=>.of (st σ' H' F' e' f2)) r (h.hide R q)⟩
 ·rename_i ds q
  obtain⟨a,xs,e,r,hH,st⟩:=R.hid_stays q
  exact⟨_,e,a,rfl,⟨xs,.of hH⟩,b0c hb hg R (fun σ' H' F' e' f2 R2=>.of (st σ' H' F' e' f2)) r h⟩
 ·exact h.elim
def a37(e:DE):Bool:=e.all fun s=>match s with
 | .hd _=>false
 | _=>true
def b3Y(n i:Nat)(exm:Str→Bool)(body suite:SF):SF:=fun e=>match body e with
 | some (.ex (.v _ _ _))=>none
 | some (.ex (.p c))=>if(exm c && a37 e)=true then(match suite ((List.replicate n Sl.no).set i (.fz (.exc c)))with
   | some (.nx e2)=>put i .no e2
   | some (.rt d)=>some (.rt d)
   | some (.ro ds)=>some (.ro ds)
   | _=>none)else none
 | r=>r
theorem Rel.drop{i:Nat}(R:Rel K cl σ H F env)(nh:∀ds,env[i]?≠some (.hd ds)):Rel K cl (σ.set i none) H F (env.set i .no)∧Frm σ H F env (σ.set i none) H F (env.set i .no):=by
 have key:∀(j:Nat) (s:Sl),(env.set i .no)[j]? = some s→s≠.no→j≠i∧env[j]? = some s:=fun j s q ns=>by
  by_cases z:j=i
  ·subst z
   have hj:j<env.length:=by have:=(List.getElem?_eq_some_iff.mp q).1;rwa [List.length_set]at this
   rw[List.getElem?_set_self hj]at q;cases q;exact absurd rfl ns
  ·rw[List.getElem?_set_ne (Ne.symm z)]at q;exact⟨z,q⟩
 have muk:∀j,Mu (env.set i .no) j→j≠i∧Mu env j:=fun j ⟨ds,q⟩=>by
  rcases q with q | q
  ·obtain⟨z,q⟩:=key j _ q (fun z=>by cases z);exact⟨z,ds,.inl q⟩
  ·obtain⟨z,q⟩:=key j _ q (fun z=>by cases z);exact⟨z,ds,.inr q⟩
 refine⟨⟨R.sub,by rw[List.length_set,List.length_set];exact R.len,fun j d q=>?_,fun j ds q=>?_,fun j l b hj hl e1 e2=>?_,R.od.set a7H⟩,⟨Same.refl _,fun a o h f w=>⟨h,f,fun⟨j,ds,oo,q,e⟩=>?_⟩,fun j ds q=>?_,fun _ h=>h⟩⟩
 ·obtain⟨z,q⟩:=key j _ q (fun z=>by cases z)
  obtain⟨v,e,p⟩:=R.fz j d q
  exact⟨v,by rw[List.getElem?_set_ne (Ne.symm z)];exact e,p⟩
 ·have:j≠i∧(env[j]? = some (.ow ds)∨env[j]? = some (.hd ds)):=by
   rcases q with q | q
   ·obtain⟨z,q⟩:=key j _ q (fun z=>by cases z);exact⟨z,.inl q⟩
   ·obtain⟨z,q⟩:=key j _ q (fun z=>by cases z);exact⟨z,.inr q⟩
  obtain⟨z,q⟩:=this
  obtain⟨a,xs,e,r⟩:=R.mu j ds q
  exact⟨a,xs,by rw[List.getElem?_set_ne (Ne.symm z)];exact e,r⟩
 ·obtain⟨zj,mj⟩:=muk j hj
  obtain⟨zl,ml⟩:=muk l hl
  rw[List.getElem?_set_ne (Ne.symm zj)]at e1
  rw[List.getElem?_set_ne (Ne.symm zl)]at e2
  exact R.inj j l b mj ml e1 e2
 ·obtain⟨z,q⟩:=key j _ q (fun z=>by subst z;exact oo)
  rw[List.getElem?_set_ne (Ne.symm z)]at e
  exact w ⟨j,ds,oo,q,e⟩
 ·have z:j≠i:=fun z=>by subst z;exact nh ds q
  rw[List.getElem?_set_ne (Ne.symm z),List.getElem?_set_ne (Ne.symm z)]
  exact⟨q,rfl⟩
end
section
variable {K:W.Frag}{cl:Str→Addr}{E:XK}{σ:St}{H F:Hp}{env:DE}{k:Nat}
def a0Y:Option Sl→Sl
 | some (.fz d)=>.fz d
 | some (.ow ds)=>.hd ds
 | some (.hd ds)=>.hd ds
 | some (.od ks ds)=>.hk ks ds
 | some (.hk ks ds)=>.hk ks ds
 | _=>.no
def t7(k:Nat)(js:List Nat)(e:DE):DE:=List.replicate k .no++js.map fun j=>a0Y e[j]?
def w8(b:GF)(c:BF)(el:ZF)(ec:DE)(eo:DE):List D→List D→Option (R (List D))
 | [],acc=>some (.ok acc eo)
 | d::ds,acc=>match b d ec with
  | none=>none
  | some e1=>bnd (c e1) fun t e2=>if t=true then bnd (el e2) fun y _=>if acc.length<sizeLine then w8 b c el ec eo ds (acc++[y])else none
   else w8 b c el ec eo ds acc
theorem a0p{js:List Nat}{e:DE}{i:Nat}{s:Sl}(h:(t7 k js e)[i]? = some s)(n:s≠.no):k≤i∧∃j,js[i-k]? = some j∧a0Y e[j]? = s:=by
 unfold t7 at h
 by_cases z:i<k
 ·rw[List.getElem?_append_left (by rw[List.length_replicate];exact z),List.getElem?_replicate,if_pos z]at h
  cases h;exact absurd rfl n
 ·rw[List.getElem?_append_right (by rw[List.length_replicate];omega),List.length_replicate,List.getElem?_map]at h
  cases q:js[i-k]? with
  | none=>rw[q]at h;cases h
  | some j=>rw[q]at h;cases h;exact⟨by omega,j,rfl,rfl⟩
theorem P5{js:List Nat}{i j:Nat}{v:V}(hk:k≤i)(hj:js[i-k]? = some j)(h:σ[j]? = some (some v)):(x6 k js σ)[i]? = some (some v):=by
 unfold x6
 rw[List.getElem?_append_right (by rw[List.length_replicate];exact hk),List.length_replicate,List.getElem?_map,hj]
 simp[h]
theorem RelOd.comp{js:List Nat}(R:RelOd K cl σ H F env)(nd:js.Nodup):RelOd K cl (x6 k js σ) H F (t7 k js env):=by
 have cap:∀{j:Nat} {s:Sl} {ks:DK} {ds:List D},a0Y env[j]? = s→Y0 s ks ds→∃t,env[j]? = some t∧Y0 t ks ds:=fun{j s ks ds} h d=>by
  unfold a0Y at h
  split at h<;>subst h
  ·exact d.elim
  ·exact d.elim
  ·exact d.elim
  ·rename_i q;exact⟨_,q,d⟩
  ·rename_i q;exact⟨_,q,d⟩
  ·exact d.elim
 have get:∀(i:Nat) (s:Sl) (ks:DK) (ds:List D),(t7 k js env)[i]? = some s→Y0 s ks ds→k≤i∧∃j t,js[i-k]? = some j∧env[j]? = some t∧Y0 t ks ds:=fun i s ks ds h d=>by
  obtain⟨hk,j,hj,c⟩:=a0p h (fun z=>by subst z;exact d)
  obtain⟨t,q,dt⟩:=cap c d
  exact⟨hk,j,t,hj,q,dt⟩
 refine⟨fun i s ks ds h d=>?_,fun i l s t ks ls ds es b hi di hl dl ei el=>?_⟩
 ·obtain⟨hk,j,t,hj,q,dt⟩:=get i s ks ds h d
  obtain⟨a,xs,e,r⟩:=R.at_ j t ks ds q dt
  exact⟨a,xs,P5 hk hj e,r⟩
 ·obtain⟨hk,j,s',hj,q,dt⟩:=get i s ks ds hi di
  obtain⟨hk',m,t',hm,q',dt'⟩:=get l t ls es hl dl
  obtain⟨a,xs,e,_⟩:=R.at_ j s' ks ds q dt
  obtain⟨a',xs',e',_⟩:=R.at_ m t' ls es q' dt'
  have h1:=P5 (k:=k) hk hj e
  have h2:=P5 (k:=k) hk' hm e'
  rw[ei]at h1;cases h1
  rw[el]at h2;cases h2
  have jm:j=m:=R.inj j m s' t' ks ls ds es b q dt q' dt' e e'
  subst jm
  obtain⟨hi',ej⟩:=List.getElem?_eq_some_iff.mp hj
  obtain⟨hl',em⟩:=List.getElem?_eq_some_iff.mp hm
  have:i-k=l-k:=(List.getElem_inj nd).mp (ej.trans em.symm)
  omega
theorem Rel.comp{js:List Nat}(R:Rel K cl σ H F env)(nd:js.Nodup):Rel K cl (x6 k js σ) H F (t7 k js env):=by
 have cap:∀{j:Nat} {ds:List D},a0Y env[j]? = .hd ds→env[j]? = some (.ow ds)∨env[j]? = some (.hd ds):=fun{j ds} h=>by
  unfold a0Y at h
  split at h
  ·cases h
  ·rename_i q;cases h;exact .inl q
  ·rename_i q;cases h;exact .inr q
  ·cases h
  ·cases h
  ·cases h
 have noow:∀{j:Nat} {ds:List D},a0Y env[j]?≠.ow ds:=fun{j ds} h=>by
  unfold a0Y at h
  split at h<;>cases h
 have mu':∀(i:Nat) (ds:List D),((t7 k js env)[i]? = some (.ow ds)∨(t7 k js env)[i]? = some (.hd ds))→k≤i∧∃j,js[i-k]? = some j∧(env[j]? = some (.ow ds)∨env[j]? = some (.hd ds)):=fun i ds q=>by
  rcases q with q | q
  ·obtain⟨hk,j,hj,c⟩:=a0p q (fun z=>by cases z);exact absurd c noow
  ·obtain⟨hk,j,hj,c⟩:=a0p q (fun z=>by cases z);exact⟨hk,j,hj,cap c⟩
 refine⟨R.sub,?_,fun i d q=>?_,fun i ds q=>?_,fun i l b ⟨ds,q⟩ ⟨es,q'⟩ e1 e2=>?_,R.od.comp nd⟩
 ·unfold x6 t7
  rw[List.length_append,List.length_append,List.length_replicate,List.length_replicate,List.length_map,List.length_map]
 ·obtain⟨hk,j,hj,c⟩:=a0p q (fun z=>by cases z)
  have:env[j]? = some (.fz d):=by
   unfold a0Y at c
   split at c
   ·rename_i q;cases c;exact q
   all_goals cases c
  obtain⟨v,e,p⟩:=R.fz j d this
  exact⟨v,P5 hk hj e,p⟩
 ·obtain⟨hk,j,hj,c⟩:=mu' i ds q
  obtain⟨a,xs,e,r⟩:=R.mu j ds c
  exact⟨a,xs,P5 hk hj e,r⟩
 ·obtain⟨hk,j,hj,c⟩:=mu' i ds q
  obtain⟨hl,m,hm,c'⟩:=mu' l es q'
  obtain⟨a,xs,e,_⟩:=R.mu j ds c
  obtain⟨a',xs',e',_⟩:=R.mu m es c'
  have h1:=P5 (k:=k) hk hj e
  have h2:=P5 (k:=k) hl hm e'
  rw[e1]at h1;cases h1
  rw[e2]at h2;cases h2
  have jm:j=m:=R.inj j m b ⟨ds,c⟩ ⟨es,c'⟩ e e'
  subst jm
  obtain⟨hi',ei⟩:=List.getElem?_eq_some_iff.mp hj
  obtain⟨hl',el⟩:=List.getElem?_eq_some_iff.mp hm
  have:i-k=l-k:=(List.getElem_inj nd).mp (ei.trans el.symm)
  omega
def NoOw(e:DE):Prop:=∀(i:Nat) (s:Sl),isO s→e[i]?≠some s
theorem a4G{js:List Nat}{e:DE}:NoOw (t7 k js e):=fun i s oo q=>by
 obtain⟨hk,j,hj,c⟩:=a0p q (fun z=>by subst z;exact oo)
 unfold a0Y at c
 split at c<;>subst c<;>exact oo
theorem NoOw.not{e:DE}(n:NoOw e){σ:St}{a:Addr}:¬Ow σ e a:=fun⟨i,ds,oo,q,_⟩=>n i ds oo q
theorem Frm.gr{σ':St}{H' F':Hp}{env':DE}(f:Frm σ H F env σ' H' F' env')(n:NoOw env)(s:Same F' H'):Gr H F H' F':=⟨f.fz,s,fun a o h g=>by obtain⟨h1,f1,_⟩:=f.hid a o h g n.not;exact⟨h1,f1⟩⟩
theorem FX.gr{H' F':Hp}(f:FX σ H F env H' F')(n:NoOw env):Gr H F H' F':=⟨f.fz,f.sub,fun a o h g=>f.hid a o h g n.not⟩
structure Grow(K:W.Frag)(cl:Str→Addr)(σ:St)(H0 F0:Hp)(env:DE)(B:Addr)(acc:List D)(ys:List V)(H F:Hp):Prop where
 rel:Rel K cl σ H F env
 frm:Frm σ H0 F0 env σ H F env
 new:H0 B=none
 at_:H B=some (.lst ys)
 un:F B=none
 far:∀j,Mu env j→σ[j]?≠some (some (.ref B))
 rps:Rps K cl F acc ys
 stay:∀a o,H0 a=some o→F0 a=none→H a=some o∧F a=none
theorem Grow.start{B:Addr}(R:Rel K cl σ H F env)(hB:H B=none):Grow K cl σ H F env B [] [] (upd H B (.lst [])) F:=by
 obtain⟨R',f⟩:=R.newN (o:=.lst []) hB
 refine⟨R',f,hB,k9,R.sub.free hB,fun j ⟨ds,q⟩ e=>?_,.nil,fun a o h f=>⟨by rw[f9 (fun z=>by rw[z,hB]at h;cases h)];exact h,f⟩⟩
 obtain⟨a,ys,e1,hH,_⟩:=R.mu j ds q
 rw[e]at e1;cases e1
 rw[hB]at hH;cases hH
theorem Grow.gr{B:Addr}{acc:List D}{ys:List V}{H0 F0 H' F':Hp}(g:Grow K cl σ H0 F0 env B acc ys H F)(r:Gr H F H' F'):Grow K cl σ H0 F0 env B acc ys H' F' :=
 ⟨g.rel.gr r,g.frm.trans (g.rel.frm r),g.new,(r.hid B _ g.at_ g.un).1,(r.hid B _ g.at_ g.un).2,g.far,g.rps.mono r.fz,fun a o h f=>by obtain⟨h1,f1⟩:=g.stay a o h f;exact r.hid a o h1 f1⟩
theorem Grow.push{B:Addr}{acc:List D}{ys:List V}{H0 F0:Hp}{d:D}{y:V}(g:Grow K cl σ H0 F0 env B acc ys H F)(p:Rp K cl F d y):Grow K cl σ H0 F0 env B (acc++[d]) (ys++[y]) (upd H B (.lst (ys++[y]))) F:=by
 have ne:∀a o,F a=some o→a≠B:=fun a o h z=>by rw[z,g.un]at h;cases h
 refine⟨⟨fun a o h=>by rw[f9 (ne a o h)];exact g.rel.sub _ _ h,g.rel.len,g.rel.fz,fun j ds q=>?_,g.rel.inj,g.rel.od.updL g.at_⟩,⟨g.frm.fz,fun a o h f w=>?_,g.frm.keep,fun a h=>?_⟩,g.new,k9,g.un,g.far,g.rps.append (.one p),fun a o h f=>by rw[f9 (fun z=>by rw[z,g.new]at h;cases h)];exact g.stay a o h f⟩
 ·obtain⟨a,xs,e,hH,r⟩:=g.rel.mu j ds q
  have z:a≠B:=fun z=>g.far j ⟨ds,q⟩ (by rw[e,z])
  exact⟨a,xs,e,by rw[f9 z];exact hH,r⟩
 ·have z:a≠B:=fun z=>by rw[z,g.new]at h;cases h
  rw[f9 z];exact g.frm.hid a o h f w
 ·by_cases z:a=B
  ·rw[z,k9]at h;cases h
  ·rw[f9 z]at h;exact g.frm.dom a h
theorem a0_{b:GF}{c:BF}{el:ZF}{g:TG}{tf:TT}{te:TE}{js:List Nat}{B:Addr}{d:D}{x:V}{ds acc:List D}{ys:List V}{H0 F0:Hp}{Q:VK}{Pv:List V→Hp→Prop}(nd:js.Nodup)
  (hg:R0 K cl k g b) (hc:Q8 K cl E tf c) (he:A9 K cl E te el) (gw:Grow K cl σ H0 F0 env B acc ys H F) (p:Rp K cl F d x)
  (h:Ct K cl E (PN K cl) (w8 b c el (t7 k js env) env (d::ds) acc) σ H0 F0 env Q)
  (hP:∀acc' ys' H' F',Grow K cl σ H0 F0 env B acc' ys' H' F'→Ct K cl E (PN K cl) (w8 b c el (t7 k js env) env ds acc') σ H0 F0 env Q→Pv ys' H') :
  g x (x6 k js σ) H fun σ2 H2=>(σ2.drop k=(x6 k js σ).drop k∧σ2.length=(x6 k js σ).length)∧tf σ2 H2 fun t H3 =>
   if t=true then te σ2 H3 fun y H4=>H4 B=some (.lst ys)∧ys.length<sizeLine∧Pv (ys++[y]) (upd H4 B (.lst (ys++[y])))else Pv ys H3:=by
 unfold w8 at h
 have Rc:Rel K cl (x6 k js σ) H F (t7 k js env):=gw.rel.comp nd
 split at h
 ·exact h.elim
 ·rename_i e1 hb
  refine hg x _ H _ d _ e1 F Rc p hb fun σ2 d2 l2 f2 R2=>⟨⟨d2,l2⟩,?_⟩
  have n1:NoOw (t7 k js env):=a4G
  -- ways out by an exception
  have exc:∀{H' F':Hp} {σ':St} {e':DE} {H'' F'':Hp} {n:XN},Frm (x6 k js σ) H F (t7 k js env) σ' H' F' e'→FX σ' H' F' e' H'' F''→(∀H' F',FX σ H0 F0 env H' F'→∀cx,Xf K cl F' n cx→E (.ref (cl n.nm)) cx H')→∀cx,Xf K cl F'' n cx→E (.ref (cl n.nm)) cx H'':=fun{H' F' σ' e' H'' F'' n} f fx q=>by
   have gr:Gr H F H'' F'':=(f.fx fx).gr n1
   exact q _ _ (gw.frm.fx gr.fx)
  refine hc σ2 H _ e1 F R2 ?_
  cases hce:c e1 with
  | none=>rw[hce]at h;exact h.elim
  | some rc =>
   rw[hce]at h
   cases rc with
   | ex n=>exact fun H' F' fx=>exc f2 fx h
   | ok t e2 =>
    intro t' H3 F3 f3 R3 ht
    have ht:t'=t:=ht
    subst ht
    have h:Ct K cl E (PN K cl) (if t'=true then bnd (el e2) fun y _=>if acc.length<sizeLine then w8 b c el (t7 k js env) env ds (acc++[y])else none else w8 b c el (t7 k js env) env ds acc) σ H0 F0 env Q:=h
    have gr3:Gr H F H3 F3:=(f2.trans f3).gr n1 R3.sub
    by_cases z:t'=true
    ·rw[if_pos z]at h ⊢
     refine he σ2 H3 _ e2 F3 R3 ?_
     cases hel:el e2 with
     | none=>rw[hel]at h;exact h.elim
     | some re =>
      rw[hel]at h
      cases re with
      | ex n=>exact fun H' F' fx=>exc (f2.trans f3) fx h
      | ok y e3 =>
       intro v H4 F4 f4 R4 hv
       have h:Ct K cl E (PN K cl) (if acc.length<sizeLine then w8 b c el (t7 k js env) env ds (acc++[y])else none) σ H0 F0 env Q:=h
       split at h
       ·rename_i hlen
        have gr4:Gr H F H4 F4:=((f2.trans f3).trans f4).gr n1 R4.sub
        have gw4:=gw.gr gr4
        exact⟨gw4.at_,by rw[← gw4.rps.length];exact hlen,hP _ _ _ _ (gw4.push hv) h⟩
       ·exact h.elim
    ·rw[if_neg z]at h ⊢
     exact hP _ _ _ _ (gw.gr gr3) h
theorem a1O{b:GF}{c:BF}{el:ZF}{js:List Nat}{B:Addr}{acc:List D}{ys:List V}{H0 F0:Hp}{Q:VK}(gw:Grow K cl σ H0 F0 env B acc ys H F)(h:Ct K cl E (PN K cl) (w8 b c el (t7 k js env) env [] acc) σ H0 F0 env Q):Q (.ref B) H :=
 h _ H F gw.frm gw.rel ⟨B,ys,rfl,gw.new,gw.at_,gw.un,gw.far,gw.rps⟩
theorem a5c{b:GF}{c:BF}{el:ZF}{g:TG}{tf:TT}{te:TE}{js:List Nat}{ds:List D}{xs:List V}{a B:Addr}{Q:VK}(nd:js.Nodup)(hg:R0 K cl k g b)(hc:Q8 K cl E tf c)(he:A9 K cl E te el)(R:Rel K cl σ H F env)(hB:H B=none)
  (hl:∀H' F',Same F F'→Same F' H'→(∀a o,H a=some o→F a=none→H' a=some o∧F' a=none)→SqL K H' a xs) (r:Rps K cl F ds xs) (h:Ct K cl E (PN K cl) (w8 b c el (t7 k js env) env ds []) σ H F env Q) :
  S6 (Itl K a) g tf te k (x6 k js σ) B (fun H'=>Q (.ref B) H') H:=by
 refine a8x (xs:=xs) (fun i ys H'=>∃F' acc,Grow K cl σ H F env B acc ys H' F'∧Ct K cl E (PN K cl) (w8 b c el (t7 k js env) env (ds.drop i) acc) σ H F env Q) ⟨F,[],.start R hB,h⟩ (fun i ys H' _ ⟨F',acc,gw,_⟩=>hl H' F' gw.frm.fz gw.rel.sub gw.stay) (fun i x ys H' hx ⟨F',acc,gw,h'⟩=>?_) (fun ys H' ⟨F',acc,gw,h'⟩=>?_)
 ·obtain⟨d,hd,p⟩:=r.get' hx
  rw[S9 hd]at h'
  exact a0_ (Pv:=fun ys' H2=>∃F' acc,Grow K cl σ H F env B acc ys' H2 F'∧Ct K cl E (PN K cl) (w8 b c el (t7 k js env) env (ds.drop (i+1)) acc) σ H F env Q) nd hg hc he gw (Rp.mono gw.frm.fz _ _ p) h' fun acc' ys' H2 F2 gw2 h2=>⟨F2,acc',gw2,h2⟩
 ·rw[← r.length,List.drop_length]at h'
  exact a1O gw h'
theorem b3Z{b:GF}{c:BF}{el:ZF}{g:TG}{tf:TT}{te:TE}{js:List Nat}{lo:Int}{n:Nat}{B:Addr}{Q:VK}(nd:js.Nodup)(hg:R0 K cl k g b)(hc:Q8 K cl E tf c)(he:A9 K cl E te el)(R:Rel K cl σ H F env)(hB:H B=none)
  (h:Ct K cl E (PN K cl) (w8 b c el (t7 k js env) env (L8 lo n) []) σ H F env Q) :
  S6 (Itr lo n) g tf te k (x6 k js σ) B (fun H'=>Q (.ref B) H') H:=by
 refine a7z (fun i ys H'=>∃F' acc,Grow K cl σ H F env B acc ys H' F'∧Ct K cl E (PN K cl) (w8 b c el (t7 k js env) env ((L8 lo n).drop i) acc) σ H F env Q) ⟨F,[],.start R hB,h⟩ (fun i ys H' hx ⟨F',acc,gw,h'⟩=>?_) (fun ys H' ⟨F',acc,gw,h'⟩=>?_)
 ·rw[a4F hx]at h'
  exact a0_ (Pv:=fun ys' H2=>∃F' acc,Grow K cl σ H F env B acc ys' H2 F'∧Ct K cl E (PN K cl) (w8 b c el (t7 k js env) env ((L8 lo n).drop (i+1)) acc) σ H F env Q) nd hg hc he gw (by simp only[Rp]) h' fun acc' ys' H2 F2 gw2 h2=>⟨F2,acc',gw2,h2⟩
 ·rw[show(L8 lo n).drop n=[]from List.drop_eq_nil_of_le (by rw[a5F];exact Nat.le_refl _)]at h'
  exact a1O gw h'
def D7:BF:=fun e=>some (.ok true e)
theorem L3:Q8 K cl E b1e D7:=fun σ H Q env F R h=>h true H F Frm.refl R rfl
def a0D(k:Nat)(js:List Nat)(f:ZF)(b:GF)(c:BF)(el:ZF):NF:=fun e=>bnd (f e) fun d e1=>match seqL d with
 | none=>none
 | some ds=>w8 b c el (t7 k js e1) e1 ds []
def N8(i:Nat)(k:Nat)(js:List Nat)(b:GF)(c:BF)(el:ZF):NF:=fun e=>match look e i with
 | some d=>(match seqL d with
  | none=>none
  | some ds=>w8 b c el (t7 k js e) e ds [])
 | none=>none
def a3w(rg:List D→Option (Int×Nat))(k:Nat)(js:List Nat)(f:AF)(b:GF)(c:BF)(el:ZF):NF:=fun e=>bnd (f e) fun ds e1=>match rg ds with
 | none=>none
 | some (lo,n)=>w8 b c el (t7 k js e1) e1 (L8 lo n) []
theorem a6U{t:TE}{g:TG}{tf:TT}{te:TE}{js:List Nat}{f:ZF}{b:GF}{c:BF}{el:ZF}(nd:js.Nodup)(hf:A9 K cl E t f)(hg:R0 K cl k g b)(hc:Q8 K cl E tf c)(he:A9 K cl E te el):Y1 K cl E (a08 (a28 K t) g tf te k js) (a0D k js f b c el):=by
 intro σ H Q env F R h
 refine hf σ H _ env F R ((Ct.bnd h a1h).mono fun x H1 ⟨F1,e1,d,s1,R1,p1,h1⟩=>?_)
 split at h1
 ·exact h1.elim
 ·rename_i ds hs
  obtain⟨a,xs,rfl,r,hl⟩:=Rp.seqL p1 hs
  exact⟨a,rfl,⟨xs,hl H1 R1.sub⟩,fun B hB=>a5c nd hg hc he R1 hB (fun H' F' f2 s2 _=>hl H' (f2.trans s2)) r h1⟩
theorem T1{i:Nat}{g:TG}{tf:TT}{te:TE}{js:List Nat}{b:GF}{c:BF}{el:ZF}(nd:js.Nodup)(hg:R0 K cl k g b)(hc:Q8 K cl E tf c)(he:A9 K cl E te el):Y1 K cl E (a08 (a28 K (R9 i)) g tf te k js) (N8 i k js b c el):=by
 intro σ H Q env F R h
 unfold N8 look at h
 cases q:env[i]? with
 | none=>rw[q]at h;exact h.elim
 | some s =>
  rw[q]at h
  cases s with
  | no=>exact h.elim
  | od _ _=>exact h.elim
  | hk _ _=>exact h.elim
  | fz d =>
   have h:Ct K cl E (PN K cl) (match seqL d with
    | none=>none
    | some ds=>w8 b c el (t7 k js env) env ds []) σ H F env Q:=h
   split at h
   ·exact h.elim
   ·rename_i ds hs
    obtain⟨v,e,p⟩:=R.fz i d q
    obtain⟨a,xs,rfl,r,hl⟩:=Rp.seqL p hs
    exact⟨_,e,a,rfl,⟨xs,hl H R.sub⟩,fun B hB=>a5c nd hg hc he R hB (fun H' F' f2 s2 _=>hl H' (f2.trans s2)) r h⟩
  | ow ds =>
   have h:Ct K cl E (PN K cl) (w8 b c el (t7 k js env) env ds []) σ H F env Q:=h
   obtain⟨a,xs,e,hH,hF,r⟩:=R.mu i ds (.inl q)
   exact⟨_,e,a,rfl,⟨xs,.of hH⟩,fun B hB=>a5c nd hg hc he R hB (fun H' F' _ _ st=>.of (st a _ hH hF).1) r h⟩
  | hd ds =>
   have h:Ct K cl E (PN K cl) (w8 b c el (t7 k js env) env ds []) σ H F env Q:=h
   obtain⟨a,xs,e,hH,hF,r⟩:=R.mu i ds (.inr q)
   exact⟨_,e,a,rfl,⟨xs,.of hH⟩,fun B hB=>a5c nd hg hc he R hB (fun H' F' _ _ st=>.of (st a _ hH hF).1) r h⟩
theorem a8N{t:TA}{g:TG}{tf:TT}{te:TE}{js:List Nat}{f:AF}{b:GF}{c:BF}{el:ZF}(nd:js.Nodup)(hf:Z3 K cl E t f)(hg:R0 K cl k g b)(hc:Q8 K cl E tf c)(he:A9 K cl E te el):Y1 K cl E (a08 (a7s t) g tf te k js) (a3w P4 k js f b c el):=by
 intro σ H Q env F R h
 refine hf σ H _ env F R ((Ct.bnd h a1h).mono fun x H1 ⟨F1,e1,ds,s1,R1,p1,h1⟩=>?_)
 split at h1
 ·exact h1.elim
 ·rename_i lo n hs
  obtain⟨j,e,c1,c2,rfl,rfl⟩:=a6T hs p1
  exact⟨j,e,c1,c2,fun B hB=>b3Z nd hg hc he R1 hB h1⟩
theorem a1P{i:Nat}{wi:TI}{g:TG}{tf:TT}{te:TE}{js:List Nat}{f:NF}(h:Y1 K cl E (a08 wi g tf te k js) f):RfS K cl E (a5t i wi g tf te k js) (u9 i f):=fun N σ H env F R q=>G8 h N σ H env F R q
end
def fD(n m:Nat)(body:SF)(ds:List D):Option R1:=if ds.length=m then(match body (ds.map .fz++List.replicate (n-ds.length) .no)with
 | some (.nx _)=>some (.ret .non)
 | some (.rt d)=>some (.ret d)
 | some (.ro es)=>some (.own es)
 | some (.rz dss)=>some (.owz dss)
 | some (.rp n es)=>some (.owp n es)
 | some (.ex c)=>some (.ex c)
 | _=>none)else none
section
variable {P:Program}{w:World}{K:W.Frag}{mg:Str→Option Value}{base:Heap}{cl:Str→Addr}
theorem a8O{N:List Str}{vs:List V}{ds:List D}{H F:Hp}(s:Same F H)(p:Rps K cl F ds vs):Rel K cl (start N vs) H F (ds.map .fz++List.replicate (N.length-ds.length) .no)∧NoOw (ds.map .fz++List.replicate (N.length-ds.length) .no):=by
 have key:∀(i:Nat) (t:Sl),(ds.map Sl.fz++List.replicate (N.length-ds.length) .no)[i]? = some t→t≠.no→∃d,ds[i]? = some d∧t=.fz d:=fun i t q n=>by
  by_cases z:i<ds.length
  ·rw[List.getElem?_append_left (by rw[List.length_map];exact z),List.getElem?_map]at q
   cases hd:ds[i]? with
   | none=>rw[hd]at q;cases q
   | some d=>rw[hd]at q;cases q;exact⟨d,rfl,rfl⟩
  ·rw[List.getElem?_append_right (by rw[List.length_map];omega),List.getElem?_replicate]at q
   split at q
   ·cases q;exact absurd rfl n
   ·cases q
 have no:NoOw (ds.map .fz++List.replicate (N.length-ds.length) .no):=fun i es oo q=>by
  obtain⟨d,_,z⟩:=key i _ q (fun z=>by subst z;exact oo)
  subst z;exact oo
 refine⟨⟨s,?_,fun i d q=>?_,fun i es q=>?_,fun i j b ⟨es,q⟩ _ _ _=>?_,.none fun j s ks ds q d=>by obtain⟨_,_,rfl⟩:=key j s q (fun z=>by subst z;exact d);exact d⟩,no⟩
 ·unfold start
  rw[List.length_append,List.length_append,List.length_map,List.length_map,List.length_replicate,List.length_replicate,p.length]
 ·obtain⟨d',hd,z⟩:=key i _ q (fun z=>by cases z)
  cases z
  obtain⟨v,hv,r⟩:=p.get hd
  refine⟨v,?_,r⟩
  unfold start
  rw[List.getElem?_append_left (by rw[List.length_map];exact(List.getElem?_eq_some_iff.mp hv).1),List.getElem?_map,hv];rfl
 ·rcases q with q | q
  ·obtain⟨d,_,z⟩:=key i _ q (fun z=>by cases z);cases z
  ·obtain⟨d,_,z⟩:=key i _ q (fun z=>by cases z);cases z
 ·rcases q with q | q
  ·obtain⟨d,_,z⟩:=key i _ q (fun z=>by cases z);cases z
  ·obtain⟨d,_,z⟩:=key i _ q (fun z=>by cases z);cases z
theorem a2r{n m:Nat}{body:SF}{vs:List V}{H:Hp}{Q:VK}{E:XK}(h:k8 K cl (fD n m body) vs H Q E):vs.length=m:=by
 obtain⟨ds,F,s,p,h⟩:=h
 unfold fD at h
 by_cases z:ds.length=m
 ·rw[← p.length];exact z
 ·rw[if_neg z]at h;exact h.elim
theorem a0E{N:List Str}{m:Nat}{body:SF}{t:TS}{vs:List V}{H:Hp}{Q:VK}{E:XK}(hb:RfS K cl E t body)(h:k8 K cl (fD N.length m body) vs H Q E):t { nx:=fun _ H'=>Q .non H',rt:=Q } (start N vs) H:=by
 obtain⟨ds,F,s,p,h⟩:=h
 obtain⟨R,no⟩:=a8O (N:=N) s p
 refine hb _ _ H _ F R ?_
 unfold fD at h
 by_cases z:ds.length=m
 ·rw[if_pos z]at h
  cases r:body (ds.map .fz++List.replicate (N.length-ds.length) .no)with
  | none=>rw[r]at h;exact h.elim
  | some rs =>
   rw[r]at h
   cases rs with
   | nx e=>exact fun σ' H' F' f R'=>h .non H' F' (f.gr no R'.sub) (by simp only[Rp])
   | rt d=>exact fun v H' F' x q=>h v H' F' (x.gr no) q
   | ro es =>
    refine fun a xs H' F' x ha fa nw q=>h a xs H' F' (x.gr no) ?_ ha fa q
    cases e:H a with
    | none=>rfl
    | some o=>exact absurd (nw o e) no.not
   | rz dss =>
    refine fun p as H' F' x hp ht fp rz=>h p as H' F' (x.gr no) hp ht fp (rz.imp fun a xs ha fa nw=>?_)
    cases e:H a with
    | none=>rfl
    | some o=>exact absurd (nw o e) no.not
   | rp n es =>
    refine fun p a xs H' F' x hp ht fp ha fa nw q=>h p a xs H' F' (x.gr no) hp ht fp ?_ ha fa q
    cases e:H a with
    | none=>rfl
    | some o=>exact absurd (nw o e) no.not
   | bk e=>exact h.elim
   | ct e=>exact h.elim
   | ex c=>exact fun H' F' x=>h H' F' (x.gr no)
 ·rw[if_neg z]at h;exact h.elim
theorem Fun.okD{x qual:Str}{st:Stmt}{f:Addr}{fd:FuncData}{N ps:List Str}{k:Nat}{body:SF}(F:Fun K x qual st f fd)(S:FnScope N ps (c9 st))
  (hbody:∀(cdv:Value) (A:Around) (outer:List Env) (s:Shared) (H:Hp) (E:XK),Room k (A.deeper (envOfC qual (c9 st) s.heap.objs.size f cdv)) →
   ∃t,PSs (X9 (B7 P w) P w K mg base N qual (c9 st) f cdv A outer s H E) (l7 st) t∧RfS K cl E t body):FnOk P w K mg base (B7 P w) (k+1) f fd ps (k8 K cl (fD N.length ps.length body)) :=
 F.okE S (fun vs H Q E h=>a2r h) fun cdv A outer s H vs Q E hr h=>by
  obtain⟨t,h1,h2⟩:=hbody cdv A outer s H E hr
  exact⟨t,h1,a0E h2 h⟩
theorem FunD.okD{x qual:Str}{st:Stmt}{dT f:Addr}{fd:FuncData}{N ps:List Str}{k:Nat}{body:SF}(F:FunD K x qual st dT f fd)(S:FnScope N ps (c9 st))
  (hbody:∀(cdv:Value) (A:Around) (outer:List Env) (s:Shared) (H:Hp) (E:XK),Room k (A.deeper (envOfC qual (c9 st) s.heap.objs.size f cdv)) →
   ∃t,PSs (X9 (B7 P w) P w K mg base N qual (c9 st) f cdv A outer s H E) (l7 st) t∧RfS K cl E t body):FnOk P w K mg base (B7 P w) (k+1) f fd ps (k8 K cl (fD N.length ps.length body)) :=
 F.okE S (fun vs H Q E h=>a2r h) fun cdv A outer s H vs Q E hr h=>by
  obtain⟨t,h1,h2⟩:=hbody cdv A outer s H E hr
  exact⟨t,h1,a0E h2 h⟩
theorem b1W{g:List D→Option R1}{vs:List V}{H:Hp}{Q:VK}{E:XK}{a:Addr}{ns:List Int}(e:vs=[.ref a])(h:Scr K H a (ns.map V.int))(q:∀H',Q (.bl true) H')(m:g [.scr ns]=some (.ret (.bl true))):k8 K cl g vs H Q E:=by
 refine⟨[.scr ns],H,Same.refl _,?_,?_⟩
 ·rw[e];exact .one (by simp only[Rp];exact⟨a,rfl,h⟩)
 ·rw[m]
  intro v H' F' _ p
  have p:Rp K cl F' (.bl true) v:=p
  simp only[Rp]at p
  rw[p];exact q H'
def tyN:D→Option String
 | .non=>some "NoneType"
 | .bl _=>some "bool"
 | .int _=>some "int"
 | .str _=>some "str"
 | .lst _=>some "list"
 | .tup _=>some "tuple"
 | _=>none
theorem a6V{K:W.Frag}(t n:String)(ht:t∈["NoneType","bool","int","str","list","tuple"])(hn:n∈["bool","int","str","list","tuple"]):W.kitOne K (.type t) (.type n)=some (t == n || (t == "bool" && n == "int")):=by
 simp only[List.mem_cons,List.not_mem_nil,or_false]at ht hn
 rcases ht with rfl | rfl | rfl | rfl | rfl | rfl<;>rcases hn with rfl | rfl | rfl | rfl | rfl<;>first | rfl | with_unfolding_all rfl
def a38:List D→Option D
 | [d,.ty n]=>match tyN d with
  | some t=>if n∈["bool","int","str","list","tuple"]then some (.bl (t == n || (t == "bool" && n == "int")))else none
  | none=>none
 | _=>none
theorem a6W{d:D}{t:String}(h:tyN d=some t):t∈["NoneType","bool","int","str","list","tuple"]:=by
 cases d<;>cases h<;>decide
theorem a8Q{F H:Hp}{d:D}{t:String}{v:V}(s:Same F H)(p:Rp K cl F d v)(h:tyN d=some t):TyX K H v (.type t):=by
 cases d<;>cases h<;>simp only[Rp]at p
 ·subst p;exact .of .non
 ·subst p;exact .of (.bl _)
 ·subst p;exact .of (.int _)
 ·subst p;exact .of (.str _)
 ·obtain⟨a,xs,rfl,h,_⟩:=p;exact .of (.tup (s _ _ h))
 ·obtain⟨a,xs,rfl,h,_⟩:=p;exact .of (.lst (s _ _ h))
theorem b30:a5D K cl (a7y K) a38:=by
 intro xs ds z H F Q s hx h q
 unfold a38 at h
 split at h
 ·rename_i d n
  split at h
  ·rename_i t ht
   split at h
   ·rename_i hn;cases h
    obtain⟨v,r,rfl,p1,p2⟩:=hx.inv
    obtain⟨u,r',rfl,p3,p4⟩:=p2.inv
    rw[p4.inv0]
    simp only[Rp]at p3
    subst p3
    exact⟨v,_,_,_,_,rfl,rfl,a8Q s p1 ht,a6V t n (a6W ht) hn,q _ H F (.refl s) (by simp only[Rp])⟩
   ·cases h
  ·cases h
 ·cases h
def a2s(n:String)(d:D):Option D:=match tyN d with
 | some t=>if n∈["bool","int","str","list","tuple"]then some (.bl (t == n || (t == "bool" && n == "int")))else none
 | none=>none
def a0F(i:Nat)(n:String):ZF:=fun e=>match look e i with
 | some d=>opt (a2s n d) e
 | none=>none
theorem a2t{E:XK}{i:Nat}{n:String}{t:TE}(ht:t=tC (.ty n):=by rfl):A9 K cl E (tCB (a7y K) (L5 (R9 i) (L5 t X8))) (a0F i n):=by
 subst ht
 intro σ H Q env F R h
 unfold a0F at h
 cases q:look env i with
 | none=>rw[q]at h;exact h.elim
 | some d =>
  rw[q]at h
  obtain⟨x,e,rb⟩:=R.look q
  refine⟨x,e,?_⟩
  cases hz:a2s n d with
  | none=>simp only[hz,a1I]at h;exact h.elim
  | some z =>
   simp only[hz,a1H]at h
   unfold a2s at hz
   split at hz
   ·rename_i t ht
    split at hz
    ·rename_i hn;cases hz
     refine⟨x,_,_,_,_,rfl,rfl,?_,a6V t n (a6W ht) hn,h _ H F Frm.refl R (by show Rp K cl F (.bl _) _;simp only[Rp])⟩
     rcases rb with p | ⟨a,xs,ds,rfl,rfl,hH,_⟩
     ·exact a8Q R.sub p ht
     ·cases ht;exact .of (.lst hH)
    ·cases hz
   ·cases hz
end
section
variable {α β:Type}
def a0v(r:Option RS)(k:SF):Option RS:=match r with
 | some (.nx e)=>k e
 | r=>r
theorem a39{f k:SF}{e:DE}:c6 f k e=a0v (f e) k:=rfl
theorem a2u{e:DE}{k:SF}:a0v (some (.nx e)) k=k e:=rfl
theorem b1X{d:D}{k:SF}:a0v (some (.rt d)) k=some (.rt d):=rfl
theorem b1Y{d:List D}{k:SF}:a0v (some (.ro d)) k=some (.ro d):=rfl
theorem b1Z{d:XN}{k:SF}:a0v (some (.ex d)) k=some (.ex d):=rfl
theorem b10{e:DE}{k:SF}:a0v (some (.bk e)) k=some (.bk e):=rfl
theorem b11{e:DE}{k:SF}:a0v (some (.ct e)) k=some (.ct e):=rfl
theorem b12{k:SF}:a0v none k=none:=rfl
theorem b0e{c:Prop} [Decidable c] {a b:Option RS} {k:SF}:a0v (if c then a else b) k=if c then a0v a k else a0v b k:=by split<;>rfl
theorem b13{d:D}{e:DE}:toZ (some (.ret d)) e=some (.ok d e):=rfl
theorem b14{d:List D}{e:DE}:toZ (some (.own d)) e=some (.ok (.lst d) e):=rfl
theorem b31{d:XN}{e:DE}:toZ (some (.ex d)) e=some (.ex d):=rfl
theorem b0f{d:D}{e:DE}:a1i (some (.ret d)) e=some (.ok d e):=rfl
theorem b0g{d:List D}{e:DE}:a1i (some (.own d)) e=some (.ok (.lst d) e):=rfl
theorem a8R{i:Nat}{d:D}{e:DE}:a3s i (some (.ret d)) e=put i (.fz d) e:=rfl
theorem a8S{i:Nat}{d:List D}{e:DE}:a3s i (some (.own d)) e=put i (.ow d) e:=rfl
theorem b0h{i:Nat}{d:XN}{e:DE}:a3s i (some (.ex d)) e=some (.ex d):=rfl
theorem a7O{i:Nat}{d:D}{e:DE}:a3t i (some (.ret d)) e=put i (.fz d) e:=rfl
theorem a7P{i:Nat}{d:List D}{e:DE}:a3t i (some (.own d)) e=put i (.ow d) e:=rfl
theorem a8T{d:D}:a5b (some (.ret d))=some (.rt d):=rfl
theorem a8U{d:List D}:a5b (some (.own d))=some (.ro d):=rfl
theorem b0i{d:XN}:a5b (some (.ex d))=some (.ex d):=rfl
theorem a7Q{d:D}:a3u (some (.ret d))=some (.rt d):=rfl
theorem a7R{d:List D}:a3u (some (.own d))=some (.ro d):=rfl
def a0Z(r:Option RS):Option R1:=match r with
 | some (.nx _)=>some (.ret .non)
 | some (.rt d)=>some (.ret d)
 | some (.ro es)=>some (.own es)
 | some (.rz dss)=>some (.owz dss)
 | some (.rp n es)=>some (.owp n es)
 | some (.ex c)=>some (.ex c)
 | _=>none
theorem b4D{n m:Nat}{body:SF}{ds:List D}(h:ds.length=m):fD n m body ds=a0Z (body (ds.map .fz++List.replicate (n-m) .no)):=by
 unfold fD;rw[if_pos h,h];rfl
theorem b15{e:DE}:a0Z (some (.nx e))=some (.ret .non):=rfl
theorem b16{d:D}:a0Z (some (.rt d))=some (.ret d):=rfl
theorem b17{d:List (List D)}:a0Z (some (.rz d))=some (.owz d):=rfl
theorem b18{d:List (List D)}{k:SF}:a0v (some (.rz d)) k=some (.rz d):=rfl
theorem a8V{d:List (List D)}:a5b (some (.owz d))=some (.rz d):=rfl
theorem b19{d:List D}:a0Z (some (.ro d))=some (.own d):=rfl
theorem b1_{d:XN}:a0Z (some (.ex d))=some (.ex d):=rfl
theorem b0j{c:Prop} [Decidable c] {a b:Option RS}:a0Z (if c then a else b)=if c then a0Z a else a0Z b:=by split<;>rfl
def a00(r:Option RS)(k:SF):Option RS:=match r with
 | some (.nx e)=>k e
 | some (.ct e)=>k e
 | some (.bk e)=>some (.nx e)
 | r=>r
theorem a6X{e:DE}{k:SF}:a00 (some (.nx e)) k=k e:=rfl
theorem b2a{e:DE}{k:SF}:a00 (some (.ct e)) k=k e:=rfl
theorem b2b{e:DE}{k:SF}:a00 (some (.bk e)) k=some (.nx e):=rfl
theorem b2c{d:D}{k:SF}:a00 (some (.rt d)) k=some (.rt d):=rfl
theorem b2d{d:List (List D)}{k:SF}:a00 (some (.rz d)) k=some (.rz d):=rfl
theorem b2e{d:List D}{k:SF}:a00 (some (.ro d)) k=some (.ro d):=rfl
theorem b2f{d:XN}{k:SF}:a00 (some (.ex d)) k=some (.ex d):=rfl
theorem b0k{b:GF}{body:SF}{e:DE}:B6 b body [] e=some (.nx e):=rfl
def a2W(x:Option DE)(k:SF):Option RS:=match x with
 | none=>none
 | some e=>k e
theorem a19{b:GF}{body:SF}{d:D}{ds:List D}{e:DE}:B6 b body (d::ds) e=a2W (b d e) fun e1=>a00 (body e1) (B6 b body ds):=by
 rw[B6];cases b d e<;>rfl
theorem C3{e:DE}{k:SF}:a2W (some e) k=k e:=rfl
def a5H(n i:Nat)(exm:Str→Bool)(suite:SF)(e:DE)(r:Option RS):Option RS:=match r with
 | some (.ex (.v _ _ _))=>none
 | some (.ex (.p c))=>if(exm c && a37 e)=true then(match suite ((List.replicate n Sl.no).set i (.fz (.exc c)))with
   | some (.nx e2)=>put i .no e2
   | some (.rt d)=>some (.rt d)
   | some (.ro ds)=>some (.ro ds)
   | _=>none)else none
 | r=>r
theorem a8W{n i:Nat}{exm:Str→Bool}{body suite:SF}{e:DE}:b3Y n i exm body suite e=a5H n i exm suite e (body e):=rfl
def a7S(i:Nat)(r:Option RS):Option RS:=match r with
 | some (.nx e2)=>put i .no e2
 | some (.rt d)=>some (.rt d)
 | some (.ro ds)=>some (.ro ds)
 | _=>none
theorem b2g{i:Nat}{e:DE}:a7S i (some (.nx e))=put i .no e:=rfl
theorem b2h{i:Nat}{d:D}:a7S i (some (.rt d))=some (.rt d):=rfl
theorem b2j{i:Nat}{d:List D}:a7S i (some (.ro d))=some (.ro d):=rfl
theorem b2k{n i:Nat}{exm:Str→Bool}{suite:SF}{e:DE}{c:Str}:a5H n i exm suite e (some (.ex (.p c)))=if(exm c && a37 e)=true then a7S i (suite ((List.replicate n Sl.no).set i (.fz (.exc c))))else none:=rfl
theorem b2l{n i:Nat}{exm:Str→Bool}{suite:SF}{e:DE}{d:D}:a5H n i exm suite e (some (.rt d))=some (.rt d):=rfl
theorem b2m{n i:Nat}{exm:Str→Bool}{suite:SF}{e:DE}{d:List D}:a5H n i exm suite e (some (.ro d))=some (.ro d):=rfl
theorem b2n{n i:Nat}{exm:Str→Bool}{suite:SF}{e e1:DE}:a5H n i exm suite e (some (.nx e1))=some (.nx e1):=rfl
theorem b2o(a b:Int):u5 (.int a) (.int b)=some (.int (a+b)):=rfl
theorem b2p(a b:Int):w6 (.int a) (.int b)=some (.int (a-b)):=rfl
theorem b32(a b:Int):gLt (.int a) (.int b)=some (.bl (decide (a<b))):=rfl
theorem b33(a b:Int):gGt (.int a) (.int b)=some (.bl (decide (b<a))):=rfl
theorem a2v{a b:Int}(h:IntMulOk a b):t8 (.int a) (.int b)=some (.int (a*b)):=by show(if _ then _ else _)=_;rw[if_pos h]
theorem a0P{a b:Int}(h:0<b∧b.natAbs.log2<9000):r9 (.int a) (.int b)=some (.int (a/b)):=by show(if _ then _ else _)=_;rw[if_pos h]
theorem a6Y{a b:Int}(h:0<b):l5 (.int a) (.int b)=some (.int (a%b)):=by show(if _ then _ else _)=_;rw[if_pos h]
theorem a1s{a b:Int}(h:a3T a b):S1 (.int a) (.int b)=some (.int (a ^ b.toNat)):=by show(if _ then _ else _)=_;rw[if_pos h]
end
def Fits(i:Int):Prop:=Builtin.Int.intBits i≤2 ^ 20
theorem b2q{a b:Int}(h:a.natAbs≤b.natAbs):Builtin.Int.intBits a≤Builtin.Int.intBits b:=by
 unfold Builtin.Int.intBits
 split
 ·exact Nat.zero_le _
 ·rename_i ha
  have ha':a.natAbs≠0:=by
   intro z;apply ha;first | exact Int.natAbs_eq_zero.mp z | (simpa using z)
  have hb':b.natAbs≠0:=by omega
  split
  ·rename_i hb
   exact absurd (by first | exact Int.natAbs_eq_zero.mpr hb | (simpa using hb)) hb'
  ·have h1:b.natAbs<2 ^ (b.natAbs.log2+1):=Nat.lt_log2_self
   have h2:a.natAbs.log2<b.natAbs.log2+1:=(Nat.log2_lt ha').mpr (by omega)
   omega
theorem Fits.le{a b:Int}(h:Fits b)(l:a.natAbs≤b.natAbs):Fits a:=Nat.le_trans (b2q l) h
theorem Fits.mod{i n:Int}(hn:0<n)(h:Fits n):Fits (i%n):=by
 refine h.le ?_
 have h1:=Int.emod_nonneg i (show n≠0 by omega)
 have h2:=Int.emod_lt_of_pos i hn
 omega
theorem Fits.mul{i j:Int}(a:Fits i)(b:Fits j):IntMulOk i j:=IntMulOk.of_bits a b
theorem a8X{a b:Int}(h:a.natAbs<2 ^ 64):IntMulOk a b:=IntMulOk.of_left (intBits_le_64 (by omega) (by omega))
theorem a7T{a b:Int}(h:b.natAbs<2 ^ 64):IntMulOk a b:=IntMulOk.of_right (intBits_le_64 (by omega) (by omega))
theorem a3x{a b:Int}(h:a.natAbs<2 ^ 64):t8 (.int a) (.int b)=some (.int (a*b)):=a2v (a8X h)
theorem a3y{a b:Int}(h:b.natAbs<2 ^ 64):t8 (.int a) (.int b)=some (.int (a*b)):=a2v (a7T h)
section
variable {α:Type}
theorem b1j{a:α}{l:List α}:atI (a::l) 0=some a:=by unfold atI V2;simp
theorem a7U{a:α}{l:List α}{n:Nat}:atI (a::l) ((n:Int)+1)=atI l n:=by
 unfold atI V2
 have h1:(0:Int)≤(n:Int)+1:=by omega
 have h2:(0:Int)≤(n:Int):=by omega
 rw[if_pos h1,if_pos h2]
 by_cases z:(n:Int)<(l.length:Int)
 ·rw[if_pos z,if_pos (by rw[List.length_cons];push_cast;omega)]
  show(a::l)[((n:Int)+1).toNat]? = l[((n:Int)).toNat]?
  rw[show((n:Int)+1).toNat=n+1 by omega,show((n:Int)).toNat=n by omega]
  rfl
 ·rw[if_neg z,if_neg (by rw[List.length_cons];push_cast;omega)]
  rfl
theorem b1k{a b:α}{l:List α}:atI (a::b::l) 1=some b:=(a7U (n:=0)).trans b1j
theorem b1l{a b c:α}{l:List α}:atI (a::b::c::l) 2=some c:=(a7U (n:=1)).trans b1k
theorem b4E{a b c d:α}{l:List α}:atI (a::b::c::d::l) 3=some d:=(a7U (n:=2)).trans b1l
end
def C7(ns:List Int)(k:Int):Int:=ns.getD k.toNat 0
theorem b2r{ns:List Int}{k:Int}(hk:0≤k):(if k<(ns.length:Int)then(match atI ns k with
  | none=>none
  | some n=>some (R1.ret (D.int n)))else some (R1.ret (D.int 0)))=some (R1.ret (D.int (C7 ns k))):=by
 unfold C7
 by_cases z:k<(ns.length:Int)
 ·rw[if_pos z]
  have h:k.toNat<ns.length:=by omega
  have e:atI ns k=some ns[k.toNat]:=by
   unfold atI V2
   rw[if_pos hk,if_pos z]
   exact List.getElem?_eq_getElem h
  rw[e,List.getD_eq_getElem?_getD,List.getElem?_eq_getElem h];rfl
 ·rw[if_neg z,List.getD_eq_getElem?_getD,List.getElem?_eq_none (by omega)];rfl
theorem a6Z{i j:Int}(h : -(2 ^ 62)≤i∧i<2 ^ 62∧-(2 ^ 62)≤j∧j<2 ^ 62):Y3 [.int i,.int j]=some (i,(j-i).toNat):=by
 show(if _ then _ else _)=_
 rw[if_pos h]
theorem b2s{j:Int}(h : -(2 ^ 62)≤j∧j<2 ^ 62):P4 [.int j]=some (0,j.toNat):=by
 show(if _ then _ else _)=_
 rw[if_pos h]
section
variable {K:W.Frag}{cl:Str→Addr}{E:XK}{σ:St}{H F:Hp}{env:DE}{k:Nat}
def a01(ds es:List D):List D:=List.zipWith (fun a b=>.tup [a,b]) ds es
theorem b0l{ds es:List D}{i:Nat}{d e:D}(h:ds[i]? = some d)(h':es[i]? = some e):(a01 ds es)[i]? = some (.tup [d,e]):=by
 unfold a01;rw[List.getElem?_zipWith,h,h']
theorem b0m{ds es:List D}:(a01 ds es).length=min ds.length es.length:=by unfold a01;rw[List.length_zipWith]
def a7V(ds:List D):Option (List D):=match ds with
 | [d,e]=>match seqL d,seqL e with
  | some xs,some ys=>some (a01 xs ys)
  | _,_=>none
 | _=>none
theorem b2t{ds zs:List D}{vs:List V}(h:a7V ds=some zs)(p:Rps K cl F ds vs):∃a a' xs ys ds' es',vs=[.ref a,.ref a']∧zs=a01 ds' es'∧Rps K cl F ds' xs∧Rps K cl F es' ys∧∀H',Same F H'→SqL K H' a xs∧SqL K H' a' ys:=by
 unfold a7V at h
 split at h
 ·rename_i d e
  split at h
  ·rename_i xs ys h1 h2
   cases h
   obtain⟨v,r,rfl,p1,p2⟩:=p.inv
   obtain⟨u,r',rfl,p3,p4⟩:=p2.inv
   rw[p4.inv0]
   obtain⟨a,us,rfl,q1,l1⟩:=Rp.seqL p1 h1
   obtain⟨a',us',rfl,q2,l2⟩:=Rp.seqL p3 h2
   exact⟨a,a',us,us',xs,ys,rfl,rfl,q1,q2,fun H' g=>⟨l1 H' g,l2 H' g⟩⟩
  ·cases h
 ·cases h
theorem b4F{b:GF}{c:BF}{el:ZF}{g:TG}{tf:TT}{te:TE}{js:List Nat}{ds es:List D}{xs ys:List V}{a a' B:Addr}{Q:VK}(nd:js.Nodup)(hg:R0 K cl k g b)(hc:Q8 K cl E tf c)(he:A9 K cl E te el)(R:Rel K cl σ H F env)(hB:H B=none)
  (hl:∀H' F',Same F F'→Same F' H'→SqL K H' a xs∧SqL K H' a' ys) (r:Rps K cl F ds xs) (r':Rps K cl F es ys) (h:Ct K cl E (PN K cl) (w8 b c el (t7 k js env) env (a01 ds es) []) σ H F env Q) :
  S6 (Itz K a a') g tf te k (x6 k js σ) B (fun H'=>Q (.ref B) H') H:=by
 refine a90 (xs:=xs) (ys:=ys) (fun i zs H'=>∃F' acc,Grow K cl σ H F env B acc zs H' F'∧Ct K cl E (PN K cl) (w8 b c el (t7 k js env) env ((a01 ds es).drop i) acc) σ H F env Q) ⟨F,[],.start R hB,h⟩ (fun i zs H' ⟨F',acc,gw,_⟩=>hl H' F' gw.frm.fz gw.rel.sub) (fun i x y zs H' p hx hy ⟨F',acc,gw,h'⟩ hp=>?_) (fun zs H' ⟨F',acc,gw,h'⟩=>?_)
 ·obtain⟨d,hd,pd⟩:=r.get' hx
  obtain⟨d',hd',pd'⟩:=r'.get' hy
  rw[S9 (b0l hd hd')]at h'
  have gr:Gr H' F' (upd H' p (.tup [x,y])) (upd F' p (.tup [x,y])):=.new gw.rel.sub hp
  refine a0_ (Pv:=fun zs' H2=>∃F' acc,Grow K cl σ H F env B acc zs' H2 F'∧Ct K cl E (PN K cl) (w8 b c el (t7 k js env) env ((a01 ds es).drop (i+1)) acc) σ H F env Q) nd hg hc he (gw.gr gr) ?_ h' fun acc' ys' H2 F2 gw2 h2=>⟨F2,acc',gw2,h2⟩
  simp only[Rp]
  exact⟨p,_,rfl,k9,.cons (Rp.mono (gw.frm.fz.trans gr.fz) _ _ pd) (.one (Rp.mono (gw.frm.fz.trans gr.fz) _ _ pd'))⟩
 ·rw[← r.length,← r'.length,List.drop_eq_nil_of_le (by rw[b0m];exact Nat.le_refl _)]at h'
  exact a1O gw h'
def a5I(k:Nat)(js:List Nat)(f:AF)(b:GF)(c:BF)(el:ZF):NF:=fun e=>bnd (f e) fun ds e1=>match a7V ds with
 | none=>none
 | some zs=>w8 b c el (t7 k js e1) e1 zs []
theorem b0n{t:TA}{g:TG}{tf:TT}{te:TE}{js:List Nat}{f:AF}{b:GF}{c:BF}{el:ZF}(nd:js.Nodup)(hf:Z3 K cl E t f)(hg:R0 K cl k g b)(hc:Q8 K cl E tf c)(he:A9 K cl E te el):Y1 K cl E (a08 (b3B K t) g tf te k js) (a5I k js f b c el):=by
 intro σ H Q env F R h
 refine hf σ H _ env F R ((Ct.bnd h a1h).mono fun x H1 ⟨F1,e1,ds,s1,R1,p1,h1⟩=>?_)
 split at h1
 ·exact h1.elim
 ·rename_i zs hs
  obtain⟨a,a',xs,ys,ds',es',rfl,rfl,q1,q2,hl⟩:=b2t hs p1
  exact⟨a,a',rfl,⟨xs,(hl H1 R1.sub).1⟩,⟨ys,(hl H1 R1.sub).2⟩,fun B hB=>b4F nd hg hc he R1 hB (fun H' F' f2 s2=>hl H' (f2.trans s2)) q1 q2 h1⟩
def oN:OF:=fun e=>some (.ok none e)
def oS(f:ZF):OF:=fun e=>bnd (f e) fun d e1=>match d with
 | .int i=>some (.ok (some i) e1)
 | _=>none
theorem b4G:RfO K cl E a6H oN:=fun σ H Q env F R h=>h none H F Frm.refl R rfl
theorem a1Q{t:TE}{f:ZF}(hf:A9 K cl E t f):RfO K cl E (b1b t) (oS f):=by
 intro σ H Q env F R h
 refine hf σ H _ env F R ((Ct.bnd h b5m).mono fun x H1 ⟨F1,e1,d,s1,R1,p1,h1⟩=>?_)
 split at h1
 ·rename_i i
  have:x=.int i:=by have:=(show Rp K cl F1 (.int i) x from p1);simpa only[Rp]using this
  exact⟨i,this,h1 _ H1 F1 Frm.refl R1 rfl⟩
 ·exact h1.elim
def cutD(xs:List D)(lo hi:Option Int):List D:=(xs.drop (HT.sIx xs.length 0 lo)).take (HT.sIx xs.length xs.length hi-HT.sIx xs.length 0 lo)
theorem Rps.cut{ds:List D}{xs:List V}(h:Rps K cl F ds xs)(lo hi:Option Int):Rps K cl F (cutD ds lo hi) (a3U xs lo hi):=by
 unfold cutD a3U
 rw[h.length]
 exact(h.drop _).take _
def T3(i:Nat)(l u:OF):NF:=fun e=>match look e i with
 | none=>none
 | some _=>bnd (l e) fun lo e2=>bnd (u e2) fun hi e3=>match look e3 i with
  | some d=>(match seqL d with
   | some ds=>some (.ok (cutD ds lo hi) e3)
   | none=>none)
  | none=>none
theorem Rb.seqL{d:D}{ds:List D}{v:V}(s:Same F H)(p:Rb K cl F H d v)(q:L2.seqL d=some ds):∃a xs,v=.ref a∧Rps K cl F ds xs∧SqL K H a xs:=by
 rcases p with p | ⟨a,xs,es,e,rfl,h,r⟩
 ·obtain⟨a,xs,e,r,l⟩:=Rp.seqL p q;exact⟨a,xs,e,r,l H s⟩
 ·cases q;exact⟨a,xs,e,r,.of h⟩
theorem a3z{i:Nat}{tl tu:TO}{l u:OF}(hl:RfO K cl E tl l)(hu:RfO K cl E tu u):Y1 K cl E (tSl (a9O K) (R9 i) tl tu) (T3 i l u):=by
 intro σ H Q env F R h
 unfold T3 at h
 cases q:look env i with
 | none=>rw[q]at h;exact h.elim
 | some d0 =>
  rw[q]at h
  obtain⟨x,e0,_⟩:=R.look q
  refine⟨x,e0,?_⟩
  refine hl σ H _ env F R ((Ct.bnd h a1h).mono fun lo H2 ⟨F2,e2,lo',s2,R2,p2,h2⟩=>?_)
  refine hu σ H2 _ e2 F2 R2 ((Ct.bnd h2 a1h).mono fun hi H3 ⟨F3,e3,hi',s3,R3,p3,h3⟩=>?_)
  cases (show lo=lo' from p2)
  cases (show hi=hi' from p3)
  cases q2:look e3 i with
  | none=>simp only[q2]at h3;exact h3.elim
  | some d =>
   simp only[q2]at h3
   obtain⟨x',e',rb⟩:=R3.look q2
   rw[e0]at e';cases e'
   split at h3
   ·rename_i ds hs
    obtain⟨a,xs,rfl,r,hq⟩:=rb.seqL R3.sub hs
    exact⟨a,xs,rfl,hq,fun p hp=>Ct.newN R3 hp (r.cut _ _) h3⟩
   ·exact h3.elim
end
section
variable {P:Program}{w:World}{mg:Str→Option Value}{base:Heap}{K:W.Frag}{cl:Str→Addr}{E:XK}{σ:St}{H F:Hp}{env:DE}{k:Nat}
def a0g:List D→Option (List Int)
 | []=>some []
 | .int b::ds=>(a0g ds).map (b :: ·)
 | _=>none
theorem a3_:∀{ds:List D} {bs:List Int},a0g ds=some bs→ds=bs.map .int
 | [],_,h=>by cases h;rfl
 | .int b::ds,_,h=>by
  unfold a0g at h
  cases q:a0g ds with
  | none=>rw[q]at h;cases h
  | some bs=>rw[q]at h;cases h;rw[a3_ q];rfl
 | .non::_,_,h=>by cases h
 | .bl _::_,_,h=>by cases h
 | .str _::_,_,h=>by cases h
 | .ty _::_,_,h=>by cases h
 | .cls _::_,_,h=>by cases h
 | .tup _::_,_,h=>by cases h
 | .lst _::_,_,h=>by cases h
 | .scr _::_,_,h=>by cases h
 | .exc _::_,_,h=>by cases h
 | .obj _ _ _::_,_,h=>by cases h
 | .dic _ _::_,_,h=>by cases h
 | .exv _ _ _::_,_,h=>by cases h
theorem ints_map:∀(ns:List Int),a0g (ns.map .int)=some ns
 | []=>rfl
 | n::ns=>by show(a0g (ns.map .int)).map (n :: ·)=_;rw[ints_map ns];rfl
def a0w:D→Option D
 | .lst ds=>(a0g ds).map fun ns=>.int ns.sum
 | _=>none
theorem a8Y:CbOk1 K cl (b3D K) a0w:=by
 intro x d z H F Q s hx h q
 unfold a0w at h
 split at h
 ·rename_i ds
  cases hb:a0g ds with
  | none=>rw[hb]at h;cases h
  | some ns =>
   rw[hb]at h;cases h
   obtain⟨a,xs,rfl,hH,r⟩:=hx.lst s
   rw[a3_ hb]at r
   rw[r.ints]at hH
   exact⟨a,ns,rfl,.of hH,q _ H F (.refl s) (by simp only[Rp])⟩
 ·cases h
end
def b34(x:Option DE)(k:DE→Option (R (List D))):Option (R (List D)):=match x with
 | none=>none
 | some e=>k e
theorem a4H{e:DE}{k:DE→Option (R (List D))}:b34 (some e) k=k e:=rfl
theorem a8Z{b:GF}{c:BF}{el:ZF}{ec eo:DE}{acc:List D}:w8 b c el ec eo [] acc=some (.ok acc eo):=rfl
theorem a3A{b:GF}{c:BF}{el:ZF}{ec eo:DE}{d:D}{ds acc:List D}:w8 b c el ec eo (d::ds) acc=b34 (b d ec) fun e1=>bnd (c e1) fun t e2=>if t=true then bnd (el e2) fun y _=>if acc.length<sizeLine then w8 b c el ec eo ds (acc++[y])else none else w8 b c el ec eo ds acc:=by
 rw[w8];cases b d ec<;>rfl
section
variable {K:W.Frag}{cl:Str→Addr}{E:XK}{σ:St}{H F:Hp}{env:DE}{k:Nat}
def a0G:List D→Option D
 | [.int i,.int j]=>some (.int (if j > i then j else i))
 | _=>none
def a0H:List D→Option D
 | [.int i,.int j]=>some (.int (if j<i then j else i))
 | _=>none
theorem a60:a5D K cl (fun xs H Q=>∃i j,xs=[.int i,.int j]∧Q (.int (if j > i then j else i)) H) a0G:=by
 intro xs ds z H F Q s p h q
 unfold a0G at h
 split at h
 ·rename_i i j;cases h
  exact⟨i,j,Rps.ints (ns:=[i,j]) p,q _ H F (.refl s) (by simp only[Rp])⟩
 ·cases h
theorem a61:a5D K cl (fun xs H Q=>∃i j,xs=[.int i,.int j]∧Q (.int (if j<i then j else i)) H) a0H:=by
 intro xs ds z H F Q s p h q
 unfold a0H at h
 split at h
 ·rename_i i j;cases h
  exact⟨i,j,Rps.ints (ns:=[i,j]) p,q _ H F (.refl s) (by simp only[Rp])⟩
 ·cases h
theorem a80:bootBuiltins "min" = some (.builtin "min"):=by decide +kernel
theorem Rb.flat{d:D}{v:V}(h:Rb K cl F H d v)(f:u7 d=true):Rp K cl F d v:=by
 rcases h with h | ⟨_,_,_,_,rfl,_⟩
 ·exact h
 ·cases f
theorem tyL{i:Nat}{ds:List D}(R:Rel K cl σ H F env)(q:look env i=some (.lst ds)):∃a,σ[i]? = some (some (.ref a))∧tyV K "list" (.ref a) H:=by
 obtain⟨x,e0,rb⟩:=R.look q
 obtain⟨a,xs,rfl,hH,_⟩:=rb.lst R.sub
 exact⟨a,e0,.inl ⟨rfl,xs,.of hH⟩⟩
end
mutual
def A5:D→D→Bool
 | .tup ds,e=>(match e with
  | .tup es=>K1 ds es
  | _=>false)
 | .lst ds,e=>(match e with
  | .lst es=>K1 ds es
  | _=>false)
 | d,e=>eqD d e
def K1:List D→List D→Bool
 | [],es=>es.isEmpty
 | d::ds,es=>(match es with
  | []=>false
  | e::es=>A5 d e && K1 ds es)
end
mutual
def j5:D→Bool
 | .tup ds=>C5 ds
 | .lst ds=>C5 ds
 | d=>u7 d
def C5:List D→Bool
 | []=>true
 | d::ds=>j5 d && C5 ds
end
mutual
def G9:D→Nat
 | .tup ds=>G3 ds+1
 | .lst ds=>G3 ds+1
 | _=>0
def G3:List D→Nat
 | []=>0
 | d::ds=>max (G9 d) (G3 ds)
end
def a5J(ds es:List D)(j:Nat):Bool:=match ds[j]?,es[j]? with
 | some d,some e=>A5 d e
 | _,_=>true
theorem Y4:∀{ds es:List D},ds.length=es.length→(List.range ds.length).all (a5J ds es)=K1 ds es
 | [],[],_=>by simp[K1]
 | d::ds,e::es,h=>by
  have h':ds.length=es.length:=by simpa using h
  simp only[K1]
  show(List.range (ds.length+1)).all _=(A5 d e && K1 ds es)
  rw[List.range_succ_eq_map,List.all_cons,List.all_map,← Y4 h']
  rfl
theorem P6:∀{ds es:List D},ds.length≠es.length→K1 ds es=false
 | [],[],h=>absurd rfl h
 | _::_,[],_=>by simp[K1]
 | [],_::_,_=>by simp[K1]
 | d::ds,e::es,h=>by
  simp only[K1]
  rw[P6 (fun q=>h (by simp[q])),Bool.and_false]
section
variable {K:W.Frag}{cl:Str→Addr}{F:Hp}
theorem a1R{d e:D}{v:V}(fd:u7 d=true)(p:Rp K cl F d v)(q:Rp K cl F e v)(pe:j5 e=true):eqD d e=true:=by
 cases d<;>first | (cases fd;done) | skip
 all_goals simp only[Rp]at p;subst p
 all_goals cases e<;>simp only[Rp]at q<;>first | (cases q;done) | (cases q;simp[eqD];done) | (obtain⟨_,_,z,_⟩:=q;cases z;done) | (obtain⟨_,z,_⟩:=q;cases z;done) | (simp[j5,u7]at pe;done)
mutual
theorem a2w:∀(d e:D) (v:V),Rp K cl F d v→Rp K cl F e v→j5 d=true→j5 e=true→A5 d e=true
 | .tup ds,e,v,p,q,pd,pe=>by
  simp only[Rp]at p
  obtain⟨a,xs,rfl,ha,r⟩:=p
  cases e<;>simp only[Rp]at q
  case tup es =>
   obtain⟨a',ys,z,ha',r'⟩:=q
   cases z;rw[ha]at ha';cases ha'
   simp only[j5]at pd pe
   simp only[A5]
   exact a2X ds es xs r r' pd pe
  case lst es =>
   obtain⟨a',ys,z,ha',r'⟩:=q
   cases z;rw[ha]at ha';cases ha'
  all_goals first | (cases q;done) | (simp[j5,u7]at pe;done)
 | .lst ds,e,v,p,q,pd,pe=>by
  simp only[Rp]at p
  obtain⟨a,xs,rfl,ha,r⟩:=p
  cases e<;>simp only[Rp]at q
  case lst es =>
   obtain⟨a',ys,z,ha',r'⟩:=q
   cases z;rw[ha]at ha';cases ha'
   simp only[j5]at pd pe
   simp only[A5]
   exact a2X ds es xs r r' pd pe
  case tup es =>
   obtain⟨a',ys,z,ha',r'⟩:=q
   cases z;rw[ha]at ha';cases ha'
  all_goals first | (cases q;done) | (simp[j5,u7]at pe;done)
 | .non,e,v,p,q,pd,pe=>by simp only[A5];exact a1R rfl p q pe
 | .bl _,e,v,p,q,pd,pe=>by simp only[A5];exact a1R rfl p q pe
 | .int _,e,v,p,q,pd,pe=>by simp only[A5];exact a1R rfl p q pe
 | .str _,e,v,p,q,pd,pe=>by simp only[A5];exact a1R rfl p q pe
 | .ty _,e,v,p,q,pd,pe=>by simp[j5,u7]at pd
 | .cls _,e,v,p,q,pd,pe=>by simp[j5,u7]at pd
 | .scr _,e,v,p,q,pd,pe=>by simp[j5,u7]at pd
 | .exc _,e,v,p,q,pd,pe=>by simp[j5,u7]at pd
 | .obj _ _ _,e,v,p,q,pd,pe=>by simp[j5,u7]at pd
 | .dic _ _,e,v,p,q,pd,pe=>by simp[j5,u7]at pd
 | .exv _ _ _,e,v,p,q,pd,pe=>by simp[j5,u7]at pd
theorem a2X:∀(ds es:List D) (vs:List V),Rps K cl F ds vs→Rps K cl F es vs→C5 ds=true→C5 es=true→K1 ds es=true
 | [],es,vs,p,q,_,_=>by
  rw[p.inv0]at q
  cases es with
  | nil=>simp[K1]
  | cons e es=>obtain⟨_,_,z,_⟩:=q.inv;cases z
 | d::ds,es,vs,p,q,pd,pe=>by
  obtain⟨v,r,rfl,p1,p2⟩:=p.inv
  cases es with
  | nil=>have:=q.inv0;cases this
  | cons e es =>
   obtain⟨v',r',z,q1,q2⟩:=q.inv
   cases z
   simp only[C5,Bool.and_eq_true]at pd pe
   simp only[K1]
   rw[a2w d e v p1 q1 pd.1 pe.1,a2X ds es r p2 q2 pd.2 pe.2];rfl
end
end
section
variable {X:Cx}{cl:Str→Addr}{F:Hp}{pins:List (Addr×Obj)}{σ:St}{H:Hp}{s:Shared}
theorem a1S{a:Addr}{d:D}{v:V}{u:Value}{A:Around}(hu:A.units<cLine)(hl:(∃xs,SqL X.K H a xs)∨∃xs,SqT X.K H a xs)(I:Inv X pins σ H s)(f:u7 d=true)(p:Rp X.K cl F d v)(r:RelV v u):SeqAt.EqAt A s (.ref a) u false∧SeqAt.EqAt A s u (.ref a) false:=by
 rcases hl with⟨xs,h⟩ | ⟨xs,h⟩
 ·obtain⟨us,r1,p1,z1⟩:=I.list h
  have q:=p1.isList
  cases d<;>first | (cases f;done) | skip
  all_goals simp only[Rp]at p;subst p
  ·cases r;exact⟨.list_none q hu,.none_list q hu⟩
  ·cases r;exact⟨.list_bool _ q hu,.bool_list _ q hu⟩
  ·obtain⟨t,rfl⟩:=r;exact⟨.list_int _ _ q hu,.int_list _ _ q hu⟩
  ·obtain⟨t,rfl⟩:=r;exact⟨.list_str _ _ q hu,.str_list _ _ q hu⟩
 ·obtain⟨us,r1,q,z1⟩:=I.tuple h
  cases d<;>first | (cases f;done) | skip
  all_goals simp only[Rp]at p;subst p
  ·cases r;exact⟨.tuple_none q hu,.none_tuple q hu⟩
  ·cases r;exact⟨.tuple_bool _ q hu,.bool_tuple _ q hu⟩
  ·obtain⟨t,rfl⟩:=r;exact⟨.tuple_int _ _ q hu,.int_tuple _ _ q hu⟩
  ·obtain⟨t,rfl⟩:=r;exact⟨.tuple_str _ _ q hu,.str_tuple _ _ q hu⟩
theorem P7{d:D}(p:j5 d=true):u7 d=true∨(∃ds,d=.tup ds)∨∃ds,d=.lst ds:=by
 cases d<;>first | exact .inl rfl | exact .inr (.inl ⟨_,rfl⟩) | exact .inr (.inr ⟨_,rfl⟩) | (simp[j5,u7]at p;done)
theorem b0o{d e:D}(f:u7 d=true):A5 d e=eqD d e:=by cases d<;>first | (cases f;done) | simp only[A5]
theorem a1a{d e:D}{v u:V}{a b:Value}{A:Around}(I:Inv X pins σ H s)(sF:Same F H)(hu:A.units<cLine)(f:u7 d=true)(p:Rp X.K cl F d v)(q:Rp X.K cl F e u)(rv:RelV v a)(ru:RelV u b)(pe:j5 e=true):SeqAt.EqAt A s a b (A5 d e):=by
 rw[b0o f]
 rcases P7 pe with fe | ⟨es,rfl⟩ | ⟨es,rfl⟩
 ·rw[← p.eq q f fe]
  exact b3t rv ru (p.flat f).2 (q.flat fe).2
 ·simp only[Rp]at q
  obtain⟨c,ys,rfl,hb,r'⟩:=q
  cases ru
  have:=(a1S (A:=A) hu (.inr ⟨ys,.of (sF _ _ hb)⟩) I f p rv).2
  have z:eqD d (.tup es)=false:=by cases d<;>first | (cases f;done) | rfl
  rw[z];exact this
 ·simp only[Rp]at q
  obtain⟨c,ys,rfl,hb,r'⟩:=q
  cases ru
  have:=(a1S (A:=A) hu (.inl ⟨ys,.of (sF _ _ hb)⟩) I f p rv).2
  have z:eqD d (.lst es)=false:=by cases d<;>first | (cases f;done) | rfl
  rw[z];exact this
mutual
theorem b2u(I:Inv X pins σ H s)(sF:Same F H):∀(d e:D) (v u:V) (a b:Value) (A:Around),A.units+G9 d<cLine→Rp X.K cl F d v→Rp X.K cl F e u→RelV v a→RelV u b→j5 d=true→j5 e=true→SeqAt.EqAt A s a b (A5 d e)
 | .tup ds,e,v,u,va,ua,A,hu,p,q,rv,ru,pd,pe=>by
  have p0:=p
  have hu':A.units<cLine:=by omega
  simp only[G9]at hu
  simp only[Rp]at p
  obtain⟨a,xs,rfl,ha,r⟩:=p
  cases rv
  have ha':=sF _ _ ha
  rcases P7 pe with f | ⟨es,rfl⟩ | ⟨es,rfl⟩
  ·have:=(a1S (A:=A) hu' (.inr ⟨xs,.of ha'⟩) I f q ru).1
   have z:A5 (.tup ds) e=false:=by cases e<;>first | (cases f;done) | simp only[A5]
   rw[z];exact this
  ·have q0:=q
   simp only[Rp]at q
   obtain⟨b,ys,rfl,hb,r'⟩:=q
   cases ru
   have hb':=sF _ _ hb
   by_cases z:a=b
   ·subst z
    rw[a2w _ _ _ p0 q0 pd pe]
    exact .same _
   ·obtain⟨us,r1,p1,_⟩:=I.tuple (.of ha')
    obtain⟨ws,r2,p2,_⟩:=I.tuple (.of hb')
    simp only[j5]at pd pe
    have he:∀j (h1:j<us.toArray.size) (h2:j<ws.toArray.size),SeqAt.EqAt A.in1 s us.toArray[j] ws.toArray[j] (a5J ds es j):=a02 I sF ds es xs ys us ws A.in1 (by show A.units+1+G3 ds<cLine;omega) r r' r1 r2 pd pe
    have:=SeqAt.EqAt.of_refs z (SeqAt.RcAt.tuples p1 p2 hu' he)
    have e1:us.toArray.size=ds.length:=by simp[← r1.length,r.length]
    have e2:ws.toArray.size=es.length:=by simp[← r2.length,r'.length]
    rw[e1,e2]at this
    simp only[A5]
    by_cases hl:ds.length=es.length
    ·rw[← hl,Nat.min_self,Y4 hl,beq_self_eq_true,Bool.and_true]at this
     exact this
    ·rw[P6 hl]
     rw[beq_eq_false_iff_ne.mpr hl,Bool.and_false]at this
     exact this
  ·simp only[Rp]at q
   obtain⟨b,ys,rfl,hb,r'⟩:=q
   cases ru
   obtain⟨us,r1,p1,_⟩:=I.tuple (.of ha')
   obtain⟨ws,r2,p2,_⟩:=I.list (.of (sF _ _ hb))
   simp only[A5]
   exact .tuple_list p1 p2.isList hu'
 | .lst ds,e,v,u,va,ua,A,hu,p,q,rv,ru,pd,pe=>by
  have p0:=p
  have hu':A.units<cLine:=by omega
  simp only[G9]at hu
  simp only[Rp]at p
  obtain⟨a,xs,rfl,ha,r⟩:=p
  cases rv
  have ha':=sF _ _ ha
  rcases P7 pe with f | ⟨es,rfl⟩ | ⟨es,rfl⟩
  ·have:=(a1S (A:=A) hu' (.inl ⟨xs,.of ha'⟩) I f q ru).1
   have z:A5 (.lst ds) e=false:=by cases e<;>first | (cases f;done) | simp only[A5]
   rw[z];exact this
  ·simp only[Rp]at q
   obtain⟨b,ys,rfl,hb,r'⟩:=q
   cases ru
   obtain⟨us,r1,p1,_⟩:=I.list (.of ha')
   obtain⟨ws,r2,p2,_⟩:=I.tuple (.of (sF _ _ hb))
   simp only[A5]
   exact .list_tuple p1.isList p2 hu'
  ·have q0:=q
   simp only[Rp]at q
   obtain⟨b,ys,rfl,hb,r'⟩:=q
   cases ru
   have hb':=sF _ _ hb
   by_cases z:a=b
   ·subst z
    rw[a2w _ _ _ p0 q0 pd pe]
    exact .same _
   ·obtain⟨us,r1,p1,_⟩:=I.list (.of ha')
    obtain⟨ws,r2,p2,_⟩:=I.list (.of hb')
    simp only[j5]at pd pe
    have he:∀j (h1:j<us.toArray.size) (h2:j<ws.toArray.size),SeqAt.EqAt A.in1 s us.toArray[j] ws.toArray[j] (a5J ds es j):=a02 I sF ds es xs ys us ws A.in1 (by show A.units+1+G3 ds<cLine;omega) r r' r1 r2 pd pe
    have e1:us.toArray.size=ds.length:=by simp[← r1.length,r.length]
    have e2:ws.toArray.size=es.length:=by simp[← r2.length,r'.length]
    simp only[A5]
    by_cases hl:ds.length=es.length
    ·have:=SeqAt.EqAt.of_refs z (SeqAt.RcAt.lists p1.isList p2.isList (by rw[e1,e2,hl]) hu' he)
     rw[e1,Y4 hl]at this
     exact this
    ·rw[P6 hl]
     exact SeqAt.EqAt.of_refs z (SeqAt.RcAt.lists_lengths p1.isList p2.isList (by rw[e1,e2];simp[hl]) hu')
 | .non,e,v,u,va,ua,A,hu,p,q,rv,ru,pd,pe=>a1a I sF (by omega) rfl p q rv ru pe
 | .bl _,e,v,u,va,ua,A,hu,p,q,rv,ru,pd,pe=>a1a I sF (by omega) rfl p q rv ru pe
 | .int _,e,v,u,va,ua,A,hu,p,q,rv,ru,pd,pe=>a1a I sF (by omega) rfl p q rv ru pe
 | .str _,e,v,u,va,ua,A,hu,p,q,rv,ru,pd,pe=>a1a I sF (by omega) rfl p q rv ru pe
 | .ty _,e,v,u,va,ua,A,hu,p,q,rv,ru,pd,pe=>by simp[j5,u7]at pd
 | .cls _,e,v,u,va,ua,A,hu,p,q,rv,ru,pd,pe=>by simp[j5,u7]at pd
 | .scr _,e,v,u,va,ua,A,hu,p,q,rv,ru,pd,pe=>by simp[j5,u7]at pd
 | .exc _,e,v,u,va,ua,A,hu,p,q,rv,ru,pd,pe=>by simp[j5,u7]at pd
 | .obj _ _ _,e,v,u,va,ua,A,hu,p,q,rv,ru,pd,pe=>by simp[j5,u7]at pd
 | .dic _ _,e,v,u,va,ua,A,hu,p,q,rv,ru,pd,pe=>by simp[j5,u7]at pd
 | .exv _ _ _,e,v,u,va,ua,A,hu,p,q,rv,ru,pd,pe=>by simp[j5,u7]at pd
theorem a02(I:Inv X pins σ H s)(sF:Same F H):∀(ds es:List D) (xs ys:List V) (us ws:List Value) (A:Around),A.units+G3 ds<cLine→Rps X.K cl F ds xs→Rps X.K cl F es ys→Vals xs us→Vals ys ws→C5 ds=true→C5 es=true→∀j (h1:j<us.toArray.size) (h2:j<ws.toArray.size),SeqAt.EqAt A s us.toArray[j] ws.toArray[j] (a5J ds es j)
 | [],es,xs,ys,us,ws,A,hu,p,q,rv,rw',pd,pe=>fun j h1 h2=>by
  rw[p.inv0]at rv;cases rv;simp at h1
 | d::ds,es,xs,ys,us,ws,A,hu,p,q,rv,rw',pd,pe=>fun j h1 h2=>by
  obtain⟨x,xs',rfl,p1,p2⟩:=p.inv
  cases rv with
  | cons r1 t1 =>
   cases es with
   | nil=>rw[q.inv0]at rw';cases rw';simp at h2
   | cons e es =>
    obtain⟨y,ys',rfl,q1,q2⟩:=q.inv
    cases rw' with
    | cons r2 t2 =>
     simp only[C5,Bool.and_eq_true]at pd pe
     simp only[G3]at hu
     cases j with
     | zero=>exact b2u I sF d e x y _ _ A (by omega) p1 q1 r1 r2 pd.1 pe.1
     | succ j =>
      have:=a02 I sF ds es xs' ys' _ _ A (by omega) p2 q2 t1 t2 pd.2 pe.2 j (by simpa using h1) (by simpa using h2)
      simpa [a5J]using this
end
end
theorem a4a{A:Around}{k:Nat}(hr:Room k A):A.units+41<cLine:=Nat.lt_of_le_of_lt (Nat.add_le_add_left (by decide:41≤64) _) hr.units
def Y5 : D→Bool
 | .tup _=>true
 | .lst _=>true
 | _=>false
theorem Rb.toRp{K:W.Frag}{cl:Str→Addr}{F H:Hp}{d:D}{v:V}(s:Same F H)(h:Rb K cl F H d v):∃F',Same F F'∧Same F' H∧Rp K cl F' d v:=by
 rcases h with h | ⟨a,xs,ds,rfl,rfl,ha,r⟩
 ·exact⟨F,Same.refl _,s,h⟩
 ·have g:Same F (upd F a (.lst xs)):=fun b o q=>by
   by_cases z:b=a
   ·subst z;have:=s _ _ q;rw[ha]at this;cases this;exact k9
   ·rw[f9 z];exact q
  refine⟨upd F a (.lst xs),g,fun b o q=>?_,?_⟩
  ·by_cases z:b=a
   ·subst z;rw[k9]at q;cases q;exact ha
   ·rw[f9 z]at q;exact s _ _ q
  ·simp only[Rp];exact⟨a,xs,rfl,k9,r.mono g⟩
section
variable {X:Cx}{cl:Str→Addr}{F:Hp}{pins:List (Addr×Obj)}{σ:St}{H:Hp}{s:Shared}
theorem a2x{a:Addr}{d:D}{v:V}{u:Value}{A:Around}(hu:A.units<cLine)(hl:(∃xs,SqL X.K H a xs)∨∃xs,SqT X.K H a xs)(I:Inv X pins σ H s)(f:u7 d=true)(p:Rp X.K cl F d v)(r:RelV v u) :
  (SeqAt.RcAt A s (.ref a) u false∧SeqAt.RcAt A s u (.ref a) false)∧SeqAt.RcNeAt A s (.ref a) u true∧SeqAt.RcNeAt A s u (.ref a) true:=by
 rcases hl with⟨xs,h⟩ | ⟨xs,h⟩
 ·obtain⟨us,r1,p1,z1⟩:=I.list h
  have q:=p1.isList
  cases d<;>first | (cases f;done) | skip
  all_goals simp only[Rp]at p;subst p
  ·cases r;exact⟨⟨.list_none q hu,.none_list q hu⟩,.list_none q hu,.none_list q hu⟩
  ·cases r;exact⟨⟨.list_bool _ q hu,.bool_list _ q hu⟩,.list_bool _ q hu,.bool_list _ q hu⟩
  ·obtain⟨t,rfl⟩:=r;exact⟨⟨.list_int _ _ q hu,.int_list _ _ q hu⟩,.list_int _ _ q hu,.int_list _ _ q hu⟩
  ·obtain⟨t,rfl⟩:=r;exact⟨⟨.list_str _ _ q hu,.str_list _ _ q hu⟩,.list_str _ _ q hu,.str_list _ _ q hu⟩
 ·obtain⟨us,r1,q,z1⟩:=I.tuple h
  cases d<;>first | (cases f;done) | skip
  all_goals simp only[Rp]at p;subst p
  ·cases r;exact⟨⟨.tuple_none q hu,.none_tuple q hu⟩,.tuple_none q hu,.none_tuple q hu⟩
  ·cases r;exact⟨⟨.tuple_bool _ q hu,.bool_tuple _ q hu⟩,.tuple_bool _ q hu,.bool_tuple _ q hu⟩
  ·obtain⟨t,rfl⟩:=r;exact⟨⟨.tuple_int _ _ q hu,.int_tuple _ _ q hu⟩,.tuple_int _ _ q hu,.int_tuple _ _ q hu⟩
  ·obtain⟨t,rfl⟩:=r;exact⟨⟨.tuple_str _ _ q hu,.str_tuple _ _ q hu⟩,.tuple_str _ _ q hu,.str_tuple _ _ q hu⟩
theorem a62{d e:D}{v u:V}{a b:Value}{A:Around}(I:Inv X pins σ H s)(sF:Same F H)(hu:A.units+G9 d<cLine)(p:Rp X.K cl F d v)(q:Rp X.K cl F e u)(rv:RelV v a)(ru:RelV u b)(pd:j5 d=true)(pe:j5 e=true)(hs:Y5 d=true∨Y5 e=true) :
  SeqAt.RcAt A s a b (A5 d e)∧SeqAt.RcNeAt A s a b (!A5 d e):=by
 have hu':A.units<cLine:=by omega
 rcases P7 pd with fd | ⟨ds,rfl⟩ | ⟨ds,rfl⟩
 ·have se:Y5 e=true:=hs.resolve_left (by cases d<;>first | (cases fd;done) | simp[Y5])
  rcases P7 pe with fe | ⟨es,rfl⟩ | ⟨es,rfl⟩
  ·cases e<;>first | (cases fe;done) | (cases se;done)
  ·simp only[Rp]at q
   obtain⟨c,ys,rfl,hb,r'⟩:=q
   cases ru
   have:=a2x (A:=A) hu' (.inr ⟨ys,.of (sF _ _ hb)⟩) I fd p rv
   have z:A5 d (.tup es)=false:=by cases d<;>first | (cases fd;done) | simp[A5,eqD]
   rw[z];exact⟨this.1.2,this.2.2⟩
  ·simp only[Rp]at q
   obtain⟨c,ys,rfl,hb,r'⟩:=q
   cases ru
   have:=a2x (A:=A) hu' (.inl ⟨ys,.of (sF _ _ hb)⟩) I fd p rv
   have z:A5 d (.lst es)=false:=by cases d<;>first | (cases fd;done) | simp[A5,eqD]
   rw[z];exact⟨this.1.2,this.2.2⟩
 ·simp only[G9]at hu
  simp only[Rp]at p
  obtain⟨l,xs,rfl,ha,r⟩:=p
  cases rv
  have ha':=sF _ _ ha
  obtain⟨us,r1,p1,_⟩:=I.tuple (.of ha')
  rcases P7 pe with fe | ⟨es,rfl⟩ | ⟨es,rfl⟩
  ·have:=a2x (A:=A) hu' (.inr ⟨xs,.of ha'⟩) I fe q ru
   have z:A5 (.tup ds) e=false:=by cases e<;>first | (cases fe;done) | simp only[A5]
   rw[z];exact⟨this.1.1,this.2.1⟩
  ·simp only[Rp]at q
   obtain⟨c,ys,rfl,hb,r'⟩:=q
   cases ru
   obtain⟨ws,r2,p2,_⟩:=I.tuple (.of (sF _ _ hb))
   simp only[j5]at pd pe
   have he:=a02 I sF ds es xs ys us ws A.in1 (by show A.units+1+G3 ds<cLine;omega) r r' r1 r2 pd pe
   have h1:=SeqAt.RcAt.tuples p1 p2 hu' he
   have h2:=SeqAt.RcNeAt.tuples p1 p2 hu' he
   have e1:us.toArray.size=ds.length:=by simp[← r1.length,r.length]
   have e2:ws.toArray.size=es.length:=by simp[← r2.length,r'.length]
   rw[e1,e2]at h1 h2
   simp only[A5]
   by_cases hl:ds.length=es.length
   ·rw[← hl,Nat.min_self,Y4 hl,beq_self_eq_true,Bool.and_true]at h1 h2
    exact⟨h1,h2⟩
   ·rw[P6 hl]
    rw[beq_eq_false_iff_ne.mpr hl,Bool.and_false]at h1 h2
    exact⟨h1,h2⟩
  ·simp only[Rp]at q
   obtain⟨c,ys,rfl,hb,r'⟩:=q
   cases ru
   obtain⟨ws,r2,p2,_⟩:=I.list (.of (sF _ _ hb))
   simp only[A5]
   exact⟨.tuple_list p1 p2.isList hu',.tuple_list p1 p2.isList hu'⟩
 ·simp only[G9]at hu
  simp only[Rp]at p
  obtain⟨l,xs,rfl,ha,r⟩:=p
  cases rv
  have ha':=sF _ _ ha
  obtain⟨us,r1,p1,_⟩:=I.list (.of ha')
  rcases P7 pe with fe | ⟨es,rfl⟩ | ⟨es,rfl⟩
  ·have:=a2x (A:=A) hu' (.inl ⟨xs,.of ha'⟩) I fe q ru
   have z:A5 (.lst ds) e=false:=by cases e<;>first | (cases fe;done) | simp only[A5]
   rw[z];exact⟨this.1.1,this.2.1⟩
  ·simp only[Rp]at q
   obtain⟨c,ys,rfl,hb,r'⟩:=q
   cases ru
   obtain⟨ws,r2,p2,_⟩:=I.tuple (.of (sF _ _ hb))
   simp only[A5]
   exact⟨.list_tuple p1.isList p2 hu',.list_tuple p1.isList p2 hu'⟩
  ·simp only[Rp]at q
   obtain⟨c,ys,rfl,hb,r'⟩:=q
   cases ru
   obtain⟨ws,r2,p2,_⟩:=I.list (.of (sF _ _ hb))
   simp only[j5]at pd pe
   have he:=a02 I sF ds es xs ys us ws A.in1 (by show A.units+1+G3 ds<cLine;omega) r r' r1 r2 pd pe
   have e1:us.toArray.size=ds.length:=by simp[← r1.length,r.length]
   have e2:ws.toArray.size=es.length:=by simp[← r2.length,r'.length]
   simp only[A5]
   by_cases hl:ds.length=es.length
   ·have h1:=SeqAt.RcAt.lists p1.isList p2.isList (by rw[e1,e2,hl]) hu' he
    have h2:=SeqAt.RcNeAt.lists p1.isList p2.isList (by rw[e1,e2,hl]) hu' he
    rw[e1,Y4 hl]at h1 h2
    exact⟨h1,h2⟩
   ·rw[P6 hl]
    exact⟨SeqAt.RcAt.lists_lengths p1.isList p2.isList (by rw[e1,e2];simp[hl]) hu',SeqAt.RcNeAt.lists_lengths p1.isList p2.isList (by rw[e1,e2];simp[hl]) hu'⟩
end
def b0p(K:W.Frag)(cl:Str→Addr)(neg:Bool):R2:=fun x y H Q=>∃F d e,Same F H∧Rp K cl F d x∧Rp K cl F e y∧j5 d=true∧j5 e=true∧G9 d≤40∧(Y5 d=true∨Y5 e=true)∧Q (.bl (if neg then !A5 d e else A5 d e)) H
theorem a4b{X:Cx}{K:W.Frag}{cl:Str→Addr}(hu:X.A.units+41<cLine)(hK:X.K=K:=by rfl):V8 X (compareOp .Eq) (b0p K cl false):=by
 subst hK
 intro pins s σ H x y v u Q I rx ry h
 obtain⟨F,d,e,sF,p,q,pd,pe,hd,hs,hQ⟩:=h
 exact(a62 I sF (by omega) p q rx ry pd pe hs).1 X.prog X.w _ _ ⟨.bl _,H,I,rfl,hQ⟩
theorem a4c{X:Cx}{K:W.Frag}{cl:Str→Addr}(hu:X.A.units+41<cLine)(hK:X.K=K:=by rfl):V8 X (compareOp .NotEq) (b0p K cl true):=by
 subst hK
 intro pins s σ H x y v u Q I rx ry h
 obtain⟨F,d,e,sF,p,q,pd,pe,hd,hs,hQ⟩:=h
 exact(a62 I sF (by omega) p q rx ry pd pe hs).2 X.prog X.w _ _ ⟨.bl _,H,I,rfl,hQ⟩
def I0(neg:Bool)(d e:D):Option D:=if(j5 d && j5 e && decide (G9 d≤40) && (Y5 d || Y5 e))=true then some (.bl (if neg then !A5 d e else A5 d e))else none
theorem a1t{K:W.Frag}{cl:Str→Addr}{neg:Bool}:OpOk K cl (b0p K cl neg) (I0 neg):=by
 intro x y d e z H F Q s hx hy h q
 unfold I0 at h
 split at h
 ·rename_i c;cases h
  simp only[Bool.and_eq_true,Bool.or_eq_true,decide_eq_true_eq]at c
  obtain⟨F1,g1,s1,p1⟩:=hx.toRp s
  have hy1:Rb K cl F1 H e y:=by
   rcases hy with hy | ⟨a,xs,ds,e1,e2,ha,r⟩
   ·exact .inl (hy.mono g1)
   ·exact .inr ⟨a,xs,ds,e1,e2,ha,r.mono g1⟩
  obtain⟨F2,g2,s2,p2⟩:=hy1.toRp s1
  exact⟨F2,d,e,s2,p1.mono g2,p2,c.1.1.1,c.1.1.2,c.1.2,c.2,q _ H F (.refl s) (by simp only[Rp])⟩
 ·cases h
mutual
theorem a5K:∀(d:D),j5 d=true→A5 d d=true
 | .tup ds,h=>by simp only[j5]at h;simp only[A5];exact a1_ ds h
 | .lst ds,h=>by simp only[j5]at h;simp only[A5];exact a1_ ds h
 | .non,_=>by simp[A5,eqD]
 | .bl _,_=>by simp[A5,eqD]
 | .int _,_=>by simp[A5,eqD]
 | .str _,_=>by simp[A5,eqD]
 | .ty _,h=>by simp[j5,u7]at h
 | .cls _,h=>by simp[j5,u7]at h
 | .scr _,h=>by simp[j5,u7]at h
 | .exc _,h=>by simp[j5,u7]at h
 | .obj _ _ _,h=>by simp[j5,u7]at h
 | .dic _ _,h=>by simp[j5,u7]at h
 | .exv _ _ _,h=>by simp[j5,u7]at h
theorem a1_:∀(ds:List D),C5 ds=true→K1 ds ds=true
 | [],_=>by simp[K1]
 | d::ds,h=>by
  simp only[C5,Bool.and_eq_true]at h
  simp only[K1]
  rw[a5K d h.1,a1_ ds h.2];rfl
end
theorem a2a{d:D}(neg:Bool)(h1:j5 d=true)(h2:G9 d≤40)(h3:Y5 d=true):I0 neg d d=some (.bl (!neg)):=by
 unfold I0
 rw[if_pos (by simp[h1,h2,h3]),a5K d h1]
 cases neg<;>rfl
theorem V5{α:Type}{f:α→D}{l:List α}(h:∀a∈l,j5 (f a)=true):C5 (l.map f)=true:=by
 induction l with
 | nil=>rfl
 | cons a l ih =>
  simp only[List.map_cons,C5,Bool.and_eq_true]
  exact⟨h a List.mem_cons_self,ih fun b hb=>h b (List.mem_cons_of_mem _ hb)⟩
theorem a2b{α:Type}{f:α→D}{l:List α}{n:Nat}(h:∀a∈l,G9 (f a)≤n):G3 (l.map f)≤n:=by
 induction l with
 | nil=>simp[G3]
 | cons a l ih =>
  simp only[List.map_cons,G3]
  have:=h a List.mem_cons_self
  have:=ih fun b hb=>h b (List.mem_cons_of_mem _ hb)
  omega
section
variable {K:W.Frag}{cl:Str→Addr}{E:XK}{σ:St}{H F:Hp}{env:DE}{k:Nat}
def b5o(K:W.Frag)(cl:Str→Addr)(E:XK)(a:Addr)(t:TS)(f:SF):Prop:=∀(N:Ends) σ H env F,Rel K cl σ H F env→(∃cls,F a=some (a2S a cls none))→Cs K cl E (f env) σ H F env N→t N σ H
theorem RfS.x{a:Addr}{t:TS}{f:SF}(h:RfS K cl E t f):b5o K cl E a t f:=fun N σ H env F R _ c=>h N σ H env F R c
end
def a1j:Sl→Sl
 | .ow ds=>.fz (.lst ds)
 | .hd ds=>.fz (.lst ds)
 | .od ks ds=>.fz (.dic ks ds)
 | .hk ks ds=>.fz (.dic ks ds)
 | s=>s
def L4:DE→DE
 | []=>[]
 | s::e=>a1j s::L4 e
mutual
def noL:D→Bool
 | .lst _=>false
 | .scr _=>false
 | .exc _=>false
 | .obj _ _ _=>false
 | .dic _ _=>false
 | .exv _ _ _=>false
 | .tup ds=>noLs ds
 | _=>true
def noLs:List D→Bool
 | []=>true
 | d::ds=>noL d && noLs ds
end
def y4(σ:St)(env:DE)(b:Addr):Prop:=(∃j,Mu env j∧σ[j]? = some (some (.ref b)))∨∃(j:Nat) (s:Sl) (ks:DK) (ds:List D),env[j]? = some s∧Y0 s ks ds∧σ[j]? = some (some (.ref b))
def a2c(o:HO):Prop:=(∃xs,o=.lst xs)∨∃ks xs,o=dkO ks xs
theorem a4d:∀(e:DE),L4 e=e.map a1j
 | []=>rfl
 | s::e=>by rw[L4,a4d e];rfl
section
variable {K:W.Frag}{cl:Str→Addr}{E:XK}{σ:St}{H F F1 H' F' F2:Hp}{env:DE}
mutual
theorem Rp.noL(g:∀b o,F' b=some o→¬a2c o→F2 b=some o):∀(d:D) (v:V),L2.noL d=true→Rp K cl F' d v→Rp K cl F2 d v
 | .non,_,_,h=>by simpa only[Rp]using h
 | .bl _,_,_,h=>by simpa only[Rp]using h
 | .int _,_,_,h=>by simpa only[Rp]using h
 | .str _,_,_,h=>by simpa only[Rp]using h
 | .ty _,_,_,h=>by simpa only[Rp]using h
 | .cls _,_,_,h=>by simpa only[Rp]using h
 | .tup ds,v,n,h=>by
  simp only[Rp]at h ⊢
  obtain⟨a,xs,e,h1,h2⟩:=h
  exact⟨a,xs,e,g _ _ h1 (fun z=>by rcases z with⟨_,z⟩ | ⟨ks,_,z⟩;exact nomatch z;cases ks<;>exact nomatch z),Rps.noL g ds xs (by simpa only[L2.noL]using n) h2⟩
 | .lst ds,v,n,h=>by simp[L2.noL]at n
 | .scr ns,v,n,h=>by simp[L2.noL]at n
 | .exc c,v,n,h=>by simp[L2.noL]at n
 | .obj _ _ _,v,n,h=>by simp[L2.noL]at n
 | .dic _ _,v,n,h=>by simp[L2.noL]at n
 | .exv _ _ _,v,n,h=>by simp[L2.noL]at n
theorem Rps.noL(g:∀b o,F' b=some o→¬a2c o→F2 b=some o):∀(ds:List D) (vs:List V),L2.noLs ds=true→Rps K cl F' ds vs→Rps K cl F2 ds vs
 | [],_,_,h=>by simpa only[Rps]using h
 | d::ds,vs,n,h=>by
  simp only[Rps]at h ⊢
  simp only[L2.noLs,Bool.and_eq_true]at n
  obtain⟨v,r,e,h1,h2⟩:=h
  exact⟨v,r,e,Rp.noL g d v n.1 h1,Rps.noL g ds r n.2 h2⟩
end
theorem a2y{j:Nat}{s:Sl}(h:(L4 env)[j]? = some s):∃s0,env[j]? = some s0∧s=a1j s0:=by
 rw[a4d,List.getElem?_map]at h
 cases q:env[j]? with
 | none=>rw[q]at h;cases h
 | some s0=>rw[q]at h;exact⟨s0,rfl,(Option.some.inj h).symm⟩
theorem a3B{j:Nat}:¬Mu (L4 env) j:=fun⟨ds,q⟩=>by
 rcases q with q | q
 ·obtain⟨s0,_,e⟩:=a2y q;cases s0<;>cases e
 ·obtain⟨s0,_,e⟩:=a2y q;cases s0<;>cases e
theorem a4e{j:Nat}{s:Sl}{ks:DK}{ds:List D}(h:(L4 env)[j]? = some s):¬Y0 s ks ds:=fun d=>by
 obtain⟨s0,_,e⟩:=a2y h
 cases s0<;> (subst e;exact d)
theorem a2z(R:Rel K cl σ H F env):∃F1,Rel K cl σ H F1 (L4 env)∧(∀b,y4 σ env b→∃o,a2c o∧F1 b=some o∧H b=some o)∧∀b,¬y4 σ env b→F1 b=F b:=by
 classical
 have hF:∀b,y4 σ env b→F b=none∧∃o,a2c o∧H b=some o:=fun b w=>by
  rcases w with⟨j,⟨ds,q⟩,e⟩ | ⟨j,s,ks,ds,q,d,e⟩
  ·obtain⟨a,xs,e1,h1,f1,_⟩:=R.mu j ds q
   rw[e]at e1;cases e1
   exact⟨f1,_,.inl ⟨xs,rfl⟩,h1⟩
  ·obtain⟨a,xs,e1,h1,f1,_⟩:=R.od.at_ j s ks ds q d
   rw[e]at e1;cases e1
   exact⟨f1,_,.inr ⟨ks,xs,rfl⟩,h1⟩
 have sF:Same F (fun b=>if y4 σ env b then H b else F b):=fun b o q=>by
  show(if y4 σ env b then H b else F b)=some o
  rw[if_neg (fun w=>by rw[(hF b w).1]at q;cases q)];exact q
 refine⟨fun b=>if y4 σ env b then H b else F b,⟨fun b o q=>?_,by rw[a4d,List.length_map];exact R.len,fun i d q=>?_,fun i ds q=>absurd ⟨ds,q⟩ a3B,fun i j a hi=>absurd hi a3B,.none fun _ _ _ _ h=>a4e h⟩,fun b w=>?_,fun b w=>if_neg w⟩
 ·try dsimp only at q
  split at q
  ·exact q
  ·exact R.sub _ _ q
 ·obtain⟨s0,e0,e1⟩:=a2y q
  cases s0 with
  | no=>cases e1
  | fz d'=>cases e1;obtain⟨v,e2,r⟩:=R.fz i _ e0;exact⟨v,e2,r.mono sF⟩
  | ow ds =>
   cases e1
   obtain⟨a,xs,e2,h2,f2,r⟩:=R.mu i ds (.inl e0)
   refine⟨_,e2,?_⟩
   simp only[Rp]
   refine⟨a,xs,rfl,?_,r.mono sF⟩
   rw[if_pos (.inl ⟨i,⟨ds,.inl e0⟩,e2⟩)];exact h2
  | hd ds =>
   cases e1
   obtain⟨a,xs,e2,h2,f2,r⟩:=R.mu i ds (.inr e0)
   refine⟨_,e2,?_⟩
   simp only[Rp]
   refine⟨a,xs,rfl,?_,r.mono sF⟩
   rw[if_pos (.inl ⟨i,⟨ds,.inr e0⟩,e2⟩)];exact h2
  | od ks ds =>
   cases e1
   obtain⟨a,xs,e2,h2,f2,hn,r⟩:=R.od.at_ i _ ks ds e0 ⟨rfl,rfl⟩
   refine⟨_,e2,?_⟩
   simp only[Rp]
   refine⟨a,xs,rfl,?_,hn,r.mono sF⟩
   rw[if_pos (.inr ⟨i,_,ks,ds,e0,⟨rfl,rfl⟩,e2⟩)];exact h2
  | hk ks ds =>
   cases e1
   obtain⟨a,xs,e2,h2,f2,hn,r⟩:=R.od.at_ i _ ks ds e0 ⟨rfl,rfl⟩
   refine⟨_,e2,?_⟩
   simp only[Rp]
   refine⟨a,xs,rfl,?_,hn,r.mono sF⟩
   rw[if_pos (.inr ⟨i,_,ks,ds,e0,⟨rfl,rfl⟩,e2⟩)];exact h2
 ·obtain⟨o,i,h⟩:=(hF b w).2
  exact⟨o,i,by(try dsimp only);rw[if_pos w];exact h,h⟩
theorem a03(R:Rel K cl σ H F env)(o1:∀b,y4 σ env b→∃o,a2c o∧F1 b=some o∧H b=some o)(o2:∀b,¬y4 σ env b→F1 b=F b)(x:FX σ H F1 (L4 env) H' F') :
  ∃F2,Frm σ H F env σ H' F2 env∧Rel K cl σ H' F2 env∧(∀b o,F' b=some o→¬a2c o→F2 b=some o)∧∀b,F' b=none→F2 b=none:=by
 classical
 have nw:∀b,¬Ow σ (L4 env) b:=fun b ⟨j,s,oo,q,_⟩=>by
  cases s with
  | ow ds=>exact a3B ⟨ds,.inl q⟩
  | od ks ds=>exact a4e q (ks:=ks) (ds:=ds) ⟨rfl,rfl⟩
  | _=>exact oo
 have hF:∀b,y4 σ env b→F b=none:=fun b w=>by
  rcases w with⟨j,⟨ds,q⟩,e⟩ | ⟨j,s,ks,ds,q,d,e⟩
  ·obtain⟨a,xs,e1,h1,f1,_⟩:=R.mu j ds q
   rw[e]at e1;cases e1
   exact f1
  ·obtain⟨a,xs,e1,h1,f1,_⟩:=R.od.at_ j s ks ds q d
   rw[e]at e1;cases e1
   exact f1
 have sF:Same F (fun b=>if y4 σ env b then none else F' b):=fun b o q=>by
  have w:¬y4 σ env b:=fun w=>by rw[hF b w]at q;cases q
  show(if y4 σ env b then none else F' b)=some o
  rw[if_neg w]
  exact x.fz _ _ (by rw[o2 b w];exact q)
 have kept:∀b o,y4 σ env b→H b=some o→H' b=some o:=fun b xs w h=>by
  obtain⟨ys,_,f,h2⟩:=o1 b w
  rw[h]at h2;cases h2
  exact x.sub _ _ (x.fz _ _ f)
 refine⟨fun b=>if y4 σ env b then none else F' b,⟨sF,fun b o hb fb w=>?_,fun _ _ h=>⟨h,rfl⟩,x.dom⟩,⟨fun b o q=>?_,R.len,fun i d q=>?_,fun i ds q=>?_,R.inj,R.od.own (fun i s ks ds a xs h d e hH hF=>⟨kept a _ (.inr ⟨i,s,ks,ds,h,d,e⟩) hH,by(try dsimp only);rw[if_pos (.inr ⟨i,s,ks,ds,h,d,e⟩)]⟩) sF⟩,fun b o q nl=>?_,fun b q=>?_⟩
 ·by_cases ww:y4 σ env b
  ·obtain⟨ys,_,f,h2⟩:=o1 b ww
   refine⟨by rw[hb]at h2;cases h2;exact kept b _ ww hb,by(try dsimp only);rw[if_pos ww],w⟩
  ·obtain⟨h1,f1⟩:=x.hid b o hb (by rw[o2 b ww];exact fb) (nw b)
   exact⟨h1,by(try dsimp only);rw[if_neg ww];exact f1,w⟩
 ·try dsimp only at q
  split at q
  ·cases q
  ·exact x.sub _ _ q
 ·obtain⟨v,e,r⟩:=R.fz i d q;exact⟨v,e,r.mono sF⟩
 ·obtain⟨a,xs,e,h1,f1,r⟩:=R.mu i ds q
  have w:y4 σ env a:=.inl ⟨i,⟨ds,q⟩,e⟩
  exact⟨a,xs,e,kept a _ w h1,by(try dsimp only);rw[if_pos w],r.mono sF⟩
 ·dsimp only
  rw[if_neg (fun w=>by obtain⟨ys,i,f,_⟩:=o1 b w;rw[x.fz _ _ f]at q;cases q;exact nl i)];exact q
 ·dsimp only
  split
  ·rfl
  ·exact q
def noX:XN→Bool
 | .p _=>true
 | .v _ _ d=>noL d
theorem Xf.noL{c:XN}{cx:Option Addr}(g:∀b o,F' b=some o→¬a2c o→F2 b=some o)(n:noX c=true)(h:Xf K cl F' c cx):Xf K cl F2 c cx:=by
 cases c with
 | p c=>exact h
 | v c f d =>
  obtain⟨dx,y,e,h1,h2⟩:=h
  exact⟨dx,y,e,g _ _ h1 (fun z=>by rcases z with⟨_,z⟩ | ⟨ks,_,z⟩;exact nomatch z;cases ks<;>exact nomatch z),Rp.noL g d y n h2⟩
def a3C(f:ZF):ZF:=fun e=>match f (L4 e)with
 | some (.ok d _)=>if noL d=true then some (.ok d e)else none
 | some (.ex c)=>if noX c=true then some (.ex c)else none
 | none=>none
def V6(f:BF):BF:=fun e=>match f (L4 e)with
 | some (.ok d _)=>some (.ok d e)
 | some (.ex c)=>if noX c=true then some (.ex c)else none
 | none=>none
theorem b0q{t:TE}{f:ZF}(hf:A9 K cl E t f):A9 K cl E t (a3C f):=by
 intro σ H Q env F R h
 obtain⟨F1,R1,o1,o2⟩:=a2z R
 refine hf σ H Q (L4 env) F1 R1 ?_
 unfold a3C at h
 split at h
 ·rename_i d e2 q
  rw[q]
  intro b H' F' fr R' p
  split at h
  ·rename_i n
   obtain⟨F2,fr2,R2,g,_⟩:=a03 R o1 o2 (fr.toFX R'.sub)
   exact h b H' F2 fr2 R2 (Rp.noL g d b n p)
  ·exact h.elim
 ·rename_i c q
  rw[q]
  intro H' F' x cx xf
  obtain⟨F2,fr2,R2,g,_⟩:=a03 R o1 o2 x
  split at h
  ·rename_i n
   exact h H' F2 (fr2.toFX R2.sub) cx (xf.noL g n)
  ·exact h.elim
 ·exact h.elim
theorem a2Y{t:TT}{f:BF}(hf:Q8 K cl E t f):Q8 K cl E t (V6 f):=by
 intro σ H Q env F R h
 obtain⟨F1,R1,o1,o2⟩:=a2z R
 refine hf σ H Q (L4 env) F1 R1 ?_
 unfold V6 at h
 split at h
 ·rename_i d e2 q
  rw[q]
  intro b H' F' fr R' p
  obtain⟨F2,fr2,R2,g,_⟩:=a03 R o1 o2 (fr.toFX R'.sub)
  exact h b H' F2 fr2 R2 p
 ·rename_i c q
  rw[q]
  intro H' F' x cx xf
  obtain⟨F2,fr2,R2,g,_⟩:=a03 R o1 o2 x
  split at h
  ·rename_i n
   exact h H' F2 (fr2.toFX R2.sub) cx (xf.noL g n)
  ·exact h.elim
 ·exact h.elim
def bLd(r:Option (R Bool))(e:DE):Option (R Bool):=match r with
 | some (.ok d _)=>some (.ok d e)
 | some (.ex c)=>if noX c=true then some (.ex c)else none
 | none=>none
def zLd(r:Option (R D))(e:DE):Option (R D):=match r with
 | some (.ok d _)=>if noL d=true then some (.ok d e)else none
 | some (.ex c)=>if noX c=true then some (.ex c)else none
 | none=>none
theorem b0r(f:BF)(e:DE):V6 f e=bLd (f (L4 e)) e:=rfl
theorem b0s(f:ZF)(e:DE):a3C f e=zLd (f (L4 e)) e:=rfl
theorem b35(d:Bool)(e e2:DE):bLd (some (.ok d e2)) e=some (.ok d e):=rfl
theorem b36(c:Str)(e:DE):bLd (some (.ex (.p c))) e=some (.ex (.p c)):=rfl
theorem b2v(c f:Str)(d:D)(e:DE):bLd (some (.ex (.v c f d))) e=if noL d=true then some (.ex (.v c f d))else none:=rfl
theorem b37(d:D)(e e2:DE):zLd (some (.ok d e2)) e=if noL d=true then some (.ok d e)else none:=rfl
theorem b38(c:Str)(e:DE):zLd (some (.ex (.p c))) e=some (.ex (.p c)):=rfl
theorem b2w(c f:Str)(d:D)(e:DE):zLd (some (.ex (.v c f d))) e=if noL d=true then some (.ex (.v c f d))else none:=rfl
variable {k:Nat}
end
def un:Option D→Sl
 | none=>.no
 | some d=>.fz d
def a0I:Sl→Bool
 | .hd _=>false
 | _=>true
def okS:Option Sl→Bool
 | none=>false
 | some s=>a0I s
theorem b0t(o:Option D):a0I (un o)=true:=by cases o<;>rfl
theorem b0u:a0I .no=true:=rfl
theorem b0v(d:D):a0I (.fz d)=true:=rfl
theorem b0w(d:List D):a0I (.ow d)=true:=rfl
theorem b0x(d:List D):a0I (.hd d)=false:=rfl
theorem b0y(s:Sl):okS (some s)=a0I s:=rfl
theorem b0z:okS none=false:=rfl
theorem b2x:a1j .no=.no:=rfl
theorem b2y(d:D):a1j (.fz d)=.fz d:=rfl
theorem b2z(d:List D):a1j (.ow d)=.fz (.lst d):=rfl
theorem b2A(d:List D):a1j (.hd d)=.fz (.lst d):=rfl
theorem b39(i:Nat)(s:Sl)(e:DE):put i s e=if okS e[i]? = true then some (.nx (e.set i s))else none:=by
 unfold put okS
 cases e[i]? with
 | none=>rfl
 | some t=>cases t<;>rfl
theorem b0A(i:Nat)(d:D)(e:DE):c7 i d e=if okS e[i]? = true then some (e.set i (.fz d))else none:=by
 unfold c7 okS
 cases e[i]? with
 | none=>rfl
 | some t=>cases t<;>rfl
theorem b2B(o:Option D):a1j (un o)=un o:=by cases o<;>rfl
theorem b0B:a37 []=true:=rfl
theorem a81(s:Sl)(e:DE):a37 (s::e)=(a0I s && a37 e):=by cases s<;>rfl
def F9(r:Option RS):Option RS:=match r with
 | some (.ct e)=>some (.nx e)
 | r=>r
theorem b2C(e:DE):F9 (some (.nx e))=some (.nx e):=rfl
theorem b2D(e:DE):F9 (some (.ct e))=some (.nx e):=rfl
theorem b2E(d:D):F9 (some (.rt d))=some (.rt d):=rfl
theorem b2F(c:XN):F9 (some (.ex c))=some (.ex c):=rfl
theorem b2G(d:List (List D)):F9 (some (.rz d))=some (.rz d):=rfl
theorem b2H(d:List D):F9 (some (.ro d))=some (.ro d):=rfl
theorem a82{r:Option RS}{k:SF}:a00 r k=a00 (F9 r) k:=by
 cases r with
 | none=>rfl
 | some r=>cases r<;>rfl
theorem a5L{α:Type}{b:GF}{body:SF}(f:α→D)(I:List α→DE→Prop)(l0:List α):∀(l pre:List α) (e:DE),l0=pre++l→I pre e→(∀pre x post e,l0=pre++x::post→I pre e→∃e2,F9 (a2W (b (f x) e) body)=some (.nx e2)∧I (pre++[x]) e2)→∃e',B6 b body (l.map f) e=some (.nx e')∧I l0 e'
 | [],pre,e,hl,h,_=>⟨e,rfl,by rw[hl,List.append_nil];exact h⟩
 | x::l,pre,e,hl,h,hs=>by
  obtain⟨e2,h2,h3⟩:=hs pre x l e hl h
  obtain⟨e',h4,h5⟩:=a5L f I l0 l (pre++[x]) e2 (by rw[hl,List.append_assoc];rfl) h3 hs
  refine⟨e',?_,h5⟩
  rw[List.map_cons,a19]
  cases q:b (f x) e with
  | none=>rw[q]at h2;cases h2
  | some e1 =>
   rw[q]at h2
   have h2:F9 (body e1)=some (.nx e2):=h2
   rw[C3,a82,h2];exact h4
theorem K7{α:Type}{b:GF}{body:SF}(f:α→D)(I:List α→DE→Prop)(l:List α)(e:DE)(h:I [] e)(hs:∀pre x post e,l=pre++x::post→I pre e→∃e2,F9 (a2W (b (f x) e) body)=some (.nx e2)∧I (pre++[x]) e2):∃e',B6 b body (l.map f) e=some (.nx e')∧I l e' :=
 a5L f I l l [] e rfl h hs
theorem P8{α:Type}{b:GF}{c:BF}{el:ZF}{ec eo:DE}(f:α→D)(g:α→D)(q:α→Bool):∀(l:List α) (acc:List D),acc.length+l.length≤sizeLine→(∀x∈l,∃e1 e2,b (f x) ec=some e1∧c e1=some (.ok (q x) e2)∧(q x=true→∃e3,el e2=some (.ok (g x) e3)))→w8 b c el ec eo (l.map f) acc=some (.ok (acc++(l.filter q).map g) eo)
 | [],acc,_,_=>by simp only[List.filter_nil,List.map_nil,List.append_nil];rfl
 | x::l,acc,hl,h=>by
  obtain⟨e1,e2,h1,h2,h3⟩:=h x List.mem_cons_self
  have hl':acc.length<sizeLine:=by rw[List.length_cons]at hl;omega
  rw[List.map_cons,a3A,h1,a4H,h2,a3o]
  by_cases z:q x=true
  ·obtain⟨e3,h4⟩:=h3 z
   rw[if_pos z,h4,a3o,if_pos hl',P8 f g q l (acc++[g x]) (by rw[List.length_append,List.length_cons,List.length_nil];rw[List.length_cons]at hl;omega) (fun y m=>h y (List.mem_cons_of_mem _ m)),List.filter_cons_of_pos z,List.map_cons,List.append_assoc];rfl
  ·rw[if_neg z,P8 f g q l acc (by rw[List.length_cons]at hl;omega) (fun y m=>h y (List.mem_cons_of_mem _ m)),List.filter_cons_of_neg z]
theorem a65{ds:List D}{v u:Int}(h:0≤v)(h2:v≤u):cutD ds (some v) (some u)=(ds.drop v.toNat).take (u-v).toNat:=by
 unfold cutD
 obtain⟨n,rfl⟩:=Int.eq_ofNat_of_zero_le h
 obtain⟨m,rfl⟩:=Int.eq_ofNat_of_zero_le (Int.le_trans h h2)
 rw[HT.sIx_nat,HT.sIx_nat,Int.toNat_natCast]
 have e:((m:Int)-(n:Int)).toNat=m-n:=by omega
 rw[e]
 by_cases z:n≤ds.length
 ·rw[Nat.min_eq_left z]
  by_cases y:m≤ds.length
  ·rw[Nat.min_eq_left y]
  ·rw[Nat.min_eq_right (by omega),List.take_of_length_le (by rw[List.length_drop];exact Nat.le_refl _),List.take_of_length_le (by rw[List.length_drop];omega)]
 ·rw[List.drop_of_length_le (show ds.length≤min n ds.length by omega),List.drop_of_length_le (by omega),List.take_nil,List.take_nil]
theorem b2I(d:D)(n:String):a38 [d,.ty n]=a2s n d:=by unfold a38 a2s;rfl
theorem a4f{n k:Nat}(h:k<n):V2 n (k:Int)=some k:=by
 unfold V2;rw[if_pos (by omega),if_pos (by omega),Int.toNat_natCast]
theorem a4I{α:Type}(f g:α→D):∀(l:List α),a01 (l.map f) (l.map g)=l.map fun q=>.tup [f q,g q]
 | []=>rfl
 | x::l=>by
  have:=a4I f g l
  unfold a01 at this ⊢
  rw[List.map_cons,List.map_cons,List.zipWith_cons_cons,this,List.map_cons]
theorem V7{α:Type}{l:List α}{k:Nat}{a:α}(h:l[k]? = some a):atI l (k:Int)=some a:=by
 have hk:=(List.getElem?_eq_some_iff.mp h).1
 unfold atI
 rw[a4f hk];exact h
section
variable {K:W.Frag}{cl:Str→Addr}{E:XK}
theorem a4J:∀{F:Hp} {ds:List D} {vs:List V} (n:Nat),Rps K cl F ds vs→Rps K cl F (ds.eraseIdx n) (vs.eraseIdx n)
 | F,[],vs,n,h=>by rw[h.inv0];exact .nil
 | F,d::ds,vs,0,h=>by obtain⟨v,r,rfl,h1,h2⟩:=h.inv;exact h2
 | F,d::ds,vs,n+1,h=>by obtain⟨v,r,rfl,h1,h2⟩:=h.inv;exact .cons h1 (a4J n h2)
end
open Classical in
section
variable {K:W.Frag}{cl:Str→Addr}{E:XK}
theorem a5M:∀a b:List Int,HT.lexLt a b=false→HT.lexLt b a=false→a=b
 | [],[],_,_=>rfl
 | [],_::_,h,_=>by cases h
 | _::_,[],_,h=>by cases h
 | x::xs,y::ys,h1,h2=>by
  rw[HT.lexLt_cons]at h1 h2
  by_cases e:x=y
  ·subst e
   rw[if_pos rfl]at h1 h2
   rw[a5M xs ys h1 h2]
  ·rw[if_neg e]at h1
   rw[if_neg (Ne.symm e)]at h2
   have:=of_decide_eq_false h1
   have:=of_decide_eq_false h2
   exact absurd (show x=y by omega) e
theorem a5N{F:Hp}{ds:List D}{xs:List V}(r:Rps K cl F ds xs):∀(p:List Nat),(∀i∈p,i<ds.length)→Rps K cl F (p.map fun i=>ds.getD i .non) (p.map fun i=>xs.getD i .non)
 | [],_=>.nil
 | i::p,h=>by
  have hi:=h i (by simp)
  obtain⟨v,e,pv⟩:=r.get (List.getElem?_eq_getElem hi)
  refine .cons ?_ (a5N r p fun j hj=>h j (by simp[hj]))
  show Rp K cl F (ds.getD i .non) (xs.getD i .non)
  have e1:ds.getD i .non=ds[i]:=by simp[hi]
  have e2:xs.getD i .non=v:=by simp[e]
  rw[e1,e2];exact pv
theorem b0C{α β:Type}(f:α→β)(l:List α)(a:α)(b:β)(p:List Nat)(h:∀i∈p,i<l.length):(p.map fun i=>(l.map f).getD i b)=(p.map fun i=>l.getD i a).map f:=by
 rw[List.map_map]
 refine List.map_congr_left fun i hi=>?_
 have:=h i hi
 simp[this]
theorem a83{α:Type}(l:List α)(a:α)(p:List Nat)(h:p.Perm (List.range l.length)):(p.map fun i=>l.getD i a).Perm l:=by
 have e:(List.range l.length).map (fun i=>l.getD i a)=l:=by
  apply List.ext_getElem (by simp)
  intro i h1 h2
  simp[h2]
 exact(h.map _).trans (by rw[e])
theorem a66{F:Hp}:∀{ds:List D} {xs:List V},Rps K cl F ds xs→Rps K cl F ds.reverse xs.reverse
 | [],_,r=>by rw[r.inv0];exact .nil
 | d::ds,_,r=>by
  obtain⟨v,xs,rfl,p,r'⟩:=r.inv
  rw[List.reverse_cons,List.reverse_cons]
  exact(a66 r').append (.one p)
end
section
variable {K:W.Frag}{cl:Str→Addr}{E:XK}{σ:St}{H F:Hp}{env:DE}
abbrev HF:=XN→SF
theorem Xf.rp{c:XN}{cx:Option Addr}{a:Addr}(h:Xf K cl F c cx)(na:F a=none):Rp K cl (upd F a (a2S a (.ref (cl c.nm)) cx)) c.d (.ref a):=by
 have g:Same F (upd F a (a2S a (.ref (cl c.nm)) cx)):=fun b o e=>by rw[f9 (l3 e na)];exact e
 cases c with
 | p c=>show Rp K cl _ (.exc c) _;simp only[Rp];exact⟨a,cx,rfl,k9⟩
 | v c f d =>
  obtain⟨dx,y,rfl,h1,h2⟩:=h
  show Rp K cl _ (.exv c f d) _
  simp only[Rp]
  exact⟨a,dx,y,rfl,k9,g _ _ h1,h2.mono g⟩
def hN:HF:=fun _ _=>none
end
section
variable {K:W.Frag}{cl:Str→Addr}{E:XK}{σ:St}{H F:Hp}{env:DE}
theorem Rps.lookup{f:Str}:∀{ns:List Str} {ds:List D} {xs:List V} {z:D},Rps K cl F ds xs→(ns.zip ds).lookup f=some z→∃v,(ns.zip xs).lookup f=some v∧Rp K cl F z v
 | [],ds,xs,z,_,h=>by simp at h
 | n::ns,[],xs,z,r,h=>by simp at h
 | n::ns,d::ds,xs,z,r,h=>by
  obtain⟨v,ys,rfl,p,r'⟩:=r.inv
  rw[List.zip_cons_cons,List.lookup_cons]at h ⊢
  by_cases q:(f == n)=true
  ·rw[q]at h ⊢;cases h;exact⟨v,rfl,p⟩
  ·rw[Bool.not_eq_true _ |>.mp q]at h ⊢;exact r'.lookup h
end
section
variable {K:W.Frag}{cl:Str→Addr}{E:XK}{σ:St}{H F:Hp}{env:DE}{k:Nat}
theorem b0D{b:GF}{body:SF}{g:TG}{tb:TS}{ds:List D}{xs:List V}{a:Addr}{N:Ends}(hb:RfS K cl E tb body)(hg:R0 K cl k g b)(R:Rel K cl σ H F env)
  (hl:∀σ' H' F' e',Frm σ H F env σ' H' F' e'→Rel K cl σ' H' F' e'→SqL K H' a xs) (r:Rps K cl F ds xs) (h:Cs K cl E (B6 b body ds.reverse env) σ H F env N) :
  ∃W:Nat→Nat→St→Hp→Prop,(∃m,W 0 m σ H)∧∀i m σ H,W i m σ H →
   ((Itv K a xs.length).stop i H∧N.nx σ H)∨((Itv K a xs.length).go i H∧∃M:St→Hp→Prop,(∀σ' H',M σ' H'→∃m',m'<m∧W (i+1) m' σ' H')∧∀x H',(Itv K a xs.length).yld i H x H'→g x σ H' fun σ2 H2=>tb { N with nx:=M,ct:=M,bk:=N.nx } σ2 H2):=by
 have rr:Rps K cl F ds.reverse xs.reverse:=a66 r
 refine b1M (xs:=xs) (fun i σ' H'=>∃F' e',Frm σ H F env σ' H' F' e'∧Rel K cl σ' H' F' e'∧Cs K cl E (B6 b body (ds.reverse.drop i) e') σ H F env N) ⟨F,env,Frm.refl,R,h⟩ (fun i σ' H' _ ⟨F',e',f,R',_⟩=>hl σ' H' F' e' f R') (fun i x σ' H' hx ⟨F',e',f,R',h'⟩=>?_) (fun σ' H' ⟨F',e',f,R',h'⟩=>?_)
 ·obtain⟨d,hd,p⟩:=rr.get' hx
  rw[S9 hd]at h'
  exact a1M hb hg f R' (Rp.mono f.fz _ _ p) h' fun σ2 H2 F2 e2 f2 R2 h2=>⟨F2,e2,f2,R2,h2⟩
 ·rw[← r.length,← List.length_reverse,List.drop_length]at h'
  exact h' σ' H' F' f R'
end
section
variable {K:W.Frag}{cl:Str→Addr}{E:XK}{σ:St}{H F:Hp}{env:DE}{k:Nat}
theorem b3_{b:GF}{c:BF}{el:ZF}{g:TG}{tf:TT}{te:TE}{js:List Nat}{ds:List D}{xs:List V}{a B:Addr}{Q:VK}(nd:js.Nodup)(hg:R0 K cl k g b)(hc:Q8 K cl E tf c)(he:A9 K cl E te el)(R:Rel K cl σ H F env)(hB:H B=none)
  (hl:∀H' F',Same F F'→Same F' H'→SqL K H' a xs) (r:Rps K cl F ds xs) (h:Ct K cl E (PN K cl) (w8 b c el (t7 k js env) env (enD 0 ds) []) σ H F env Q) :
  S6 (Ite K a) g tf te k (x6 k js σ) B (fun H'=>Q (.ref B) H') H:=by
 refine a8z (xs:=xs) (fun i zs H'=>∃F' acc,Grow K cl σ H F env B acc zs H' F'∧Ct K cl E (PN K cl) (w8 b c el (t7 k js env) env ((enD 0 ds).drop i) acc) σ H F env Q) ⟨F,[],.start R hB,h⟩ (fun i zs H' _ ⟨F',acc,gw,_⟩=>hl H' F' gw.frm.fz gw.rel.sub) (fun i x zs H' p hx ⟨F',acc,gw,h'⟩ hp=>?_) (fun zs H' ⟨F',acc,gw,h'⟩=>?_)
 ·obtain⟨d,hd,pd⟩:=r.get' hx
  rw[S9 (a35 hd),Nat.zero_add]at h'
  have gr:Gr H' F' (upd H' p (.tup [.int i,x])) (upd F' p (.tup [.int i,x])):=.new gw.rel.sub hp
  refine a0_ (Pv:=fun zs' H2=>∃F' acc,Grow K cl σ H F env B acc zs' H2 F'∧Ct K cl E (PN K cl) (w8 b c el (t7 k js env) env ((enD 0 ds).drop (i+1)) acc) σ H F env Q) nd hg hc he (gw.gr gr) ?_ h' fun acc' ys' H2 F2 gw2 h2=>⟨F2,acc',gw2,h2⟩
  simp only[Rp]
  exact⟨p,_,rfl,k9,.cons (by simp only[Rp]) (.one (Rp.mono (gw.frm.fz.trans gr.fz) _ _ pd))⟩
 ·rw[← r.length,List.drop_eq_nil_of_le (by rw[a36];exact Nat.le_refl _)]at h'
  exact a1O gw h'
def a4g(i:Nat)(k:Nat)(js:List Nat)(b:GF)(c:BF)(el:ZF):NF:=fun e=>match e[i]? with
 | some (.fz d)=>(match seqL d with
  | none=>none
  | some ds=>w8 b c el (t7 k js e) e (enD 0 ds) [])
 | _=>none
theorem a84{i:Nat}{g:TG}{tf:TT}{te:TE}{js:List Nat}{b:GF}{c:BF}{el:ZF}(nd:js.Nodup)(hg:R0 K cl k g b)(hc:Q8 K cl E tf c)(he:A9 K cl E te el):Y1 K cl E (a08 (a7A K (L5 (R9 i) X8)) g tf te k js) (a4g i k js b c el):=by
 intro σ H Q env F R h
 unfold a4g at h
 split at h
 ·rename_i d q
  split at h
  ·exact h.elim
  ·rename_i ds hs
   obtain⟨v,e,p⟩:=R.fz i d q
   obtain⟨a,xs,rfl,r,hl⟩:=Rp.seqL p hs
   exact⟨_,e,a,rfl,⟨xs,hl H R.sub⟩,fun B hB=>b3_ nd hg hc he R hB (fun H' F' f2 s2=>hl H' (f2.trans s2)) r h⟩
 ·exact h.elim
end
section
variable {K:W.Frag}{cl:Str→Addr}
theorem a5O{F:Hp}:∀(l:List Nat),Rps K cl F (l.map fun(i:Nat)=>D.int (i:Int)) (l.map fun(i:Nat)=>V.int (i:Int))
 | []=>.nil
 | i::l=>.cons (by simp only[Rp]) (a5O l)
end
structure GrM(a:Addr)(H F H' F':Hp):Prop where
 fz:Same F F'
 sub:Same F' H'
 hid:∀b o,b≠a→H b=some o→F b=none→H' b=some o∧F' b=none
 dom:∀b,H' b=none→H b=none
structure Bs(a:Addr)(σ:St)(env:DE)(H0 F0 H F:Hp):Prop where
 fz:Same F0 F
 hid:∀b o,b≠a→H0 b=some o→F0 b=none→H b=some o∧F b=none∧¬Ow σ env b
 dom:∀b,H b=none→H0 b=none
section
variable {K:W.Frag}{cl:Str→Addr}{E:XK}{σ:St}{H F:Hp}{env:DE}
theorem Bs.frm{a:Addr}{ds:List D}{σ':St}{env':DE}{H0 F0 H' F':Hp}(B:Bs a σ env H0 F0 H F)(f:Frm σ H F env σ' H' F' env'):Bs a σ' env' H0 F0 H' F' :=
 ⟨B.fz.trans f.fz,fun b o n h g=>by obtain⟨h1,f1,w1⟩:=B.hid b o n h g;exact f.hid b o h1 f1 w1,fun b h=>B.dom b (f.dom b h)⟩
theorem Bs.gr{a:Addr}{H0 F0:Hp}(B:Bs a σ env H0 F0 H F)(s:Same F H):GrM a H0 F0 H F :=
 ⟨B.fz,s,fun b o n h g=>by obtain⟨h1,f1,_⟩:=B.hid b o n h g;exact⟨h1,f1⟩,B.dom⟩
end
abbrev R6:=List Int×List D
def K2(q:R6):D:=.tup (q.1.map .int++q.2)
def K4:D→Bool
 | .tup _=>true
 | _=>false
def P9:List D→R6
 | .int n::r=>(n::(P9 r).1,(P9 r).2)
 | r=>([],r)
theorem b0E(n:Int)(r:List D):P9 (.int n::r)=(n::(P9 r).1,(P9 r).2):=rfl
theorem a67:∀ds:List D,(P9 ds).1.map D.int++(P9 ds).2=ds
 | []=>rfl
 | .int n::r=>by
  show D.int n::((P9 r).1.map D.int++(P9 r).2)=_
  rw[a67 r]
 | .non::_=>rfl
 | .bl _::_=>rfl
 | .str _::_=>rfl
 | .ty _::_=>rfl
 | .cls _::_=>rfl
 | .tup _::_=>rfl
 | .lst _::_=>rfl
 | .scr _::_=>rfl
 | .exc _::_=>rfl
 | .obj _ _ _::_=>rfl
 | .dic _ _::_=>rfl
 | .exv _ _ _::_=>rfl
theorem a68:∀(k:List Int) (rs:List D),rs.all K4=true→P9 (k.map D.int++rs)=(k,rs)
 | [],[],_=>rfl
 | [],.tup _::_,_=>rfl
 | [],.int _::_,h=>by simp[K4]at h
 | [],.non::_,h=>by simp[K4]at h
 | [],.bl _::_,h=>by simp[K4]at h
 | [],.str _::_,h=>by simp[K4]at h
 | [],.ty _::_,h=>by simp[K4]at h
 | [],.cls _::_,h=>by simp[K4]at h
 | [],.lst _::_,h=>by simp[K4]at h
 | [],.scr _::_,h=>by simp[K4]at h
 | [],.exc _::_,h=>by simp[K4]at h
 | [],.obj _ _ _::_,h=>by simp[K4]at h
 | [],.dic _ _::_,h=>by simp[K4]at h
 | [],.exv _ _ _::_,h=>by simp[K4]at h
 | n::k,rs,h=>by
  show P9 (.int n::(k.map D.int++rs))=_
  rw[b0E,a68 k rs h]
def a1b:List D→Option (List R6)
 | []=>some []
 | .tup ds::r=>if(P9 ds).1≠[]∧(P9 ds).2.all K4=true then(a1b r).map (P9 ds :: ·)else none
 | _=>none
theorem a5P:∀{ds:List D} {qs:List R6},a1b ds=some qs→ds=qs.map K2∧∀q∈qs,q.1≠[]∧q.2.all K4=true
 | [],_,h=>by cases h;exact⟨rfl,fun q m=>by cases m⟩
 | .tup ds::r,qs,h=>by
  unfold a1b at h
  split at h
  ·rename_i hc
   cases hr:a1b r with
   | none=>rw[hr]at h;cases h
   | some rs =>
    rw[hr]at h
    cases h
    obtain⟨e,hn⟩:=a5P hr
    refine⟨?_,fun q m=>?_⟩
    ·rw[List.map_cons,← e]
     show _=D.tup ((P9 ds).1.map .int++(P9 ds).2)::r
     rw[a67]
    ·rcases List.mem_cons.mp m with rfl | m
     ·exact hc
     ·exact hn q m
  ·cases h
 | .int _::_,_,h=>by cases h
 | .non::_,_,h=>by cases h
 | .bl _::_,_,h=>by cases h
 | .str _::_,_,h=>by cases h
 | .ty _::_,_,h=>by cases h
 | .cls _::_,_,h=>by cases h
 | .lst _::_,_,h=>by cases h
 | .scr _::_,_,h=>by cases h
 | .exc _::_,_,h=>by cases h
 | .obj _ _ _::_,_,h=>by cases h
 | .dic _ _::_,_,h=>by cases h
 | .exv _ _ _::_,_,h=>by cases h
theorem a4K:∀{qs:List R6},(∀q∈qs,q.1≠[]∧q.2.all K4=true)→a1b (qs.map K2)=some qs
 | [],_=>rfl
 | q::qs,h=>by
  obtain⟨h1,h2⟩:=h q (by simp)
  have e:=a68 q.1 q.2 h2
  show(if(P9 (q.1.map D.int++q.2)).1≠[]∧(P9 (q.1.map D.int++q.2)).2.all K4=true then(a1b (qs.map K2)).map (P9 (q.1.map D.int++q.2) :: ·)else none)=_
  rw[e,if_pos ⟨h1,h2⟩,a4K (fun r hr=>h r (by simp[hr]))]
  rfl
def a4h(k:R6):List R6→List R6
 | []=>[k]
 | l::r=>if HT.lexLt l.1 k.1 then l::a4h k r else k::l::r
def U4:List R6→List R6
 | []=>[]
 | k::r=>a4h k (U4 r)
theorem a2d(k:R6):∀r:List R6,(a4h k r).Perm (k::r)
 | []=>.refl _
 | l::r=>by
  unfold a4h
  split
  ·exact((a2d k r).cons l).trans (List.Perm.swap k l r)
  ·exact .refl _
theorem U5:∀r:List R6,(U4 r).Perm r
 | []=>.refl _
 | k::r=>(a2d k _).trans ((U5 r).cons k)
theorem a2J(k:R6):∀r:List R6,r.Pairwise (fun a b=>HT.lexLt b.1 a.1=false)→(a4h k r).Pairwise (fun a b=>HT.lexLt b.1 a.1=false)
 | [],_=>List.pairwise_singleton _ _
 | l::r,h=>by
  rw[List.pairwise_cons]at h
  unfold a4h
  split
  ·rename_i c
   rw[List.pairwise_cons]
   refine⟨fun b hb=>?_,a2J k r h.2⟩
   rcases List.mem_cons.mp ((a2d k r).mem_iff.mp hb)with rfl | hb
   ·exact a3W _ _ c
   ·exact h.1 b hb
  ·rename_i c
   rw[Bool.not_eq_true]at c
   rw[List.pairwise_cons]
   refine⟨fun b hb=>?_,by rw[List.pairwise_cons];exact h⟩
   rcases List.mem_cons.mp hb with rfl | hb
   ·exact c
   ·exact a5y _ _ _ c (h.1 b hb)
theorem Y6:∀r:List R6,(U4 r).Pairwise (fun a b=>HT.lexLt b.1 a.1=false)
 | []=>.nil
 | k::r=>a2J k _ (Y6 r)
theorem Z9:∀{a b:List R6},a.Perm b→a.Pairwise (fun a b=>HT.lexLt b.1 a.1=false)→b.Pairwise (fun a b=>HT.lexLt b.1 a.1=false)→a.Pairwise (fun a b=>a.1≠b.1)→a=b
 | [],b,h,_,_,_=>h.symm.eq_nil.symm▸rfl
 | x::a,[],h,_,_,_=>absurd h.eq_nil nofun
 | x::a,y::b,h,ha,hb,hd=>by
  rw[List.pairwise_cons]at ha hb hd
  have e:x=y:=by
   have mx:x∈y::b:=h.mem_iff.mp (by simp)
   have my:y∈x::a:=h.mem_iff.mpr (by simp)
   rcases List.mem_cons.mp mx with e | mx
   ·exact e
   ·rcases List.mem_cons.mp my with e | my
    ·exact e.symm
    ·exact absurd (a5M _ _ (hb.1 x mx) (ha.1 y my)) (hd.1 y my)
  subst e
  rw[Z9 ((List.perm_cons x).mp h) ha.2 hb.2 hd.2]
def a1u:D→Option (List D)
 | .lst ds=>match a1b ds with
  | some qs=>if qs.length<64∧qs.Pairwise (fun a b=>a.1.length=b.1.length∧a.1≠b.1)then some ((U4 qs).map K2)else none
  | none=>none
 | _=>none
theorem a85{qs:List R6}(h:∀q∈qs,q.1≠[]∧q.2.all K4=true)(hl:qs.length<64)(hd:qs.Pairwise (fun a b=>a.1.length=b.1.length∧a.1≠b.1)):a1u (.lst (qs.map K2))=some ((U4 qs).map K2):=by
 show(match a1b (qs.map K2)with
  | some qs=>if qs.length<64∧qs.Pairwise (fun(a b:R6)=>a.1.length=b.1.length∧a.1≠b.1)then some ((U4 qs).map K2)else none
  | none=>none)=_
 rw[a4K h]
 show(if _ then _ else _)=_
 rw[if_pos ⟨hl,hd⟩]
section
variable {K:W.Frag}{cl:Str→Addr}
theorem a4L{F:Hp}:∀{ds:List D} {vs:List V},ds.all K4=true→Rps K cl F ds vs→∀r∈vs,∃b,r=.ref b
 | [],_,_,p,r,m=>by rw[p.inv0]at m;cases m
 | d::ds,_,h,p,r,m=>by
  obtain⟨v,vs,rfl,p1,p2⟩:=p.inv
  rw[List.all_cons,Bool.and_eq_true]at h
  rcases List.mem_cons.mp m with rfl | m
  ·cases d with
   | tup es =>
    simp only[Rp]at p1
    obtain⟨a,xs,e,_⟩:=p1
    exact⟨a,e⟩
   | _=>cases h.1
  ·exact a4L h.2 p2 r m
theorem a4M{F:Hp}:∀{k:List Int} {rs:List D} {vs:List V},Rps K cl F (k.map D.int++rs) vs→∃ws,vs=k.map V.int++ws∧Rps K cl F rs ws
 | [],rs,vs,p=>⟨vs,rfl,p⟩
 | n::k,rs,_,p=>by
  obtain⟨v,r,rfl,p1,p2⟩:=Rps.inv p
  obtain⟨ws,e,q⟩:=a4M (k:=k) p2
  simp only[Rp]at p1
  exact⟨ws,by rw[e,p1];rfl,q⟩
theorem a86{F H:Hp}(s:Same F H):∀{qs:List R6} {xs:List V},(∀q∈qs,q.1≠[]∧q.2.all K4=true)→Rps K cl F (qs.map K2) xs→VPs K H xs (qs.map (·.1))
 | [],_,_,r=>by rw[r.inv0];trivial
 | q::qs,_,hn,r=>by
  obtain⟨v,xs,rfl,p,r'⟩:=Rps.inv r
  refine⟨?_,a86 s (fun l hl=>hn l (by simp[hl])) r'⟩
  obtain⟨h1,h2⟩:=hn q (by simp)
  unfold K2 at p
  simp only[Rp]at p
  obtain⟨a,ys,e,ha,rr⟩:=p
  obtain⟨ws,e2,q2⟩:=a4M rr
  subst e2
  exact⟨a,ws,e,.of (s _ _ ha),h1,a4L h2 q2⟩
theorem b0F:a7K K cl (a8E K) a1u:=by
 intro x d zs H F Q s hx h q
 unfold a1u at h
 split at h
 ·rename_i ds
  split at h
  ·rename_i qs hk
   split at h
   ·rename_i hl
    obtain⟨hl,hd⟩:=hl
    cases h
    obtain⟨a,xs,rfl,hH,r⟩:=hx.lst s
    obtain⟨e,hn⟩:=a5P hk
    subst e
    have hlen:qs.length=xs.length:=by rw[← r.length,List.length_map]
    have hg:∀i,i<qs.length→(qs.map (·.1)).getD i []=(qs.getD i ([],[])).1:=fun i hi=>by simp[hi]
    refine⟨a,xs,qs.map (·.1),rfl,.of hH,a86 s hn r,by omega,fun i j hi hj z=>?_,fun l p hl hp hs=>q l _ hl ?_⟩
    ·rw[List.pairwise_iff_getElem]at hd
     have e1:(qs.map (·.1)).getD i []=qs[i].1:=by simp[show i<qs.length by omega]
     have e2:(qs.map (·.1)).getD j []=qs[j].1:=by simp[show j<qs.length by omega]
     rw[e1,e2]
     by_cases y:i<j
     ·exact hd i j (by omega) (by omega) y
     ·obtain⟨h1,h2⟩:=hd j i (by omega) (by omega) (by omega)
      exact⟨h1.symm,Ne.symm h2⟩
    ·have hi:∀i∈p,i<qs.length:=fun i hi=>by rw[hlen];exact List.mem_range.mp (hp.mem_iff.mp hi)
     have e2:(U4 qs).map K2=p.map fun i=>(qs.map K2).getD i .non:=by
      rw[b0C K2 qs ([],[]) .non p hi]
      congr 1
      refine Z9 ((U5 qs).trans (a83 qs ([],[]) p (by rw[hlen];exact hp)).symm) (Y6 qs) ?_ ?_
      ·rw[List.pairwise_map]
       refine List.Pairwise.imp_of_mem ?_ hs
       intro i j mi mj hij
       rw[hg i (hi i mi),hg j (hi j mj)]at hij
       exact hij
      ·have:qs.Pairwise (fun a b=>a.1≠b.1):=hd.imp fun h=>h.2
       exact((U5 qs).symm.pairwise this (fun h=>Ne.symm h))
     rw[e2]
     exact a5N r p fun i hi'=>by rw[List.length_map];exact hi i hi'
   ·cases h
  ·cases h
 ·cases h
end
def a1k(el:ZF)(ec:DE):Nat→Option (List (List Int))
 | 0=>some []
 | n+1=>match a1k el ec n with
  | some ks=>(match el (ec.set 0 (.fz (.int (n:Int))))with
   | some (.ok (.tup ds) _)=>(match a0g ds with
    | some k=>if k≠[]then some (ks++[k])else none
    | none=>none)
   | _=>none)
  | none=>none
def a0h(ks:List (List Int)):List R6:=(List.range ks.length).map fun(i:Nat)=>(ks.getD i [],[D.int (i:Int)])
def okK(ks:List (List Int)):Bool:=decide ks.Nodup && ks.all fun k=>k.length == (ks.headD []).length
def a3D(js:List Nat)(f:AF)(el:ZF):NF:=fun e=>bnd (f e) fun ds e1=>match ds with
 | [.int n]=>if 0≤n∧n<64 then(match a1k el (t7 1 js e1) n.toNat with
  | some ks=>if okK ks=true then some (.ok ((U4 (a0h ks)).map fun q=>q.2.headD .non) e1)else none
  | none=>none)else none
 | _=>none
theorem a2Z{el:ZF}{ec:DE}:∀{n:Nat} {ks:List (List Int)},a1k el ec n=some ks→ks.length=n
 | 0,ks,h=>by cases h;rfl
 | n+1,ks,h=>by
  unfold a1k at h
  split at h
  ·rename_i ks' e
   split at h
   ·split at h
    ·split at h
     ·cases h;rw[List.length_append,a2Z e];rfl
     ·cases h
    ·cases h
   ·cases h
  ·cases h
theorem a4i{el:ZF}{ec:DE}:∀{n:Nat} {ks:List (List Int)},a1k el ec n=some ks→∀i,i<n→∃e',el (ec.set 0 (.fz (.int (i:Int))))=some (.ok (.tup ((ks.getD i []).map .int)) e')∧ks.getD i []≠[]
 | 0,ks,h,i,hi=>by omega
 | n+1,ks,h,i,hi=>by
  unfold a1k at h
  split at h
  ·rename_i ks' e
   have hl:=a2Z e
   split at h
   ·rename_i ds e' he
    split at h
    ·rename_i k hk
     split at h
     ·rename_i hn
      cases h
      by_cases z:i=n
      ·subst z
       have:(ks'++[k]).getD i []=k:=by rw[List.getD_eq_getElem?_getD,List.getElem?_append_right (by omega),hl,Nat.sub_self];rfl
       rw[this]
       exact⟨e',by rw[he,a3_ hk],hn⟩
      ·obtain⟨e2,h1,h2⟩:=a4i e i (by omega)
       have:(ks'++[k]).getD i []=ks'.getD i []:=by rw[List.getD_eq_getElem?_getD,List.getD_eq_getElem?_getD,List.getElem?_append_left (by omega)]
       rw[this]
       exact⟨e2,h1,h2⟩
     ·cases h
    ·cases h
   ·cases h
  ·cases h
section
variable {K:W.Frag}{cl:Str→Addr}{E:XK}
theorem b0G{env:DE}{i:Nat}{d:D}(n:NoOw env):NoOw (env.set i (.fz d)):=by
 intro j ds oo q
 by_cases z:i=j
 ·subst z
  by_cases hi:i<env.length
  ·rw[List.getElem?_set_self hi]at q;cases q;exact oo
  ·rw[List.getElem?_eq_none (by rw[List.length_set];omega)]at q;cases q
 ·rw[List.getElem?_set_ne z]at q;exact n j ds oo q
theorem b1o{F H:Hp}:∀{ks:List (List Int)} {ys:List V},Same F H→Rps K cl F (ks.map fun k=>D.tup (k.map .int)) ys→(∀k∈ks,k≠[])→VPs K H ys ks
 | [],_,_,r,_=>by rw[r.inv0];trivial
 | k::ks,_,s,r,h=>by
  obtain⟨v,xs,rfl,p,r'⟩:=r.inv
  refine⟨?_,b1o s r' fun k' m=>h k' (List.mem_cons_of_mem _ m)⟩
  obtain⟨a,vs,rfl,hF,rv⟩:∃a vs,v=.ref a∧F a=some (.tup vs)∧Rps K cl F (k.map .int) vs:=by simpa only[Rp]using p
  have e:vs=k.map V.int:=Rps.ints rv
  subst e
  exact⟨a,[],rfl,by rw[List.append_nil];exact .of (s _ _ hF),h k List.mem_cons_self,fun r m=>by cases m⟩
theorem b0H{t:TA}{f:AF}{te:TE}{el:ZF}{js:List Nat}(nd:js.Nodup)(hf:Z3 K cl E t f)(he:A9 K cl E te el):Y1 K cl E (a8I K t te js) (a3D js f el):=by
 intro σ H Q env F R h
 refine hf σ H _ env F R ((Ct.bnd h a1h).mono fun xs H1 ⟨F1,e1,ds,s1,R1,p1,h1⟩=>?_)
 split at h1
 ·rename_i n
  split at h1
  ·rename_i hn
   split at h1
   ·rename_i ks hk
    split at h1
    ·rename_i ok
     have hl:=a2Z hk
     have ok':ks.Nodup∧∀k∈ks,k.length=(ks.headD []).length:=by simpa [okK]using ok
     have ex:xs=[.int n]:=Rps.ints (ns:=[n]) p1
     subst ex
     refine⟨n,rfl,fun r hr=>?_⟩
     refine⟨n.toNat,r,rfl,by rw[k9,Int.toNat_of_nonneg hn.1],by omega,fun H2 ext=>?_⟩
     have ext':∀a o,H1 a=some o→H2 a=some o:=fun a o ha=>ext a o (by rw[f9 (fun z=>by rw[z,hr]at ha;cases ha)];exact ha)
     refine⟨fun i ys H'=>∃F',Gr H1 F1 H' F'∧Rps K cl F' ((ks.take i).map fun k=>D.tup (k.map .int)) ys,⟨F1,⟨Same.refl _,fun a o ha=>ext' a o (R1.sub a o ha),fun a o ha fa=>⟨ext' a o ha,fa⟩⟩,.nil⟩,fun i ys H' hi ⟨F',g,rk⟩=>?_,fun ys H' hy ⟨F',g,rk⟩=>?_⟩
     ·obtain⟨e',hel,_⟩:=a4i hk i hi
      have R2:=R1.gr g
      have Rc:Rel K cl (x6 1 js σ) H' F' (t7 1 js e1):=R2.comp nd
      have n1:NoOw (t7 1 js e1):=a4G
      have Rp':=Rc.put (i:=0) (d:=.int (i:Int)) (v:=.int (i:Int)) (by unfold t7;simp) (fun ds z=>by unfold t7 at z;simp at z) (by simp only[Rp])
      refine he ((x6 1 js σ).set 0 (some (.int (i:Int)))) H' _ _ F' Rp' ?_
      rw[hel]
      intro v H4 F4 f4 R4 hv
      have gr4:Gr H' F' H4 F4:=f4.gr (b0G n1) R4.sub
      refine⟨F4,g.trans gr4,?_⟩
      have et:ks.take (i+1)=ks.take i++[ks.getD i []]:=by
       rw[List.take_add_one,List.getD_eq_getElem?_getD]
       rw[List.getElem?_eq_getElem (by omega)]
       rfl
      rw[et,List.map_append]
      exact(rk.mono gr4.fz).append (.one hv)
     ·rw[List.take_of_length_le (by omega)]at rk
      have ne:∀k∈ks,k≠[]:=fun k m=>by
       obtain⟨i,hi,e⟩:=List.mem_iff_getElem.mp m
       obtain⟨_,_,h3⟩:=a4i hk i (by omega)
       rw[List.getD_eq_getElem?_getD,List.getElem?_eq_getElem hi,Option.getD_some,e]at h3
       exact h3
      have gk:∀i,i<ks.length→ks.getD i []=ks[i]! := fun i hi=>by simp[List.getD_eq_getElem?_getD,hi]
      have at_:∀i (hi:i<ks.length),ks.getD i []=ks[i]:=fun i hi=>by rw[List.getD_eq_getElem?_getD,List.getElem?_eq_getElem hi];rfl
      refine⟨ks,b1o g.sub rk ne,fun i j hi hj z=>?_,fun l p hl' hp hs=>?_⟩
      ·have hi:i<ks.length:=by omega
       have hj:j<ks.length:=by omega
       rw[at_ i hi,at_ j hj]
       refine⟨by rw[ok'.2 _ (List.getElem_mem hi),ok'.2 _ (List.getElem_mem hj)],fun e=>z ((List.getElem_inj ok'.1).mp e)⟩
      ·have R2:=R1.gr g
       obtain⟨R3,f3⟩:=R2.newN (o:=.lst (p.map fun(i:Nat)=>V.int (i:Int))) hl'
       have h1:∀b H' F',Frm σ H1 F1 e1 σ H' F' e1→Rel K cl σ H' F' e1→PN K cl ((U4 (a0h ks)).map fun q=>q.2.headD .non) σ H1 H' F' e1 b→Q b H':=h1
       refine h1 _ _ F' ((R1.frm g).trans f3) R3 ⟨l,_,rfl,g.dom l hl',k9,R2.sub.free hl',fun j ⟨ds,q⟩ e=>?_,?_⟩
       ·obtain⟨a,ys',e1',hH,_⟩:=R2.mu j ds q
        rw[e]at e1';cases e1'
        rw[hl']at hH;cases hH
       ·have hp':p.Perm (List.range ks.length):=by rw[hl];exact hp
        have srt:p.map (fun(i:Nat)=>((ks.getD i [],[D.int (i:Int)]):R6))=U4 (a0h ks):=by
         refine Z9 ((hp'.map _).trans (U5 _).symm) ?_ (Y6 _) ?_
         ·rw[List.pairwise_map];exact hs
         ·rw[List.pairwise_map]
          have nd:p.Nodup:=hp'.nodup_iff.mpr List.nodup_range
          refine List.Pairwise.imp_of_mem ?_ nd
          intro a b ma mb hab e
          have ha:=List.mem_range.mp (hp'.mem_iff.mp ma)
          have hb:=List.mem_range.mp (hp'.mem_iff.mp mb)
          have e:ks.getD a []=ks.getD b []:=e
          rw[at_ a ha,at_ b hb]at e
          exact hab ((List.getElem_inj ok'.1).mp e)
        rw[← srt,List.map_map]
        exact a5O p
    ·exact h1.elim
   ·exact h1.elim
  ·exact h1.elim
 ·exact h1.elim
end
section
variable {P:Program}{w:World}{K:W.Frag}{mg:Str→Option Value}{base:Heap}{cl:Str→Addr}{TB:List (Addr×Str)}
theorem Fun.okT{x qual:Str}{st:Stmt}{f:Addr}{fd:FuncData}{N ps:List Str}{k:Nat}{body:SF}(F:Fun K x qual st f fd)(S:FnScope N ps (c9 st))
  (hbody:∀(A:Around) (outer:List Env) (s:Shared) (H:Hp) (E:XK),TbAll TB H→Room k (A.deeper (envOfC qual (c9 st) s.heap.objs.size f fd.code)) →
   ∃t,PSs (X9 (B7 P w) P w K mg base N qual (c9 st) f fd.code A outer s H E) (l7 st) t∧RfS K cl E t body):FnOk P w K mg base (B7 P w) (k+1) f fd ps (spT TB (k8 K cl (fD N.length ps.length body))):=by
 obtain⟨oc,od,kV,doc,pm,an,cdv,ct,osl,rfl,lk,hcd⟩:=F.ex
 refine a3b lk hcd S (fun vs H Q E h=>a2r h.2) fun A outer s H vs Q E hr h=>?_
 obtain⟨t,h1,h2⟩:=hbody A outer s H E h.1 hr
 exact⟨t,h1,a0E h2 h.2⟩
variable {X:Cx}{k k':Nat}{x:Str}{ps:List Str}{sp:Sp}{E:XK}{e:Expr}{es:List Expr}{t:TA}{p pos:Pos}
theorem a4j(hT:TbAll TB X.H₀)(G:Own X.prog X.w X.K X.mg X.base k x ps (spT TB sp))(hr:Room k' X.A)(hk:k≤k')(hx:a1o (B7 X.prog X.w) X E)(ha:PA X (e::es) t)(hg:Gl X x:=by rfl)
  (hdb:(x == ("__debug__" : Str))=false:=by decide) (he:starEach (e::es) X.env=(false,eval e X.env)::starEach es X.env:=by rfl) (hpl:(backTo pos (starEach es X.env)).any (·.1)=false:=by rfl) :
  PE X (.Call (.Name x p) (e::es) [] pos) (a0B sp [] E t):=by
 have ha':PA X (e::es) (fun σ H Q=>∃R:List V→Hp→Prop,t σ H R∧∀vs H1,R vs H1→TbAll TB H1→Q vs H1):=by
  intro pos pins s σ H Q I h
  obtain⟨R,h1,h2⟩:=h
  exact wpAny_mono (ha pos pins s σ H R I h1) (fun us s' ⟨vs,H',I',r,q⟩=>⟨vs,H',I',r,h2 _ _ q (hT.now I'.base)⟩) fun _ _ z=>z
 have:=r6 G hr hk hx ha' hg hdb he hpl (p:=p)
 intro pins s σ H Q I h
 exact this pins s σ H Q I ⟨_,h,fun vs H1 z hT'=>⟨hT',z⟩⟩
end
def a7W:SF:=fun _=>none
theorem b2J{X:Cx}{st:Stmt}:PS X st (fun _ _ _=>False):=fun _ _ _ _ _ _ h=>h.elim
section
variable {K:W.Frag}{cl:Str→Addr}{E:XK}
theorem b2K:RfS K cl E (fun _ _ _=>False) a7W:=fun _ _ _ _ _ _ h=>h
end
section
variable {P:Program}{w:World}{K:W.Frag}{mg:Str→Option Value}{base:Heap}{cl:Str→Addr}{TB:List (Addr×Str)}
theorem FunD.okT{x qual:Str}{st:Stmt}{dT f:Addr}{fd:FuncData}{N ps:List Str}{k:Nat}{body:SF}(F:FunD K x qual st dT f fd)(S:FnScope N ps (c9 st))
  (hbody:∀(A:Around) (outer:List Env) (s:Shared) (H:Hp) (E:XK),TbAll TB H→Room k (A.deeper (envOfC qual (c9 st) s.heap.objs.size f fd.code)) →
   ∃t,PSs (X9 (B7 P w) P w K mg base N qual (c9 st) f fd.code A outer s H E) (l7 st) t∧RfS K cl E t body):FnOk P w K mg base (B7 P w) (k+1) f fd ps (spT TB (k8 K cl (fD N.length ps.length body))):=by
 obtain⟨oc,od,kV,doc,pm,an,cdv,ct,osl,rfl,lk,hcd⟩:=F.ex
 refine a3b lk hcd S (fun vs H Q E h=>a2r h.2) fun A outer s H vs Q E hr h=>?_
 obtain⟨t,h1,h2⟩:=hbody A outer s H E h.1 hr
 exact⟨t,h1,a0E h2 h.2⟩
variable {X:Cx}{k k':Nat}{x:Str}{ps:List Str}{sp:Sp}{E:XK}{e:Expr}{es:List Expr}{t:TA}{p pos:Pos}{d:V}
theorem OwnD.own(G:OwnD P w K mg base k x ps sp d):Own P w K mg base k x ps sp:=by
 obtain⟨f,fd,du,F,b,bd,rd,kp,m⟩:=G.ex
 exact⟨f,fd,F,b,kp,m⟩
end
section
variable {K:W.Frag}{cl:Str→Addr}{E:XK}{k:Nat}
def a0q(i:Nat)(k:ZF):ZF:=fun e=>match look e i with
 | some (.lst _)=>bnd (k e) fun j e1=>match j,e1[i]? with
  | .int n,some (.ow ds)=>if 0≤n∧n<ds.length∧ds.length≤1000000 then(match ds[n.toNat]? with
   | some d=>some (.ok d (e1.set i (.ow (ds.eraseIdx n.toNat))))
   | none=>none)else none
  | _,_=>none
 | _=>none
theorem a87{i:Nat}{u:TE}{k:ZF}(hk:A9 K cl E u k):A9 K cl E (tBM K "list" a8s (R9 i) (L5 u X8)) (a0q i k):=by
 intro σ H Q env F R h
 unfold a0q at h
 split at h
 ·rename_i ds0 q
  obtain⟨a0,e0,ty⟩:=tyL R q
  refine⟨_,e0,ty,?_⟩
  refine hk σ H _ env F R ((Ct.bnd h a0U).mono fun y H1 ⟨F1,e1,j,s1,R1,p1,h1⟩=>?_)
  split at h1
  ·rename_i n ds q1
   split at h1
   ·rename_i c
    split at h1
    ·rename_i d hd
     obtain⟨a,xs,e,hH,hF,r⟩:=R1.mu i ds (.inl q1)
     rw[e0]at e;cases e
     obtain⟨R3,f3⟩:=R1.change q1 e0 (a4J n.toNat r)
     have hy:y=.int n:=by have:=(show Rp K cl F1 (.int n) y from p1);simpa only[Rp]using this
     subst hy
     have hl:=r.length
     obtain⟨v,hv,p⟩:=r.get hd
     exact⟨_,xs,n,n.toNat,v,rfl,rfl,hH,by omega,by omega,seqIndex_of c.1 (by omega),hv,h1 v _ F1 f3 R3 p⟩
    ·exact h1.elim
   ·exact h1.elim
  ·exact h1.elim
 ·exact h.elim
def a5d(f:ZF)(b:GF)(body:SF):SF:=fun e=>S7 (f e) fun d e1=>match seqL d with
 | none=>none
 | some ds=>B6 b body ds.reverse e1
theorem b2L{t:TE}{g:TG}{tb:TS}{f:ZF}{b:GF}{body:SF}(hf:A9 K cl E t f)(hg:R0 K cl k g b)(hb:RfS K cl E tb body):RfS K cl E (a2P (b3F K (L5 t X8)) g tb) (a5d f b body):=by
 intro N σ H env F R h
 refine hf σ H _ env F R ((Cs.bnd h).mono fun x H1 ⟨F1,e1,d,fr,R1,p1,h1⟩=>?_)
 split at h1
 ·exact h1.elim
 ·rename_i ds hs
  obtain⟨a,xs,rfl,r,hl⟩:=Rp.seqL p1 hs
  exact⟨a,xs,rfl,hl H1 R1.sub,b0D hb hg R1 (fun σ' H' F' e' f2 R2=>hl H' (f2.fz.trans R2.sub)) r (h1.from fr)⟩
end
@[simp] theorem b0I(ks:DK)(ds:List D):a0I (.od ks ds)=true:=rfl
@[simp] theorem b2M(ks:DK)(ds:List D):a1j (.od ks ds)=.fz (.dic ks ds):=rfl
@[simp] theorem b2N(ks:DK)(ds:List D):a1j (.hk ks ds)=.fz (.dic ks ds):=rfl
structure SU(K:W.Frag)(cl:Str→Addr)(ps:List Nat)(A:Nat→Addr)(H0 F0 F1:Hp)(σ:St)(H F:Hp)(env:DE):Prop where
 rel:Rel K cl σ H F env
 pn:∀i∈ps,σ[i]? = some (some (.ref (A i)))∧∃ds,env[i]? = some (.hd ds)
 fz:Same F0 F
 gz:Same F1 F
 hid:∀b o,(∀i∈ps,b≠A i)→H0 b=some o→F0 b=none→H b=some o∧F b=none∧¬Ow σ env b
 dom:∀b,H b=none→H0 b=none
inductive MU where | nx (e:DE) | dn (e:DE)
def Cu(K:W.Frag)(cl:Str→Addr)(ps:List Nat)(A:Nat→Addr)(H0 F0 F1:Hp)(r:Option MU)(N:Ends):Prop:=match r with
 | none=>False
 | some (.nx e)=>∀σ' H' F',SU K cl ps A H0 F0 F1 σ' H' F' e→N.nx σ' H'
 | some (.dn e)=>∀σ' H' F',SU K cl ps A H0 F0 F1 σ' H' F' e→N.rt .non H'
section
variable {K:W.Frag}{cl:Str→Addr}{E:XK}{ps:List Nat}{A:Nat→Addr}{H0 F0 F1:Hp}{σ:St}{H F:Hp}{env:DE}{k:Nat}
theorem SU.frm{σ':St}{H' F':Hp}{env':DE}(S:SU K cl ps A H0 F0 F1 σ H F env)(f:Frm σ H F env σ' H' F' env')(R:Rel K cl σ' H' F' env'):SU K cl ps A H0 F0 F1 σ' H' F' env' :=
 ⟨R,fun i m=>by obtain⟨e,ds,h⟩:=S.pn i m;obtain⟨h1,e1⟩:=f.keep i ds h;exact⟨e1.trans e,ds,h1⟩,S.fz.trans f.fz,S.gz.trans f.fz,
  fun b o n h g=>by obtain⟨h1,f1,w1⟩:=S.hid b o n h g;exact f.hid b o h1 f1 w1,fun b h=>S.dom b (f.dom b h)⟩
theorem SU.change{i:Nat}{ds es:List D}{ys:List V}(S:SU K cl ps A H0 F0 F1 σ H F env)(m:i∈ps)(h:env[i]? = some (.hd ds))(r:Rps K cl F es ys):SU K cl ps A H0 F0 F1 σ (upd H (A i) (.lst ys)) F (env.set i (.hd es)):=by
 obtain⟨e,_,_⟩:=S.pn i m
 obtain⟨a',xs,e',hH,hF,_⟩:=S.rel.mu i ds (.inr h)
 rw[e]at e';cases e'
 have hi:i<env.length:=(List.getElem?_eq_some_iff.mp h).1
 have self:(env.set i (.hd es))[i]? = some (.hd es):=List.getElem?_set_self hi
 have oth:∀j,j≠i→(env.set i (.hd es))[j]? = env[j]?:=fun j hj=>List.getElem?_set_ne (Ne.symm hj)
 have mui:∀j,Mu (env.set i (.hd es)) j→Mu env j:=fun j ⟨fs,q⟩=>by
  by_cases z:j=i
  ·subst z;exact⟨ds,.inr h⟩
  ·rw[oth j z]at q;exact⟨fs,q⟩
 have R:=S.rel
 refine⟨⟨fun b o q=>?_,by rw[List.length_set];exact R.len,fun j d q=>?_,fun j fs q=>?_,fun j k b hj hk=>R.inj j k b (mui j hj) (mui k hk),(R.od.updL hH).setE a3n⟩,fun j mj=>?_,S.fz,S.gz,fun b o n h0 f0=>?_,fun b q=>?_⟩
 ·have z:b≠A i:=fun z=>by rw[z,hF]at q;cases q
  rw[f9 z];exact R.sub _ _ q
 ·have z:j≠i:=fun z=>by subst z;rw[self]at q;cases q
  rw[oth j z]at q;exact R.fz j d q
 ·by_cases z:j=i
  ·subst z
   rw[self]at q
   rcases q with q | q
   ·cases q
   ·cases q;exact⟨_,ys,e,k9,hF,r⟩
  ·rw[oth j z]at q
   obtain⟨b,zs,e1,h1,f1,r1⟩:=R.mu j fs q
   have nb:b≠A i:=fun y=>z (R.inj j i b ⟨fs,q⟩ ⟨ds,.inr h⟩ e1 (by rw[y];exact e))
   exact⟨b,zs,e1,by rw[f9 nb];exact h1,f1,r1⟩
 ·obtain⟨e1,fs,q⟩:=S.pn j mj
  refine⟨e1,?_⟩
  by_cases z:j=i
  ·subst z;exact⟨es,self⟩
  ·exact⟨fs,by rw[oth j z];exact q⟩
 ·obtain⟨h1,f1,w1⟩:=S.hid b o n h0 f0
  refine⟨by rw[f9 (n i m)];exact h1,f1,fun⟨j,fs,oo,q,e1⟩=>?_⟩
  have y:j≠i:=fun y=>by subst y;rw[self]at q;cases q;exact oo
  rw[oth j y]at q;exact w1 ⟨j,fs,oo,q,e1⟩
 ·by_cases z:b=A i
  ·rw[z,k9]at q;cases q
  ·rw[f9 z]at q;exact S.dom b q
theorem SU.wk{F2:Hp}(S:SU K cl ps A H0 F0 F2 σ H F env)(s:Same F1 F2):SU K cl ps A H0 F0 F1 σ H F env:=⟨S.rel,S.pn,S.fz,s.trans S.gz,S.hid,S.dom⟩
theorem SU.at(S:SU K cl ps A H0 F0 F1 σ H F env):SU K cl ps A H0 F0 F σ H F env:=⟨S.rel,S.pn,S.fz,Same.refl _,S.hid,S.dom⟩
theorem Cu.wk{F2:Hp}{r:Option MU}{N:Ends}(h:Cu K cl ps A H0 F0 F1 r N)(s:Same F1 F2):Cu K cl ps A H0 F0 F2 r N:=by
 unfold Cu at h ⊢
 split at h
 ·exact h
 ·exact fun σ' H' F' S=>h σ' H' F' (S.wk s)
 ·exact fun σ' H' F' S=>h σ' H' F' (S.wk s)
end
def RpU(K:W.Frag)(cl:Str→Addr)(σ:St)(F:Hp):List (Sum Nat D)→List V→Prop
 | [],vs=>vs=[]
 | .inl i::xs,vs=>∃v r,vs=v::r∧σ[i]? = some (some v)∧RpU K cl σ F xs r
 | .inr d::xs,vs=>∃v r,vs=v::r∧Rp K cl F d v∧RpU K cl σ F xs r
section
variable {K:W.Frag}{cl:Str→Addr}{E:XK}{ps:List Nat}{σ:St}{H F:Hp}{env:DE}
theorem RpU.mono{F':Hp}(s:Same F F'):∀{xs:List (Sum Nat D)} {vs:List V},RpU K cl σ F xs vs→RpU K cl σ F' xs vs
 | [],_,h=>h
 | .inl _::_,_,⟨v,r,e,h1,h2⟩=>⟨v,r,e,h1,h2.mono s⟩
 | .inr _::_,_,⟨v,r,e,h1,h2⟩=>⟨v,r,e,Rp.mono s _ _ h1,h2.mono s⟩
theorem RpU.length:∀{xs:List (Sum Nat D)} {vs:List V},RpU K cl σ F xs vs→vs.length=xs.length
 | [],_,h=>by rw[show _=_ from h];rfl
 | .inl _::_,_,⟨v,r,e,_,h2⟩=>by rw[e,List.length_cons,List.length_cons,h2.length]
 | .inr _::_,_,⟨v,r,e,_,h2⟩=>by rw[e,List.length_cons,List.length_cons,h2.length]
end
structure DSt(K:W.Frag)(cl:Str→Addr)(H F:Hp)(B:Addr)(as:List Addr)(dss:List (List D))(H' F':Hp):Prop where
 gr:Gr H F H' F'
 atB:H' B=some (.lst (as.map V.ref))
 unB:F' B=none
 len:dss.length=as.length
 ins:∀(k:Nat) (a:Addr),as[k]? = some a→∃ds zs,dss[k]? = some ds∧H' a=some (.lst zs)∧F' a=none∧Rps K cl F' ds zs
structure Fx(H:Hp)(B:Addr)(as:List Addr):Prop where
 hB:H B=none
 nd:as.Nodup
 nw:∀a∈as,H a=none∧a≠B
section
variable {K:W.Frag}{cl:Str→Addr}{E:XK}{σ:St}{H F H0 F0 H' F' H2 F2:Hp}{env:DE}{B:Addr}{as:List Addr}{dss:List (List D)}{r k:Nat}
theorem DSt.to(s:DSt K cl H0 F0 B as dss H F)(g:Gr H F H2 F2):DSt K cl H0 F0 B as dss H2 F2 :=
 ⟨s.gr.trans g,(g.hid B _ s.atB s.unB).1,(g.hid B _ s.atB s.unB).2,s.len,fun k a h=>by
  obtain⟨ds,zs,h1,h2,h3,h4⟩:=s.ins k a h
  exact⟨ds,zs,h1,(g.hid a _ h2 h3).1,(g.hid a _ h2 h3).2,h4.mono g.fz⟩⟩
theorem DSt.put{j n:Nat}{a:Addr}{ds:List D}{d:D}{v:V}(s:DSt K cl H0 F0 B as dss H F)(fx:Fx H0 B as)(hj:as[j]? = some a)(hd:dss[j]? = some ds)(p:Rp K cl F d v) :
  ∃zs,H a=some (.lst zs)∧F a=none∧ds.length=zs.length∧DSt K cl H0 F0 B as (dss.set j (ds.set n d)) (upd H a (.lst (zs.set n v))) F:=by
 obtain⟨ds',zs,h1,h2,h3,h4⟩:=s.ins j a hj
 rw[hd]at h1;cases h1
 obtain⟨aH,aB⟩:=fx.nw a (List.mem_of_getElem? hj)
 refine⟨zs,h2,h3,h4.length,⟨⟨s.gr.fz,fun b o hb=>?_,fun b o hb fb=>?_⟩,by rw[f9 (Ne.symm aB)];exact s.atB,s.unB,by rw[List.length_set];exact s.len,fun m b hb=>?_⟩⟩
 ·rw[f9 (fun z=>by rw[z,h3]at hb;cases hb)];exact s.gr.sub _ _ hb
 ·rw[f9 (fun z=>by rw[z,aH]at hb;cases hb)];exact s.gr.hid b o hb fb
 ·by_cases z:m=j
  ·subst z
   rw[hj]at hb;cases hb
   exact⟨_,_,List.getElem?_set_self (List.getElem?_eq_some_iff.mp hd).1,k9,h3,h4.set p n⟩
  ·obtain⟨d2,z2,k1,k2,k3,k4⟩:=s.ins m b hb
   have ne:b≠a:=fun e=>z (by
    obtain⟨hm,em⟩:=List.getElem?_eq_some_iff.mp hb
    obtain⟨hj',ej⟩:=List.getElem?_eq_some_iff.mp hj
    exact(List.getElem_inj fx.nd).mp (em.trans (e.trans ej.symm)))
   exact⟨d2,z2,by rw[List.getElem?_set_ne (Ne.symm z)];exact k1,by rw[f9 ne];exact k2,k3,k4⟩
end
section
variable {K:W.Frag}{cl:Str→Addr}{E:XK}
def a04(f g h m:NF):SF:=fun e=>match f e with
 | some (.ok d1 e1)=>(match g e1 with
  | some (.ok d2 e2)=>(match h e2 with
   | some (.ok d3 e3)=>(match m e3 with
    | some (.ok d4 _)=>some (.rz [d1,d2,d3,d4])
    | _=>none)
   | _=>none)
  | _=>none)
 | _=>none
theorem b2O{F' H':Hp}{nw:Addr→Prop}{d1 d2 d3 d4:List D}{a1 a2 a3 a4:Addr}{xs1 xs2 xs3 xs4:List V}(nd:[a1,a2,a3,a4].Nodup)(h1:H' a1=some (.lst xs1))(f1:F' a1=none)(n1:nw a1)(r1:Rps K cl F' d1 xs1)(h2:H' a2=some (.lst xs2))(f2:F' a2=none)(n2:nw a2)(r2:Rps K cl F' d2 xs2)(h3:H' a3=some (.lst xs3))(f3:F' a3=none)(n3:nw a3)(r3:Rps K cl F' d3 xs3)(h4:H' a4=some (.lst xs4))(f4:F' a4=none)(n4:nw a4)(r4:Rps K cl F' d4 xs4):Rz K cl F' H' nw [d1,d2,d3,d4] [a1,a2,a3,a4]:=by
 refine⟨nd,rfl,fun k a ds e1 e2=>?_⟩
 match k with
 | 0=>cases e1;cases e2;exact⟨xs1,h1,f1,n1,r1⟩
 | 1=>cases e1;cases e2;exact⟨xs2,h2,f2,n2,r2⟩
 | 2=>cases e1;cases e2;exact⟨xs3,h3,f3,n3,r3⟩
 | 3=>cases e1;cases e2;exact⟨xs4,h4,f4,n4,r4⟩
 | k+4=>simp at e1
theorem b0J{t u v w:TE}{f g h m:NF}(hf:Y1 K cl E t f)(hg:Y1 K cl E u g)(hh:Y1 K cl E v h)(hm:Y1 K cl E w m):RfS K cl E (a3S (a9K (L5 t (L5 u (L5 v (L5 w X8)))))) (a04 f g h m):=by
 intro N σ H env F R q
 unfold a04 at q
 refine hf σ H _ env F R ?_
 cases q1:f env with
 | none=>rw[q1]at q;exact q.elim
 | some r1 =>
  rw[q1]at q
  cases r1 with
  | ex c=>exact q.elim
  | ok d1 e1 =>
   intro v1 H1 F1 fr1 R1 p1
   obtain⟨a1,xs1,rfl,n1,h1,f1,m1,rr1⟩:=p1
   simp only at q
   refine hg σ H1 _ e1 F1 R1 ?_
   cases q2:g e1 with
   | none=>rw[q2]at q;exact q.elim
   | some r2 =>
    rw[q2]at q
    cases r2 with
    | ex c=>exact q.elim
    | ok d2 e2 =>
     intro v2 H2 F2 fr2 R2 p2
     obtain⟨a2,xs2,rfl,n2,h2,f2,m2,rr2⟩:=p2
     simp only at q
     refine hh σ H2 _ e2 F2 R2 ?_
     cases q3:h e2 with
     | none=>rw[q3]at q;exact q.elim
     | some r3 =>
      rw[q3]at q
      cases r3 with
      | ex c=>exact q.elim
      | ok d3 e3 =>
       intro v3 H3 F3 fr3 R3 p3
       obtain⟨a3,xs3,rfl,n3,h3,f3,m3,rr3⟩:=p3
       simp only at q
       refine hm σ H3 _ e3 F3 R3 ?_
       cases q4:m e3 with
       | none=>rw[q4]at q;exact q.elim
       | some r4 =>
        rw[q4]at q
        cases r4 with
        | ex c=>exact q.elim
        | ok d4 e4 =>
         intro v4 H4 F4 fr4 R4 p4
         obtain⟨a4,xs4,rfl,n4,h4,f4,m4,rr4⟩:=p4
         simp only at q
         have w1:¬Ow σ e1 a1:=R1.not_ow h1 m1
         have w2:¬Ow σ e2 a2:=R2.not_ow h2 m2
         have w3:¬Ow σ e3 a3:=R3.not_ow h3 m3
         obtain⟨h12,f12,w12⟩:=fr2.hid a1 _ h1 f1 w1
         obtain⟨h13,f13,w13⟩:=fr3.hid a1 _ h12 f12 w12
         obtain⟨h14,f14,_⟩:=fr4.hid a1 _ h13 f13 w13
         obtain⟨h23,f23,w23⟩:=fr3.hid a2 _ h2 f2 w2
         obtain⟨h24,f24,_⟩:=fr4.hid a2 _ h23 f23 w23
         obtain⟨h34,f34,_⟩:=fr4.hid a3 _ h3 f3 w3
         have n12:a1≠a2:=fun z=>by rw[← z,h1]at n2;cases n2
         have n13:a1≠a3:=fun z=>by rw[← z,h12]at n3;cases n3
         have n14:a1≠a4:=fun z=>by rw[← z,h13]at n4;cases n4
         have n23:a2≠a3:=fun z=>by rw[← z,h2]at n3;cases n3
         have n24:a2≠a4:=fun z=>by rw[← z,h23]at n4;cases n4
         have n34:a3≠a4:=fun z=>by rw[← z,h3]at n4;cases n4
         refine⟨by show 4≤2 ^ 24;decide,fun p hp=>?_⟩
         have np:∀a o,H4 a=some o→a≠p:=fun a o ha z=>by rw[z,hp]at ha;cases ha
         have fr:=((fr1.trans fr2).trans fr3).trans fr4
         refine q p [a1,a2,a3,a4] _ F4 ⟨fr.fz,fun b o hb=>by rw[f9 (np b o (R4.sub _ _ hb))];exact R4.sub _ _ hb,fun a o ha fa w=>?_,fun a ha=>?_⟩ (fr.dom p hp) k9 (R4.sub.free hp) ?_
         ·obtain⟨x1,x2,_⟩:=fr.hid a o ha fa w
          exact⟨by rw[f9 (np a o x1)];exact x1,x2⟩
         ·by_cases z:a=p
          ·rw[z,k9]at ha;cases ha
          ·rw[f9 z]at ha;exact fr.dom a ha
         ·have e2':H a2=none:=fr1.dom a2 n2
          have e3':H a3=none:=fr1.dom a3 (fr2.dom a3 n3)
          have e4':H a4=none:=fr1.dom a4 (fr2.dom a4 (fr3.dom a4 n4))
          exact b2O (by simp[n12,n13,n14,n23,n24,n34]) (by rw[f9 (np _ _ h14)];exact h14) f14 (fun o e=>by rw[n1]at e;cases e) (((rr1.mono fr2.fz).mono fr3.fz).mono fr4.fz) (by rw[f9 (np _ _ h24)];exact h24) f24 (fun o e=>by rw[e2']at e;cases e) ((rr2.mono fr3.fz).mono fr4.fz) (by rw[f9 (np _ _ h34)];exact h34) f34 (fun o e=>by rw[e3']at e;cases e) (rr3.mono fr4.fz) (by rw[f9 (np _ _ h4)];exact h4) f4 (fun o e=>by rw[e4']at e;cases e) rr4
def a2e:Option Sl→Bool
 | some (.hd _)=>false
 | none=>false
 | _=>true
theorem a1c{e:DE}{i:Nat}(h:a2e e[i]? = true):i<e.length∧∀ds,e[i]?≠some (.hd ds):=by
 refine⟨?_,fun ds z=>by rw[z]at h;cases h⟩
 cases q:e[i]? with
 | none=>rw[q]at h;cases h
 | some s=>exact(List.getElem?_eq_some_iff.mp q).1
theorem a0a{σ:St}{e:DE}{i:Nat}{a b:Addr}{d:List D}(hi:i<σ.length)(n:a≠b)(h:∀m,Mu e m→σ[m]?≠some (some (.ref b))):∀m,Mu (e.set i (.ow d)) m→(σ.set i (some (.ref a)))[m]?≠some (some (.ref b)):=fun m mm=>by
 by_cases z:m=i
 ·subst z
  rw[List.getElem?_set_self hi]
  intro y;cases y;exact n rfl
 ·rw[List.getElem?_set_ne (Ne.symm z)]
  obtain⟨es,qk⟩:=mm
  rw[List.getElem?_set_ne (Ne.symm z)]at qk
  exact h m ⟨es,qk⟩
def a05(i j k l:Nat)(g:List D→Option R1)(f:AF):SF:=fun e=>S7 (f e) fun ds e1=>match g ds with
 | some (.owz [d1,d2,d3,d4])=>if([i,j,k,l].Nodup∧a2e e1[i]? = true∧a2e e1[j]? = true∧a2e e1[k]? = true∧a2e e1[l]? = true)then some (.nx ((((e1.set i (.ow d1)).set j (.ow d2)).set k (.ow d3)).set l (.ow d4)))else none
 | _=>none
theorem b0K{i j k l:Nat}{g:List D→Option R1}{t:TA}{f:AF}{E':XK}(hf:Z3 K cl E t f):RfS K cl E (a1x (a0B (k8 K cl g) [] E' t) (a7p K 4 (a2k (X7 i) (a2k (X7 j) (a2k (X7 k) (a2k (X7 l) a9H)))))) (a05 i j k l g f):=by
 intro N σ H env F R h
 refine hf σ H _ env F R ((Cs.bnd h).mono fun vs H1 ⟨F1,e1,ds,fr,R1,p1,h1⟩=>?_)
 show k8 K cl g (vs++[]) H1 _ E'
 rw[List.append_nil]
 refine⟨ds,F1,R1.sub,p1,?_⟩
 split at h1
 ·rename_i d1 d2 d3 d4 q;rw[q]
  intro p as H' F' gr hp ht fp rz
  split at h1
  ·rename_i cnd
   obtain⟨nn,qi,qj,qk,ql⟩:=cnd
   have ij:i≠j:=by intro z;rw[z]at nn;simp at nn
   have ik:i≠k:=by intro z;rw[z]at nn;simp at nn
   have il:i≠l:=by intro z;rw[z]at nn;simp at nn
   have jk:j≠k:=by intro z;rw[z]at nn;simp at nn
   have jl:j≠l:=by intro z;rw[z]at nn;simp at nn
   have kl:k≠l:=by intro z;rw[z]at nn;simp at nn
   obtain⟨nd,hl,hz⟩:=rz
   match as,hl with
   | [a1,a2,a3,a4],_ =>
    have n12:a1≠a2:=by intro z;rw[z]at nd;simp at nd
    have n13:a1≠a3:=by intro z;rw[z]at nd;simp at nd
    have n14:a1≠a4:=by intro z;rw[z]at nd;simp at nd
    have n23:a2≠a3:=by intro z;rw[z]at nd;simp at nd
    have n24:a2≠a4:=by intro z;rw[z]at nd;simp at nd
    have n34:a3≠a4:=by intro z;rw[z]at nd;simp at nd
    obtain⟨xs1,hH1,hF1,w1,r1⟩:=hz 0 a1 d1 rfl rfl
    obtain⟨xs2,hH2,hF2,w2,r2⟩:=hz 1 a2 d2 rfl rfl
    obtain⟨xs3,hH3,hF3,w3,r3⟩:=hz 2 a3 d3 rfl rfl
    obtain⟨xs4,hH4,hF4,w4,r4⟩:=hz 3 a4 d4 rfl rfl
    obtain⟨hi,si⟩:=a1c qi
    obtain⟨hj,sj⟩:=a1c qj
    obtain⟨hk,sk⟩:=a1c qk
    obtain⟨hl,sl⟩:=a1c ql
    have Rg:=R1.gr gr
    have far:∀a,H1 a=none→∀m,Mu e1 m→σ[m]?≠some (some (.ref a)):=fun a ha m ⟨es,qm⟩ e=>by
     obtain⟨b,ys,e',hb,_⟩:=R1.mu m es qm
     rw[e]at e';cases e'
     rw[ha]at hb;cases hb
    have li:i<σ.length:=by rw[Rg.len];exact hi
    have lj:j<(σ.set i (some (.ref a1))).length:=by rw[List.length_set,Rg.len];exact hj
    have lk:k<((σ.set i (some (.ref a1))).set j (some (.ref a2))).length:=by rw[List.length_set,List.length_set,Rg.len];exact hk
    have R2:=Rg.putO hi hH1 hF1 (far a1 w1) r1
    have R3:=R2.putO (i:=j) (ds:=d2) (by rw[List.length_set];exact hj) hH2 hF2 (a0a li n12 (far a2 w2)) r2
    have R4:=R3.putO (i:=k) (ds:=d3) (by rw[List.length_set,List.length_set];exact hk) hH3 hF3 (a0a lj n23 (a0a li n13 (far a3 w3))) r3
    have R5:=R4.putO (i:=l) (ds:=d4) (by rw[List.length_set,List.length_set,List.length_set];exact hl) hH4 hF4 (a0a lk n34 (a0a lj n24 (a0a li n14 (far a4 w4)))) r4
    have f2:Frm σ H F env (σ.set i (some (.ref a1))) H' F' (e1.set i (.ow d1)):=(fr.trans (R1.frm gr)).putO (fr.dom a1 w1) si
    have f3:Frm σ H F env ((σ.set i (some (.ref a1))).set j (some (.ref a2))) H' F' ((e1.set i (.ow d1)).set j (.ow d2)):=f2.putO (fr.dom a2 w2) (fun es=>by rw[List.getElem?_set_ne ij];exact sj es)
    have f4:Frm σ H F env (((σ.set i (some (.ref a1))).set j (some (.ref a2))).set k (some (.ref a3))) H' F' (((e1.set i (.ow d1)).set j (.ow d2)).set k (.ow d3)):=f3.putO (fr.dom a3 w3) (fun es=>by rw[List.getElem?_set_ne jk,List.getElem?_set_ne ik];exact sk es)
    have f5:Frm σ H F env ((((σ.set i (some (.ref a1))).set j (some (.ref a2))).set k (some (.ref a3))).set l (some (.ref a4))) H' F' ((((e1.set i (.ow d1)).set j (.ow d2)).set k (.ow d3)).set l (.ow d4)):=f4.putO (fr.dom a4 w4) (fun es=>by rw[List.getElem?_set_ne kl,List.getElem?_set_ne jl,List.getElem?_set_ne il];exact sl es)
    exact⟨p,_,rfl,.of ht,rfl,_,_,rfl,_,_,rfl,_,_,rfl,_,_,rfl,rfl,h1 _ H' F' f5 R5⟩
  ·exact h1.elim
 ·exact h1.elim
end
section
variable {K:W.Frag}{cl:Str→Addr}{E:XK}{σ:St}{H F F1 H' F' F2:Hp}{env:DE}
theorem a88(R:Rel K cl σ H F env)(o1:∀b,y4 σ env b→∃o,a2c o∧F1 b=some o∧H b=some o)(o2:∀b,¬y4 σ env b→F1 b=F b)(x:FX σ H F1 (L4 env) H' F') :
  ∃F2,Frm σ H F env σ H' F2 env∧Rel K cl σ H' F2 env∧∀b o,F' b=some o→¬y4 σ env b→F2 b=some o:=by
 classical
 have nw:∀b,¬Ow σ (L4 env) b:=fun b ⟨j,s,oo,q,_⟩=>by
  cases s with
  | ow ds=>exact a3B ⟨ds,.inl q⟩
  | od ks ds=>exact a4e q (ks:=ks) (ds:=ds) ⟨rfl,rfl⟩
  | _=>exact oo
 have hF:∀b,y4 σ env b→F b=none:=fun b w=>by
  rcases w with⟨j,⟨ds,q⟩,e⟩ | ⟨j,s,ks,ds,q,d,e⟩
  ·obtain⟨a,xs,e1,h1,f1,_⟩:=R.mu j ds q
   rw[e]at e1;cases e1
   exact f1
  ·obtain⟨a,xs,e1,h1,f1,_⟩:=R.od.at_ j s ks ds q d
   rw[e]at e1;cases e1
   exact f1
 have sF:Same F (fun b=>if y4 σ env b then none else F' b):=fun b o q=>by
  have w:¬y4 σ env b:=fun w=>by rw[hF b w]at q;cases q
  show(if y4 σ env b then none else F' b)=some o
  rw[if_neg w]
  exact x.fz _ _ (by rw[o2 b w];exact q)
 have kept:∀b o,y4 σ env b→H b=some o→H' b=some o:=fun b xs w h=>by
  obtain⟨ys,_,f,h2⟩:=o1 b w
  rw[h]at h2;cases h2
  exact x.sub _ _ (x.fz _ _ f)
 refine⟨fun b=>if y4 σ env b then none else F' b,⟨sF,fun b o hb fb w=>?_,fun _ _ h=>⟨h,rfl⟩,x.dom⟩,⟨fun b o q=>?_,R.len,fun i d q=>?_,fun i ds q=>?_,R.inj,R.od.own (fun i s ks ds a xs h d e hH hF=>⟨kept a _ (.inr ⟨i,s,ks,ds,h,d,e⟩) hH,by(try dsimp only);rw[if_pos (.inr ⟨i,s,ks,ds,h,d,e⟩)]⟩) sF⟩,fun b o q nw=>?_⟩
 ·by_cases ww:y4 σ env b
  ·obtain⟨ys,_,f,h2⟩:=o1 b ww
   refine⟨by rw[hb]at h2;cases h2;exact kept b _ ww hb,by(try dsimp only);rw[if_pos ww],w⟩
  ·obtain⟨h1,f1⟩:=x.hid b o hb (by rw[o2 b ww];exact fb) (nw b)
   exact⟨h1,by(try dsimp only);rw[if_neg ww];exact f1,w⟩
 ·try dsimp only at q
  split at q
  ·cases q
  ·exact x.sub _ _ q
 ·obtain⟨v,e,r⟩:=R.fz i d q;exact⟨v,e,r.mono sF⟩
 ·obtain⟨a,xs,e,h1,f1,r⟩:=R.mu i ds q
  have w:y4 σ env a:=.inl ⟨i,⟨ds,q⟩,e⟩
  exact⟨a,xs,e,kept a _ w h1,by(try dsimp only);rw[if_pos w],r.mono sF⟩
 ·dsimp only
  rw[if_neg nw];exact q
def apS(ds:List D):Sl→Bool
 | .ow es=>j5 (.lst es) && !A5 (.lst ds) (.lst es)
 | .hd es=>j5 (.lst es) && !A5 (.lst ds) (.lst es)
 | _=>true
def apL(e:DE)(ds:List D):Bool:=j5 (.lst ds) && e.all (apS ds)
mutual
def newL(e:DE):D→Bool
 | .lst ds=>apL e ds && newLs e ds
 | .tup ds=>newLs e ds
 | .scr _=>false
 | .exc _=>false
 | .obj _ _ _=>false
 | .dic _ _=>false
 | .exv _ _ _=>false
 | _=>true
def newLs(e:DE):List D→Bool
 | []=>true
 | d::ds=>newL e d && newLs e ds
end
mutual
theorem Rp.newL(g:∀b o,F' b=some o→¬y4 σ env b→F2 b=some o)(gt:∀b xs,F' b=some (.tup xs)→¬y4 σ env b)(gl:∀b xs,F' b=some (.lst xs)→y4 σ env b→∃(j:Nat) (es:List D),(env[j]? = some (.ow es)∨env[j]? = some (.hd es))∧Rps K cl F' es xs):∀(d:D) (v:V),L2.newL env d=true→Rp K cl F' d v→Rp K cl F2 d v
 | .non,_,_,h=>by simpa only[Rp]using h
 | .bl _,_,_,h=>by simpa only[Rp]using h
 | .int _,_,_,h=>by simpa only[Rp]using h
 | .str _,_,_,h=>by simpa only[Rp]using h
 | .ty _,_,_,h=>by simpa only[Rp]using h
 | .cls _,_,_,h=>by simpa only[Rp]using h
 | .tup ds,v,n,h=>by
  simp only[Rp]at h ⊢
  obtain⟨a,xs,e,h1,h2⟩:=h
  exact⟨a,xs,e,g _ _ h1 (gt _ _ h1),Rps.newL g gt gl ds xs (by simpa only[L2.newL]using n) h2⟩
 | .lst ds,v,n,h=>by
  have n':apL env ds=true∧newLs env ds=true:=by simpa only[L2.newL,Bool.and_eq_true]using n
  have h0:=h
  simp only[Rp]at h ⊢
  obtain⟨a,xs,e,h1,h2⟩:=h
  refine⟨a,xs,e,g _ _ h1 fun w=>?_,Rps.newL g gt gl ds xs n'.2 h2⟩
  obtain⟨j,es,q,r⟩:=gl a xs h1 w
  have a1:=n'.1
  unfold apL at a1
  rw[Bool.and_eq_true,List.all_eq_true]at a1
  have he:Rp K cl F' (.lst es) v:=by
   simp only[Rp]
   exact⟨a,xs,e,h1,r⟩
  have a2:j5 (.lst es)=true∧(!A5 (.lst ds) (.lst es))=true:=by
   rcases q with q | q
   ·have:=a1.2 _ (List.mem_of_getElem? q)
    simpa only[apS,Bool.and_eq_true]using this
   ·have:=a1.2 _ (List.mem_of_getElem? q)
    simpa only[apS,Bool.and_eq_true]using this
  have a3:=a2w (.lst ds) (.lst es) v h0 he a1.1 a2.1
  rw[a3]at a2
  exact absurd a2.2 (by decide)
 | .scr ns,v,n,h=>by simp[L2.newL]at n
 | .exc c,v,n,h=>by simp[L2.newL]at n
 | .obj _ _ _,v,n,h=>by simp[L2.newL]at n
 | .dic _ _,v,n,h=>by simp[L2.newL]at n
 | .exv _ _ _,v,n,h=>by simp[L2.newL]at n
theorem Rps.newL(g:∀b o,F' b=some o→¬y4 σ env b→F2 b=some o)(gt:∀b xs,F' b=some (.tup xs)→¬y4 σ env b)(gl:∀b xs,F' b=some (.lst xs)→y4 σ env b→∃(j:Nat) (es:List D),(env[j]? = some (.ow es)∨env[j]? = some (.hd es))∧Rps K cl F' es xs):∀(ds:List D) (vs:List V),L2.newLs env ds=true→Rps K cl F' ds vs→Rps K cl F2 ds vs
 | [],_,_,h=>by simpa only[Rps]using h
 | d::ds,vs,n,h=>by
  simp only[Rps]at h ⊢
  simp only[L2.newLs,Bool.and_eq_true]at n
  obtain⟨v,r,e,h1,h2⟩:=h
  exact⟨v,r,e,Rp.newL g gt gl d v n.1 h1,Rps.newL g gt gl ds r n.2 h2⟩
end
def a0r(f:ZF):ZF:=fun e=>match f (L4 e)with
 | some (.ok d _)=>if newL e d=true then some (.ok d e)else f e
 | some (.ex c)=>if noX c=true then some (.ex c)else none
 | none=>none
theorem a89{t:TE}{f:ZF}(hf:A9 K cl E t f):A9 K cl E t (a0r f):=by
 intro σ H Q env F R h
 unfold a0r at h
 split at h
 ·rename_i d e2 q
  split at h
  ·rename_i n
   obtain⟨F1,R1,o1,o2⟩:=a2z R
   refine hf σ H Q (L4 env) F1 R1 ?_
   rw[q]
   intro b H' F' fr R' p
   have x:=fr.toFX R'.sub
   obtain⟨F2,fr2,R2,g⟩:=a88 R o1 o2 x
   have nF:∀b o,F b=some o→¬y4 σ env b:=fun b o hb w=>by
    rcases w with⟨j,⟨ds,q⟩,e⟩ | ⟨j,s,ks,ds,q,d,e⟩
    ·obtain⟨a,xs,e1,h1,f1,_⟩:=R.mu j ds q
     rw[e]at e1;cases e1
     rw[f1]at hb;cases hb
    ·obtain⟨a,xs,e1,h1,f1,_⟩:=R.od.at_ j s ks ds q d
     rw[e]at e1;cases e1
     rw[f1]at hb;cases hb
   have sF:Same F F':=fun b o hb=>x.fz _ _ (by rw[o2 b (nF b o hb)];exact hb)
   refine h b H' F2 fr2 R2 (Rp.newL g (fun b xs hb w=>?_) (fun b xs hb w=>?_) d b n p)
   ·obtain⟨o,i,f,_⟩:=o1 b w
    rw[x.fz _ _ f]at hb;cases hb
    rcases i with⟨_,z⟩ | ⟨ks,_,z⟩
    ·exact nomatch z
    ·cases ks<;>exact nomatch z
   ·obtain⟨o,i,f,hh⟩:=o1 b w
    rw[x.fz _ _ f]at hb;cases hb
    rcases w with⟨j,⟨ds,q⟩,e⟩ | ⟨j,s,ks,ds,q,d,e⟩
    ·obtain⟨a,ys,e1,h1,f1,r⟩:=R.mu j ds q
     rw[e]at e1;cases e1
     rw[hh]at h1;cases h1
     exact⟨j,ds,q,r.mono sF⟩
    ·obtain⟨a,ys,e1,h1,f1,_⟩:=R.od.at_ j s ks ds q d
     rw[e]at e1;cases e1
     rw[hh]at h1
     cases ks<;>exact nomatch h1
  ·exact hf σ H Q env F R h
 ·rename_i c q
  obtain⟨F1,R1,o1,o2⟩:=a2z R
  refine hf σ H Q (L4 env) F1 R1 ?_
  rw[q]
  intro H' F' x cx xf
  obtain⟨F2,fr2,R2,g,_⟩:=a03 R o1 o2 x
  split at h
  ·rename_i n
   exact h H' F2 (fr2.toFX R2.sub) cx (xf.noL g n)
  ·exact h.elim
 ·exact h.elim
end
end L2
namespace Law
open PySem L2 PyProof.Rows
def top(i:Nat):Stmt:=PySem.Challenge.pw_cratefit_k74_whole_the_floor_carries_all.main.body.getD i (.Pass ⟨0,0,0,0⟩)
abbrev U6:Stmt:=top 5
abbrev W0:Stmt:=top 7
abbrev M5:Stmt:=top 8
abbrev K8:Stmt:=top 10
abbrev D2:Stmt:=top 11
abbrev O2:Stmt:=top 12
abbrev K5:Stmt:=top 13
abbrev J0:Stmt:=top 14
abbrev W2:Stmt:=top 15
abbrev a0Q:Stmt:=top 16
abbrev W4:Stmt:=top 17
abbrev R7:Stmt:=top 19
abbrev W5:Stmt:=top 20
abbrev W6:Stmt:=top 21
abbrev W7:Stmt:=top 22
abbrev O3:Stmt:=top 23
abbrev O4:Stmt:=top 24
abbrev W8:Stmt:=top 25
abbrev y3:Stmt:=top 26
abbrev K3:Stmt:=top 27
abbrev W9:Stmt:=top 28
abbrev R8:Stmt:=top 29
abbrev N9:Stmt:=top 30
abbrev O0:Stmt:=top 31
abbrev X0:Stmt:=top 32
abbrev a0i:Stmt:=top 33
variable {P:Program}{w:World}{K:PySem.W.Frag}{mg:Str→Option Value}{base:Heap}{c:Str→Addr}
structure Txt(K:PySem.W.Frag)(mg:Str→Option Value)(c:Str→Addr):Prop where
 z_bool:mg "bool" = none
 z_enumerate:mg "enumerate" = none
 z_int:mg "int" = none
 z_isinstance:mg "isinstance" = none
 z_len:mg "len" = none
 z_list:mg "list" = none
 z_max:mg "max" = none
 z_min:mg "min" = none
 z_range:mg "range" = none
 z_reversed:mg "reversed" = none
 z_sorted:mg "sorted" = none
 z_sum:mg "sum" = none
 z_tuple:mg "tuple" = none
 z_zip:mg "zip" = none
 m_BadTurn:mg "BadTurn" = some (.ref (c "BadTurn"))
 x_BadTurn:PySem.W.excIn K (c "BadTurn") a5r "ValueError.__new__" = true
def a3E:SF:=(c6 (V0 (eV 0) (x9 [(c7 2),(c7 3),(c7 4)])) (c6 (A4 (G7 (bZ (eV 1))) (t9 (eT (aC (eV 2) (aC (eV 3) aN)))) B9) (c6 (A4 (G7 (bZ (eV 4))) (a5E "BadTurn" (aC (eC (.str "a ware that may not be turned has no sides turned")) aN)) B9) (t9 (eT (aC (eV 3) (aC (eV 2) aN)))))))
def Y7:List D→Option R1:=fD 5 2 a3E
theorem a0j:FnScope ["ware","lie","w","h","turns"] ["ware","lie"] (c9 U6):=⟨rfl,rfl,rfl,by decide +kernel,rfl,by decide +kernel,by decide +kernel⟩
seal PSs PS PE PA PT
theorem a6w{f:Addr}{fd:FuncData}(F:Fun K "sides_of" "sides_of" U6 f fd)(T:Txt K mg c)  : FnOk P w K mg base (B7 P w) 3 f fd ["ware","lie"] (k8 K c Y7) :=
 F.okD (k:=2) a0j fun cdv A outer s H E hr=>⟨_,(d5 (M3 (pv 0) (G6 (K:=K) (n:=3) rfl (k6 (i6 (i:=2) a0j.nd rfl (Or.inl rfl)) (k6 (i6 (i:=3) a0j.nd rfl (Or.inl rfl)) (k6 (i6 (i:=4) a0j.nd rfl (Or.inl rfl)) G5))))) (d5 (D6 (Q3 (Q2 (pv 1))) (g8 (p7 (x5 (a6 (pv 2) (a6 (pv 3) c8))))) B3) (d5 (D6 (Q3 (Q2 (pv 4))) (g8 (a9S T9 T.x_BadTurn rfl T.m_BadTurn (a6 b29 c8))) B3) (g8 (p7 (x5 (a6 (pv 3) (a6 (pv 2) c8)))))))),(d7 (a0n a7 (J7 (l6 (i0 (k:=5) (by decide)) (l6 (i0 (k:=5) (by decide)) (l6 (i0 (k:=5) (by decide)) J6))) rfl)) (d7 (C0 (L9 (U3 a7)) (B1 (E6 (b9 a7 (b9 a7 g9)))) G0) (d7 (C0 (L9 (U3 a7)) (a9_ (b9 d6 g9)) G0) (B1 (E6 (b9 a7 (b9 a7 g9)))))))⟩
def a4O:SF:=(c6 (V0 (eV 1) (x9 [(c7 2),(c7 3),(c7 4)])) (c6 (V0 (L6 Y7 (aC (eV 0) (aC (eV 4) aN))) (x9 [(c7 5),(c7 6)])) (t9 (eT (aC (eV 2) (aC (eV 3) (aC (eB u5 (eV 2) (eV 5)) (aC (eB u5 (eV 3) (eV 6)) aN))))))))
def O5:List D→Option R1:=fD 7 2 a4O
theorem U7:FnScope ["ware","place","x","y","lie","w","h"] ["ware","place"] (c9 W0):=⟨rfl,rfl,rfl,by decide +kernel,rfl,by decide +kernel,by decide +kernel⟩
theorem a7X{f:Addr}{fd:FuncData}(F:Fun K "spot_of" "spot_of" W0 f fd)(T:Txt K mg c)(G_sides_of:Own P w K mg base 3 "sides_of" ["ware","lie"] (k8 K c Y7)):FnOk P w K mg base (B7 P w) 5 f fd ["ware","place"] (k8 K c O5) :=
 F.okD (k:=4) U7 fun cdv A outer s H E hr=>⟨_,(d5 (M3 (pv 1) (G6 (K:=K) (n:=3) rfl (k6 (i6 (i:=2) U7.nd rfl (Or.inl rfl)) (k6 (i6 (i:=3) U7.nd rfl (Or.inl rfl)) (k6 (i6 (i:=4) U7.nd rfl (Or.inl rfl)) G5))))) (d5 (M3 (r6 G_sides_of hr (by decide) (XAcc.passes T9) (a6 (pv 0) (a6 (pv 4) c8))) (G6 (K:=K) (n:=2) rfl (k6 (i6 (i:=5) U7.nd rfl (Or.inl rfl)) (k6 (i6 (i:=6) U7.nd rfl (Or.inl rfl)) G5)))) (g8 (p7 (x5 (a6 (pv 2) (a6 (pv 3) (a6 (d9 A7 (pv 2) (pv 5)) (a6 (d9 A7 (pv 3) (pv 6)) c8))))))))),(d7 (a0n a7 (J7 (l6 (i0 (k:=7) (by decide)) (l6 (i0 (k:=7) (by decide)) (l6 (i0 (k:=7) (by decide)) J6))) rfl)) (d7 (a0n (a1r (b9 a7 (b9 a7 g9))) (J7 (l6 (i0 (k:=7) (by decide)) (l6 (i0 (k:=7) (by decide)) J6)) rfl)) (B1 (E6 (b9 a7 (b9 a7 (b9 (a8 B0 a7 a7) (b9 (a8 B0 a7 a7) g9))))))))⟩
def a3F:SF:=(a2q (a5I 2 [] (aC (eV 0) (aC (eV 1) aN)) (x9 [(c7 0),(c7 1)]) D7 (L6 O5 (aC (eV 0) (aC (eV 1) aN)))))
def E9:List D→Option R1:=fD 2 2 a3F
theorem a6x:FnScope ["wares","places"] ["wares","places"] (c9 M5):=⟨rfl,rfl,rfl,by decide +kernel,rfl,by decide +kernel,by decide +kernel⟩
theorem a6y{f:Addr}{fd:FuncData}(F:Fun K "spots_of" "spots_of" M5 f fd)(T:Txt K mg c)(G_spot_of:Own P w K mg base 5 "spot_of" ["ware","place"] (k8 K c O5)):FnOk P w K mg base (B7 P w) 7 f fd ["wares","places"] (k8 K c E9) :=
 F.okD (k:=6) a6x fun cdv A outer s H E hr=>⟨_,(g8 (p7 (a9Y (Nc:=["ware","place"]) (k:=2) (js:=[]) T9 rfl ⟨by decide +kernel,rfl,by decide +kernel,(by change ∀y∈Scope.names _,y.2=NameKind.free→(c9 M5).names.lookup y.1=some .cell∨(c9 M5).names.lookup y.1=some .free;decide +kernel),by decide +kernel,rfl,rfl,by decide +kernel⟩ (b3C rfl T.z_zip (a6 (pv 0) (a6 (pv 1) c8))) (fun _ _ _ _ _=>(G6 (K:=K) (n:=2) rfl (k6 (i6 (i:=0) (by show List.Nodup [("ware" : Str),("place" : Str)];decide +kernel) rfl (Or.inl rfl)) (k6 (i6 (i:=1) (by show List.Nodup [("ware" : Str),("place" : Str)];decide +kernel) rfl (Or.inl rfl)) G5)))) (fun _ _ _ _ _=>S5) (fun _ _ _ _ _ ac=>(r6 G_spot_of hr (by decide) (XAcc.passes ac) (a6 (pv 0) (a6 (pv 1) c8))))))),(a32 (b0n (by decide) (b9 a7 (b9 a7 g9)) (J7 (l6 (i0 (k:=2) (by decide)) (l6 (i0 (k:=2) (by decide)) J6)) rfl) L3 (a1r (b9 a7 (b9 a7 g9)))))⟩
def a1v:SF:=(t9 (eB w6 (eCB a0H (aC (eB i8 (eV 0) (eC (.int 2))) (aC (eB i8 (eV 1) (eC (.int 2))) aN))) (eCB a0G (aC (eB i8 (eV 0) (eC (.int 0))) (aC (eB i8 (eV 1) (eC (.int 0))) aN)))))
def C2:List D→Option R1:=fD 2 2 a1v
theorem a3G:FnScope ["one","other"] ["one","other"] (c9 K8):=⟨rfl,rfl,rfl,by decide +kernel,rfl,by decide +kernel,by decide +kernel⟩
theorem a3H{f:Addr}{fd:FuncData}(F:Fun K "shared_width" "shared_width" K8 f fd)(T:Txt K mg c)  : FnOk P w K mg base (B7 P w) 3 f fd ["one","other"] (k8 K c C2) :=
 F.okD (k:=2) a3G fun cdv A outer s H E hr=>⟨_,(g8 (p7 (d9 E5 (m5 (a4s rfl) rfl T.z_min a80 (a6 (i5 (j8 (K:=K)) (pv 0) a9 (fun _ _=>rfl)) (a6 (i5 (j8 (K:=K)) (pv 1) a9 (fun _ _=>rfl)) c8))) (m5 (a4r rfl) rfl T.z_max a8A (a6 (i5 (j8 (K:=K)) (pv 0) a9 (fun _ _=>rfl)) (a6 (i5 (j8 (K:=K)) (pv 1) a9 (fun _ _=>rfl)) c8)))))),(B1 (a8 E7 (a1J a61 (b9 (a8 l4 a7 d6) (b9 (a8 l4 a7 d6) g9))) (a1J a60 (b9 (a8 l4 a7 d6) (b9 (a8 l4 a7 d6) g9)))))⟩
def a5R:SF:=(c6 (u9 2 (a4g 0 2 [0,1] (x9 [(c7 0),(c7 1)]) (bZ (eB (B8 false) (eB i8 (eV 1) (eC (.int 3))) (eB i8 (m7 j6 2 (eV 3)) (eC (.int 1))))) (eT (aC (eV 0) (aC (j9 C2 (aC (eV 1) (aC (m7 j6 2 (eV 3)) aN))) aN))))) (a2q (N8 2 2 [] (x9 [(c7 0),(c7 1)]) (bZ (eB gGt (eV 1) (eC (.int 0)))) (eT (aC (eV 0) (aC (eV 1) aN))))))
def u0:List D→Option R1:=fD 3 2 a5R
theorem a1V:FnScope ["spots","k","touches"] ["spots","k"] (c9 D2):=⟨rfl,rfl,rfl,by decide +kernel,rfl,by decide +kernel,by decide +kernel⟩
theorem a44{f:Addr}{fd:FuncData}(F:Fun K "touches_of" "touches_of" D2 f fd)(T:Txt K mg c)(G_shared_width:Own P w K mg base 3 "shared_width" ["one","other"] (k8 K c C2)):FnOk P w K mg base (B7 P w) 5 f fd ["spots","k"] (k8 K c u0) :=
 F.okD (k:=4) a1V fun cdv A outer s H E hr=>⟨_,(d5 (a1E (i:=2) (Nc:=["j","spot","spots","k"]) (k:=2) (js:=[0,1]) rfl ⟨by decide +kernel,rfl,by decide +kernel,(by change ∀y∈Scope.names _,y.2=NameKind.free→(c9 D2).names.lookup y.1=some .cell∨(c9 D2).names.lookup y.1=some .free;decide +kernel),by decide +kernel,rfl,rfl,by decide +kernel⟩ a1V.nd rfl (a6N rfl T.z_enumerate (a6 (pv 0) c8)) (fun _ _ _ _ _=>(G6 (K:=K) (n:=2) rfl (k6 (i6 (i:=0) (by show List.Nodup [("j" : Str),("spot" : Str),("spots" : Str),("k" : Str)];decide +kernel) rfl (Or.inl rfl)) (k6 (i6 (i:=1) (by show List.Nodup [("j" : Str),("spot" : Str),("spots" : Str),("k" : Str)];decide +kernel) rfl (Or.inl rfl)) G5)))) (fun _ _ _ _ _=>(a8w (m9 N4 (i5 (j8 (K:=K)) (pv 1) a9 (fun _ _=>rfl)) (i5 (j8 (K:=K)) (i5 (k7 (K:=K)) (pv 2) (pv 3) (fun _ _=>rfl)) a9 (fun _ _=>rfl)) (m8 _)))) (fun _ _ _ _ _=>(x5 (a6 (pv 0) (a6 (r6 G_shared_width hr (by decide) v9 (a6 (pv 1) (a6 (i5 (k7 (K:=K)) (pv 2) (pv 3) (fun _ _=>rfl)) c8))) c8))))) (g8 (p7 (U1 (Nc:=["j","touch"]) (k:=2) (js:=[]) rfl ⟨by decide +kernel,rfl,by decide +kernel,(by change ∀y∈Scope.names _,y.2=NameKind.free→(c9 D2).names.lookup y.1=some .cell∨(c9 D2).names.lookup y.1=some .free;decide +kernel),by decide +kernel,rfl,rfl,by decide +kernel⟩ (J5 (pv 2)) (fun _ _ _ _ _=>(G6 (K:=K) (n:=2) rfl (k6 (i6 (i:=0) (by show List.Nodup [("j" : Str),("touch" : Str)];decide +kernel) rfl (Or.inl rfl)) (k6 (i6 (i:=1) (by show List.Nodup [("j" : Str),("touch" : Str)];decide +kernel) rfl (Or.inl rfl)) G5)))) (fun _ _ _ _ _=>(a8w (m9 a2l (pv 1) a9 (m8 _)))) (fun _ _ _ _ _=>(x5 (a6 (pv 0) (a6 (pv 1) c8)))))))),(d7 (a1P (a84 (by decide) (J7 (l6 (i0 (k:=2) (by decide)) (l6 (i0 (k:=2) (by decide)) J6)) rfl) (x8 (a8 N5 (a8 l4 a7 d6) (a8 l4 (n8 n5 a7) d6))) (E6 (b9 a7 (b9 (B5 (b9 a7 (b9 (n8 n5 a7) g9))) g9))))) (a32 (T1 (by decide) (J7 (l6 (i0 (k:=2) (by decide)) (l6 (i0 (k:=2) (by decide)) J6)) rfl) (x8 (a8 a2p a7 d6)) (E6 (b9 a7 (b9 a7 g9))))))⟩
def a8_:SF:=(c6 (a0C 2 E9 (aC (eV 0) (aC (eV 1) aN))) (c6 (a0X 2 (x9 [(c7 3),(c7 4)]) (c6 (j7 5 (a3C (eCB (g1 a0w) (aC (zN (a0D 2 [] (j9 u0 (aC (eV 2) (aC (eV 3) aN))) (x9 [(c7 0),(c7 1)]) D7 (eV 1))) aN)))) (A4 (Y2 (bZ (eB (B8 true) (eB i8 (eV 4) (eC (.int 1))) (eC (.int 0)))) (bZ (eB gLt (eV 5) (eB w6 (eB i8 (eV 4) (eC (.int 2))) (eB i8 (eV 4) (eC (.int 0))))))) (P3 3) B9))) (t9 (eC .non))))
def F6:List D→Option R1:=fD 6 2 a8_
theorem Y8:FnScope ["wares","places","spots","k","spot","held"] ["wares","places"] (c9 O2):=⟨rfl,rfl,rfl,by decide +kernel,rfl,by decide +kernel,by decide +kernel⟩
theorem a7Y{f:Addr}{fd:FuncData}(F:Fun K "hanging" "hanging" O2 f fd)(T:Txt K mg c)(G_spots_of:Own P w K mg base 7 "spots_of" ["wares","places"] (k8 K c E9))(G_touches_of:Own P w K mg base 5 "touches_of" ["spots","k"] (k8 K c u0)):FnOk P w K mg base (B7 P w) 9 f fd ["wares","places"] (k8 K c F6) :=
 F.okD (k:=8) Y8 fun cdv A outer s H E hr=>⟨_,(d5 (i7 (i:=2) Y8.nd rfl (Or.inl rfl) (r6 G_spots_of hr (by decide) (XAcc.passes T9) (a6 (pv 0) (a6 (pv 1) c8)))) (d5 (M4 PassesOwn.leaving rfl (a6N rfl T.z_enumerate (a6 (pv 2) c8)) (G6 (K:=K) (n:=2) rfl (k6 (i6 (i:=3) Y8.nd rfl (Or.inl rfl)) (k6 (i6 (i:=4) Y8.nd rfl (Or.inl rfl)) G5))) (d5 (i7 (i:=5) Y8.nd rfl (Or.inl rfl) (m5 (a4A (K:=K)) rfl T.z_sum a8B (a6 (U1 (Nc:=["j","touch"]) (k:=2) (js:=[]) rfl ⟨by decide +kernel,rfl,by decide +kernel,(by change ∀y∈Scope.names _,y.2=NameKind.free→(c9 O2).names.lookup y.1=some .cell∨(c9 O2).names.lookup y.1=some .free;decide +kernel),by decide +kernel,rfl,rfl,by decide +kernel⟩ (J5 (r6 G_touches_of hr (by decide) v9 (a6 (pv 2) (a6 (pv 3) c8)))) (fun _ _ _ _ _=>(G6 (K:=K) (n:=2) rfl (k6 (i6 (i:=0) (by show List.Nodup [("j" : Str),("touch" : Str)];decide +kernel) rfl (Or.inl rfl)) (k6 (i6 (i:=1) (by show List.Nodup [("j" : Str),("touch" : Str)];decide +kernel) rfl (Or.inl rfl)) G5)))) (fun _ _ _ _ _=>S5) (fun _ _ _ _ _=>(pv 1))) c8))) (g8 (D6 (PW.pt (a1n (m9 a2_ (i5 (j8 (K:=K)) (pv 4) a9 (fun _ _=>rfl)) a9 (m8 _)) (a2j (m9 a1z (pv 5) (d9 E5 (i5 (j8 (K:=K)) (pv 4) a9 (fun _ _=>rfl)) (i5 (j8 (K:=K)) (pv 4) a9 (fun _ _=>rfl))) (m8 _))))) (g8 (p7 (pv 3))) B3)))) (g8 (p7 a5i)))),(d7 (a33 (b9 a7 (b9 a7 g9))) (d7 (b0d (J7 (l6 (i0 (k:=6) (by decide)) (l6 (i0 (k:=6) (by decide)) J6)) rfl) (d7 (n6 (b0q (a1J a8Y.cb (b9 (U2 (a6U (by decide) (B5 (b9 a7 (b9 a7 g9))) (J7 (l6 (i0 (k:=2) (by decide)) (l6 (i0 (k:=2) (by decide)) J6)) rfl) L3 a7)) g9)))) (C0 (a0N (x8 (a8 a3q (a8 l4 a7 d6) d6)) (x8 (a8 a1K a7 (a8 E7 (a8 l4 a7 d6) (a8 l4 a7 d6))))) a0O G0))) (B1 d6)))⟩
def a6z:SF:=(a2q (a3D [1] (aC (y8 r8 1) aN) (eT (aC (eB i8 (m7 j6 1 (eV 0)) (eC (.int 1))) (aC (eV 0) aN)))))
def E4:List D→Option R1:=fD 2 2 a6z
theorem a5S:FnScope ["wares","places"] ["wares","places"] (c9 K5):=⟨rfl,rfl,rfl,by decide +kernel,rfl,by decide +kernel,by decide +kernel⟩
theorem a5T{TB:List (Addr×Str)}{f:Addr}{fd:FuncData}(F:Fun K "set_order" "set_order" K5 f fd)(T:Txt K mg c)  {cc Pt:Addr} (hcode:fd.code=.ref cc) (hC:PySem.W.CodeHd base cc Pt) (hB:base.BuiltinsAt mg Pt) (hL:TB.lookup Pt=some "set_order.<locals>.<lambda>"):FnOk P w K mg base (B7 P w) 3 f fd ["wares","places"] (spT TB (k8 K c E4)) :=
 F.okT (k:=2) a5S fun A outer s H E hT hr=>⟨_,(g8 (p7 (a97 (Nc:=["k","places"]) (js:=[1]) (kn := "k") (q := "set_order.<locals>.<lambda>") hr rfl rfl T.z_sorted rfl T.z_range (a6 (m5 (l9 (K:=K)) rfl T.z_len D0 (a6 (pv 1) c8)) c8) rfl hcode hC hB rfl (hT _ _ hL) ⟨by decide +kernel,rfl,by decide +kernel,(by change ∀y∈Scope.names _,y.2=NameKind.free→(c9 K5).names.lookup y.1=some .cell∨(c9 K5).names.lookup y.1=some .free;decide +kernel),by decide +kernel,rfl,rfl,by decide +kernel⟩ rfl rfl (fun _ _ _ _ _=>rfl) rfl rfl (fun _ _ _ _=>(x5 (a6 (i5 (j8 (K:=K)) (i5 (k7 (K:=K)) (pv 1) (pv 0) (fun _ _=>rfl)) a9 (fun _ _=>rfl)) (a6 (pv 0) c8))))))),(a32 (b0H (by decide) (b9 (J4 D1) g9) (E6 (b9 (a8 l4 (n8 n5 a7) d6) (b9 a7 g9)))))⟩
def a20:SF:=(c6 (v8 (bZ (eB (B8 true) (eV 1) (eC (.int 0)))) (c6 (j7 2 (eB l5 (eV 0) (eV 1))) (c6 (j7 0 (eV 1)) (j7 1 (eV 2)))) 1000000) (P3 0))
def J1:List D→Option R1:=fD 3 2 a20
theorem N6:FnScope ["one","other","rest"] ["one","other"] (c9 J0):=⟨rfl,rfl,rfl,by decide +kernel,rfl,by decide +kernel,by decide +kernel⟩
theorem a2A{f:Addr}{fd:FuncData}(F:Fun K "common_divisor" "common_divisor" J0 f fd)(T:Txt K mg c)  : FnOk P w K mg base (B7 P w) 3 f fd ["one","other"] (k8 K c J1) :=
 F.okD (k:=2) N6 fun cdv A outer s H E hr=>⟨_,(d5 (a1y PassesOwn.leaving (m9 a2_ (pv 1) a9 (m8 _)) (d5 (i7 (i:=2) N6.nd rfl (Or.inl rfl) (d9 v5 (pv 0) (pv 1))) (d5 (i7 (i:=0) N6.nd rfl (Or.inl rfl) (pv 1)) (g8 (i7 (i:=1) N6.nd rfl (Or.inl rfl) (pv 2)))))) (g8 (p7 (pv 0)))),(d7 (a1N (x8 (a8 a3q a7 d6)) (d7 (n6 (a8 v7 a7 a7)) (d7 (n6 a7) (n6 a7)))) a0O)⟩
def a9a:SF:=(c6 (y9 2 J1 (aC (eV 0) (aC (eV 1) aN))) (t9 (eT (aC (eB r9 (eV 0) (eV 2)) (aC (eB r9 (eV 1) (eV 2)) aN)))))
def X1:List D→Option R1:=fD 3 2 a9a
theorem a3I:FnScope ["top","bottom","divisor"] ["top","bottom"] (c9 W2):=⟨rfl,rfl,rfl,by decide +kernel,rfl,by decide +kernel,by decide +kernel⟩
theorem a7Z{f:Addr}{fd:FuncData}(F:Fun K "reduced" "reduced" W2 f fd)(T:Txt K mg c)(G_common_divisor:Own P w K mg base 3 "common_divisor" ["one","other"] (k8 K c J1)):FnOk P w K mg base (B7 P w) 5 f fd ["top","bottom"] (k8 K c X1) :=
 F.okD (k:=4) a3I fun cdv A outer s H E hr=>⟨_,(d5 (i7 (i:=2) a3I.nd rfl (Or.inl rfl) (r6 G_common_divisor hr (by decide) v9 (a6 (pv 0) (a6 (pv 1) c8)))) (g8 (p7 (x5 (a6 (d9 B4 (pv 0) (pv 2)) (a6 (d9 B4 (pv 1) (pv 2)) c8)))))),(d7 (K9 (b9 a7 (b9 a7 g9))) (B1 (E6 (b9 (a8 E8 a7 a7) (b9 (a8 E8 a7 a7) g9)))))⟩
def b2P:SF:=(a3v X1 (aC (eB u5 (eB t8 (eB i8 (eV 0) (eC (.int 0))) (eB i8 (eV 1) (eC (.int 1)))) (eB t8 (eB i8 (eV 1) (eC (.int 0))) (eB i8 (eV 0) (eC (.int 1))))) (aC (eB t8 (eB i8 (eV 0) (eC (.int 1))) (eB i8 (eV 1) (eC (.int 1)))) aN)))
def C9:List D→Option R1:=fD 2 2 b2P
theorem b0L:FnScope ["one","other"] ["one","other"] (c9 a0Q):=⟨rfl,rfl,rfl,by decide +kernel,rfl,by decide +kernel,by decide +kernel⟩
theorem b0M{f:Addr}{fd:FuncData}(F:Fun K "added" "added" a0Q f fd)(T:Txt K mg c)(G_reduced:Own P w K mg base 5 "reduced" ["top","bottom"] (k8 K c X1)):FnOk P w K mg base (B7 P w) 7 f fd ["one","other"] (k8 K c C9) :=
 F.okD (k:=6) b0L fun cdv A outer s H E hr=>⟨_,(g8 (p7 (r6 G_reduced hr (by decide) v9 (a6 (d9 A7 (d9 A8 (i5 (j8 (K:=K)) (pv 0) a9 (fun _ _=>rfl)) (i5 (j8 (K:=K)) (pv 1) a9 (fun _ _=>rfl))) (d9 A8 (i5 (j8 (K:=K)) (pv 1) a9 (fun _ _=>rfl)) (i5 (j8 (K:=K)) (pv 0) a9 (fun _ _=>rfl)))) (a6 (d9 A8 (i5 (j8 (K:=K)) (pv 0) a9 (fun _ _=>rfl)) (i5 (j8 (K:=K)) (pv 1) a9 (fun _ _=>rfl))) c8))))),(b0a (b9 (a8 B0 (a8 C6 (a8 l4 a7 d6) (a8 l4 a7 d6)) (a8 C6 (a8 l4 a7 d6) (a8 l4 a7 d6))) (b9 (a8 C6 (a8 l4 a7 d6) (a8 l4 a7 d6)) g9)))⟩
def a9b:SF:=(c6 (a0C 3 F6 (aC (eV 0) (aC (eV 1) aN))) (c6 (A4 (bZ (eB (a16 true) (eV 3) (eC .non))) a7W B9) (c6 (a0C 4 E9 (aC (eV 0) (aC (eV 1) aN))) (c6 (u9 5 (nB a0u (zN (eL (aC (eT (aC (eC (.int 0)) (aC (eC (.int 1)) aN))) aN))) (y8 r8 0))) (c6 (j7 6 (eT (aC (eC (.int 0)) (aC (eC (.int 1)) aN)))) (c6 (a5d (j9 E4 (aC (eV 0) (aC (eV 1) aN))) (c7 7) (c6 (V0 (m7 j6 4 (eV 7)) (x9 [(c7 8),(c7 9),(c7 10),(c7 11)])) (c6 (y9 12 C9 (aC (m7 j6 5 (eV 7)) (aC (eT (aC (m7 j6 2 (eV 7)) (aC (eC (.int 1)) aN))) aN))) (c6 (A4 (bZ (eB (B8 false) (eV 9) (eC (.int 0)))) (y9 6 C9 (aC (eV 6) (aC (eV 12) aN))) B9) (a18 (j9 u0 (aC (eV 4) (aC (eV 7) aN)))  (x9 [(c7 13),(c7 14)]) (U9 5 (eV 13) (j9 C9 (aC (m7 j6 5 (eV 13)) (aC (eT (aC (eB t8 (eB i8 (eV 12) (eC (.int 0))) (eV 14)) (aC (eB t8 (eB i8 (eV 12) (eC (.int 1))) (eB w6 (eV 10) (eV 8))) aN))) aN))))))))) (t9 (eT (aC (eV 5) (aC (eV 6) aN))))))))))
def A6:List D→Option R1:=fD 15 3 a9b
theorem C4:FnScope ["wares","places","weights","at","spots","told","floor","k","x","y","x2","y2","load","j","touch"] ["wares","places","weights"] (c9 W4):=⟨rfl,rfl,rfl,by decide +kernel,rfl,by decide +kernel,by decide +kernel⟩
theorem a70{TB:List (Addr×Str)}{f:Addr}{fd:FuncData}(F:Fun K "pressed" "pressed" W4 f fd)(T:Txt K mg c)(G_hanging:Own P w K mg base 9 "hanging" ["wares","places"] (k8 K c F6))(G_spots_of:Own P w K mg base 7 "spots_of" ["wares","places"] (k8 K c E9))(G_set_order:Own P w K mg base 3 "set_order" ["wares","places"] (spT TB (k8 K c E4)))(G_added:Own P w K mg base 7 "added" ["one","other"] (k8 K c C9))(G_touches_of:Own P w K mg base 5 "touches_of" ["spots","k"] (k8 K c u0)):FnOk P w K mg base (B7 P w) 11 f fd ["wares","places","weights"] (spT TB (k8 K c A6)) :=
 F.okT (k:=10) C4 fun A outer s H E hT hr=>⟨_,(d5 (i7 (i:=3) C4.nd rfl (Or.inl rfl) (r6 G_hanging hr (by decide) (XAcc.passes T9) (a6 (pv 0) (a6 (pv 1) c8)))) (d5 (D6 (m9 a6G (pv 3) a5i (m8 _)) (g8 b2J) B3) (d5 (i7 (i:=4) C4.nd rfl (Or.inl rfl) (r6 G_spots_of hr (by decide) (XAcc.passes T9) (a6 (pv 0) (a6 (pv 1) c8)))) (d5 (i7 (i:=5) C4.nd rfl (Or.inl rfl) (d9 a8t (S3 (a6 (x5 (a6 a9 (a6 a9 c8))) c8)) (m5 (l9 (K:=K)) rfl T.z_len D0 (a6 (pv 0) c8)))) (d5 (i7 (i:=6) C4.nd rfl (Or.inl rfl) (x5 (a6 a9 (a6 a9 c8)))) (d5 (M4 PassesOwn.leaving rfl (b3G rfl T.z_reversed (a6 (a4j hT G_set_order hr (by decide) v9 (a6 (pv 0) (a6 (pv 1) c8))) c8)) (i6 (i:=7) C4.nd rfl (Or.inl rfl)) (d5 (M3 (i5 (k7 (K:=K)) (pv 4) (pv 7) (fun _ _=>rfl)) (G6 (K:=K) (n:=4) rfl (k6 (i6 (i:=8) C4.nd rfl (Or.inl rfl)) (k6 (i6 (i:=9) C4.nd rfl (Or.inl rfl)) (k6 (i6 (i:=10) C4.nd rfl (Or.inl rfl)) (k6 (i6 (i:=11) C4.nd rfl (Or.inl rfl)) G5)))))) (d5 (i7 (i:=12) C4.nd rfl (Or.inl rfl) (r6 G_added hr (by decide) v9 (a6 (i5 (k7 (K:=K)) (pv 5) (pv 7) (fun _ _=>rfl)) (a6 (x5 (a6 (i5 (k7 (K:=K)) (pv 2) (pv 7) (fun _ _=>rfl)) (a6 a9 c8))) c8)))) (d5 (D6 (m9 N4 (pv 9) a9 (m8 _)) (g8 (i7 (i:=6) C4.nd rfl (Or.inl rfl) (r6 G_added hr (by decide) v9 (a6 (pv 6) (a6 (pv 12) c8))))) B3) (g8 (M4 PassesOwn.leaving rfl (J5 (r6 G_touches_of hr (by decide) v9 (a6 (pv 4) (a6 (pv 7) c8)))) (G6 (K:=K) (n:=2) rfl (k6 (i6 (i:=13) C4.nd rfl (Or.inl rfl)) (k6 (i6 (i:=14) C4.nd rfl (Or.inl rfl)) G5))) (g8 (M3 (r6 G_added hr (by decide) v9 (a6 (i5 (k7 (K:=K)) (pv 5) (pv 13) (fun _ _=>rfl)) (a6 (x5 (a6 (d9 A8 (i5 (j8 (K:=K)) (pv 12) a9 (fun _ _=>rfl)) (pv 14)) (a6 (d9 A8 (i5 (j8 (K:=K)) (pv 12) a9 (fun _ _=>rfl)) (d9 E5 (pv 10) (pv 8))) c8))) c8))) (a1Z (pv 5) (pv 13) a0R))))))))) (g8 (p7 (x5 (a6 (pv 5) (a6 (pv 6) c8))))))))))),(d7 (a33 (b9 a7 (b9 a7 g9))) (d7 (C0 (x8 (a8 a6S a7 d6)) b2K G0) (d7 (a33 (b9 a7 (b9 a7 g9))) (d7 (G8 (b1i a8L (U2 (a0V (b9 (E6 (b9 d6 (b9 d6 g9))) g9))) (J4 D1))) (d7 (n6 (E6 (b9 d6 (b9 d6 g9)))) (d7 (b2L (B5 (b9 a7 (b9 a7 g9))) (i0 (k:=15) (by decide)) (d7 (a0n (n8 n5 a7) (J7 (l6 (i0 (k:=15) (by decide)) (l6 (i0 (k:=15) (by decide)) (l6 (i0 (k:=15) (by decide)) (l6 (i0 (k:=15) (by decide)) J6)))) rfl)) (d7 (K9 (b9 (n8 n5 a7) (b9 (E6 (b9 (n8 n5 a7) (b9 d6 g9))) g9))) (d7 (C0 (x8 (a8 N5 a7 d6)) (K9 (b9 a7 (b9 a7 g9))) G0) (b3W (B5 (b9 a7 (b9 a7 g9))) (J7 (l6 (i0 (k:=15) (by decide)) (l6 (i0 (k:=15) (by decide)) J6)) rfl) (a17 (B5 (b9 (n8 n5 a7) (b9 (E6 (b9 (a8 C6 (a8 l4 a7 d6) a7) (b9 (a8 C6 (a8 l4 a7 d6) (a8 E7 a7 a7)) g9))) g9))) a7)))))) (B1 (E6 (b9 a7 (b9 a7 g9))))))))))⟩
def a2K:SF:=(c6 (A4 (bZ (eB gLt (eV 1) (y8 r8 0))) (t9 (m7 j6 0 (eV 1))) B9) (t9 (eC (.int 0))))
def u6:List D→Option R1:=fD 2 2 a2K
theorem a5U:FnScope ["_law_script","_law_k"] ["_law_script","_law_k"] (c9 R7):=⟨rfl,rfl,rfl,by decide +kernel,rfl,by decide +kernel,by decide +kernel⟩
theorem a5V{f:Addr}{fd:FuncData}(F:Fun K "_law_cell_at" "_law_cell_at" R7 f fd)(T:Txt K mg c)  : FnOk P w K mg base (B7 P w) 3 f fd ["_law_script","_law_k"] (k8 K c u6) :=
 F.okD (k:=2) a5U fun cdv A outer s H E hr=>⟨_,(d5 (D6 (m9 a1z (pv 1) (m5 (l9 (K:=K)) rfl T.z_len D0 (a6 (pv 0) c8)) (m8 _)) (g8 (p7 (i5 (k7 (K:=K)) (pv 0) (pv 1) (fun _ _=>rfl)))) B3) (g8 (p7 a9))),(d7 (C0 (x8 (a8 a1K a7 (J4 D1))) (B1 (n8 n5 a7)) G0) (B1 d6))⟩
def a4P:SF:=(t9 (a99 (a0F 0 "int") (a98 (a0F 0 "bool"))))
def O6:List D→Option R1:=fD 1 1 a4P
theorem a71:FnScope ["_law_found"] ["_law_found"] (c9 W5):=⟨rfl,rfl,rfl,by decide +kernel,rfl,by decide +kernel,by decide +kernel⟩
theorem a72{f:Addr}{fd:FuncData}(F:Fun K "_law_whole" "_law_whole" W5 f fd)(T:Txt K mg c)  : FnOk P w K mg base (B7 P w) 3 f fd ["_law_found"] (k8 K c O6) :=
 F.okD (k:=2) a71 fun cdv A outer s H E hr=>⟨_,(g8 (p7 (b3c (m5 (a0l (K:=K)) rfl T.z_isinstance Q4 (a6 (pv 0) (a6 (a1m (v:=.ty "int") rfl T.z_int b3z rfl) c8))) (b3b (b3d (m5 (a0l (K:=K)) rfl T.z_isinstance Q4 (a6 (pv 0) (a6 (a1m (v:=.ty "bool") rfl T.z_bool b1L rfl) c8)))))))),(B1 (b3R a2t (b3Q a2t)))⟩
def a4Q:SF:=(t9 (eB l5 (eB t8 (eB l5 (eB u5 (eB t8 (eB t8 (eB l5 (eV 0) (eC (.int 1000000007))) (eB u5 (eV 1) (eC (.int 3)))) (eC (.int 48271))) (eB t8 (eB t8 (eB u5 (eV 1) (eC (.int 1))) (eB u5 (eV 1) (eC (.int 5)))) (eC (.int 69621)))) (eC (.int 2147483647))) (eC (.int 40692))) (eC (.int 2147483399))))
def x4:List D→Option R1:=fD 2 2 a4Q
theorem a73:FnScope ["_law_cell","_law_k"] ["_law_cell","_law_k"] (c9 W6):=⟨rfl,rfl,rfl,by decide +kernel,rfl,by decide +kernel,by decide +kernel⟩
theorem a74{f:Addr}{fd:FuncData}(F:Fun K "_law_mixed" "_law_mixed" W6 f fd)(T:Txt K mg c)  : FnOk P w K mg base (B7 P w) 3 f fd ["_law_cell","_law_k"] (k8 K c x4) :=
 F.okD (k:=2) a73 fun cdv A outer s H E hr=>⟨_,(g8 (p7 (d9 v5 (d9 A8 (d9 v5 (d9 A7 (d9 A8 (d9 A8 (d9 v5 (pv 0) a9) (d9 A7 (pv 1) a9)) a9) (d9 A8 (d9 A8 (d9 A7 (pv 1) a9) (d9 A7 (pv 1) a9)) a9)) a9) a9) a9))),(B1 (a8 v7 (a8 C6 (a8 v7 (a8 B0 (a8 C6 (a8 C6 (a8 v7 a7 d6) (a8 B0 a7 d6)) d6) (a8 C6 (a8 C6 (a8 B0 a7 d6) (a8 B0 a7 d6)) d6)) d6) d6) d6))⟩
def a9c:SF:=(c6 (u9 1 (eL (aC (eC (.int 0)) aN))) (c6 (C8 P4 (aC (eB u5 (eC (.int 2)) (eB l5 (eV 0) (eC (.int 9)))) aN) (c7 2) (c6 (j7 3 (eB u5 (eC (.int 1)) (eB l5 (j9 x4 (aC (eV 0) (aC (eV 2) aN))) (eC (.int 9))))) (c6 (A4 (bZ (eB (B8 false) (eB l5 (eB r9 (eV 0) (eC (.int 9))) (eC (.int 3))) (eC (.int 2)))) (j7 3 (eB u5 (eC (.int 1)) (eB l5 (j9 x4 (aC (eV 0) (aC (eV 2) aN))) (eC (.int 97))))) B9) (K0 1 (eB u5 (m7 j6 1 (eU a5C (eC (.int 1)))) (eV 3)))))) (P3 1)))
def O7:List D→Option R1:=fD 4 1 a9c
theorem Y9:FnScope ["_law_cell","_law_edges_here","_law_k","_law_wide"] ["_law_cell"] (c9 W7):=⟨rfl,rfl,rfl,by decide +kernel,rfl,by decide +kernel,by decide +kernel⟩
theorem a75{f:Addr}{fd:FuncData}(F:Fun K "_law_edges" "_law_edges" W7 f fd)(T:Txt K mg c)(G_l_mixed:Own P w K mg base 3 "_law_mixed" ["_law_cell","_law_k"] (k8 K c x4)):FnOk P w K mg base (B7 P w) 5 f fd ["_law_cell"] (k8 K c O7) :=
 F.okD (k:=4) Y9 fun cdv A outer s H E hr=>⟨_,(d5 (i7 (i:=1) Y9.nd rfl (Or.inl rfl) (S3 (a6 a9 c8))) (d5 (M4 PassesOwn.leaving rfl (S2 rfl T.z_range (a6 (d9 A7 a9 (d9 v5 (pv 0) a9)) c8)) (i6 (i:=2) Y9.nd rfl (Or.inl rfl)) (d5 (i7 (i:=3) Y9.nd rfl (Or.inl rfl) (d9 A7 a9 (d9 v5 (r6 G_l_mixed hr (by decide) v9 (a6 (pv 0) (a6 (pv 2) c8))) a9))) (d5 (D6 (m9 N4 (d9 v5 (d9 B4 (pv 0) a9) a9) a9 (m8 _)) (g8 (i7 (i:=3) Y9.nd rfl (Or.inl rfl) (d9 A7 a9 (d9 v5 (r6 G_l_mixed hr (by decide) v9 (a6 (pv 0) (a6 (pv 2) c8))) a9)))) B3) (g8 (N7 (Q6 (K:=K) PySem.F.plainAttrs_list PySem.F.slot_list_append PySem.F.type_list_append F5 (pv 1) (a6 (d9 A7 (i5 (k7 (K:=K)) (pv 1) (b4A b3m a9) (fun _ _=>rfl)) (pv 3)) c8))))))) (g8 (p7 (pv 1))))),(d7 (G8 (a0V (b9 d6 g9))) (d7 (Z8 (b9 (a8 B0 d6 (a8 v7 a7 d6)) g9) (i0 (k:=4) (by decide)) (d7 (n6 (a8 B0 d6 (a8 v7 (B5 (b9 a7 (b9 a7 g9))) d6))) (d7 (C0 (x8 (a8 N5 (a8 v7 (a8 E8 a7 d6) d6) d6)) (n6 (a8 B0 d6 (a8 v7 (B5 (b9 a7 (b9 a7 g9))) d6))) G0) (S8 (a8 B0 (n8 n5 (b5n b3T d6)) a7))))) a0O))⟩
def a9d:SF:=(c6 (u9 3 (a0D 1 [] (zN (T3 1 (oS (eC (.int 1))) oN)) (c7 0) D7 (eC (.int 0)))) (c6 (u9 4 (eL aN)) (c6 (a09 0 (c7 5) (c6 (j7 6 (eB l5 (eV 5) (y8 r8 3))) (c6 (j7 5 (eB r9 (eV 5) (y8 r8 3))) (c6 (j7 7 (eV 6)) (c6 (v8 (Y2 (bZ (eB gLt (eV 7) (y8 r8 3))) (Y2 (bZ (eB (B8 false) (m7 j6 3 (eV 7)) (m7 j6 3 (eV 6)))) (bZ (eB gLt (eV 7) (eB u5 (eB u5 (eV 6) (eC (.int 1))) (eB l5 (eV 5) (eC (.int 6)))))))) (j7 7 (eB u5 (eV 7) (eC (.int 1)))) 1000000) (c6 (j7 8 (m7 j6 3 (eV 6))) (c6 (j7 9 (eB u5 (eB u5 (eV 8) (eC (.int 1))) (eB l5 (eB r9 (eV 5) (eC (.int 6))) (eC (.int 2))))) (c6 (A4 (Y2 (bZ (eB (B8 false) (eB l5 (eB r9 (eV 5) (eC (.int 12))) (eC (.int 2))) (eC (.int 0)))) (Y2 (bZ (eB gLt (eV 7) (y8 r8 3))) (bZ (eB gGt (m7 j6 3 (eV 7)) (eV 8))))) (j7 9 (m7 j6 3 (eV 7))) B9) (c6 (K0 4 (eT (aC (m7 j6 1 (eV 6)) (aC (eB t8 (eV 8) (eV 2)) (aC (m7 j6 1 (eV 7)) (aC (eB t8 (eV 9) (eV 2)) aN)))))) (C8 Y3 (aC (eV 6) (aC (eV 7) aN)) (c7 10) (U9 3 (eV 10) (eV 9)))))))))))) (P3 4))))
def O8:List D→Option R1:=fD 11 3 a9d
theorem D8:FnScope ["_law_cells","_law_edges_here","_law_unit","_law_tops","_law_spots","_law_cell","_law_start","_law_end","_law_low","_law_high","_law_k"] ["_law_cells","_law_edges_here","_law_unit"] (c9 O3):=⟨rfl,rfl,rfl,by decide +kernel,rfl,by decide +kernel,by decide +kernel⟩
theorem a76{f:Addr}{fd:FuncData}(F:Fun K "_law_stack" "_law_stack" O3 f fd)(T:Txt K mg c)  : FnOk P w K mg base (B7 P w) 3 f fd ["_law_cells","_law_edges_here","_law_unit"] (k8 K c O8) :=
 F.okD (k:=2) D8 fun cdv A outer s H E hr=>⟨_,(d5 (a1E (i:=3) (Nc:=["_law_k"]) (k:=1) (js:=[]) rfl ⟨by decide +kernel,rfl,by decide +kernel,(by change ∀y∈Scope.names _,y.2=NameKind.free→(c9 O3).names.lookup y.1=some .cell∨(c9 O3).names.lookup y.1=some .free;decide +kernel),by decide +kernel,rfl,rfl,by decide +kernel⟩ D8.nd rfl (J5 (a1A (a1F (K:=K)) (pv 1) (Z6 a9) b1C)) (fun _ _ _ _ _=>(i6 (i:=0) (by show List.Nodup [("_law_k" : Str)];decide +kernel) rfl (Or.inl rfl))) (fun _ _ _ _ _=>S5) (fun _ _ _ _ _=>a9)) (d5 (i7 (i:=4) D8.nd rfl (Or.inl rfl) (S3 c8)) (d5 (M4 PassesOwn.leaving rfl (J5 (pv 0)) (i6 (i:=5) D8.nd rfl (Or.inl rfl)) (d5 (i7 (i:=6) D8.nd rfl (Or.inl rfl) (d9 v5 (pv 5) (m5 (l9 (K:=K)) rfl T.z_len D0 (a6 (pv 3) c8)))) (d5 (i7 (i:=5) D8.nd rfl (Or.inl rfl) (d9 B4 (pv 5) (m5 (l9 (K:=K)) rfl T.z_len D0 (a6 (pv 3) c8)))) (d5 (i7 (i:=7) D8.nd rfl (Or.inl rfl) (pv 6)) (d5 (a1y PassesOwn.leaving (PW.pt (a1n (m9 a1z (pv 7) (m5 (l9 (K:=K)) rfl T.z_len D0 (a6 (pv 3) c8)) (m8 _)) (a1n (m9 N4 (i5 (k7 (K:=K)) (pv 3) (pv 7) (fun _ _=>rfl)) (i5 (k7 (K:=K)) (pv 3) (pv 6) (fun _ _=>rfl)) (m8 _)) (a2j (m9 a1z (pv 7) (d9 A7 (d9 A7 (pv 6) a9) (d9 v5 (pv 5) a9)) (m8 _)))))) (g8 (i7 (i:=7) D8.nd rfl (Or.inl rfl) (d9 A7 (pv 7) a9)))) (d5 (i7 (i:=8) D8.nd rfl (Or.inl rfl) (i5 (k7 (K:=K)) (pv 3) (pv 6) (fun _ _=>rfl))) (d5 (i7 (i:=9) D8.nd rfl (Or.inl rfl) (d9 A7 (d9 A7 (pv 8) a9) (d9 v5 (d9 B4 (pv 5) a9) a9))) (d5 (D6 (PW.pt (a1n (m9 N4 (d9 v5 (d9 B4 (pv 5) a9) a9) a9 (m8 _)) (a1n (m9 a1z (pv 7) (m5 (l9 (K:=K)) rfl T.z_len D0 (a6 (pv 3) c8)) (m8 _)) (a2j (m9 a2l (i5 (k7 (K:=K)) (pv 3) (pv 7) (fun _ _=>rfl)) (pv 8) (m8 _)))))) (g8 (i7 (i:=9) D8.nd rfl (Or.inl rfl) (i5 (k7 (K:=K)) (pv 3) (pv 7) (fun _ _=>rfl)))) B3) (d5 (N7 (Q6 (K:=K) PySem.F.plainAttrs_list PySem.F.slot_list_append PySem.F.type_list_append F5 (pv 4) (a6 (x5 (a6 (i5 (k7 (K:=K)) (pv 1) (pv 6) (fun _ _=>rfl)) (a6 (d9 A8 (pv 8) (pv 2)) (a6 (i5 (k7 (K:=K)) (pv 1) (pv 7) (fun _ _=>rfl)) (a6 (d9 A8 (pv 9) (pv 2)) c8))))) c8))) (g8 (M4 PassesOwn.leaving rfl (a4p rfl T.z_range (a6 (pv 6) (a6 (pv 7) c8))) (i6 (i:=10) D8.nd rfl (Or.inl rfl)) (g8 (M3 (pv 9) (a1Z (pv 3) (pv 10) a0R)))))))))))))) (g8 (p7 (pv 4)))))),(d7 (a1P (a6U (by decide) (U2 (a3z (a1Q d6) b4G)) (i0 (k:=1) (by decide)) L3 d6)) (d7 (G8 (a0V g9)) (d7 (a34 (i0 (k:=11) (by decide)) (d7 (n6 (a8 v7 a7 (J4 D1))) (d7 (n6 (a8 E8 a7 (J4 D1))) (d7 (n6 a7) (d7 (a1N (a0N (x8 (a8 a1K a7 (J4 D1))) (a0N (x8 (a8 N5 (n8 n5 a7) (n8 n5 a7))) (x8 (a8 a1K a7 (a8 B0 (a8 B0 a7 d6) (a8 v7 a7 d6)))))) (n6 (a8 B0 a7 d6))) (d7 (n6 (n8 n5 a7)) (d7 (n6 (a8 B0 (a8 B0 a7 d6) (a8 v7 (a8 E8 a7 d6) d6))) (d7 (C0 (a0N (x8 (a8 N5 (a8 v7 (a8 E8 a7 d6) d6) d6)) (a0N (x8 (a8 a1K a7 (J4 D1))) (x8 (a8 a2p (n8 n5 a7) a7)))) (n6 (n8 n5 a7)) G0) (d7 (S8 (E6 (b9 (n8 n5 a7) (b9 (a8 C6 a7 a7) (b9 (n8 n5 a7) (b9 (a8 C6 a7 a7) g9)))))) (a5G (b9 a7 (b9 a7 g9)) (i0 (k:=11) (by decide)) (a17 a7 a7))))))))))) a0O)))⟩
def a9e:SF:=(c6 (u9 1 (a3w P4 1 [] (aC (eC (.int 60)) aN) (c7 0) D7 (eC (.int 0)))) (c6 (u9 2 (eL aN)) (c6 (u9 3 (eL aN)) (c6 (a09 0 (c7 4) (c6 (j7 5 (eB l5 (eV 4) (eC (.int 60)))) (c6 (j7 4 (eB r9 (eV 4) (eC (.int 60)))) (c6 (j7 6 (eB u5 (eB u5 (eV 5) (eC (.int 1))) (eB l5 (eV 4) (eB w6 (eC (.int 60)) (eV 5))))) (c6 (j7 4 (eB r9 (eV 4) (eB w6 (eC (.int 60)) (eV 5)))) (c6 (j7 7 (eB u5 (eB u5 (m7 j6 1 (eV 5)) (eC (.int 1))) (eB l5 (eV 4) (eC (.int 1000))))) (c6 (j7 4 (eB r9 (eV 4) (eC (.int 1000)))) (A4 (bZ (eB (I0 false) (zN (T3 1 (oS (eV 5)) (oS (eV 6)))) (zN (nB a0u (zN (eL (aC (m7 j6 1 (eV 5)) aN))) (eB w6 (eV 6) (eV 5)))))) (c6 (K0 2 (eT (aC (eV 5) (aC (m7 j6 1 (eV 5)) (aC (eV 6) (aC (eV 7) aN)))))) (c6 (K0 3 (eB l5 (eV 4) (eB u5 (eB S1 (eC (.int 10)) (eC (.int 40))) (eC (.int 1))))) (C8 Y3 (aC (eV 5) (aC (eV 6) aN)) (c7 8) (U9 1 (eV 8) (eV 7))))) B9)))))))) (t9 (eT (aC (eV 2) (aC (eV 3) aN))))))))
def X2:List D→Option R1:=fD 9 1 a9e
theorem D9:FnScope ["_law_cells","_law_tops","_law_spots","_law_weights_here","_law_cell","_law_start","_law_end","_law_high","_law_k"] ["_law_cells"] (c9 O4):=⟨rfl,rfl,rfl,by decide +kernel,rfl,by decide +kernel,by decide +kernel⟩
theorem a77{f:Addr}{fd:FuncData}(F:Fun K "_law_piled" "_law_piled" O4 f fd)(T:Txt K mg c)  : FnOk P w K mg base (B7 P w) 3 f fd ["_law_cells"] (k8 K c X2) :=
 F.okD (k:=2) D9 fun cdv A outer s H E hr=>⟨_,(d5 (a1E (i:=1) (Nc:=["_law_k"]) (k:=1) (js:=[]) rfl ⟨by decide +kernel,rfl,by decide +kernel,(by change ∀y∈Scope.names _,y.2=NameKind.free→(c9 O4).names.lookup y.1=some .cell∨(c9 O4).names.lookup y.1=some .free;decide +kernel),by decide +kernel,rfl,rfl,by decide +kernel⟩ D9.nd rfl (S2 rfl T.z_range (a6 a9 c8)) (fun _ _ _ _ _=>(i6 (i:=0) (by show List.Nodup [("_law_k" : Str)];decide +kernel) rfl (Or.inl rfl))) (fun _ _ _ _ _=>S5) (fun _ _ _ _ _=>a9)) (d5 (i7 (i:=2) D9.nd rfl (Or.inl rfl) (S3 c8)) (d5 (i7 (i:=3) D9.nd rfl (Or.inl rfl) (S3 c8)) (d5 (M4 PassesOwn.leaving rfl (J5 (pv 0)) (i6 (i:=4) D9.nd rfl (Or.inl rfl)) (d5 (i7 (i:=5) D9.nd rfl (Or.inl rfl) (d9 v5 (pv 4) a9)) (d5 (i7 (i:=4) D9.nd rfl (Or.inl rfl) (d9 B4 (pv 4) a9)) (d5 (i7 (i:=6) D9.nd rfl (Or.inl rfl) (d9 A7 (d9 A7 (pv 5) a9) (d9 v5 (pv 4) (d9 E5 a9 (pv 5))))) (d5 (i7 (i:=4) D9.nd rfl (Or.inl rfl) (d9 B4 (pv 4) (d9 E5 a9 (pv 5)))) (d5 (i7 (i:=7) D9.nd rfl (Or.inl rfl) (d9 A7 (d9 A7 (i5 (k7 (K:=K)) (pv 1) (pv 5) (fun _ _=>rfl)) a9) (d9 v5 (pv 4) a9))) (d5 (i7 (i:=4) D9.nd rfl (Or.inl rfl) (d9 B4 (pv 4) a9)) (g8 (D6 (m9 (a4b (K:=K) (cl:=c) (a4a hr)) (a1A (a1F (K:=K)) (pv 1) (Z6 (pv 5)) (Z6 (pv 6))) (d9 a8t (S3 (a6 (i5 (k7 (K:=K)) (pv 1) (pv 5) (fun _ _=>rfl)) c8)) (d9 E5 (pv 6) (pv 5))) (m8 _)) (d5 (N7 (Q6 (K:=K) PySem.F.plainAttrs_list PySem.F.slot_list_append PySem.F.type_list_append F5 (pv 2) (a6 (x5 (a6 (pv 5) (a6 (i5 (k7 (K:=K)) (pv 1) (pv 5) (fun _ _=>rfl)) (a6 (pv 6) (a6 (pv 7) c8))))) c8))) (d5 (N7 (Q6 (K:=K) PySem.F.plainAttrs_list PySem.F.slot_list_append PySem.F.type_list_append F5 (pv 3) (a6 (d9 v5 (pv 4) (d9 A7 (d9 a29 a9 a9) a9)) c8))) (g8 (M4 PassesOwn.leaving rfl (a4p rfl T.z_range (a6 (pv 5) (a6 (pv 6) c8))) (i6 (i:=8) D9.nd rfl (Or.inl rfl)) (g8 (M3 (pv 7) (a1Z (pv 1) (pv 8) a0R))))))) B3))))))))) (g8 (p7 (x5 (a6 (pv 2) (a6 (pv 3) c8))))))))),(d7 (a1P (a8N (by decide) (b9 d6 g9) (i0 (k:=1) (by decide)) L3 d6)) (d7 (G8 (a0V g9)) (d7 (G8 (a0V g9)) (d7 (a34 (i0 (k:=9) (by decide)) (d7 (n6 (a8 v7 a7 d6)) (d7 (n6 (a8 E8 a7 d6)) (d7 (n6 (a8 B0 (a8 B0 a7 d6) (a8 v7 a7 (a8 E7 d6 a7)))) (d7 (n6 (a8 E8 a7 (a8 E7 d6 a7))) (d7 (n6 (a8 B0 (a8 B0 (n8 n5 a7) d6) (a8 v7 a7 d6))) (d7 (n6 (a8 E8 a7 d6)) (C0 (x8 (a8 a1t (U2 (a3z (a1Q a7) (a1Q a7))) (U2 (b1i a8L (U2 (a0V (b9 (n8 n5 a7) g9))) (a8 E7 a7 a7))))) (d7 (S8 (E6 (b9 a7 (b9 (n8 n5 a7) (b9 a7 (b9 a7 g9)))))) (d7 (S8 (a8 v7 a7 (a8 B0 (a8 a3p d6 d6) d6))) (a5G (b9 a7 (b9 a7 g9)) (i0 (k:=9) (by decide)) (a17 a7 a7)))) G0)))))))) (B1 (E6 (b9 a7 (b9 a7 g9))))))))⟩
def a9f:SF:=(c6 (u9 2 (nCV P0 0)) (c6 (u9 3 (eL aN)) (c6 (v8 (bZ (eB gGt (y8 r8 2) (eC (.int 0)))) (c6 (K0 3 (a0q 2 (eB l5 (eV 1) (y8 r8 2)))) (j7 1 (eB r9 (eV 1) (eB u5 (y8 r8 2) (eC (.int 1)))))) 1000000) (P3 3))))
def X3:List D→Option R1:=fD 4 2 a9f
theorem a0J:FnScope ["_law_rows","_law_cell","_law_left","_law_found"] ["_law_rows","_law_cell"] (c9 W8):=⟨rfl,rfl,rfl,by decide +kernel,rfl,by decide +kernel,by decide +kernel⟩
theorem a78{f:Addr}{fd:FuncData}(F:Fun K "_law_order" "_law_order" W8 f fd)(T:Txt K mg c)  : FnOk P w K mg base (B7 P w) 3 f fd ["_law_rows","_law_cell"] (k8 K c X3) :=
 F.okD (k:=2) a0J fun cdv A outer s H E hr=>⟨_,(d5 (i7 (i:=2) a0J.nd rfl (Or.inl rfl) (V9 (Q5 (K:=K)) rfl T.z_list a0M (a6 (pv 0) c8))) (d5 (i7 (i:=3) a0J.nd rfl (Or.inl rfl) (S3 c8)) (d5 (a1y PassesOwn.leaving (m9 a2l (m5 (l9 (K:=K)) rfl T.z_len D0 (a6 (pv 2) c8)) a9 (m8 _)) (d5 (N7 (Q6 (K:=K) PySem.F.plainAttrs_list PySem.F.slot_list_append PySem.F.type_list_append F5 (pv 3) (a6 (Q6 (K:=K) PySem.F.plainAttrs_list PySem.F.slot_list_pop PySem.F.type_list_pop a9Q (pv 2) (a6 (d9 v5 (pv 1) (m5 (l9 (K:=K)) rfl T.z_len D0 (a6 (pv 2) c8))) c8)) c8))) (g8 (i7 (i:=1) a0J.nd rfl (Or.inl rfl) (d9 B4 (pv 1) (d9 A7 (m5 (l9 (K:=K)) rfl T.z_len D0 (a6 (pv 2) c8)) a9)))))) (g8 (p7 (pv 3)))))),(d7 (G8 (a15 a1q)) (d7 (G8 (a0V g9)) (d7 (a1N (x8 (a8 a2p (J4 D1) d6)) (d7 (S8 (a87 (a8 v7 a7 (J4 D1)))) (n6 (a8 E8 a7 (a8 B0 (J4 D1) d6))))) a0O)))⟩
def a5W:SF:=(c6 (V0 (j9 X2 (aC (eV 0) aN)) (x9 [(c7 2),(c7 3)])) (c6 (u9 4 (eL aN)) (c6 (C8 P4 (aC (y8 r8 2) aN) (c7 5) (c6 (V0 (m7 j6 2 (eV 5)) (x9 [(c7 6),(c7 7),(c7 8),(c7 9)])) (c6 (A4 (bZ (eB (B8 false) (eB l5 (eV 1) (eC (.int 3))) (eC (.int 0)))) (K0 4 (eT (aC (eT (aC (eB w6 (eV 9) (eV 7)) (aC (eB w6 (eV 8) (eV 6)) (aC (eC (.bl true)) aN)))) (aC (eT (aC (eV 6) (aC (eV 7) (aC (eC (.bl true)) aN)))) (aC (m7 j6 2 (eV 5)) (aC (m7 j6 3 (eV 5)) aN)))))) (K0 4 (eT (aC (eT (aC (eB w6 (eV 8) (eV 6)) (aC (eB w6 (eV 9) (eV 7)) (aC (eB (B8 false) (eB l5 (eV 1) (eC (.int 3))) (eC (.int 1))) aN)))) (aC (eT (aC (eV 6) (aC (eV 7) (aC (eC (.bl false)) aN)))) (aC (m7 j6 2 (eV 5)) (aC (m7 j6 3 (eV 5)) aN))))))) (j7 1 (eB r9 (eV 1) (eC (.int 3))))))) (c6 (y9 4 X3 (aC (eV 4) (aC (eV 1) aN))) (a04 (N8 4 1 [] (c7 0) D7 (eB i8 (eV 0) (eC (.int 0)))) (N8 4 1 [] (c7 0) D7 (eB i8 (eV 0) (eC (.int 1)))) (N8 4 1 [] (c7 0) D7 (eB i8 (eV 0) (eC (.int 2)))) (N8 4 1 [] (c7 0) D7 (eB i8 (eV 0) (eC (.int 3)))))))))
def D3:List D→Option R1:=fD 10 2 a5W
theorem C1:FnScope ["_law_cells","_law_cell","_law_spots","_law_weights_here","_law_rows","_law_k","_law_x","_law_y","_law_x2","_law_y2"] ["_law_cells","_law_cell"] (c9 y3):=⟨rfl,rfl,rfl,by decide +kernel,rfl,by decide +kernel,by decide +kernel⟩
theorem a45{f:Addr}{fd:FuncData}(F:Fun K "_law_any_pile" "_law_any_pile" y3 f fd)(T:Txt K mg c)(G_l_piled:Own P w K mg base 3 "_law_piled" ["_law_cells"] (k8 K c X2))(G_l_order:Own P w K mg base 3 "_law_order" ["_law_rows","_law_cell"] (k8 K c X3)):FnOk P w K mg base (B7 P w) 5 f fd ["_law_cells","_law_cell"] (k8 K c D3) :=
 F.okD (k:=4) C1 fun cdv A outer s H E hr=>⟨_,(d5 (M3 (r6 G_l_piled hr (by decide) v9 (a6 (pv 0) c8)) (G6 (K:=K) (n:=2) rfl (k6 (i6 (i:=2) C1.nd rfl (Or.inl rfl)) (k6 (i6 (i:=3) C1.nd rfl (Or.inl rfl)) G5)))) (d5 (i7 (i:=4) C1.nd rfl (Or.inl rfl) (S3 c8)) (d5 (M4 PassesOwn.leaving rfl (S2 rfl T.z_range (a6 (m5 (l9 (K:=K)) rfl T.z_len D0 (a6 (pv 2) c8)) c8)) (i6 (i:=5) C1.nd rfl (Or.inl rfl)) (d5 (M3 (i5 (k7 (K:=K)) (pv 2) (pv 5) (fun _ _=>rfl)) (G6 (K:=K) (n:=4) rfl (k6 (i6 (i:=6) C1.nd rfl (Or.inl rfl)) (k6 (i6 (i:=7) C1.nd rfl (Or.inl rfl)) (k6 (i6 (i:=8) C1.nd rfl (Or.inl rfl)) (k6 (i6 (i:=9) C1.nd rfl (Or.inl rfl)) G5)))))) (d5 (D6 (m9 N4 (d9 v5 (pv 1) a9) a9 (m8 _)) (g8 (N7 (Q6 (K:=K) PySem.F.plainAttrs_list PySem.F.slot_list_append PySem.F.type_list_append F5 (pv 4) (a6 (x5 (a6 (x5 (a6 (d9 E5 (pv 9) (pv 7)) (a6 (d9 E5 (pv 8) (pv 6)) (a6 T7 c8)))) (a6 (x5 (a6 (pv 6) (a6 (pv 7) (a6 T7 c8)))) (a6 (i5 (k7 (K:=K)) (pv 2) (pv 5) (fun _ _=>rfl)) (a6 (i5 (k7 (K:=K)) (pv 3) (pv 5) (fun _ _=>rfl)) c8))))) c8)))) (g8 (N7 (Q6 (K:=K) PySem.F.plainAttrs_list PySem.F.slot_list_append PySem.F.type_list_append F5 (pv 4) (a6 (x5 (a6 (x5 (a6 (d9 E5 (pv 8) (pv 6)) (a6 (d9 E5 (pv 9) (pv 7)) (a6 (Z5 N4 (d9 v5 (pv 1) a9) a9 (m8 _)) c8)))) (a6 (x5 (a6 (pv 6) (a6 (pv 7) (a6 T7 c8)))) (a6 (i5 (k7 (K:=K)) (pv 2) (pv 5) (fun _ _=>rfl)) (a6 (i5 (k7 (K:=K)) (pv 3) (pv 5) (fun _ _=>rfl)) c8))))) c8))))) (g8 (i7 (i:=1) C1.nd rfl (Or.inl rfl) (d9 B4 (pv 1) a9)))))) (d5 (i7 (i:=4) C1.nd rfl (Or.inl rfl) (r6 G_l_order hr (by decide) v9 (a6 (pv 4) (a6 (pv 1) c8)))) (g8 (p7 (x5 (a6 (U1 (Nc:=["_law_row"]) (k:=1) (js:=[]) rfl ⟨by decide +kernel,rfl,by decide +kernel,(by change ∀y∈Scope.names _,y.2=NameKind.free→(c9 y3).names.lookup y.1=some .cell∨(c9 y3).names.lookup y.1=some .free;decide +kernel),by decide +kernel,rfl,rfl,by decide +kernel⟩ (J5 (pv 4)) (fun _ _ _ _ _=>(i6 (i:=0) (by show List.Nodup [("_law_row" : Str)];decide +kernel) rfl (Or.inl rfl))) (fun _ _ _ _ _=>S5) (fun _ _ _ _ _=>(i5 (j8 (K:=K)) (pv 0) a9 (fun _ _=>rfl)))) (a6 (U1 (Nc:=["_law_row"]) (k:=1) (js:=[]) rfl ⟨by decide +kernel,rfl,by decide +kernel,(by change ∀y∈Scope.names _,y.2=NameKind.free→(c9 y3).names.lookup y.1=some .cell∨(c9 y3).names.lookup y.1=some .free;decide +kernel),by decide +kernel,rfl,rfl,by decide +kernel⟩ (J5 (pv 4)) (fun _ _ _ _ _=>(i6 (i:=0) (by show List.Nodup [("_law_row" : Str)];decide +kernel) rfl (Or.inl rfl))) (fun _ _ _ _ _=>S5) (fun _ _ _ _ _=>(i5 (j8 (K:=K)) (pv 0) a9 (fun _ _=>rfl)))) (a6 (U1 (Nc:=["_law_row"]) (k:=1) (js:=[]) rfl ⟨by decide +kernel,rfl,by decide +kernel,(by change ∀y∈Scope.names _,y.2=NameKind.free→(c9 y3).names.lookup y.1=some .cell∨(c9 y3).names.lookup y.1=some .free;decide +kernel),by decide +kernel,rfl,rfl,by decide +kernel⟩ (J5 (pv 4)) (fun _ _ _ _ _=>(i6 (i:=0) (by show List.Nodup [("_law_row" : Str)];decide +kernel) rfl (Or.inl rfl))) (fun _ _ _ _ _=>S5) (fun _ _ _ _ _=>(i5 (j8 (K:=K)) (pv 0) a9 (fun _ _=>rfl)))) (a6 (U1 (Nc:=["_law_row"]) (k:=1) (js:=[]) rfl ⟨by decide +kernel,rfl,by decide +kernel,(by change ∀y∈Scope.names _,y.2=NameKind.free→(c9 y3).names.lookup y.1=some .cell∨(c9 y3).names.lookup y.1=some .free;decide +kernel),by decide +kernel,rfl,rfl,by decide +kernel⟩ (J5 (pv 4)) (fun _ _ _ _ _=>(i6 (i:=0) (by show List.Nodup [("_law_row" : Str)];decide +kernel) rfl (Or.inl rfl))) (fun _ _ _ _ _=>S5) (fun _ _ _ _ _=>(i5 (j8 (K:=K)) (pv 0) a9 (fun _ _=>rfl)))) c8))))))))))),(d7 (a0n (B5 (b9 a7 g9)) (J7 (l6 (i0 (k:=10) (by decide)) (l6 (i0 (k:=10) (by decide)) J6)) rfl)) (d7 (G8 (a0V g9)) (d7 (Z8 (b9 (J4 D1) g9) (i0 (k:=10) (by decide)) (d7 (a0n (n8 n5 a7) (J7 (l6 (i0 (k:=10) (by decide)) (l6 (i0 (k:=10) (by decide)) (l6 (i0 (k:=10) (by decide)) (l6 (i0 (k:=10) (by decide)) J6)))) rfl)) (d7 (C0 (x8 (a8 N5 (a8 v7 a7 d6) d6)) (S8 (E6 (b9 (E6 (b9 (a8 E7 a7 a7) (b9 (a8 E7 a7 a7) (b9 d6 g9)))) (b9 (E6 (b9 a7 (b9 a7 (b9 d6 g9)))) (b9 (n8 n5 a7) (b9 (n8 n5 a7) g9)))))) (S8 (E6 (b9 (E6 (b9 (a8 E7 a7 a7) (b9 (a8 E7 a7 a7) (b9 (a8 N5 (a8 v7 a7 d6) d6) g9)))) (b9 (E6 (b9 a7 (b9 a7 (b9 d6 g9)))) (b9 (n8 n5 a7) (b9 (n8 n5 a7) g9))))))) (n6 (a8 E8 a7 d6))))) (d7 (K9 (b9 a7 (b9 a7 g9))) (b0J (T1 (by decide) (i0 (k:=1) (by decide)) L3 (a8 l4 a7 d6)) (T1 (by decide) (i0 (k:=1) (by decide)) L3 (a8 l4 a7 d6)) (T1 (by decide) (i0 (k:=1) (by decide)) L3 (a8 l4 a7 d6)) (T1 (by decide) (i0 (k:=1) (by decide)) L3 (a8 l4 a7 d6)))))))⟩
def b0N:SF:=(c6 (u9 2 (eL aN)) (c6 (j7 3 (eB t8 (eB l5 (eB r9 (eV 1) (eC (.int 3))) (eC (.int 5))) (eB l5 (eB r9 (eV 1) (eC (.int 15))) (eB S1 (eC (.int 10)) (eC (.int 6)))))) (c6 (C8 P4 (aC (y8 r8 0) aN) (c7 4) (c6 (V0 (m7 j6 0 (eV 4)) (x9 [(c7 5),(c7 6),(c7 7),(c7 8)])) (c6 (y9 9 x4 (aC (eV 1) (aC (eV 4) aN))) (c6 (j7 10 (eT (aC (eB w6 (eV 7) (eV 5)) (aC (eB w6 (eV 8) (eV 6)) (aC (eB (B8 false) (eB l5 (eB r9 (eV 9) (eC (.int 6))) (eC (.int 2))) (eC (.int 0))) aN))))) (c6 (A4 (bZ (eB (B8 false) (eB l5 (eV 9) (eC (.int 3))) (eC (.int 0)))) (j7 10 (eT (aC (eB w6 (eV 8) (eV 6)) (aC (eB w6 (eV 7) (eV 5)) (aC (eC (.bl true)) aN))))) B9) (K0 2 (eT (aC (eB r9 (eV 9) (eC (.int 2))) (aC (eV 4) (aC (eV 10) (aC (eT (aC (eB w6 (eV 5) (eV 3)) (aC (eV 6) (aC (eB (B8 false) (eB l5 (eV 9) (eC (.int 3))) (eC (.int 0))) aN)))) (aC (eT (aC (eB w6 (eV 5) (eV 3)) (aC (eV 6) (aC (eB w6 (eV 7) (eV 3)) (aC (eV 8) aN))))) aN)))))))))))) (c6 (u9 2 (nCV a1u 2)) (t9 (eT (aC (zN (N8 2 1 [] (c7 0) D7 (eB i8 (eV 0) (eC (.int 2))))) (aC (zN (N8 2 1 [] (c7 0) D7 (eB i8 (eV 0) (eC (.int 3))))) (aC (zN (N8 2 1 [] (c7 0) D7 (eB i8 (eV 0) (eC (.int 4))))) aN)))))))))
def T4:List D→Option R1:=fD 11 2 b0N
theorem F7:FnScope ["_law_spots","_law_cell","_law_rows","_law_off","_law_k","_law_x","_law_y","_law_x2","_law_y2","_law_mix","_law_ware"] ["_law_spots","_law_cell"] (c9 K3):=⟨rfl,rfl,rfl,by decide +kernel,rfl,by decide +kernel,by decide +kernel⟩
theorem a9g{f:Addr}{fd:FuncData}(F:Fun K "_law_laid" "_law_laid" K3 f fd)(T:Txt K mg c)(G_l_mixed:Own P w K mg base 3 "_law_mixed" ["_law_cell","_law_k"] (k8 K c x4)):FnOk P w K mg base (B7 P w) 5 f fd ["_law_spots","_law_cell"] (k8 K c T4) :=
 F.okD (k:=4) F7 fun cdv A outer s H E hr=>⟨_,(d5 (i7 (i:=2) F7.nd rfl (Or.inl rfl) (S3 c8)) (d5 (i7 (i:=3) F7.nd rfl (Or.inl rfl) (d9 A8 (d9 v5 (d9 B4 (pv 1) a9) a9) (d9 v5 (d9 B4 (pv 1) a9) (d9 a29 a9 a9)))) (d5 (M4 PassesOwn.leaving rfl (S2 rfl T.z_range (a6 (m5 (l9 (K:=K)) rfl T.z_len D0 (a6 (pv 0) c8)) c8)) (i6 (i:=4) F7.nd rfl (Or.inl rfl)) (d5 (M3 (i5 (k7 (K:=K)) (pv 0) (pv 4) (fun _ _=>rfl)) (G6 (K:=K) (n:=4) rfl (k6 (i6 (i:=5) F7.nd rfl (Or.inl rfl)) (k6 (i6 (i:=6) F7.nd rfl (Or.inl rfl)) (k6 (i6 (i:=7) F7.nd rfl (Or.inl rfl)) (k6 (i6 (i:=8) F7.nd rfl (Or.inl rfl)) G5)))))) (d5 (i7 (i:=9) F7.nd rfl (Or.inl rfl) (r6 G_l_mixed hr (by decide) v9 (a6 (pv 1) (a6 (pv 4) c8)))) (d5 (i7 (i:=10) F7.nd rfl (Or.inl rfl) (x5 (a6 (d9 E5 (pv 7) (pv 5)) (a6 (d9 E5 (pv 8) (pv 6)) (a6 (Z5 N4 (d9 v5 (d9 B4 (pv 9) a9) a9) a9 (m8 _)) c8))))) (d5 (D6 (m9 N4 (d9 v5 (pv 9) a9) a9 (m8 _)) (g8 (i7 (i:=10) F7.nd rfl (Or.inl rfl) (x5 (a6 (d9 E5 (pv 8) (pv 6)) (a6 (d9 E5 (pv 7) (pv 5)) (a6 T7 c8)))))) B3) (g8 (N7 (Q6 (K:=K) PySem.F.plainAttrs_list PySem.F.slot_list_append PySem.F.type_list_append F5 (pv 2) (a6 (x5 (a6 (d9 B4 (pv 9) a9) (a6 (pv 4) (a6 (pv 10) (a6 (x5 (a6 (d9 E5 (pv 5) (pv 3)) (a6 (pv 6) (a6 (Z5 N4 (d9 v5 (pv 9) a9) a9 (m8 _)) c8)))) (a6 (x5 (a6 (d9 E5 (pv 5) (pv 3)) (a6 (pv 6) (a6 (d9 E5 (pv 7) (pv 3)) (a6 (pv 8) c8))))) c8)))))) c8))))))))) (d5 (i7 (i:=2) F7.nd rfl (Or.inl rfl) (m5 (a6q (K:=K)) rfl T.z_sorted a8D (a6 (pv 2) c8))) (g8 (p7 (x5 (a6 (U1 (Nc:=["_law_row"]) (k:=1) (js:=[]) rfl ⟨by decide +kernel,rfl,by decide +kernel,(by change ∀y∈Scope.names _,y.2=NameKind.free→(c9 K3).names.lookup y.1=some .cell∨(c9 K3).names.lookup y.1=some .free;decide +kernel),by decide +kernel,rfl,rfl,by decide +kernel⟩ (J5 (pv 2)) (fun _ _ _ _ _=>(i6 (i:=0) (by show List.Nodup [("_law_row" : Str)];decide +kernel) rfl (Or.inl rfl))) (fun _ _ _ _ _=>S5) (fun _ _ _ _ _=>(i5 (j8 (K:=K)) (pv 0) a9 (fun _ _=>rfl)))) (a6 (U1 (Nc:=["_law_row"]) (k:=1) (js:=[]) rfl ⟨by decide +kernel,rfl,by decide +kernel,(by change ∀y∈Scope.names _,y.2=NameKind.free→(c9 K3).names.lookup y.1=some .cell∨(c9 K3).names.lookup y.1=some .free;decide +kernel),by decide +kernel,rfl,rfl,by decide +kernel⟩ (J5 (pv 2)) (fun _ _ _ _ _=>(i6 (i:=0) (by show List.Nodup [("_law_row" : Str)];decide +kernel) rfl (Or.inl rfl))) (fun _ _ _ _ _=>S5) (fun _ _ _ _ _=>(i5 (j8 (K:=K)) (pv 0) a9 (fun _ _=>rfl)))) (a6 (U1 (Nc:=["_law_row"]) (k:=1) (js:=[]) rfl ⟨by decide +kernel,rfl,by decide +kernel,(by change ∀y∈Scope.names _,y.2=NameKind.free→(c9 K3).names.lookup y.1=some .cell∨(c9 K3).names.lookup y.1=some .free;decide +kernel),by decide +kernel,rfl,rfl,by decide +kernel⟩ (J5 (pv 2)) (fun _ _ _ _ _=>(i6 (i:=0) (by show List.Nodup [("_law_row" : Str)];decide +kernel) rfl (Or.inl rfl))) (fun _ _ _ _ _=>S5) (fun _ _ _ _ _=>(i5 (j8 (K:=K)) (pv 0) a9 (fun _ _=>rfl)))) c8)))))))))),(d7 (G8 (a0V g9)) (d7 (n6 (a8 C6 (a8 v7 (a8 E8 a7 d6) d6) (a8 v7 (a8 E8 a7 d6) (a8 a3p d6 d6)))) (d7 (Z8 (b9 (J4 D1) g9) (i0 (k:=11) (by decide)) (d7 (a0n (n8 n5 a7) (J7 (l6 (i0 (k:=11) (by decide)) (l6 (i0 (k:=11) (by decide)) (l6 (i0 (k:=11) (by decide)) (l6 (i0 (k:=11) (by decide)) J6)))) rfl)) (d7 (K9 (b9 a7 (b9 a7 g9))) (d7 (n6 (E6 (b9 (a8 E7 a7 a7) (b9 (a8 E7 a7 a7) (b9 (a8 N5 (a8 v7 (a8 E8 a7 d6) d6) d6) g9))))) (d7 (C0 (x8 (a8 N5 (a8 v7 a7 d6) d6)) (n6 (E6 (b9 (a8 E7 a7 a7) (b9 (a8 E7 a7 a7) (b9 d6 g9))))) G0) (S8 (E6 (b9 (a8 E8 a7 d6) (b9 a7 (b9 a7 (b9 (E6 (b9 (a8 E7 a7 a7) (b9 a7 (b9 (a8 N5 (a8 v7 a7 d6) d6) g9)))) (b9 (E6 (b9 (a8 E7 a7 a7) (b9 a7 (b9 (a8 E7 a7 a7) (b9 a7 g9))))) g9)))))))))))) (d7 (G8 (a15 b0F)) (B1 (E6 (b9 (U2 (T1 (by decide) (i0 (k:=1) (by decide)) L3 (a8 l4 a7 d6))) (b9 (U2 (T1 (by decide) (i0 (k:=1) (by decide)) L3 (a8 l4 a7 d6))) (b9 (U2 (T1 (by decide) (i0 (k:=1) (by decide)) L3 (a8 l4 a7 d6))) g9)))))))))⟩
def a4R:SF:=(t9 (eB w6 (eCB a0H (aC (eB i8 (eV 0) (eC (.int 2))) (aC (eB i8 (eV 1) (eC (.int 2))) aN))) (eCB a0G (aC (eB i8 (eV 0) (eC (.int 0))) (aC (eB i8 (eV 1) (eC (.int 0))) aN)))))
def E3:List D→Option R1:=fD 2 2 a4R
theorem a79:FnScope ["_law_one","_law_other"] ["_law_one","_law_other"] (c9 W9):=⟨rfl,rfl,rfl,by decide +kernel,rfl,by decide +kernel,by decide +kernel⟩
theorem a7_{f:Addr}{fd:FuncData}(F:Fun K "_law_touch" "_law_touch" W9 f fd)(T:Txt K mg c)  : FnOk P w K mg base (B7 P w) 3 f fd ["_law_one","_law_other"] (k8 K c E3) :=
 F.okD (k:=2) a79 fun cdv A outer s H E hr=>⟨_,(g8 (p7 (d9 E5 (m5 (a4s rfl) rfl T.z_min a80 (a6 (i5 (j8 (K:=K)) (pv 0) a9 (fun _ _=>rfl)) (a6 (i5 (j8 (K:=K)) (pv 1) a9 (fun _ _=>rfl)) c8))) (m5 (a4r rfl) rfl T.z_max a8A (a6 (i5 (j8 (K:=K)) (pv 0) a9 (fun _ _=>rfl)) (a6 (i5 (j8 (K:=K)) (pv 1) a9 (fun _ _=>rfl)) c8)))))),(B1 (a8 E7 (a1J a61 (b9 (a8 l4 a7 d6) (b9 (a8 l4 a7 d6) g9))) (a1J a60 (b9 (a8 l4 a7 d6) (b9 (a8 l4 a7 d6) g9)))))⟩
def a6A:SF:=(c6 (u9 2 (eL aN)) (c6 (C8 P4 (aC (eV 1) aN) (c7 3) (c6 (y9 4 x4 (aC (eB u5 (eV 0) (eC (.int 5))) (aC (eB t8 (eC (.int 2)) (eV 3)) aN))) (A4 (bZ (eB (B8 false) (eB l5 (eV 4) (eC (.int 4))) (eC (.int 0)))) (K0 2 (eC (.int 0))) (A4 (bZ (eB (B8 false) (eB l5 (eV 4) (eC (.int 4))) (eC (.int 1)))) (K0 2 (eB l5 (eB t8 (eB l5 (eV 0) (eB S1 (eC (.int 10)) (eC (.int 31)))) (eV 4)) (eB u5 (eB S1 (eC (.int 10)) (eC (.int 40))) (eC (.int 1))))) (K0 2 (eB l5 (eB r9 (eV 4) (eC (.int 4))) (eC (.int 10)))))))) (P3 2)))
def K6:List D→Option R1:=fD 5 2 a6A
theorem Z0:FnScope ["_law_cell","_law_count","_law_weights_here","_law_k","_law_mix"] ["_law_cell","_law_count"] (c9 R8):=⟨rfl,rfl,rfl,by decide +kernel,rfl,by decide +kernel,by decide +kernel⟩
theorem a5X{f:Addr}{fd:FuncData}(F:Fun K "_law_weights" "_law_weights" R8 f fd)(T:Txt K mg c)(G_l_mixed:Own P w K mg base 3 "_law_mixed" ["_law_cell","_law_k"] (k8 K c x4)):FnOk P w K mg base (B7 P w) 5 f fd ["_law_cell","_law_count"] (k8 K c K6) :=
 F.okD (k:=4) Z0 fun cdv A outer s H E hr=>⟨_,(d5 (i7 (i:=2) Z0.nd rfl (Or.inl rfl) (S3 c8)) (d5 (M4 PassesOwn.leaving rfl (S2 rfl T.z_range (a6 (pv 1) c8)) (i6 (i:=3) Z0.nd rfl (Or.inl rfl)) (d5 (i7 (i:=4) Z0.nd rfl (Or.inl rfl) (r6 G_l_mixed hr (by decide) v9 (a6 (d9 A7 (pv 0) a9) (a6 (d9 A8 a9 (pv 3)) c8)))) (g8 (D6 (m9 N4 (d9 v5 (pv 4) a9) a9 (m8 _)) (g8 (N7 (Q6 (K:=K) PySem.F.plainAttrs_list PySem.F.slot_list_append PySem.F.type_list_append F5 (pv 2) (a6 a9 c8)))) (g8 (D6 (m9 N4 (d9 v5 (pv 4) a9) a9 (m8 _)) (g8 (N7 (Q6 (K:=K) PySem.F.plainAttrs_list PySem.F.slot_list_append PySem.F.type_list_append F5 (pv 2) (a6 (d9 v5 (d9 A8 (d9 v5 (pv 0) (d9 a29 a9 a9)) (pv 4)) (d9 A7 (d9 a29 a9 a9) a9)) c8)))) (g8 (N7 (Q6 (K:=K) PySem.F.plainAttrs_list PySem.F.slot_list_append PySem.F.type_list_append F5 (pv 2) (a6 (d9 v5 (d9 B4 (pv 4) a9) a9) c8)))))))))) (g8 (p7 (pv 2))))),(d7 (G8 (a0V g9)) (d7 (Z8 (b9 a7 g9) (i0 (k:=5) (by decide)) (d7 (K9 (b9 (a8 B0 a7 d6) (b9 (a8 C6 d6 a7) g9))) (C0 (x8 (a8 N5 (a8 v7 a7 d6) d6)) (S8 d6) (C0 (x8 (a8 N5 (a8 v7 a7 d6) d6)) (S8 (a8 v7 (a8 C6 (a8 v7 a7 (a8 a3p d6 d6)) a7) (a8 B0 (a8 a3p d6 d6) d6))) (S8 (a8 v7 (a8 E8 a7 d6) d6)))))) a0O))⟩
def a5Y:SF:=(c6 (A4 (Q9 (G7 (bZ (a0F 0 "tuple"))) (bZ (eB (B8 true) (y8 r8 0) (eC (.int 2))))) (t9 (eC (.bl false))) B9) (c6 (A4 (Q9 (G7 (bZ (j9 O6 (aC (eB i8 (eV 0) (eC (.int 0))) aN)))) (Q9 (G7 (bZ (j9 O6 (aC (eB i8 (eV 0) (eC (.int 1))) aN)))) (Q9 (bZ (eB gLt (eB i8 (eV 0) (eC (.int 0))) (eC (.int 0)))) (bZ (eB gLt (eB i8 (eV 0) (eC (.int 1))) (eC (.int 1))))))) (t9 (eC (.bl false))) B9) (c6 (j7 1 (eB i8 (eV 0) (eC (.int 0)))) (c6 (j7 2 (eB i8 (eV 0) (eC (.int 1)))) (c6 (v8 (bZ (eB gGt (eV 2) (eC (.int 0)))) (c6 (j7 3 (eB l5 (eV 1) (eV 2))) (c6 (j7 1 (eV 2)) (j7 2 (eV 3)))) 1000000) (t9 (eB (B8 false) (eV 1) (eC (.int 1)))))))))
def D4:List D→Option R1:=fD 4 1 a5Y
theorem M0:FnScope ["_law_found","_law_one","_law_other","_law_rest"] ["_law_found"] (c9 N9):=⟨rfl,rfl,rfl,by decide +kernel,rfl,by decide +kernel,by decide +kernel⟩
theorem a46{f:Addr}{fd:FuncData}(F:Fun K "_law_fraction" "_law_fraction" N9 f fd)(T:Txt K mg c)(G_l_whole:Own P w K mg base 3 "_law_whole" ["_law_found"] (k8 K c O6)):FnOk P w K mg base (B7 P w) 5 f fd ["_law_found"] (k8 K c D4) :=
 F.okD (k:=4) M0 fun cdv A outer s H E hr=>⟨_,(d5 (D6 (PW.pt (a0d (Q3 (Q2 (m5 (a0l (K:=K)) rfl T.z_isinstance Q4 (a6 (pv 0) (a6 (a1m (v:=.ty "tuple") rfl T.z_tuple a5s rfl) c8))))) (a1X (m9 a2_ (m5 (l9 (K:=K)) rfl T.z_len D0 (a6 (pv 0) c8)) a9 (m8 _))))) (g8 (p7 T7)) B3) (d5 (D6 (PW.pt (a0d (Q3 (Q2 (r6 G_l_whole hr (by decide) v9 (a6 (i5 (j8 (K:=K)) (pv 0) a9 (fun _ _=>rfl)) c8)))) (a0d (Q3 (Q2 (r6 G_l_whole hr (by decide) v9 (a6 (i5 (j8 (K:=K)) (pv 0) a9 (fun _ _=>rfl)) c8)))) (a0d (m9 a1z (i5 (j8 (K:=K)) (pv 0) a9 (fun _ _=>rfl)) a9 (m8 _)) (a1X (m9 a1z (i5 (j8 (K:=K)) (pv 0) a9 (fun _ _=>rfl)) a9 (m8 _))))))) (g8 (p7 T7)) B3) (d5 (i7 (i:=1) M0.nd rfl (Or.inl rfl) (i5 (j8 (K:=K)) (pv 0) a9 (fun _ _=>rfl))) (d5 (i7 (i:=2) M0.nd rfl (Or.inl rfl) (i5 (j8 (K:=K)) (pv 0) a9 (fun _ _=>rfl))) (d5 (a1y PassesOwn.leaving (m9 a2l (pv 2) a9 (m8 _)) (d5 (i7 (i:=3) M0.nd rfl (Or.inl rfl) (d9 v5 (pv 1) (pv 2))) (d5 (i7 (i:=1) M0.nd rfl (Or.inl rfl) (pv 2)) (g8 (i7 (i:=2) M0.nd rfl (Or.inl rfl) (pv 3)))))) (g8 (p7 (Z5 N4 (pv 1) a9 (m8 _))))))))),(d7 (C0 (V4 (L9 (U3 a2t)) (x8 (a8 a3q (J4 D1) d6))) (B1 d6) G0) (d7 (C0 (V4 (L9 (U3 (B5 (b9 (a8 l4 a7 d6) g9)))) (V4 (L9 (U3 (B5 (b9 (a8 l4 a7 d6) g9)))) (V4 (x8 (a8 a1K (a8 l4 a7 d6) d6)) (x8 (a8 a1K (a8 l4 a7 d6) d6))))) (B1 d6) G0) (d7 (n6 (a8 l4 a7 d6)) (d7 (n6 (a8 l4 a7 d6)) (d7 (a1N (x8 (a8 a2p a7 d6)) (d7 (n6 (a8 v7 a7 a7)) (d7 (n6 a7) (n6 a7)))) (B1 (a8 N5 a7 d6)))))))⟩
def a5Z:SF:=(c6 (j7 4 (eC (.int 0))) (c6 (j7 5 (eC (.int 1))) (c6 (C8 P4 (aC (y8 r8 0) aN) (c7 6) (c6 (y9 7 E3 (aC (m7 j6 0 (eV 3)) (aC (m7 j6 0 (eV 6)) aN))) (A4 (Y2 (bZ (eB (B8 false) (eB i8 (m7 j6 0 (eV 3)) (eC (.int 3))) (eB i8 (m7 j6 0 (eV 6)) (eC (.int 1))))) (bZ (eB gGt (eV 7) (eC (.int 0))))) (c6 (j7 8 (eB t8 (eB u5 (eB i8 (m7 j6 1 (eV 6)) (eC (.int 0))) (eB t8 (m7 j6 2 (eV 6)) (eB i8 (m7 j6 1 (eV 6)) (eC (.int 1))))) (eV 7))) (c6 (j7 9 (eB t8 (eB i8 (m7 j6 1 (eV 6)) (eC (.int 1))) (eB w6 (eB i8 (m7 j6 0 (eV 6)) (eC (.int 2))) (eB i8 (m7 j6 0 (eV 6)) (eC (.int 0)))))) (c6 (j7 4 (eB u5 (eB t8 (eV 4) (eV 9)) (eB t8 (eV 8) (eV 5)))) (j7 5 (eB t8 (eV 5) (eV 9)))))) B9))) (t9 (eB (B8 false) (eB t8 (eV 4) (eB i8 (m7 j6 1 (eV 3)) (eC (.int 1)))) (eB t8 (eB i8 (m7 j6 1 (eV 3)) (eC (.int 0))) (eV 5)))))))
def D5:List D→Option R1:=fD 10 4 a5Z
theorem E1:FnScope ["_law_spots","_law_loads","_law_weights_here","_law_j","_law_top","_law_bottom","_law_k","_law_touch_here","_law_part","_law_under"] ["_law_spots","_law_loads","_law_weights_here","_law_j"] (c9 O0):=⟨rfl,rfl,rfl,by decide +kernel,rfl,by decide +kernel,by decide +kernel⟩
theorem a47{f:Addr}{fd:FuncData}(F:Fun K "_law_balanced" "_law_balanced" O0 f fd)(T:Txt K mg c)(G_l_touch:Own P w K mg base 3 "_law_touch" ["_law_one","_law_other"] (k8 K c E3)):FnOk P w K mg base (B7 P w) 5 f fd ["_law_spots","_law_loads","_law_weights_here","_law_j"] (k8 K c D5) :=
 F.okD (k:=4) E1 fun cdv A outer s H E hr=>⟨_,(d5 (i7 (i:=4) E1.nd rfl (Or.inl rfl) a9) (d5 (i7 (i:=5) E1.nd rfl (Or.inl rfl) a9) (d5 (M4 PassesOwn.leaving rfl (S2 rfl T.z_range (a6 (m5 (l9 (K:=K)) rfl T.z_len D0 (a6 (pv 0) c8)) c8)) (i6 (i:=6) E1.nd rfl (Or.inl rfl)) (d5 (i7 (i:=7) E1.nd rfl (Or.inl rfl) (r6 G_l_touch hr (by decide) v9 (a6 (i5 (k7 (K:=K)) (pv 0) (pv 3) (fun _ _=>rfl)) (a6 (i5 (k7 (K:=K)) (pv 0) (pv 6) (fun _ _=>rfl)) c8)))) (g8 (D6 (PW.pt (a1n (m9 N4 (i5 (j8 (K:=K)) (i5 (k7 (K:=K)) (pv 0) (pv 3) (fun _ _=>rfl)) a9 (fun _ _=>rfl)) (i5 (j8 (K:=K)) (i5 (k7 (K:=K)) (pv 0) (pv 6) (fun _ _=>rfl)) a9 (fun _ _=>rfl)) (m8 _)) (a2j (m9 a2l (pv 7) a9 (m8 _))))) (d5 (i7 (i:=8) E1.nd rfl (Or.inl rfl) (d9 A8 (d9 A7 (i5 (j8 (K:=K)) (i5 (k7 (K:=K)) (pv 1) (pv 6) (fun _ _=>rfl)) a9 (fun _ _=>rfl)) (d9 A8 (i5 (k7 (K:=K)) (pv 2) (pv 6) (fun _ _=>rfl)) (i5 (j8 (K:=K)) (i5 (k7 (K:=K)) (pv 1) (pv 6) (fun _ _=>rfl)) a9 (fun _ _=>rfl)))) (pv 7))) (d5 (i7 (i:=9) E1.nd rfl (Or.inl rfl) (d9 A8 (i5 (j8 (K:=K)) (i5 (k7 (K:=K)) (pv 1) (pv 6) (fun _ _=>rfl)) a9 (fun _ _=>rfl)) (d9 E5 (i5 (j8 (K:=K)) (i5 (k7 (K:=K)) (pv 0) (pv 6) (fun _ _=>rfl)) a9 (fun _ _=>rfl)) (i5 (j8 (K:=K)) (i5 (k7 (K:=K)) (pv 0) (pv 6) (fun _ _=>rfl)) a9 (fun _ _=>rfl))))) (d5 (i7 (i:=4) E1.nd rfl (Or.inl rfl) (d9 A7 (d9 A8 (pv 4) (pv 9)) (d9 A8 (pv 8) (pv 5)))) (g8 (i7 (i:=5) E1.nd rfl (Or.inl rfl) (d9 A8 (pv 5) (pv 9))))))) B3)))) (g8 (p7 (Z5 N4 (d9 A8 (pv 4) (i5 (j8 (K:=K)) (i5 (k7 (K:=K)) (pv 1) (pv 3) (fun _ _=>rfl)) a9 (fun _ _=>rfl))) (d9 A8 (i5 (j8 (K:=K)) (i5 (k7 (K:=K)) (pv 1) (pv 3) (fun _ _=>rfl)) a9 (fun _ _=>rfl)) (pv 5)) (m8 _))))))),(d7 (n6 d6) (d7 (n6 d6) (d7 (Z8 (b9 (J4 D1) g9) (i0 (k:=10) (by decide)) (d7 (K9 (b9 (n8 n5 a7) (b9 (n8 n5 a7) g9))) (C0 (a0N (x8 (a8 N5 (a8 l4 (n8 n5 a7) d6) (a8 l4 (n8 n5 a7) d6))) (x8 (a8 a2p a7 d6))) (d7 (n6 (a8 C6 (a8 B0 (a8 l4 (n8 n5 a7) d6) (a8 C6 (n8 n5 a7) (a8 l4 (n8 n5 a7) d6))) a7)) (d7 (n6 (a8 C6 (a8 l4 (n8 n5 a7) d6) (a8 E7 (a8 l4 (n8 n5 a7) d6) (a8 l4 (n8 n5 a7) d6)))) (d7 (n6 (a8 B0 (a8 C6 a7 a7) (a8 C6 a7 a7))) (n6 (a8 C6 a7 a7))))) G0))) (B1 (a8 N5 (a8 C6 a7 (a8 l4 (n8 n5 a7) d6)) (a8 C6 (a8 l4 (n8 n5 a7) d6) a7))))))⟩
def a9h:SF:=(c6 (A4 (Q9 (G7 (bZ (a0F 0 "tuple"))) (Q9 (bZ (eB (B8 true) (y8 r8 0) (eC (.int 2)))) (G7 (bZ (eCB a38 (aC (eB i8 (eV 0) (eC (.int 0))) (aC (eC (.ty "list")) aN))))))) (t9 (eC (.bl false))) B9) (c6 (j7 3 (eB i8 (eV 0) (eC (.int 0)))) (c6 (A4 (Q9 (bZ (eB (B8 true) (y8 r8 3) (y8 r8 1))) (G7 (bZ (j9 D4 (aC (eB i8 (eV 0) (eC (.int 1))) aN))))) (t9 (eC (.bl false))) B9) (c6 (a09 3 (c7 4) (A4 (G7 (bZ (j9 D4 (aC (eV 4) aN)))) (t9 (eC (.bl false))) B9)) (c6 (C8 P4 (aC (y8 r8 1) aN) (c7 5) (A4 (V6 (G7 (bZ (j9 D5 (aC (eV 1) (aC (eV 3) (aC (eV 2) (aC (eV 5) aN)))))))) (t9 (eC (.bl false))) B9)) (t9 (eB (I0 false) (eB i8 (eV 0) (eC (.int 1))) (eT (aC (eCB (g1 a0w) (aC (eV 2) aN)) (aC (eC (.int 1)) aN))))))))))
def F8:List D→Option R1:=fD 6 3 a9h
theorem a0K:FnScope ["_law_found","_law_spots","_law_weights_here","_law_loads","_law_load","_law_j"] ["_law_found","_law_spots","_law_weights_here"] (c9 X0):=⟨rfl,rfl,rfl,by decide +kernel,rfl,by decide +kernel,by decide +kernel⟩
theorem a8a{f:Addr}{fd:FuncData}(F:Fun K "_law_right" "_law_right" X0 f fd)(T:Txt K mg c)(G_l_fraction:Own P w K mg base 5 "_law_fraction" ["_law_found"] (k8 K c D4))(G_l_balanced:Own P w K mg base 5 "_law_balanced" ["_law_spots","_law_loads","_law_weights_here","_law_j"] (k8 K c D5)):FnOk P w K mg base (B7 P w) 7 f fd ["_law_found","_law_spots","_law_weights_here"] (k8 K c F8) :=
 F.okD (k:=6) a0K fun cdv A outer s H E hr=>⟨_,(d5 (D6 (PW.pt (a0d (Q3 (Q2 (m5 (a0l (K:=K)) rfl T.z_isinstance Q4 (a6 (pv 0) (a6 (a1m (v:=.ty "tuple") rfl T.z_tuple a5s rfl) c8))))) (a0d (m9 a2_ (m5 (l9 (K:=K)) rfl T.z_len D0 (a6 (pv 0) c8)) a9 (m8 _)) (a1X (Q3 (Q2 (m5 (a0l (K:=K)) rfl T.z_isinstance Q4 (a6 (i5 (j8 (K:=K)) (pv 0) a9 (fun _ _=>rfl)) (a6 (a1m (v:=.ty "list") rfl T.z_list a0M rfl) c8))))))))) (g8 (p7 T7)) B3) (d5 (i7 (i:=3) a0K.nd rfl (Or.inl rfl) (i5 (j8 (K:=K)) (pv 0) a9 (fun _ _=>rfl))) (d5 (D6 (PW.pt (a0d (m9 a2_ (m5 (l9 (K:=K)) rfl T.z_len D0 (a6 (pv 3) c8)) (m5 (l9 (K:=K)) rfl T.z_len D0 (a6 (pv 1) c8)) (m8 _)) (a1X (Q3 (Q2 (r6 G_l_fraction hr (by decide) v9 (a6 (i5 (j8 (K:=K)) (pv 0) a9 (fun _ _=>rfl)) c8))))))) (g8 (p7 T7)) B3) (d5 (M4 PassesOwn.leaving rfl (J5 (pv 3)) (i6 (i:=4) a0K.nd rfl (Or.inl rfl)) (g8 (D6 (Q3 (Q2 (r6 G_l_fraction hr (by decide) v9 (a6 (pv 4) c8)))) (g8 (p7 T7)) B3))) (d5 (M4 PassesOwn.leaving rfl (S2 rfl T.z_range (a6 (m5 (l9 (K:=K)) rfl T.z_len D0 (a6 (pv 1) c8)) c8)) (i6 (i:=5) a0K.nd rfl (Or.inl rfl)) (g8 (D6 (Q3 (Q2 (r6 G_l_balanced hr (by decide) v9 (a6 (pv 1) (a6 (pv 3) (a6 (pv 2) (a6 (pv 5) c8))))))) (g8 (p7 T7)) B3))) (g8 (p7 (Z5 (a4b (K:=K) (cl:=c) (a4a hr)) (i5 (j8 (K:=K)) (pv 0) a9 (fun _ _=>rfl)) (x5 (a6 (m5 (a4A (K:=K)) rfl T.z_sum a8B (a6 (pv 2) c8)) (a6 a9 c8))) (m8 _))))))))),(d7 (C0 (V4 (L9 (U3 a2t)) (V4 (x8 (a8 a3q (J4 D1) d6)) (L9 (U3 (a1J b30 (b9 (a8 l4 a7 d6) (b9 d6 g9))))))) (B1 d6) G0) (d7 (n6 (a8 l4 a7 d6)) (d7 (C0 (V4 (x8 (a8 a3q (J4 D1) (J4 D1))) (L9 (U3 (B5 (b9 (a8 l4 a7 d6) g9))))) (B1 d6) G0) (d7 (a34 (i0 (k:=6) (by decide)) (C0 (L9 (U3 (B5 (b9 a7 g9)))) (B1 d6) G0)) (d7 (Z8 (b9 (J4 D1) g9) (i0 (k:=6) (by decide)) (C0 (a2Y (L9 (U3 (B5 (b9 a7 (b9 a7 (b9 a7 (b9 a7 g9)))))))) (B1 d6) G0)) (B1 (a8 a1t (a8 l4 a7 d6) (E6 (b9 (a1J a8Y.cb (b9 a7 g9)) (b9 d6 g9))))))))))⟩
def a8b:SF:=(c6 (y9 1 u6 (aC (eV 0) (aC (eC (.int 0)) aN))) (c6 (y9 2 O7 (aC (j9 u6 (aC (eV 0) (aC (eC (.int 1)) aN))) aN)) (c6 (y9 3 O8 (aC (zN (T3 0 (oS (eC (.int 3))) (oS (eC (.int 63))))) (aC (eV 2) (aC (eB j6 (zN (eL (aC (eC (.int 1)) (aC (eC (.int 5)) (aC (eC (.int 7000)) aN))))) (eB l5 (eV 1) (eC (.int 3)))) aN)))) (c6 (V0 (j9 T4 (aC (eV 3) (aC (eV 1) aN))) (x9 [(c7 4),(c7 5),(c7 6)])) (c6 (y9 7 K6 (aC (j9 u6 (aC (eV 0) (aC (eC (.int 2)) aN))) (aC (y8 r8 4) aN))) (c6 (A4 (bZ (eB (B8 false) (eB l5 (j9 u6 (aC (eV 0) (aC (eC (.int 1)) aN))) (eC (.int 2))) (eC (.int 1)))) (a05 4 5 6 7 D3 (aC (zN (T3 0 (oS (eC (.int 3))) (oS (eC (.int 63))))) (aC (eB r9 (eV 1) (eC (.int 3))) aN))) B9) (c6 (u9 8 (nCV P0 4)) (c6 (u9 9 (nCV P0 5)) (c6 (u9 10 (nCV P0 7)) (c6 (A4 (bZ (eB (a16 true) (L6 F6 (aC (eV 8) (aC (eV 9) aN))) (eC .non))) (t9 (eC (.bl false))) B9) (c6 (j7 11 (a0r (L6 A6 (aC (eV 8) (aC (eV 9) (aC (eV 10) aN)))))) (c6 (A4 (V6 (Q9 (bZ (a0t (I0 true) 8 4)) (Q9 (bZ (a0t (I0 true) 9 5)) (Q9 (bZ (a0t (I0 true) 10 7)) (G7 (bZ (j9 F8 (aC (eV 11) (aC (eV 6) (aC (eV 7) aN)))))))))) (t9 (eC (.bl false))) B9) (c6 (j7 12 (eT (aC (zN (nCB P0 (eB i8 (eV 11) (eC (.int 0))))) (aC (eB i8 (eV 11) (eC (.int 1))) aN)))) (c6 (A4 (bZ (eB gGt (y8 r8 7) (eC (.int 0)))) (c6 (j7 13 (eB l5 (eB r9 (eV 1) (eC (.int 3))) (y8 r8 7))) (c6 (U9 7 (eV 13) (eB u5 (eC (.int 1)) (eB r9 (m7 j6 7 (eV 13)) (eC (.int 2))))) (c6 (U9 10 (eV 13) (m7 j6 7 (eV 13))) (A4 (V6 (G7 (bZ (j9 F8 (aC (L6 A6 (aC (eV 8) (aC (eV 9) (aC (eV 10) aN)))) (aC (eV 6) (aC (eV 7) aN))))))) (t9 (eC (.bl false))) B9)))) B9) (t9 (eB (I0 false) (eV 11) (eV 12)))))))))))))))))
def a8c:List D→Option R1:=fD 14 1 a8b
theorem G4:FnScope ["_law_script","_law_cell","_law_edges_here","_law_stack_here","_law_wares","_law_places","_law_spots","_law_weights_here","_law_mine","_law_theirs","_law_handed","_law_found","_law_held","_law_at"] ["_law_script"] (c9 a0i):=⟨rfl,rfl,rfl,by decide +kernel,rfl,by decide +kernel,by decide +kernel⟩
theorem b2Q{TB:List (Addr×Str)}{f:Addr}{fd:FuncData}(F:Fun K "law" "law" a0i f fd)(T:Txt K mg c)(G_l_cell_at:Own P w K mg base 3 "_law_cell_at" ["_law_script","_law_k"] (k8 K c u6))(G_l_edges:Own P w K mg base 5 "_law_edges" ["_law_cell"] (k8 K c O7))(G_l_stack:Own P w K mg base 3 "_law_stack" ["_law_cells","_law_edges_here","_law_unit"] (k8 K c O8))(G_l_laid:Own P w K mg base 5 "_law_laid" ["_law_spots","_law_cell"] (k8 K c T4))(G_l_weights:Own P w K mg base 5 "_law_weights" ["_law_cell","_law_count"] (k8 K c K6))(G_l_any_pile:Own P w K mg base 5 "_law_any_pile" ["_law_cells","_law_cell"] (k8 K c D3))(G_hanging:Own P w K mg base 9 "hanging" ["wares","places"] (k8 K c F6))(G_pressed:Own P w K mg base 11 "pressed" ["wares","places","weights"] (spT TB (k8 K c A6)))(G_l_right:Own P w K mg base 7 "_law_right" ["_law_found","_law_spots","_law_weights_here"] (k8 K c F8)):FnOk P w K mg base (B7 P w) 13 f fd ["_law_script"] (spT TB (k8 K c a8c)) :=
 F.okT (k:=12) G4 fun A outer s H E hT hr=>⟨_,(d5 (i7 (i:=1) G4.nd rfl (Or.inl rfl) (r6 G_l_cell_at hr (by decide) v9 (a6 (pv 0) (a6 a9 c8)))) (d5 (i7 (i:=2) G4.nd rfl (Or.inl rfl) (r6 G_l_edges hr (by decide) v9 (a6 (r6 G_l_cell_at hr (by decide) v9 (a6 (pv 0) (a6 a9 c8))) c8))) (d5 (i7 (i:=3) G4.nd rfl (Or.inl rfl) (r6 G_l_stack hr (by decide) v9 (a6 (a1A (a1F (K:=K)) (pv 0) (Z6 a9) (Z6 a9)) (a6 (pv 2) (a6 (i5 (k7 (K:=K)) (S3 (a6 a9 (a6 a9 (a6 a9 c8)))) (d9 v5 (pv 1) a9) (fun _ _=>rfl)) c8))))) (d5 (M3 (r6 G_l_laid hr (by decide) v9 (a6 (pv 3) (a6 (pv 1) c8))) (G6 (K:=K) (n:=3) rfl (k6 (i6 (i:=4) G4.nd rfl (Or.inl rfl)) (k6 (i6 (i:=5) G4.nd rfl (Or.inl rfl)) (k6 (i6 (i:=6) G4.nd rfl (Or.inl rfl)) G5))))) (d5 (i7 (i:=7) G4.nd rfl (Or.inl rfl) (r6 G_l_weights hr (by decide) v9 (a6 (r6 G_l_cell_at hr (by decide) v9 (a6 (pv 0) (a6 a9 c8))) (a6 (m5 (l9 (K:=K)) rfl T.z_len D0 (a6 (pv 4) c8)) c8)))) (d5 (D6 (m9 N4 (d9 v5 (r6 G_l_cell_at hr (by decide) v9 (a6 (pv 0) (a6 a9 c8))) a9) a9 (m8 _)) (g8 (M3 (r6 G_l_any_pile hr (by decide) v9 (a6 (a1A (a1F (K:=K)) (pv 0) (Z6 a9) (Z6 a9)) (a6 (d9 B4 (pv 1) a9) c8))) (G6 (K:=K) (n:=4) rfl (k6 (i6 (i:=4) G4.nd rfl (Or.inl rfl)) (k6 (i6 (i:=5) G4.nd rfl (Or.inl rfl)) (k6 (i6 (i:=6) G4.nd rfl (Or.inl rfl)) (k6 (i6 (i:=7) G4.nd rfl (Or.inl rfl)) G5))))))) B3) (d5 (i7 (i:=8) G4.nd rfl (Or.inl rfl) (V9 (Q5 (K:=K)) rfl T.z_list a0M (a6 (pv 4) c8))) (d5 (i7 (i:=9) G4.nd rfl (Or.inl rfl) (V9 (Q5 (K:=K)) rfl T.z_list a0M (a6 (pv 5) c8))) (d5 (i7 (i:=10) G4.nd rfl (Or.inl rfl) (V9 (Q5 (K:=K)) rfl T.z_list a0M (a6 (pv 7) c8))) (d5 (D6 (m9 a6G (r6 G_hanging hr (by decide) (XAcc.passes T9) (a6 (pv 8) (a6 (pv 9) c8))) a5i (m8 _)) (g8 (p7 T7)) B3) (d5 (i7 (i:=11) G4.nd rfl (Or.inl rfl) (a4j hT G_pressed hr (by decide) (XAcc.passes T9) (a6 (pv 8) (a6 (pv 9) (a6 (pv 10) c8))))) (d5 (D6 (PW.pt (a0d (m9 (a4c (K:=K) (cl:=c) (a4a hr)) (pv 8) (pv 4) (m8 _)) (a0d (m9 (a4c (K:=K) (cl:=c) (a4a hr)) (pv 9) (pv 5) (m8 _)) (a0d (m9 (a4c (K:=K) (cl:=c) (a4a hr)) (pv 10) (pv 7) (m8 _)) (a1X (Q3 (Q2 (r6 G_l_right hr (by decide) v9 (a6 (pv 11) (a6 (pv 6) (a6 (pv 7) c8))))))))))) (g8 (p7 T7)) B3) (d5 (i7 (i:=12) G4.nd rfl (Or.inl rfl) (x5 (a6 (V9 (Q5 (K:=K)) rfl T.z_list a0M (a6 (i5 (j8 (K:=K)) (pv 11) a9 (fun _ _=>rfl)) c8)) (a6 (i5 (j8 (K:=K)) (pv 11) a9 (fun _ _=>rfl)) c8)))) (d5 (D6 (m9 a2l (m5 (l9 (K:=K)) rfl T.z_len D0 (a6 (pv 7) c8)) a9 (m8 _)) (d5 (i7 (i:=13) G4.nd rfl (Or.inl rfl) (d9 v5 (d9 B4 (pv 1) a9) (m5 (l9 (K:=K)) rfl T.z_len D0 (a6 (pv 7) c8)))) (d5 (M3 (d9 A7 a9 (d9 B4 (i5 (k7 (K:=K)) (pv 7) (pv 13) (fun _ _=>rfl)) a9)) (a1Z (pv 7) (pv 13) a0R)) (d5 (M3 (i5 (k7 (K:=K)) (pv 7) (pv 13) (fun _ _=>rfl)) (a1Z (pv 10) (pv 13) a0R)) (g8 (D6 (Q3 (Q2 (r6 G_l_right hr (by decide) v9 (a6 (a4j hT G_pressed hr (by decide) (XAcc.passes T9) (a6 (pv 8) (a6 (pv 9) (a6 (pv 10) c8)))) (a6 (pv 6) (a6 (pv 7) c8)))))) (g8 (p7 T7)) B3))))) B3) (g8 (p7 (Z5 (a4b (K:=K) (cl:=c) (a4a hr)) (pv 11) (pv 12) (m8 _)))))))))))))))))),(d7 (K9 (b9 a7 (b9 d6 g9))) (d7 (K9 (b9 (B5 (b9 a7 (b9 d6 g9))) g9)) (d7 (K9 (b9 (U2 (a3z (a1Q d6) (a1Q d6))) (b9 a7 (b9 (a8 n5 (U2 (a0V (b9 d6 (b9 d6 (b9 d6 g9))))) (a8 v7 a7 d6)) g9)))) (d7 (a0n (B5 (b9 a7 (b9 a7 g9))) (J7 (l6 (i0 (k:=14) (by decide)) (l6 (i0 (k:=14) (by decide)) (l6 (i0 (k:=14) (by decide)) J6))) rfl)) (d7 (K9 (b9 (B5 (b9 a7 (b9 d6 g9))) (b9 (J4 D1) g9))) (d7 (C0 (x8 (a8 N5 (a8 v7 (B5 (b9 a7 (b9 d6 g9))) d6) d6)) (b0K (b9 (U2 (a3z (a1Q d6) (a1Q d6))) (b9 (a8 E8 a7 d6) g9))) G0) (d7 (G8 (a15 a1q)) (d7 (G8 (a15 a1q)) (d7 (G8 (a15 a1q)) (d7 (C0 (x8 (a8 a6S (a1r (b9 a7 (b9 a7 g9))) d6)) (B1 d6) G0) (d7 (n6 (a89 (a1r (b9 a7 (b9 a7 (b9 a7 g9)))))) (d7 (C0 (a2Y (V4 (x8 (a30 a1t)) (V4 (x8 (a30 a1t)) (V4 (x8 (a30 a1t)) (L9 (U3 (B5 (b9 a7 (b9 a7 (b9 a7 g9)))))))))) (B1 d6) G0) (d7 (n6 (E6 (b9 (U2 (b3U a1q (a8 l4 a7 d6))) (b9 (a8 l4 a7 d6) g9)))) (d7 (C0 (x8 (a8 a2p (J4 D1) d6)) (d7 (n6 (a8 v7 (a8 E8 a7 d6) (J4 D1))) (d7 (a17 (a8 B0 d6 (a8 E8 (n8 n5 a7) d6)) a7) (d7 (a17 (n8 n5 a7) a7) (C0 (a2Y (L9 (U3 (B5 (b9 (a1r (b9 a7 (b9 a7 (b9 a7 g9)))) (b9 a7 (b9 a7 g9))))))) (B1 d6) G0)))) G0) (B1 (a8 a1t a7 a7))))))))))))))))⟩
end Law
namespace Law
open PySem L2 PyProof.Rows
variable {P:Program}{w:World}{K:PySem.W.Frag}{mg:Str→Option Value}{base:Heap}{c:Str→Addr}
local macro_rules|`(tactic|walk_at $s:str)=>do
 let t←`(tactic|simp(decide:=true)only[*,b4D,a39,a2u,b1X,b1Y,b18,b1Z,b10,b11,b12,b0e,b13,b14,b31,b0f,b0g,a8R,a8S,b0h,a7O,a7P,a8T,a8U,a8V,b0i,a7Q,a7R,b15,b16,b19,b17,b1_,b0j,a6X,b2a,b2b,b2c,b2e,b2d,b2f,b0k,a19,C3,b2C,b2D,b2E,b2F,b2H,b2G,a4H,a8Z,a3A,t7,a0Y,a3w,a0D,N8,a5I,a7V,b0r,b35,b36,b0s,b37,b38,L4,b2x,b2y,b2z,b2A,noL,noLs,T3,oN,oS,a0w,a09,a0X,unhide,a8W,b2n,b2k,b2l,b2m,b2g,b2h,b2j,a7L,eqD,I0,A5,K1,j5,C5,G9,G3,Y5,Nat.max_self,Nat.zero_max,Nat.max_zero,decide_true,Bool.or_true,Bool.true_or,Bool.or_false,List.isEmpty_nil,a0G,a0H,List.any_cons,List.any_nil,u7,List.all_cons,List.all_nil,Bool.and_self,Bool.and_true,Bool.true_and,beq_self_eq_true,b2o,b2p,b32,b33,a3x,a3y,a0P,a6Y,a1s,A4,j7,u9,a0C,y9,t9,a2q,a3v,P3,B9,V0,a5E,XN.nm,XN.d,b2v,b2w,K0,b0I,b2M,b2N,U9,a18,C8,b39,b0y,b0z,b0u,b0v,b0w,b0x,b0t,b2B,b0B,a81,eC,eV,eB,m7,a0t,eT,eL,zN,aN,aC,L6,j9,a98,a99,eU,a5C,eCB,y8,nCB,nCV,nB,g1,r8,P0,bZ,G7,Y2,Q9,D7,b0A,x9,a1L,a3o,b3L,b3M,Q7,b3N,b3O,a1H,a1I,look,i8,j6,b1S,a16,a0F,b2I,a2s,tyN,seqL,b1j,b1k,b1l,b4E,List.map_cons,List.map_nil,List.length_cons,List.length_nil,List.cons_append,List.nil_append,List.replicate_succ,List.replicate_zero,List.getElem?_cons_zero,List.getElem?_cons_succ,List.set_cons_zero,List.set_cons_succ,Nat.reduceAdd,Nat.reduceSub,if_true,if_false,Bool.not_true,Bool.not_false,Bool.not_not,Nat.zero_add,Bool.false_eq_true,decide_eq_true_eq,Bool.not_eq_true',decide_eq_false_iff_not,Option.map_some,Option.map_none,ite_self])
 return if s.getString=="eh" then t.raw else t.raw.modifyArg 4 (·.modifyArg 1 fun l=>l.setArg 0 l[2])
theorem X4{rg:List D→Option (Int×Nat)}{f:AF}{b:GF}{body:SF}{e e1:DE}{ds:List D}{lo:Int}{n:Nat}(h:f e=some (.ok ds e1))(hr:rg ds=some (lo,n)):C8 rg f b body e=B6 b body (L8 lo n) e1:=by
 unfold C8;rw[h,Q7,hr]
theorem a1w{n:Nat}(h:n≤2000):P4 [.int (n:Int)]=some (0,n):=by
 rw[b2s ⟨by omega,by omega⟩]
 rfl
theorem a21{n x:Nat}{pre post:List Nat}(h:List.range n=pre++x::post):x=pre.length∧pre.length<n:=by
 have h1:=congrArg (fun l=>l[pre.length]?) h
 simp only[List.getElem?_append_right (Nat.le_refl _),Nat.sub_self,List.getElem?_cons_zero]at h1
 have h2:=congrArg List.length h
 rw[List.length_range,List.length_append,List.length_cons]at h2
 rw[List.getElem?_range (by omega)]at h1
 exact⟨(Option.some.inj h1).symm,by omega⟩
abbrev a1d(w h:Int)(t:Bool):D:=.tup [.int w,.int h,.bl t]
abbrev a50(x y:Int)(l:Bool):D:=.tup [.int x,.int y,.bl l]
abbrev R4:=Int×Int×Int×Int
abbrev i9(r:R4):D:=.tup [.int r.1,.int r.2.1,.int r.2.2.1,.int r.2.2.2]
theorem a0b{l:List D}{k:Nat}{a:D}(h:l[k]? = some a):atI l (k:Int)=some a:=V7 h
abbrev Q:=(Int×Int×Int×Int)×Bool×Bool
abbrev rQ(q:Q):R4:=(q.1.1,q.1.2.1,q.1.1+q.1.2.2.1,q.1.2.1+q.1.2.2.2)
def wQ(q:Q):D:=if q.2.1 then a1d q.1.2.2.2 q.1.2.2.1 true else a1d q.1.2.2.1 q.1.2.2.2 q.2.2
abbrev pQ(q:Q):D:=a50 q.1.1 q.1.2.1 q.2.1
abbrev sQ(q:Q):D:=i9 (rQ q)
abbrev rD0:R4:=(0,0,1,1)
theorem M1{α:Type}{l:List α}{k:Nat}{d:α}(h:k<l.length):l.getD k d=l[k]:=by simp[h]
def M9(a b:R4):Int:=(if b.2.2.1<a.2.2.1 then b.2.2.1 else a.2.2.1)-(if b.1 > a.1 then b.1 else a.1)
theorem b5p(a b:R4)(u v:Int)(h1:a0H [.int a.2.2.1,.int b.2.2.1]=some (.int u))(h2:a0G [.int a.1,.int b.1]=some (.int v)):C2 [i9 a,i9 b]=some (.ret (.int (u-v))):=by
 unfold C2 a1v
 generalize a0H=G1 at *
 generalize a0G=G2 at *
 walk_at "eh"
theorem b4H(a b:R4):C2 [i9 a,i9 b]=some (.ret (.int (M9 a b))):=b5p a b _ _ rfl rfl
theorem b5q(a b:R4)(u v:Int)(h1:a0H [.int a.2.2.1,.int b.2.2.1]=some (.int u))(h2:a0G [.int a.1,.int b.1]=some (.int v)):E3 [i9 a,i9 b]=some (.ret (.int (u-v))):=by
 unfold E3 a4R
 generalize a0H=G1 at *
 generalize a0G=G2 at *
 walk_at "eh"
theorem b1p(a b:R4):E3 [i9 a,i9 b]=some (.ret (.int (M9 a b))):=b5q a b _ _ rfl rfl
theorem b2R(q:Q):O5 [wQ q,pQ q]=some (.ret (sQ q)):=by
 obtain⟨⟨x,y,w,h⟩,l,t⟩:=q
 unfold O5 a4O Y7 a3E wQ
 cases l<;>cases t<;>walk_at "ev"
theorem a51(L:List Q)(hl:L.length≤1000):E9 [.lst (L.map wQ),.lst (L.map pQ)]=some (.own (L.map sQ)):=by
 have key:∀eo,w8 (x9 [c7 0,c7 1]) D7 (L6 O5 (aC (eV 0) (aC (eV 1) aN))) [.no,.no] eo (L.map fun q=>D.tup [wQ q,pQ q]) []=some (.ok (L.map sQ) eo):=fun eo=>by
  have:=P8 (b:=x9 [c7 0,c7 1]) (c:=D7) (el:=L6 O5 (aC (eV 0) (aC (eV 1) aN))) (ec:=[.no,.no]) (eo:=eo) (fun q:Q=>D.tup [wQ q,pQ q]) sQ (fun _=>true) L [] (by show 0+_≤2 ^ 24;omega) fun q m=>⟨[.fz (wQ q),.fz (pQ q)],[.fz (wQ q),.fz (pQ q)],rfl,rfl,fun _=>by
   have h:=b2R q
   generalize wQ q=wq at *
   generalize pQ q=pq at *
   clear m
   walk_at "eh";exact⟨_,rfl⟩⟩
  rw[this,List.filter_eq_self.mpr (fun _ _=>rfl),List.nil_append]
 have hz:=a4I wQ pQ L
 unfold E9 a3F
 clear hl
 walk_at "eh"
theorem a22{α:Type}(f:α→D)(d:α):∀(l:List α) (n:Nat),enD n (l.map f)=(List.range l.length).map (fun j=>.tup [.int ((n+j:Nat):Int),f (l.getD j d)])
 | [],_=>rfl
 | x::l,n=>by
  rw[List.map_cons,enD,a22 f d l (n+1),List.length_cons,List.range_succ_eq_map,List.map_cons,List.map_map]
  have:∀(a b:D) (l m:List D),a=b→l=m→a::l=b::m:=by rintro a _ l _ rfl rfl;rfl
  refine this _ _ _ _ rfl (List.map_congr_left fun j _=>?_)
  show D.tup [.int ((n+1+j:Nat):Int),f (l.getD j d)]=D.tup [.int ((n+(j+1):Nat):Int),f ((x::l).getD (j+1) d)]
  rw[show n+1+j=n+(j+1) by omega]
  rfl
abbrev tP(p:Int×Int):D:=.tup [.int p.1,.int p.2]
abbrev g7(S:List R4)(j:Nat):R4:=S.getD j rD0
def q1(S:List R4)(k j:Nat):Bool:=decide ((g7 S j).2.2.2=(g7 S k).2.1)
def q2(S:List R4)(k j:Nat):Bool:=decide (0<M9 (g7 S j) (g7 S k))
def tJ(S:List R4)(k j:Nat):Int×Int:=((j:Int),M9 (g7 S j) (g7 S k))
def tch(S:List R4)(k:Nat):List (Int×Int):=(((List.range S.length).filter (q1 S k)).filter (q2 S k)).map (tJ S k)
theorem b0O{S:List R4}{k:Nat}(hk:k<S.length):atI (S.map i9) (k:Int)=some (i9 (g7 S k)):=a0b (by rw[List.getElem?_map,List.getElem?_eq_getElem hk,g7,M1 hk];rfl)
theorem b5r(SW:List D→Option R1)(A:List D)(j k:Int)(a s:R4)(u:Int)(h1:atI A k=some (i9 s))(h2:SW [i9 a,i9 s]=some (.ret (.int u))):((bZ (eB (B8 false) (eB i8 (eV 1) (eC (.int 3))) (eB i8 (m7 j6 2 (eV 3)) (eC (.int 1))))):BF) [.fz (.int j),.fz (i9 a),.fz (.lst A),.fz (.int k)]=some (.ok (decide (a.2.2.2=s.2.1)) [.fz (.int j),.fz (i9 a),.fz (.lst A),.fz (.int k)])∧(eT (aC (eV 0) (aC (j9 SW (aC (eV 1) (aC (m7 j6 2 (eV 3)) aN))) aN)):ZF) [.fz (.int j),.fz (i9 a),.fz (.lst A),.fz (.int k)]=some (.ok (.tup [.int j,.int u]) [.fz (.int j),.fz (i9 a),.fz (.lst A),.fz (.int k)]):=by
 constructor
 ·walk_at "eh"
 ·walk_at "eh"
theorem b4I{S:List R4}{k:Nat}(hk:k<S.length)(hl:S.length≤100)(eo:DE):w8 (x9 [(c7 0),(c7 1)]) (bZ (eB (B8 false) (eB i8 (eV 1) (eC (.int 3))) (eB i8 (m7 j6 2 (eV 3)) (eC (.int 1))))) (eT (aC (eV 0) (aC (j9 C2 (aC (eV 1) (aC (m7 j6 2 (eV 3)) aN))) aN))) [.no,.no,.fz (.lst (S.map i9)),.fz (.int (k:Int))] eo (enD 0 (S.map i9)) []=some (.ok ((((List.range S.length).filter (q1 S k)).map (tJ S k)).map tP) eo):=by
 rw[a22 i9 rD0 S 0]
 have:=P8 (b:=x9 [(c7 0),(c7 1)]) (c:=(bZ (eB (B8 false) (eB i8 (eV 1) (eC (.int 3))) (eB i8 (m7 j6 2 (eV 3)) (eC (.int 1)))))) (el:=(eT (aC (eV 0) (aC (j9 C2 (aC (eV 1) (aC (m7 j6 2 (eV 3)) aN))) aN)))) (ec:=[.no,.no,.fz (.lst (S.map i9)),.fz (.int (k:Int))]) (eo:=eo) (fun j:Nat=>D.tup [.int ((0+j:Nat):Int),i9 (g7 S j)]) (fun j=>tP (tJ S k j)) (q1 S k) (List.range S.length) [] (by rw[List.length_range];show 0+_≤2 ^ 24;omega) (by
  intro j m
  have c:=b5r C2 (S.map i9) j k (g7 S j) (g7 S k) _ (b0O hk) (b4H _ _)
  exact⟨[.fz (.int (j:Int)),.fz (i9 (g7 S j)),.fz (.lst (S.map i9)),.fz (.int (k:Int))],_,by rw[Nat.zero_add];rfl,c.1,fun _=>⟨_,c.2⟩⟩)
 rw[List.nil_append]at this
 rw[List.map_map]
 exact this
theorem b4J(S:List R4)(k:Nat)(l:List Nat)(hl:l.length≤100)(eo:DE):w8 (x9 [(c7 0),(c7 1)]) (bZ (eB gGt (eV 1) (eC (.int 0)))) (eT (aC (eV 0) (aC (eV 1) aN))) [.no,.no] eo ((l.map (tJ S k)).map tP) []=some (.ok (((l.filter (q2 S k)).map (tJ S k)).map tP) eo):=by
 have:=P8 (b:=x9 [(c7 0),(c7 1)]) (c:=(bZ (eB gGt (eV 1) (eC (.int 0))))) (el:=(eT (aC (eV 0) (aC (eV 1) aN)))) (ec:=[.no,.no]) (eo:=eo) (fun j:Nat=>tP (tJ S k j)) (fun j=>tP (tJ S k j)) (q2 S k) l [] (by show 0+_≤2 ^ 24;omega) (by
  intro j m
  refine⟨[.fz (.int (j:Int)),.fz (.int (M9 (g7 S j) (g7 S k)))],[.fz (.int (j:Int)),.fz (.int (M9 (g7 S j) (g7 S k)))],rfl,?_,fun _=>⟨[.fz (.int (j:Int)),.fz (.int (M9 (g7 S j) (g7 S k)))],?_⟩⟩
  ·unfold q2
   generalize M9 (g7 S j) (g7 S k)=z
   walk_at "eh"
   try rfl
  ·unfold tJ tP
   generalize M9 (g7 S j) (g7 S k)=z
   walk_at "eh")
 rw[List.nil_append]at this
 rw[List.map_map,List.map_map]
 exact this
theorem b5s(N1 N2:NF)(A X Y:List D)(k:D)(n1:N1 [.fz (.lst A),.fz k,.no]=some (.ok X [.fz (.lst A),.fz k,.no]))(n2:N2 [.fz (.lst A),.fz k,.ow X]=some (.ok Y [.fz (.lst A),.fz k,.ow X])):fD 3 2 (c6 (u9 2 N1) (a2q N2)) [.lst A,k]=some (.own Y):=by
 walk_at "eh"
theorem a9i{S:List R4}{k:Nat}(hk:k<S.length)(hl:S.length≤100):u0 [.lst (S.map i9),.int (k:Int)]=some (.own ((tch S k).map tP)):=by
 refine b5s _ _ (S.map i9) ((((List.range S.length).filter (q1 S k)).map (tJ S k)).map tP) ((tch S k).map tP) (.int (k:Int)) ?_ ?_
 ·exact b4I hk hl _
 ·refine b4J S k ((List.range S.length).filter (q1 S k)) ?_ _
  have:=List.length_filter_le (q1 S k) (List.range S.length)
  rw[List.length_range]at this
  omega
theorem a6_(S:List R4)(k:Nat):(tch S k).length≤S.length:=by
 unfold tch
 have h1:=List.length_filter_le (q1 S k) (List.range S.length)
 have h2:=List.length_filter_le (q2 S k) ((List.range S.length).filter (q1 S k))
 rw[List.length_range]at h1
 rw[List.length_map]
 omega
theorem a52{α:Type}{b:GF}{body:SF}(f:α→D)(p:α→Bool)(g:α→D)(I:DE→Prop):∀(l:List α) (e:DE),I e→(∀x∈l,∀e,I e→(p x=true∧a2W (b (f x) e) body=some (.rt (g x)))∨(p x=false∧∃e2,a2W (b (f x) e) body=some (.nx e2)∧I e2))→(∃x,l.find? p=some x∧B6 b body (l.map f) e=some (.rt (g x)))∨(l.find? p=none∧∃e2,B6 b body (l.map f) e=some (.nx e2)∧I e2)
 | [],e,h,_=>.inr ⟨rfl,e,rfl,h⟩
 | x::l,e,h,hs=>by
  have st:B6 b body ((x::l).map f) e=a00 (a2W (b (f x) e) body) (B6 b body (l.map f)):=by
   rw[List.map_cons,a19]
   cases b (f x) e<;>rfl
  rw[st]
  rcases hs x List.mem_cons_self e h with⟨z,r⟩ | ⟨z,e2,r,h2⟩
  ·exact .inl ⟨x,by rw[List.find?_cons,z],by rw[r];rfl⟩
  ·rw[r,a6X,List.find?_cons,z]
   exact a52 f p g I l e2 h2 fun y m=>hs y (List.mem_cons_of_mem _ m)
def a8d(S:List R4)(k:Nat):Int:=((tch S k).map (·.2)).sum
theorem b4K(T:List (Int×Int))(F:ZF)(e e1:DE)(hl:T.length≤100)(h:F e=some (.ok (.lst (T.map tP)) e1)):a0D 2 [] F (x9 [(c7 0),(c7 1)]) D7 (eV 1) e=some (.ok ((T.map (·.2)).map .int) e1):=by
 have:=P8 (b:=x9 [(c7 0),(c7 1)]) (c:=D7) (el:=(eV 1)) (ec:=[.no,.no]) (eo:=e1) tP (fun p=>D.int p.2) (fun _=>true) T [] (by show 0+_≤2 ^ 24;omega) (by
  intro p m
  exact⟨[.fz (.int p.1),.fz (.int p.2)],[.fz (.int p.1),.fz (.int p.2)],rfl,rfl,fun _=>⟨[.fz (.int p.1),.fz (.int p.2)],rfl⟩⟩)
 rw[List.filter_eq_self.mpr (fun _ _=>rfl),List.nil_append]at this
 rw[List.map_map]
 unfold a0D
 rw[h,a3o]
 exact this
theorem a7a(T:List (Int×Int)):a0w (.lst ((T.map (·.2)).map .int))=some (.int (T.map (·.2)).sum):=by
 show(a0g ((T.map (·.2)).map .int)).map _=_
 rw[L2.ints_map]
 rfl
abbrev haB(N:NF):SF:=(c6 (j7 5 (a3C (eCB (g1 a0w) (aC (zN N) aN)))) (A4 (Y2 (bZ (eB (B8 true) (eB i8 (eV 4) (eC (.int 1))) (eC (.int 0)))) (bZ (eB gLt (eV 5) (eB w6 (eB i8 (eV 4) (eC (.int 2))) (eB i8 (eV 4) (eC (.int 0))))))) (P3 3) B9))
theorem b2S(N:NF)(C B:D)(A X:List D)(k s:Int)(r:R4)(o5:Option D)(n1:N [.fz C,.fz B,.fz (.lst A),.fz (.int k),.fz (i9 r),un o5]=some (.ok X [.fz C,.fz B,.fz (.lst A),.fz (.int k),.fz (i9 r),un o5]))(hs:a0w (.lst X)=some (.int s)) :
  haB N [.fz C,.fz B,.hd A,.fz (.int k),.fz (i9 r),un o5]=if r.2.1≠0∧s<r.2.2.1-r.1 then some (.rt (.int k))else some (.nx [.fz C,.fz B,.hd A,.fz (.int k),.fz (i9 r),.fz (.int s)]):=by
 unfold haB
 generalize a0w=GS at *
 by_cases z1:r.2.1=0
 ·rw[if_neg (fun z=>z.1 z1)]
  walk_at "eh"
 ·by_cases z2:s<r.2.2.1-r.1
  ·rw[if_pos ⟨z1,z2⟩]
   walk_at "eh"
  ·rw[if_neg (fun z=>z2 z.2)]
   walk_at "eh"
def hgP(S:List R4)(k:Nat):Bool:=decide (0<(g7 S k).2.1∧a8d S k<(g7 S k).2.2.1-(g7 S k).1)
def hgR(S:List R4):D:=match(List.range S.length).find? (hgP S)with
 | some k=>.int (k:Int)
 | none=>.non
abbrev haN:NF:=(a0D 2 [] (j9 u0 (aC (eV 2) (aC (eV 3) aN))) (x9 [(c7 0),(c7 1)]) D7 (eV 1))
theorem b5t(G:List D→Option R1)(C E R A B:D)(T:List D)(o5:Option D)(h:G [A,B]=some (.own T)):j9 G (aC (eV 2) (aC (eV 3) aN)) [.fz C,.fz E,.fz A,.fz B,.fz R,un o5]=some (.ok (.lst T) [.fz C,.fz E,.fz A,.fz B,.fz R,un o5]):=by
 walk_at "eh"
theorem b4a{S:List R4}{k:Nat}(hk:k<S.length)(hl:S.length≤100)(C B R:D)(o5:Option D):haN [.fz C,.fz B,.fz (.lst (S.map i9)),.fz (.int (k:Int)),.fz R,un o5]=some (.ok (((tch S k).map (·.2)).map .int) [.fz C,.fz B,.fz (.lst (S.map i9)),.fz (.int (k:Int)),.fz R,un o5]):=by
 exact b4K (tch S k) (j9 u0 (aC (eV 2) (aC (eV 3) aN))) _ _ (by have:=a6_ S k;omega) (b5t u0 _ _ _ _ _ _ _ (a9i hk hl))
theorem b4L(LP:SF)(SP:List D→Option R1)(C B:D)(A:List D)(d:D)(h1:SP [C,B]=some (.own A))(h:LP [.fz C,.fz B,.ow A,.no,.no,.no]=some (.rt d)):fD 6 2 (c6 (a0C 2 SP (aC (eV 0) (aC (eV 1) aN))) (c6 LP (t9 (eC .non)))) [C,B]=some (.ret d):=by
 walk_at "eh"
theorem b4M(LP:SF)(SP:List D→Option R1)(C B:D)(A:List D)(e:DE)(h1:SP [C,B]=some (.own A))(h:LP [.fz C,.fz B,.ow A,.no,.no,.no]=some (.nx e)):fD 6 2 (c6 (a0C 2 SP (aC (eV 0) (aC (eV 1) aN))) (c6 LP (t9 (eC .non)))) [C,B]=some (.ret .non):=by
 walk_at "eh"
theorem a3J(L:List Q)(hl:L.length≤100)(h0:∀q∈L,0≤q.1.2.1):F6 [.lst (L.map wQ),.lst (L.map pQ)]=some (.ret (hgR (L.map rQ))):=by
 have hs:=a51 L (by omega)
 have eS:L.map sQ=(L.map rQ).map i9:=by rw[List.map_map];rfl
 rw[eS]at hs
 have hS:(L.map rQ).length≤100:=by rw[List.length_map];exact hl
 have y0:∀j,j<(L.map rQ).length→0≤(g7 (L.map rQ) j).2.1:=fun j hj=>by
  rw[g7,M1 hj,List.getElem_map]
  exact h0 _ (List.getElem_mem _)
 generalize L.map rQ=S at *
 generalize D.lst (L.map wQ)=C at *
 generalize D.lst (L.map pQ)=B at *
 clear h0 eS hl
 have key:=a52 (b:=x9 [(c7 3),(c7 4)]) (body:=haB haN) (fun j:Nat=>D.tup [.int ((0+j:Nat):Int),i9 (g7 S j)]) (hgP S) (fun k=>D.int (k:Int)) (fun e=>∃o3 o4 o5:Option D,e=[.fz C,.fz B,.hd (S.map i9),un o3,un o4,un o5]) (List.range S.length) [.fz C,.fz B,.hd (S.map i9),.no,.no,.no] ⟨none,none,none,rfl⟩ (by
  rintro i m e ⟨o3,o4,o5,rfl⟩
  have hi:=List.mem_range.mp m
  have hb:x9 [(c7 3),(c7 4)] (.tup [.int ((0+i:Nat):Int),i9 (g7 S i)]) [.fz C,.fz B,.hd (S.map i9),un o3,un o4,un o5]=some [.fz C,.fz B,.hd (S.map i9),.fz (.int (i:Int)),.fz (i9 (g7 S i)),un o5]:=by rw[Nat.zero_add];cases o3<;>cases o4<;>rfl
  have st:=b2S haN C B (S.map i9) _ i _ (g7 S i) o5 (b4a hi hS C B _ o5) (show a0w _=some (.int (a8d S i))from a7a (tch S i))
  have yi:=y0 i hi
  rw[hb,C3,st]
  by_cases z:hgP S i=true
  ·have z':=of_decide_eq_true z
   rw[if_pos ⟨by omega,z'.2⟩]
   exact .inl ⟨z,rfl⟩
  ·have z2:hgP S i=false:=by simpa using z
   have z':=of_decide_eq_false z2
   rw[if_neg (fun y=>z' ⟨by have:=y.1;omega,y.2⟩)]
   exact .inr ⟨z2,_,rfl,some _,some _,some _,rfl⟩)
 have lp:∀r,B6 (x9 [(c7 3),(c7 4)]) (haB haN) ((List.range S.length).map (fun j:Nat=>D.tup [.int ((0+j:Nat):Int),i9 (g7 S j)])) [.fz C,.fz B,.hd (S.map i9),.no,.no,.no]=r→a0X 2 (x9 [(c7 3),(c7 4)]) (haB haN) [.fz C,.fz B,.ow (S.map i9),.no,.no,.no]=unhide 2 (S.map i9) r:=by
  rintro _ rfl
  rw[← a22 i9 rD0 S 0]
  rfl
 unfold hgR
 rcases key with⟨x,e1,e2⟩ | ⟨e1,e2,e3,_⟩
 ·rw[e1]
  exact b4L (a0X 2 (x9 [(c7 3),(c7 4)]) (haB haN)) E9 C B (S.map i9) _ hs (lp _ e2)
 ·rw[e1]
  exact b4M (a0X 2 (x9 [(c7 3),(c7 4)]) (haB haN)) E9 C B (S.map i9) _ hs (lp _ e3)
def apR(a b:R4):Prop:=a.2.2.1≤b.1∨b.2.2.1≤a.1∨a.2.2.2≤b.2.1∨b.2.2.2≤a.2.1
structure Sub4(s r:R4):Prop where
 x:r.1≤s.1
 x2:s.2.2.1≤r.2.2.1
 y:r.2.1≤s.2.1
 y2:s.2.2.2≤r.2.2.2
 px:s.1<s.2.2.1
 py:s.2.1<s.2.2.2
theorem apR.symm{a b:R4}(h:apR a b):apR b a:=by unfold apR at h ⊢;omega
theorem Sub4.trans{a b c:R4}(h:Sub4 a b)(k:Sub4 b c):Sub4 a c:=⟨by have:=h.x;have:=k.x;omega,by have:=h.x2;have:=k.x2;omega,by have:=h.y;have:=k.y;omega,by have:=h.y2;have:=k.y2;omega,h.px,h.py⟩
def Q0(c k:Int):Int:=(c%1000000007*(k+3)*48271+(k+1)*(k+5)*69621)%2147483647*40692%2147483399
theorem a23(c k:Int)(h0:0≤k)(h1:k≤10 ^ 6):x4 [.int c,.int k]=some (.ret (.int (Q0 c k))):=by
 have e1:t8 (.int (c%1000000007)) (.int (k+3))=some (.int (c%1000000007*(k+3))):=a3y (by omega)
 have e2:t8 (.int (k+1)) (.int (k+5))=some (.int ((k+1)*(k+5))):=a3x (by omega)
 clear h0 h1
 unfold x4 a4Q Q0
 walk_at "eh"
abbrev lbB(MX:List D→Option R1):SF:=(c6 (V0 (m7 j6 0 (eV 4)) (x9 [(c7 5),(c7 6),(c7 7),(c7 8)])) (c6 (y9 9 MX (aC (eV 1) (aC (eV 4) aN))) (c6 (j7 10 (eT (aC (eB w6 (eV 7) (eV 5)) (aC (eB w6 (eV 8) (eV 6)) (aC (eB (B8 false) (eB l5 (eB r9 (eV 9) (eC (.int 6))) (eC (.int 2))) (eC (.int 0))) aN))))) (c6 (A4 (bZ (eB (B8 false) (eB l5 (eV 9) (eC (.int 3))) (eC (.int 0)))) (j7 10 (eT (aC (eB w6 (eV 8) (eV 6)) (aC (eB w6 (eV 7) (eV 5)) (aC (eC (.bl true)) aN))))) B9) (K0 2 (eT (aC (eB r9 (eV 9) (eC (.int 2))) (aC (eV 4) (aC (eV 10) (aC (eT (aC (eB w6 (eV 5) (eV 3)) (aC (eV 6) (aC (eB (B8 false) (eB l5 (eV 9) (eC (.int 3))) (eC (.int 0))) aN)))) (aC (eT (aC (eB w6 (eV 5) (eV 3)) (aC (eV 6) (aC (eB w6 (eV 7) (eV 3)) (aC (eV 8) aN))))) aN)))))))))))
abbrev qM(x y x2 y2 o m:Int):Q:=((x-o,y,x2-x,y2-y),decide (m%3=0),decide (m/6%2=0))
theorem b4N(x y x2 y2 o m:Int):sQ (qM x y x2 y2 o m)=.tup [.int (x-o),.int y,.int (x2-o),.int y2]:=by
 show D.tup [.int (x-o),.int y,.int (x-o+(x2-x)),.int (y+(y2-y))]=_
 rw[show x-o+(x2-x)=x2-o by omega,show y+(y2-y)=y2 by omega]
theorem b2T(MX:List D→Option R1)(A acc:List D)(c o k x y x2 y2 m:Int)(o5 o6 o7 o8 o9 o10:Option D)(a1:atI A k=some (.tup [.int x,.int y,.int x2,.int y2]))(x1:MX [.int c,.int k]=some (.ret (.int m)))(hl:acc.length<sizeLine) :
  ∃o10':Option D,lbB MX [.fz (.lst A),.fz (.int c),.ow acc,.fz (.int o),.fz (.int k),un o5,un o6,un o7,un o8,un o9,un o10]=some (.nx [.fz (.lst A),.fz (.int c),.ow (acc++[.tup [.int (m/2),.int k,wQ (qM x y x2 y2 o m),pQ (qM x y x2 y2 o m),sQ (qM x y x2 y2 o m)]]),.fz (.int o),.fz (.int k),.fz (.int x),.fz (.int y),.fz (.int x2),.fz (.int y2),.fz (.int m),un o10']):=by
 rw[b4N]
 by_cases z:m%3=0
 ·refine⟨some (a1d (y2-y) (x2-x) true),?_⟩
  have e:wQ (qM x y x2 y2 o m)=a1d (y2-y) (x2-x) true:=by unfold wQ qM;rw[decide_eq_true z];rfl
  rw[e]
  unfold lbB
  show _=some (RS.nx [_,_,.ow (acc++[.tup [_,_,_,a50 (x-o) y (decide (m%3=0)),_]]),_,_,_,_,_,_,_,.fz (a1d (y2-y) (x2-x) true)])
  rw[decide_eq_true z]
  clear e
  walk_at "eh"
 ·refine⟨some (a1d (x2-x) (y2-y) (decide (m/6%2=0))),?_⟩
  have e:wQ (qM x y x2 y2 o m)=a1d (x2-x) (y2-y) (decide (m/6%2=0)):=by unfold wQ qM;rw[decide_eq_false z];rfl
  rw[e]
  unfold lbB
  show _=some (RS.nx [_,_,.ow (acc++[.tup [_,_,_,a50 (x-o) y (decide (m%3=0)),_]]),_,_,_,_,_,_,_,.fz (a1d (x2-x) (y2-y) (decide (m/6%2=0)))])
  rw[decide_eq_false z]
  clear e
  walk_at "eh"
  try rfl
def qF(L:List R4)(c o:Int)(k:Nat):Q:=qM (L.getD k rD0).1 (L.getD k rD0).2.1 (L.getD k rD0).2.2.1 (L.getD k rD0).2.2.2 o (Q0 c k)
def V1(L:List R4)(c o:Int)(k:Nat):R6:=([Q0 c k/2,(k:Int)],[wQ (qF L c o k),pQ (qF L c o k),sQ (qF L c o k)])
theorem a9k(L:List R4)(c o:Int)(hl:L.length≤100):∃e:DE,B6 (c7 4) (lbB x4) (L8 0 L.length) [.fz (.lst (L.map i9)),.fz (.int c),.ow [],.fz (.int o),.no,.no,.no,.no,.no,.no,.no]=some (.nx (.fz (.lst (L.map i9)) :: .fz (.int c) :: .ow (((List.range L.length).map (V1 L c o)).map K2)::e)):=by
 obtain⟨e',k1,o4,o5,o6,o7,o8,o9,o10,rfl⟩:=K7 (b:=c7 4) (body:=lbB x4) (fun(i:Nat)=>D.int (0+(i:Int))) (fun pre ev=>∃o4 o5 o6 o7 o8 o9 o10:Option D,ev=[.fz (.lst (L.map i9)),.fz (.int c),.ow ((pre.map (V1 L c o)).map K2),.fz (.int o),un o4,un o5,un o6,un o7,un o8,un o9,un o10]) (List.range L.length) [.fz (.lst (L.map i9)),.fz (.int c),.ow [],.fz (.int o),.no,.no,.no,.no,.no,.no,.no] ⟨none,none,none,none,none,none,none,rfl⟩ (by
  rintro pre i post ev hq ⟨o4,o5,o6,o7,o8,o9,o10,rfl⟩
  obtain⟨e1,hi⟩:=a21 hq
  have hi':i<L.length:=by omega
  have hb:c7 4 (.int (0+(i:Int))) [.fz (.lst (L.map i9)),.fz (.int c),.ow ((pre.map (V1 L c o)).map K2),.fz (.int o),un o4,un o5,un o6,un o7,un o8,un o9,un o10]=some [.fz (.lst (L.map i9)),.fz (.int c),.ow ((pre.map (V1 L c o)).map K2),.fz (.int o),.fz (.int (i:Int)),un o5,un o6,un o7,un o8,un o9,un o10]:=by rw[Int.zero_add];cases o4<;>rfl
  obtain⟨o10',st⟩:=b2T x4 (L.map i9) ((pre.map (V1 L c o)).map K2) c o i _ _ _ _ _ o5 o6 o7 o8 o9 o10 (a0b (by rw[List.getElem?_map,List.getElem?_eq_getElem hi'];rfl)) (a23 c i (by omega) (by omega)) (by rw[List.length_map,List.length_map];show _<2 ^ 24;omega)
  have e3:∀q:Q,q=qF L c o i→List.map K2 (List.map (V1 L c o) pre)++[D.tup [.int (Q0 c i/2),.int (i:Int),wQ q,pQ q,sQ q]]=((pre++[i]).map (V1 L c o)).map K2:=by
   rintro q rfl
   rw[List.map_append,List.map_append]
   rfl
  rw[e3 _ (by unfold qF;rw[M1 hi'])]at st
  rw[hb,C3,st]
  exact⟨_,rfl,some _,some _,some _,some _,some _,some _,o10',rfl⟩)
 exact⟨_,k1⟩
theorem a24{α β:Type}(f:α→β):∀{l l':List β},l.Perm l'→∀m:List α,l'=m.map f→∃m':List α,m'.Perm m∧l=m'.map f:=by
 intro l l' h
 induction h with
 | nil=>intro m e;exact⟨m,.refl _,e⟩
 | cons x _ ih =>
  intro m e
  cases m with
  | nil=>cases e
  | cons a m =>
   rw[List.map_cons]at e
   injection e with e1 e2
   obtain⟨m',p,q⟩:=ih m e2
   exact⟨a::m',p.cons a,by rw[List.map_cons,← e1,q]⟩
 | swap x y l =>
  intro m e
  cases m with
  | nil=>cases e
  | cons a m =>
   cases m with
   | nil=>simp at e
   | cons b m =>
    rw[List.map_cons,List.map_cons]at e
    injection e with e1 e2
    injection e2 with e2 e3
    exact⟨b::a::m,.swap a b m,by rw[List.map_cons,List.map_cons,← e1,← e2,← e3]⟩
 | trans _ _ ih1 ih2 =>
  intro m e
  obtain⟨m1,p1,q1⟩:=ih2 m e
  obtain⟨m2,p2,q2⟩:=ih1 m1 q1
  exact⟨m2,p2.trans p1,q2⟩
theorem b4O(q:Q):K4 (wQ q)=true:=by unfold wQ;split<;>rfl
theorem a9l(L:List R4)(c o:Int)(hl:L.length<64):∃σ:List Nat,σ.Perm (List.range L.length)∧a1u (.lst (((List.range L.length).map (V1 L c o)).map K2))=some (σ.map fun k=>K2 (V1 L c o k)):=by
 have g:=a85 (qs:=(List.range L.length).map (V1 L c o)) (by
  intro q m
  obtain⟨k,_,rfl⟩:=List.mem_map.mp m
  refine⟨by unfold V1;simp,?_⟩
  show(K4 (wQ (qF L c o k)) && (K4 (pQ (qF L c o k)) && (K4 (sQ (qF L c o k)) && true)))=true
  rw[b4O];rfl) (by rw[List.length_map,List.length_range];exact hl) (by
  rw[List.pairwise_map]
  refine List.Pairwise.imp ?_ (List.nodup_range (n:=L.length))
  intro i j h
  refine⟨rfl,fun z=>h ?_⟩
  have:[Q0 c i/2,(i:Int)]=[Q0 c j/2,(j:Int)]:=z
  injection this with _ z
  injection z with z
  omega)
 obtain⟨σ,h1,h2⟩:=a24 (V1 L c o) (U5 ((List.range L.length).map (V1 L c o))) (List.range L.length) rfl
 exact⟨σ,h1,by rw[g,h2,List.map_map];rfl⟩
theorem b5u(LP:SF)(OF:ZF)(GS:D→Option (List D))(N1 N2 N3:NF)(A R S X Y Z:List D)(c o:D)(e:DE)(h0:OF [.fz (.lst A),.fz c,.ow [],.no,.no,.no,.no,.no,.no,.no,.no]=some (.ok o [.fz (.lst A),.fz c,.ow [],.no,.no,.no,.no,.no,.no,.no,.no]))(h:LP [.fz (.lst A),.fz c,.ow [],.fz o,.no,.no,.no,.no,.no,.no,.no]=some (.nx (.fz (.lst A) :: .fz c :: .ow R::e)))(hg:GS (.lst R)=some S)
  (n1:N1 (.fz (.lst A) :: .fz c :: .ow S::e)=some (.ok X (.fz (.lst A) :: .fz c :: .ow S::e))) (n2:N2 (.fz (.lst A) :: .fz c :: .ow S::e)=some (.ok Y (.fz (.lst A) :: .fz c :: .ow S::e))) (n3:N3 (.fz (.lst A) :: .fz c :: .ow S::e)=some (.ok Z (.fz (.lst A) :: .fz c :: .ow S::e))):fD 11 2 (c6 (u9 2 (eL aN)) (c6 (j7 3 OF) (c6 LP (c6 (u9 2 (nCV GS 2)) (t9 (eT (aC (zN N1) (aC (zN N2) (aC (zN N3) aN))))))))) [.lst A,c]=some (.ret (.tup [.lst X,.lst Y,.lst Z])):=by
 walk_at "eh"
theorem a4k(j:Int)(f:Nat→D)(g:Nat→D)(σ:List Nat)(hl:σ.length≤100)(hj:∀k,i8 (f k) (.int j)=some (g k))(A c:D)(e:DE):N8 2 1 [] (c7 0) D7 (eB i8 (eV 0) (eC (.int j))) (.fz A :: .fz c :: .ow (σ.map f)::e)=some (.ok (σ.map g) (.fz A :: .fz c :: .ow (σ.map f)::e)):=by
 have:=P8 (b:=c7 0) (c:=D7) (el:=eB i8 (eV 0) (eC (.int j))) (ec:=[.no]) (eo:=(.fz A :: .fz c :: .ow (σ.map f)::e)) f g (fun _=>true) σ [] (by show 0+σ.length≤2 ^ 24;omega) (by
  intro k _
  refine⟨[.fz (f k)],[.fz (f k)],rfl,rfl,fun _=>⟨[.fz (f k)],?_⟩⟩
  have:=hj k
  generalize i8=GI at *
  generalize f k=fk at *
  walk_at "eh")
 rw[List.filter_eq_self.mpr (fun _ _=>rfl),List.nil_append]at this
 exact this
theorem b5v:∃B:Int,S1 (.int 10) (.int 6)=some (.int B)∧B=10 ^ 6:=⟨_,a1s (by decide +kernel),rfl⟩
theorem b4b(A:D)(c:Int):∃o:Int,(eB t8 (eB l5 (eB r9 (eV 1) (eC (.int 3))) (eC (.int 5))) (eB l5 (eB r9 (eV 1) (eC (.int 15))) (eB S1 (eC (.int 10)) (eC (.int 6))))) [.fz A,.fz (.int c),.ow [],.no,.no,.no,.no,.no,.no,.no,.no]=some (.ok (.int o) [.fz A,.fz (.int c),.ow [],.no,.no,.no,.no,.no,.no,.no,.no]):=by
 obtain⟨B,hB,eB'⟩:=b5v
 have g2:l5 (.int (c/15)) (.int B)=some (.int (c/15%B)):=a6Y (by omega)
 have g3:t8 (.int (c/3%5)) (.int (c/15%B))=some (.int (c/3%5*(c/15%B))):=a3x (by omega)
 clear eB'
 refine⟨c/3%5*(c/15%B),?_⟩
 walk_at "eh"
abbrev q0:Q:=((0,0,1,1),false,false)
abbrev gq(L:List Q)(k:Nat):Q:=L.getD k q0
abbrev yk(L:List Q)(k:Nat):Int:=(gq L k).1.2.1
def ksL(L:List Q)(n:Nat):List (List Int):=(List.range n).map fun(k:Nat)=>[yk L k,(k:Int)]
abbrev elO:ZF:=(eT (aC (eB i8 (m7 j6 1 (eV 0)) (eC (.int 1))) (aC (eV 0) aN)))
theorem b2U(B:List D)(k x y:Int)(l:Bool)(a1:atI B k=some (.tup [.int x,.int y,.bl l])):elO [.fz (.int k),.fz (.lst B)]=some (.ok (.tup [.int y,.int k]) [.fz (.int k),.fz (.lst B)]):=by
 unfold elO
 walk_at "eh"
theorem b5w{L:List Q}{k:Nat}(f:Q→D)(hk:k<L.length):atI (L.map f) (k:Int)=some (f (gq L k)):=a0b (by rw[List.getElem?_map,List.getElem?_eq_getElem hk,gq,M1 hk];rfl)
theorem b4c(L:List Q)(n:Nat)(hn:n≤L.length):a1k elO [.no,.fz (.lst (L.map pQ))] n=some (ksL L n):=by
 induction n with
 | zero=>rfl
 | succ n ih =>
  unfold a1k
  rw[ih (by omega)]
  have st:elO (List.set [.no,.fz (.lst (L.map pQ))] 0 (.fz (.int (n:Int))))=some (.ok (.tup [.int (yk L n),.int (n:Int)]) [.fz (.int (n:Int)),.fz (.lst (L.map pQ))]):=b2U (L.map pQ) n _ _ _ (b5w pQ (by omega))
  rw[st]
  unfold ksL
  rw[List.range_succ,List.map_append]
  rfl
theorem b4d(L:List Q)(n:Nat):okK (ksL L n)=true:=by
 unfold okK
 rw[Bool.and_eq_true]
 constructor
 ·refine decide_eq_true ?_
  unfold ksL
  rw[List.nodup_iff_pairwise_ne,List.pairwise_map]
  refine List.Pairwise.imp ?_ (List.nodup_range (n:=n))
  intro i j h e
  injection e with _ e
  injection e with e
  omega
 ·rw[List.all_eq_true]
  intro k m
  obtain⟨i,hi,rfl⟩:=List.mem_map.mp m
  have hn:=List.mem_range.mp hi
  unfold ksL
  cases n with
  | zero=>omega
  | succ n=>rw[List.range_succ_eq_map,List.map_cons];rfl
theorem b4e(L:List Q):∃σ:List Nat,σ.Perm (List.range L.length)∧σ.Pairwise (fun a b=>HT.lexLt [yk L b,(b:Int)] [yk L a,(a:Int)]=false)∧((U4 (a0h (ksL L L.length))).map fun q=>q.2.headD .non)=σ.map fun(k:Nat)=>D.int (k:Int):=by
 have hl:(ksL L L.length).length=L.length:=by unfold ksL;rw[List.length_map,List.length_range]
 have hr:a0h (ksL L L.length)=(List.range L.length).map fun(k:Nat)=>(([yk L k,(k:Int)],[D.int (k:Int)]):R6):=by
  unfold a0h
  rw[hl]
  refine List.map_congr_left fun k m=>?_
  have hk:=List.mem_range.mp m
  have:(ksL L L.length).getD k []=[yk L k,(k:Int)]:=by
   unfold ksL
   rw[List.getD_eq_getElem?_getD,List.getElem?_map,List.getElem?_range hk]
   rfl
  rw[this]
 obtain⟨σ,h1,h2⟩:=a24 (fun(k:Nat)=>(([yk L k,(k:Int)],[D.int (k:Int)]):R6)) (U5 (a0h (ksL L L.length))) (List.range L.length) hr
 refine⟨σ,h1,?_,?_⟩
 ·have:=Y6 (a0h (ksL L L.length))
  rw[h2,List.pairwise_map]at this
  exact this
 ·rw[h2,List.map_map];rfl
theorem b4P(W:D)(B R:List D)(ks:List (List Int))(n:Nat)(hB:B.length=n)(h64:n<64)(hk:a1k elO [.no,.fz (.lst B)] n=some ks)(ok:okK ks=true)(hR:((U4 (a0h ks)).map fun q=>q.2.headD .non)=R):E4 [W,.lst B]=some (.own R):=by
 have e:(a3D [1] (aC (y8 r8 1) aN) elO) [.fz W,.fz (.lst B)]=some (.ok R [.fz W,.fz (.lst B)]):=by
  show(if 0≤(B.length:Int)∧(B.length:Int)<64 then(match a1k elO [.no,.fz (.lst B)] (B.length:Int).toNat with
   | some ks=>if okK ks=true then some (L2.R.ok ((U4 (a0h ks)).map fun q=>q.2.headD .non) [Sl.fz W,Sl.fz (.lst B)])else none
   | none=>none)else none)=_
  rw[if_pos ⟨by omega,by omega⟩,Int.toNat_natCast,hB,hk]
  show(if okK ks=true then _ else _)=_
  rw[if_pos ok,hR]
 have:E4 [W,.lst B]=a0Z (S7 ((a3D [1] (aC (y8 r8 1) aN) elO) [.fz W,.fz (.lst B)]) fun ds _=>some (.ro ds)):=rfl
 rw[this,e]
 rfl
structure Ord(L:List Q)(σ:List Nat):Prop where
 pm:σ.Perm (List.range L.length)
 up:σ.Pairwise fun a b=>yk L a<yk L b∨(yk L a=yk L b∧a<b)
theorem b5x{a b c d:Int}(h:HT.lexLt [c,d] [a,b]=false)(n:b≠d):a<c∨(a=c∧b<d):=by
 rw[HT.lexLt_cons]at h
 by_cases e:c=a
 ·rw[if_pos e,HT.lexLt_cons]at h
  by_cases e2:d=b
  ·exact absurd e2.symm n
  ·rw[if_neg e2]at h
   have:=of_decide_eq_false h
   exact .inr ⟨e.symm,by omega⟩
 ·rw[if_neg e]at h
  have:=of_decide_eq_false h
  exact .inl (by omega)
theorem a56(L:List Q)(hl:L.length<64)(W:D):∃σ,Ord L σ∧E4 [W,.lst (L.map pQ)]=some (.own (σ.map fun(k:Nat)=>D.int (k:Int))):=by
 obtain⟨σ,h1,h2,h3⟩:=b4e L
 have nd:σ.Nodup:=h1.nodup_iff.mpr List.nodup_range
 refine⟨σ,⟨h1,?_⟩,b4P W (L.map pQ) _ (ksL L L.length) L.length (by rw[List.length_map]) hl (b4c L L.length (Nat.le_refl _)) (b4d L _) h3⟩
 refine(h2.and nd).imp ?_
 intro a b ⟨h,n⟩
 rcases b5x h (by omega)with z | z
 ·exact .inl z
 ·exact .inr ⟨z.1,by omega⟩
abbrev hk(L:List Q)(k:Nat):Int:=(gq L k).1.2.2.2
theorem a57{i:Int}(h:i.natAbs<2 ^ 8000):Fits i:=by
 have e:Fits (2 ^ 8000):=by unfold Fits;decide +kernel
 exact e.le (by rw[Int.natAbs_pow];exact Nat.le_of_lt h)
abbrev gcC:BF:=(bZ (eB (B8 true) (eV 1) (eC (.int 0))))
abbrev gcB:SF:=(c6 (j7 2 (eB l5 (eV 0) (eV 1))) (c6 (j7 0 (eV 1)) (j7 1 (eV 2))))
theorem b4f(a b:Int)(o2:Option D)(h:¬b=0):gcC [.fz (.int a),.fz (.int b),un o2]=some (.ok true [.fz (.int a),.fz (.int b),un o2]):=by
 unfold gcC
 walk_at "eh"
 rfl
theorem b0P(a:Int)(o2:Option D):gcC [.fz (.int a),.fz (.int 0),un o2]=some (.ok false [.fz (.int a),.fz (.int 0),un o2]):=by
 unfold gcC
 walk_at "eh"
theorem b4g(a b:Int)(o2:Option D)(h:0<b):gcB [.fz (.int a),.fz (.int b),un o2]=some (.nx [.fz (.int b),.fz (.int (a%b)),.fz (.int (a%b))]):=by
 unfold gcB
 cases o2<;>simp only[un]<;>walk_at "eh"
theorem a0k{c:BF}{body:SF}{n:Nat}{e e1 e2:DE}(h1:c e=some (.ok true e1))(h2:body e1=some (.nx e2)):v8 c body (n+1) e=v8 c body n e2:=by
 rw[v8,h1,Q7,if_pos rfl,h2]
theorem U8{c:BF}{body:SF}{n:Nat}{e e1:DE}(h1:c e=some (.ok false e1)):v8 c body (n+1) e=some (.nx e1):=by
 rw[v8,h1,Q7];rfl
theorem a9m:∀(n a b fuel:Nat) (o2:Option D),b<2 ^ n→2*n+1≤fuel→∃o2':Option D,v8 gcC gcB fuel [.fz (.int (a:Int)),.fz (.int (b:Int)),un o2]=some (.nx [.fz (.int ((Nat.gcd a b:Nat):Int)),.fz (.int 0),un o2'])
 | 0,a,b,fuel,o2,hb,hf=>by
  have:b=0:=by omega
  subst this
  obtain⟨m,rfl⟩:∃m,fuel=m+1:=⟨fuel-1,by omega⟩
  exact⟨o2,by rw[Nat.gcd_zero_right];exact U8 (b0P _ _)⟩
 | n+1,a,b,fuel,o2,hb,hf=>by
  obtain⟨m,rfl⟩:∃m,fuel=m+1+1+1:=⟨fuel-3,by omega⟩
  by_cases z:b=0
  ·subst z
   exact⟨o2,by rw[Nat.gcd_zero_right];exact U8 (b0P _ _)⟩
  ·have s1:v8 gcC gcB (m+1+1+1) [.fz (.int (a:Int)),.fz (.int (b:Int)),un o2]=v8 gcC gcB (m+1+1) [.fz (.int (b:Int)),.fz (.int ((a%b:Nat):Int)),un (some (.int ((a%b:Nat):Int)))]:=by
    refine a0k (b4f _ _ _ (by omega)) ?_
    rw[b4g _ _ _ (by omega),Int.natCast_emod]
    rfl
   have g1:Nat.gcd a b=Nat.gcd b (a%b):=by rw[Nat.gcd_comm a b,Nat.gcd_rec b a,Nat.gcd_comm]
   rw[s1,g1]
   generalize hr:a%b=r at *
   have hrb:r<b:=by rw[← hr];exact Nat.mod_lt _ (by omega)
   by_cases y:r=0
   ·subst y
    exact⟨_,by rw[Nat.gcd_zero_right];exact U8 (b0P _ _)⟩
   ·have s2:v8 gcC gcB (m+1+1) [.fz (.int (b:Int)),.fz (.int (r:Int)),un (some (.int (r:Int)))]=v8 gcC gcB (m+1) [.fz (.int (r:Int)),.fz (.int ((b%r:Nat):Int)),un (some (.int ((b%r:Nat):Int)))]:=by
     refine a0k (b4f _ _ _ (by omega)) ?_
     rw[b4g _ _ _ (by omega),Int.natCast_emod]
     rfl
    have g2:Nat.gcd b r=Nat.gcd r (b%r):=by rw[Nat.gcd_comm b r,Nat.gcd_rec r b,Nat.gcd_comm]
    rw[s2,g2]
    refine a9m n r (b%r) (m+1) _ ?_ (by omega)
    have h1:b%r<r:=Nat.mod_lt _ (by omega)
    have h2:=Nat.div_add_mod b r
    have h3:1≤b/r:=Nat.div_pos (by omega) (by omega)
    have h4:r*1≤r*(b/r):=Nat.mul_le_mul_left _ h3
    rw[Nat.pow_succ]at hb
    omega
theorem b4Q(WL:SF)(a b g:Int)(s1 s2:Sl)(h:WL [.fz (.int a),.fz (.int b),.no]=some (.nx [.fz (.int g),s1,s2])):fD 3 2 (c6 WL (P3 0)) [.int a,.int b]=some (.ret (.int g)):=by
 walk_at "eh"
theorem b4h(a b:Nat)(hb:b<2 ^ 8000):J1 [.int (a:Int),.int (b:Int)]=some (.ret (.int ((Nat.gcd a b:Nat):Int))):=by
 obtain⟨o,h⟩:=a9m 8000 a b 1000000 none hb (by omega)
 exact b4Q (v8 gcC gcB 1000000) _ _ _ _ _ h
theorem b4R(CD:List D→Option R1)(t b g:Int)(h:CD [.int t,.int b]=some (.ret (.int g)))(hg:0<g∧g.natAbs.log2<9000):fD 3 2 (c6 (y9 2 CD (aC (eV 0) (aC (eV 1) aN))) (t9 (eT (aC (eB r9 (eV 0) (eV 2)) (aC (eB r9 (eV 1) (eV 2)) aN))))) [.int t,.int b]=some (.ret (.tup [.int (t/g),.int (b/g)])):=by
 have w1:=a0P (a:=t) hg
 have w2:=a0P (a:=b) hg
 walk_at "eh"
theorem b4i{g n:Nat}(h:g<2 ^ n)(hg:0<g):g.log2<n:=(Nat.log2_lt (by omega)).mpr h
theorem b4j(t b:Nat)(hb:0<b)(hb2:b<2 ^ 8000):X1 [.int (t:Int),.int (b:Int)]=some (.ret (.tup [.int ((t/Nat.gcd t b:Nat):Int),.int ((b/Nat.gcd t b:Nat):Int)])):=by
 have hg:0<Nat.gcd t b:=Nat.gcd_pos_of_pos_right _ hb
 have hg2:Nat.gcd t b≤b:=Nat.gcd_le_right _ hb
 have:=b4R J1 (t:Int) (b:Int) _ (b4h t b hb2) ⟨by omega,by rw[Int.natAbs_natCast];exact Nat.lt_trans (b4i (Nat.lt_of_le_of_lt hg2 hb2) hg) (by omega)⟩
 rw[← Int.natCast_ediv,← Int.natCast_ediv]at this
 exact this
structure Fr(e W p q:Nat):Prop where
 pos:0<q
 dvd:q ∣ W
 le:p≤2 ^ e*q
theorem Fr.mono{e e' W W' p q:Nat}(h:Fr e W p q)(he:e≤e')(hW:W ∣ W'):Fr e' W' p q:=⟨h.pos,Nat.dvd_trans h.dvd hW,Nat.le_trans h.le (Nat.mul_le_mul_right _ (Nat.pow_le_pow_right (by omega) he))⟩
theorem b4k{a b c d D:Nat}(hb:0<b)(hd:0<d)(h1:b ∣ D)(h2:d ∣ D):(b*d)/Nat.gcd (a*d+c*b) (b*d) ∣ D:=by
 obtain⟨u,hu⟩:=h1
 obtain⟨v,hv⟩:=h2
 have hB:0<b*d:=Nat.mul_pos hb hd
 have hg:0<Nat.gcd (a*d+c*b) (b*d):=Nat.gcd_pos_of_pos_right _ hB
 have e1:b*d ∣ (a*d+c*b)*D:=by
  refine⟨a*u+c*v,?_⟩
  rw[Nat.add_mul,Nat.mul_add]
  congr 1
  ·rw[hu]
   simp only[Nat.mul_assoc,Nat.mul_comm,Nat.mul_left_comm]
  ·rw[hv]
   simp only[Nat.mul_assoc,Nat.mul_comm,Nat.mul_left_comm]
 have co:=Nat.coprime_div_gcd_div_gcd hg
 refine co.symm.dvd_of_dvd_mul_left ?_
 refine Nat.dvd_of_mul_dvd_mul_left hg ?_
 rw[← Nat.mul_assoc,Nat.mul_div_cancel' (Nat.gcd_dvd_right _ _),Nat.mul_div_cancel' (Nat.gcd_dvd_left _ _)]
 exact e1
theorem b4S{T B X:Nat}(hB:0<B)(h:T≤X*B):T/Nat.gcd T B≤X*(B/Nat.gcd T B):=by
 have hg:0<Nat.gcd T B:=Nat.gcd_pos_of_pos_right _ hB
 have e1:=Nat.mul_div_cancel' (Nat.gcd_dvd_left T B)
 have e2:=Nat.mul_div_cancel' (Nat.gcd_dvd_right T B)
 refine Nat.le_of_mul_le_mul_left ?_ hg
 rw[e1,Nat.mul_left_comm,e2]
 exact h
theorem b4T(RD:List D→Option R1)(GM:D→D→Option D)(a b c d ad cb bd:Int)(r:R1)(h1:GM (.int a) (.int d)=some (.int ad))(h2:GM (.int c) (.int b)=some (.int cb))(h3:GM (.int b) (.int d)=some (.int bd))(h:RD [.int (ad+cb),.int bd]=some r)(hr:∃v,r=.ret v):fD 2 2 (a3v RD (aC (eB u5 (eB GM (eB i8 (eV 0) (eC (.int 0))) (eB i8 (eV 1) (eC (.int 1)))) (eB GM (eB i8 (eV 1) (eC (.int 0))) (eB i8 (eV 0) (eC (.int 1))))) (aC (eB GM (eB i8 (eV 0) (eC (.int 1))) (eB i8 (eV 1) (eC (.int 1)))) aN))) [.tup [.int a,.int b],.tup [.int c,.int d]]=some r:=by
 obtain⟨v,rfl⟩:=hr
 walk_at "eh"
abbrev frD(p q:Nat):D:=.tup [.int (p:Int),.int (q:Int)]
theorem a2f{a b:Nat}(ha:a<2 ^ 8000)(hb:b<2 ^ 8000):t8 (.int (a:Int)) (.int (b:Int))=some (.int ((a*b:Nat):Int)):=by
 rw[a2v ((a57 (by rw[Int.natAbs_natCast];exact ha)).mul (a57 (by rw[Int.natAbs_natCast];exact hb))),Int.natCast_mul]
theorem a2g{p e n q:Nat}(h:p≤2 ^ e*q)(hq:q<2 ^ n)(hn:e+n≤8000):p<2 ^ 8000:=by
 refine Nat.lt_of_le_of_lt h (Nat.lt_of_lt_of_le (Nat.mul_lt_mul_of_pos_left hq (Nat.pow_pos (by omega))) ?_)
 rw[← Nat.pow_add]
 exact Nat.pow_le_pow_right (by omega) hn
abbrev prI(AD:List D→Option R1)(GM:D→D→Option D):SF:=(U9 5 (eV 13) (j9 AD (aC (m7 j6 5 (eV 13)) (aC (eT (aC (eB GM (eB i8 (eV 12) (eC (.int 0))) (eV 14)) (aC (eB GM (eB i8 (eV 12) (eC (.int 1))) (eB w6 (eV 10) (eV 8))) aN))) aN))))
abbrev prB(AD:List D→Option R1)(IN:SF):SF:=(c6 (V0 (m7 j6 4 (eV 7)) (x9 [(c7 8),(c7 9),(c7 10),(c7 11)])) (c6 (y9 12 AD (aC (m7 j6 5 (eV 7)) (aC (eT (aC (m7 j6 2 (eV 7)) (aC (eC (.int 1)) aN))) aN))) (c6 (A4 (bZ (eB (B8 false) (eV 9) (eC (.int 0)))) (y9 6 AD (aC (eV 6) (aC (eV 12) aN))) B9) IN)))
theorem b5y(AD:List D→Option R1)(GM:D→D→Option D)(T:List D)(j p q t x x2 pt qw:Int)(n:Nat)(tj v:D)(s0 s1 s2 s3 s4 s6 s7 s9 s11:Sl)(h1:atI T j=some tj)(hn:V2 T.length j=some n)(m1:GM (.int p) (.int t)=some (.int pt))(m2:GM (.int q) (.int (x2-x))=some (.int qw))(a1:AD [tj,.tup [.int pt,.int qw]]=some (.ret v)):prI AD GM [s0,s1,s2,s3,s4,.ow T,s6,s7,.fz (.int x),s9,.fz (.int x2),s11,.fz (.tup [.int p,.int q]),.fz (.int j),.fz (.int t)]=some (.nx [s0,s1,s2,s3,s4,.ow (T.set n v),s6,s7,.fz (.int x),s9,.fz (.int x2),s11,.fz (.tup [.int p,.int q]),.fz (.int j),.fz (.int t)]):=by
 unfold prI
 walk_at "eh"
theorem b5z(AD:List D→Option R1)(IN:SF)(A B:D)(W S T:List D)(s4:Sl)(h4:s4=.ow S∨s4=.fz (.lst S))(k x y x2 y2 w:Int)(tk ld fl fl':D)(o8 o9 o10 o11 o12:Option D)(s13 s14:Sl)(h1:atI S k=some (.tup [.int x,.int y,.int x2,.int y2]))(h2:atI T k=some tk)(h3:atI W k=some (.int w))(a1:AD [tk,.tup [.int w,.int 1]]=some (.ret ld))(hf:(y=0∧AD [fl,ld]=some (.ret fl'))∨(¬y=0∧fl=fl'))(r:Option RS)
  (hi:IN [.fz A,.fz B,.fz (.lst W),.fz .non,s4,.ow T,.fz fl',.fz (.int k),.fz (.int x),.fz (.int y),.fz (.int x2),.fz (.int y2),.fz ld,s13,s14]=r) :
  prB AD IN [.fz A,.fz B,.fz (.lst W),.fz .non,s4,.ow T,.fz fl,.fz (.int k),un o8,un o9,un o10,un o11,un o12,s13,s14]=r:=by
 subst hi
 unfold prB
 rcases h4 with rfl | rfl<;>rcases hf with⟨rfl,hf⟩ | ⟨z,rfl⟩<;>walk_at "eh"
abbrev tD(f:Nat×Nat):D:=frD f.1 f.2
theorem a9o(a b:R4):M9 a b≤b.2.2.1-b.1:=by
 unfold M9
 split<;>split<;>omega
theorem a9p(d:D)(n:Nat)(hw:n≤60):a0u (.lst [d]) (.int (n:Int))=some (List.replicate n d):=by
 have rf:∀w:Nat,(List.replicate w [d]).flatten=List.replicate w d:=fun w=>by
  induction w with
  | zero=>rfl
  | succ m ih=>rw[List.replicate_succ,List.flatten_cons,ih];rfl
 unfold a0u
 dsimp only
 rw[if_pos ⟨by omega,by omega,by rw[List.length_singleton,Nat.one_mul];show _≤2 ^ 24;omega⟩,rf,Int.toNat_natCast]
theorem a8e(L:List Q)(k:Nat)(hk:k<L.length):g7 (L.map rQ) k=rQ L[k]:=by
 unfold g7
 rw[List.getD_eq_getElem?_getD,List.getElem?_map,List.getElem?_eq_getElem hk]
 rfl
theorem a59(m:Nat):L8 0 m=(List.range m).map fun(k:Nat)=>D.int (k:Int):=by
 unfold L8
 refine List.map_congr_left fun i _=>?_
 rw[Int.zero_add]
abbrev weB(MX:List D→Option R1)(GM GP:D→D→Option D):SF:=(c6 (y9 4 MX (aC (eB u5 (eV 0) (eC (.int 5))) (aC (eB t8 (eC (.int 2)) (eV 3)) aN))) (A4 (bZ (eB (B8 false) (eB l5 (eV 4) (eC (.int 4))) (eC (.int 0)))) (K0 2 (eC (.int 0))) (A4 (bZ (eB (B8 false) (eB l5 (eV 4) (eC (.int 4))) (eC (.int 1)))) (K0 2 (eB l5 (eB GM (eB l5 (eV 0) (eB GP (eC (.int 10)) (eC (.int 31)))) (eV 4)) (eB u5 (eB GP (eC (.int 10)) (eC (.int 40))) (eC (.int 1))))) (K0 2 (eB l5 (eB r9 (eV 4) (eC (.int 4))) (eC (.int 10)))))))
theorem b5A(MX:List D→Option R1)(GM GP:D→D→Option D)(c n k m u v y w:Int)(A:List D)(o4:Option D)(h1:MX [.int (c+5),.int (2*k)]=some (.ret (.int m)))(g0:t8 (.int 2) (.int k)=some (.int (2*k)))(g2:GP (.int 10) (.int 31)=some (.int u))(g3:GP (.int 10) (.int 40)=some (.int v))(hu:0<u)(hv:0<v+1)(g4:GM (.int (c%u)) (.int m)=some (.int y))(hA:A.length<sizeLine)(hw:(m%4=0∧0=w)∨(¬m%4=0∧m%4=1∧y%(v+1)=w)∨(¬m%4=0∧¬m%4=1∧m/4%10=w)):weB MX GM GP [.fz (.int c),.fz (.int n),.ow A,.fz (.int k),un o4]=some (.nx [.fz (.int c),.fz (.int n),.ow (A++[.int w]),.fz (.int k),.fz (.int m)]):=by
 unfold weB
 rcases hw with⟨z,rfl⟩ | ⟨z,z2,rfl⟩ | ⟨z,z2,rfl⟩
 ·walk_at "eh"
 ·walk_at "eh"
 ·walk_at "eh"
theorem b5B(LO:SF)(c n:Int)(A:List D)(s3 s4:Sl)(h:LO [.fz (.int c),.fz (.int n),.ow [],.no,.no]=some (.nx [.fz (.int c),.fz (.int n),.ow A,s3,s4])):fD 5 2 (c6 (u9 2 (eL aN)) (c6 LO (P3 2))) [.int c,.int n]=some (.own A):=by
 walk_at "eh"
theorem b0Q(c k:Int):0≤Q0 c k∧Q0 c k<2147483399:=by
 unfold Q0
 exact⟨Int.emod_nonneg _ (by decide),Int.emod_lt_of_pos _ (by decide)⟩
theorem a8f(c:Int)(n:Nat)(hn:n≤60):∃ws:List Nat,K6 [.int c,.int (n:Int)]=some (.own (ws.map fun w=>D.int ((w:Nat):Int)))∧ws.length=n∧∀w∈ws,w≤2 ^ 134:=by
 obtain⟨u,g2,hu⟩:∃u:Int,S1 (.int 10) (.int 31)=some (.int u)∧0<u:=⟨_,a1s (by decide +kernel),by decide⟩
 obtain⟨v,g3,hv,hv2⟩:∃v:Int,S1 (.int 10) (.int 40)=some (.int v)∧0<v∧v≤2 ^ 134:=⟨_,a1s (by decide +kernel),by decide,by decide⟩
 obtain⟨e',g,ws,o3,o4,h1,h2,rfl⟩:=K7 (b:=c7 3) (body:=weB x4 t8 S1) (fun(k:Nat)=>D.int (k:Int)) (fun pre e=>∃(ws:List Nat) (o3 o4:Option D),ws.length=pre.length∧(∀w∈ws,w≤2 ^ 134)∧e=[.fz (.int c),.fz (.int (n:Int)),.ow (ws.map fun w=>D.int ((w:Nat):Int)),un o3,un o4]) (List.range n) [.fz (.int c),.fz (.int (n:Int)),.ow [],.no,.no] ⟨[],none,none,rfl,fun _ h=>(by cases h),rfl⟩ (by
  rintro pre k post e hq ⟨ws,o3,o4,h1,h2,rfl⟩
  have hk:k<n:=List.mem_range.mp (by rw[hq];simp)
  have hpl:pre.length<n:=by have:=congrArg List.length hq;rw[List.length_range,List.length_append,List.length_cons]at this;omega
  have hb:c7 3 (.int (k:Int)) [.fz (.int c),.fz (.int (n:Int)),.ow (ws.map fun w=>D.int ((w:Nat):Int)),un o3,un o4]=some [.fz (.int c),.fz (.int (n:Int)),.ow (ws.map fun w=>D.int ((w:Nat):Int)),.fz (.int (k:Int)),un o4]:=by cases o3<;>rfl
  rw[hb,C3]
  have mr:=b0Q (c+5) (2*(k:Int))
  obtain⟨w,hw,hw2⟩:∃w:Nat,((Q0 (c+5) (2*(k:Int))%4=0∧0=(w:Int))∨(¬Q0 (c+5) (2*(k:Int))%4=0∧Q0 (c+5) (2*(k:Int))%4=1∧(c%u*Q0 (c+5) (2*(k:Int)))%(v+1)=(w:Int))∨(¬Q0 (c+5) (2*(k:Int))%4=0∧¬Q0 (c+5) (2*(k:Int))%4=1∧Q0 (c+5) (2*(k:Int))/4%10=(w:Int)))∧w≤2 ^ 134:=by
   generalize Q0 (c+5) (2*(k:Int))=m at *
   by_cases z:m%4=0
   ·exact⟨0,.inl ⟨z,rfl⟩,Nat.zero_le _⟩
   ·by_cases z2:m%4=1
    ·have p1:=Int.emod_nonneg (c%u*m) (show v+1≠0 by omega)
     have p2:=Int.emod_lt_of_pos (c%u*m) (show 0<v+1 by omega)
     refine⟨(c%u*m%(v+1)).toNat,.inr (.inl ⟨z,z2,by omega⟩),?_⟩
     have:(c%u*m%(v+1))≤2 ^ 134:=by omega
     omega
    ·exact⟨(m/4%10).toNat,.inr (.inr ⟨z,z2,by omega⟩),Nat.le_trans (show(m/4%10).toNat≤10 by omega) (by decide)⟩
  have st:=b5A x4 t8 S1 c (n:Int) (k:Int) _ u v _ (w:Int) (ws.map fun w=>D.int ((w:Nat):Int)) o4 (a23 (c+5) (2*(k:Int)) (by omega) (by omega)) (a3x (by decide)) g2 g3 hu (by omega) (a3y (by omega)) (by rw[List.length_map];show _<2 ^ 24;omega) hw
  refine⟨_,(congrArg F9 st).trans rfl,ws++[w],some (.int (k:Int)),some (.int (Q0 (c+5) (2*(k:Int)))),by rw[List.length_append,List.length_append,h1];rfl,fun x m=>?_,?_⟩
  ·rcases List.mem_append.mp m with m | m
   ·exact h2 x m
   ·rw[List.mem_singleton.mp m];exact hw2
  ·rw[List.map_append]
   rfl)
 rw[List.length_range]at h1
 refine⟨ws,b5B (C8 P4 (aC (eV 1) aN) (c7 3) (weB x4 t8 S1)) c (n:Int) _ (un o3) (un o4) ?_,h1,h2⟩
 have e0:(aC (eV 1) aN) [.fz (.int c),.fz (.int (n:Int)),.ow [],.no,.no]=some (.ok [.int (n:Int)] [.fz (.int c),.fz (.int (n:Int)),.ow [],.no,.no]):=rfl
 rw[X4 e0 (a1w (by omega)),a59]
 exact g
theorem a5_(x:Int):O6 [.int x]=some (.ret (.bl true)):=by
 unfold O6 a4P
 walk_at "ev"
 rfl
abbrev edB(MX:List D→Option R1):SF:=(c6 (j7 3 (eB u5 (eC (.int 1)) (eB l5 (j9 MX (aC (eV 0) (aC (eV 2) aN))) (eC (.int 9))))) (c6 (A4 (bZ (eB (B8 false) (eB l5 (eB r9 (eV 0) (eC (.int 9))) (eC (.int 3))) (eC (.int 2)))) (j7 3 (eB u5 (eC (.int 1)) (eB l5 (j9 MX (aC (eV 0) (aC (eV 2) aN))) (eC (.int 97))))) B9) (K0 1 (eB u5 (m7 j6 1 (eU a5C (eC (.int 1)))) (eV 3)))))
abbrev iI(l:List Int):List D:=l.map D.int
theorem b5C(LP:SF)(c:Int)(E:List D)(s2 s3:Sl)(h:LP [.fz (.int c),.ow [.int 0],.no,.no]=some (.nx [.fz (.int c),.ow E,s2,s3])):fD 4 1 (c6 (u9 1 (eL (aC (eC (.int 0)) aN))) (c6 LP (P3 1))) [.int c]=some (.own E):=by
 walk_at "eh"
theorem b5D(c:Int)(s2 s3:Sl)(E:List D):(aC (eB u5 (eC (.int 2)) (eB l5 (eV 0) (eC (.int 9)))) aN) [.fz (.int c),.ow E,s2,s3]=some (.ok [.int (2+c%9)] [.fz (.int c),.ow E,s2,s3]):=by
 walk_at "eh"
def M8(n:Nat)(g:Nat→Nat):Nat:=((List.range n).map g).sum
theorem O9(n:Nat)(g:Nat→Nat):M8 (n+1) g=M8 n g+g n:=by
 unfold M8
 rw[List.range_succ,List.map_append,List.sum_append]
 simp
theorem b0R(n:Nat)(g k:Nat→Nat):M8 n (fun i=>g i+k i)=M8 n g+M8 n k:=by
 induction n with
 | zero=>rfl
 | succ n ih=>rw[O9,O9,O9,ih];omega
theorem a3L(n:Nat)(g k:Nat→Nat)(h:∀i,i<n→g i=k i):M8 n g=M8 n k:=by
 unfold M8
 rw[List.map_congr_left fun i m=>h i (List.mem_range.mp m)]
theorem a4V(n:Nat):M8 n (fun _=>0)=0:=by
 induction n with
 | zero=>rfl
 | succ n ih=>rw[O9,ih]
theorem a6a(a b c:Nat)(hab:a≤b):∀n,M8 n (fun i=>if a≤i∧i<b then c else 0)=(min b n-a)*c
 | 0=>by rw[show min b 0-a=0 by omega,Nat.zero_mul];rfl
 | n+1=>by
  rw[O9,a6a a b c hab n]
  by_cases z:a≤n∧n<b
  ·rw[if_pos z,show min b (n+1)-a=(min b n-a)+1 by omega,Nat.succ_mul]
  ·rw[if_neg z,show min b (n+1)-a=min b n-a by omega]
   rfl
theorem a6b(n:Nat):M8 n (fun _=>1)=n:=by
 induction n with
 | zero=>rfl
 | succ n ih=>rw[O9,ih]
theorem b2V(n:Nat)(g k:Nat→Nat)(h:∀i,i<n→g i≤k i):M8 n g≤M8 n k:=by
 induction n with
 | zero=>exact Nat.le_refl _
 | succ n ih =>
  rw[O9,O9]
  have:=ih (fun i hi=>h i (by omega))
  have:=h n (by omega)
  omega
theorem a25(n:Nat)(c:Nat→Nat→Nat):∀l:List Nat,M8 n (fun p=>(l.map (c p)).sum)=(l.map fun j=>M8 n fun p=>c p j).sum
 | []=>a4V n
 | j::l=>by
  rw[List.map_cons,List.sum_cons,← a25 n c l,← b0R]
  rfl
theorem a9q(x a b:Int)(n:Nat):M8 n (fun p=>if a≤x+(p:Int)∧x+(p:Int)<b then 1 else 0)=((if x+(n:Int)<b then x+(n:Int)else b)-(if x > a then x else a)).toNat:=by
 have e:M8 n (fun p=>if a≤x+(p:Int)∧x+(p:Int)<b then 1 else 0)=M8 n (fun p=>if(a-x).toNat≤p∧p<max (a-x).toNat (b-x).toNat then 1 else 0):=by
  refine a3L n _ _ fun p _=>?_
  by_cases z:a≤x+(p:Int)∧x+(p:Int)<b
  ·rw[if_pos z,if_pos (by omega)]
  ·rw[if_neg z,if_neg (by omega)]
 rw[e,a6a _ _ _ (by omega),Nat.mul_one]
 split<;>split<;>omega
theorem a7c:∀{l:List Nat} {x:Nat},x∈l→x≤l.sum
 | y::l,x,h=>by
  rw[List.sum_cons]
  rcases List.mem_cons.mp h with e | h
  ·omega
  ·have:=a7c h
   omega
def Sup(S:List R4):Prop:=∀s∈S,0<s.2.1→∀p:Int,s.1≤p→p<s.2.2.1→∃t∈S,t.2.2.2=s.2.1∧t.1≤p∧p<t.2.2.1
theorem a6c(S:List R4)(k:Nat):∀J:List Nat,(((J.filter (q2 S k)).map (tJ S k)).map (·.2)).sum=(((J.map fun j=>(M9 (g7 S j) (g7 S k)).toNat).sum:Nat):Int)
 | []=>rfl
 | j::J=>by
  rw[List.map_cons,List.sum_cons,Int.natCast_add,← a6c S k J,List.filter_cons]
  by_cases z:0<M9 (g7 S j) (g7 S k)
  ·have:q2 S k j=true:=decide_eq_true z
   rw[if_pos this,List.map_cons,List.map_cons,List.sum_cons]
   congr 1
   show M9 (g7 S j) (g7 S k)=_
   omega
  ·have:¬q2 S k j=true:=fun y=>z (of_decide_eq_true y)
   rw[if_neg this]
   omega
theorem a2h{S:List R4}{k:Nat}(hk:k<S.length):g7 S k∈S:=by
 unfold g7
 rw[List.getD_eq_getElem?_getD,List.getElem?_eq_getElem hk]
 exact List.getElem_mem hk
theorem a9r{S:List R4}{t:R4}(h:t∈S):∃j,j<S.length∧g7 S j=t:=by
 obtain⟨j,hj,e⟩:=List.mem_iff_getElem.mp h
 refine⟨j,hj,?_⟩
 unfold g7
 rw[List.getD_eq_getElem?_getD,List.getElem?_eq_getElem hj,e]
 rfl
theorem a7d{S:List R4}(h:Sup S)(hp:∀s∈S,s.1<s.2.2.1):hgR S=.non:=by
 have hf:(List.range S.length).find? (hgP S)=none:=by
  rw[List.find?_eq_none]
  intro k hk
  have hk:=List.mem_range.mp hk
  intro hg
  obtain⟨y0,hd⟩:=of_decide_eq_true (show decide (0<(g7 S k).2.1∧a8d S k<(g7 S k).2.2.1-(g7 S k).1)=true from hg)
  have hm:=a2h hk
  have hw:=hp _ hm
  obtain⟨n,hn⟩:=Int.eq_ofNat_of_zero_le (show 0≤(g7 S k).2.2.1-(g7 S k).1 by omega)
  have h1:n≤(((List.range S.length).filter (q1 S k)).map fun j=>(M9 (g7 S j) (g7 S k)).toNat).sum:=by
   have e2:(fun j=>(M9 (g7 S j) (g7 S k)).toNat)=fun j=>M8 n fun p=>if(g7 S j).1≤(g7 S k).1+(p:Int)∧(g7 S k).1+(p:Int)<(g7 S j).2.2.1 then 1 else 0:=by
    funext j
    rw[a9q]
    unfold M9
    rw[show(g7 S k).1+(n:Int)=(g7 S k).2.2.1 by omega]
   rw[e2,← a25 n (fun p j=>if(g7 S j).1≤(g7 S k).1+(p:Int)∧(g7 S k).1+(p:Int)<(g7 S j).2.2.1 then 1 else 0)]
   refine Nat.le_trans (Nat.le_of_eq (a6b n).symm) (b2V n _ _ fun p hpn=>?_)
   obtain⟨t,mt,t1,t2,t3⟩:=h _ hm y0 ((g7 S k).1+(p:Int)) (by omega) (by omega)
   obtain⟨j,hj,rfl⟩:=a9r mt
   have mj:j∈(List.range S.length).filter (q1 S k):=List.mem_filter.mpr ⟨List.mem_range.mpr hj,decide_eq_true t1⟩
   have:=a7c (List.mem_map.mpr ⟨j,mj,rfl⟩:(if(g7 S j).1≤(g7 S k).1+(p:Int)∧(g7 S k).1+(p:Int)<(g7 S j).2.2.1 then 1 else 0)∈((List.range S.length).filter (q1 S k)).map fun j=>if(g7 S j).1≤(g7 S k).1+(p:Int)∧(g7 S k).1+(p:Int)<(g7 S j).2.2.1 then 1 else 0)
   rw[if_pos ⟨t2,t3⟩]at this
   exact this
  unfold a8d tch at hd
  rw[a6c]at hd
  omega
 unfold hgR
 rw[hf]
abbrev sh4(o:Int)(r:R4):R4:=(r.1-o,r.2.1,r.2.2.1-o,r.2.2.2)
theorem b0S(MX:List D→Option R1)(c k m l:Int)(E:List D)(o3:Option D)(hm:MX [.int c,.int k]=some (.ret (.int m)))(hl:atI E (-1)=some (.int l))(hn:E.length<sizeLine) :
  ∃v:Int,1≤v∧v≤100∧edB MX [.fz (.int c),.ow E,.fz (.int k),un o3]=some (.nx [.fz (.int c),.ow (E++[.int (l+v)]),.fz (.int k),.fz (.int v)]):=by
 unfold edB
 by_cases z:c/9%3=2
 ·refine⟨1+m%97,by omega,by omega,?_⟩
  walk_at "eh"
 ·refine⟨1+m%9,by omega,by omega,?_⟩
  walk_at "eh"
abbrev En(E:List Int)(i:Nat):Int:=E.getD i 0
theorem b0T{E:List Int}(h:E≠[]):atI (iI E) (-1)=some (.int (En E (E.length-1))):=by
 rcases List.eq_nil_or_concat E with z | ⟨xs,l,rfl⟩
 ·exact absurd z h
 ·rw[List.concat_eq_append]
  have e:En (xs++[l]) ((xs++[l]).length-1)=l:=by
   unfold En
   rw[List.getD_eq_getElem?_getD,List.length_append,List.length_singleton,Nat.add_sub_cancel,List.getElem?_append_right (Nat.le_refl _),Nat.sub_self]
   rfl
  rw[e]
  unfold iI
  rw[List.map_append]
  exact a9L _ _
structure Edg(E:List Int):Prop where
 inc:∀i,i+1<E.length→En E i<En E (i+1)
 lo:∀i,i<E.length→0≤En E i∧En E i≤100*(i:Int)
theorem Edg.snoc{E:List Int}(h:Edg E)(hE:0<E.length){v:Int}(v1:1≤v)(v2:v≤100):Edg (E++[En E (E.length-1)+v]):=by
 have old:∀i,i<E.length→En (E++[En E (E.length-1)+v]) i=En E i:=fun i hi=>by
  unfold En
  simp only[List.getD_eq_getElem?_getD]
  rw[List.getElem?_append_left hi]
 have nw:En (E++[En E (E.length-1)+v]) E.length=En E (E.length-1)+v:=by
  unfold En
  rw[List.getD_eq_getElem?_getD,List.getElem?_append_right (Nat.le_refl _),Nat.sub_self]
  rfl
 refine⟨fun i hi=>?_,fun i hi=>?_⟩
 ·rw[List.length_append,List.length_singleton]at hi
  by_cases z:i+1<E.length
  ·rw[old i (by omega),old (i+1) z]
   exact h.inc i z
  ·have e:i+1=E.length:=by omega
   rw[e,nw,old i (by omega),show i=E.length-1 by omega]
   omega
 ·rw[List.length_append,List.length_singleton]at hi
  by_cases z:i<E.length
  ·rw[old i z]
   exact h.lo i z
  ·have e:i=E.length:=by omega
   subst e
   rw[nw]
   have:=h.lo (E.length-1) (by omega)
   omega
theorem a9s(c:Int):∃E:List Int,3≤E.length∧E.length≤11∧Edg E∧O7 [.int c]=some (.own (iI E)):=by
 obtain⟨n,hn⟩:∃n:Nat,2+c%9=(n:Int):=⟨(2+c%9).toNat,by omega⟩
 have n1:2≤n:=by omega
 have n2:n≤10:=by omega
 obtain⟨e',h,E,o2,o3,hE,hg,rfl⟩:=K7 (b:=c7 2) (body:=edB x4) (fun(k:Nat)=>D.int (k:Int)) (fun pre e=>∃(E:List Int) (o2 o3:Option D),E.length=pre.length+1∧Edg E∧e=[.fz (.int c),.ow (iI E),un o2,un o3]) (List.range n) [.fz (.int c),.ow [.int 0],.no,.no] ⟨[0],none,none,rfl,⟨fun i hi=>by simp at hi,fun i hi=>by
   have:i=0:=by simp at hi;exact hi
   subst this
   decide⟩,rfl⟩ (by
  rintro pre x post e hq ⟨E,o2,o3,hE,hg,rfl⟩
  have hx:x<n:=List.mem_range.mp (by rw[hq];simp)
  have hp:pre.length<n:=by have:=congrArg List.length hq;simp at this;omega
  have hb:c7 2 (.int (x:Int)) [.fz (.int c),.ow (iI E),un o2,un o3]=some [.fz (.int c),.ow (iI E),.fz (.int (x:Int)),un o3]:=by cases o2<;>rfl
  rw[hb,C3]
  have hl:=b0T (E:=E) (fun z=>by rw[z]at hE;simp at hE)
  obtain⟨v,v1,v2,st⟩:=b0S x4 c x _ _ (iI E) o3 (a23 c x (by omega) (by omega)) hl (by rw[List.length_map];show _<2 ^ 24;omega)
  refine⟨_,(congrArg F9 st).trans rfl,E++[En E (E.length-1)+v],some (.int (x:Int)),some (.int v),by simp[hE],hg.snoc (by omega) v1 v2,?_⟩
  unfold iI
  rw[List.map_append]
  rfl)
 rw[List.length_range]at hE
 refine⟨E,by omega,by omega,hg,b5C _ c _ (un o2) (un o3) ?_⟩
 have h0:=b5D c .no .no [.int 0]
 rw[hn]at h0
 rw[X4 h0 (a1w (by omega)),a59]
 exact h
theorem Edg.mono{E:List Int}(h:Edg E):∀(d i:Nat),i+d<E.length→En E i≤En E (i+d)
 | 0,i,_=>Int.le_refl _
 | d+1,i,hi=>by
  have h1:=h.mono d i (by omega)
  have h2:=h.inc (i+d) (by omega)
  show En E i≤En E (i+d+1)
  omega
theorem a26{ns:List Int}{k:Int}(hk:0≤k):u6 [.scr ns,.int k]=some (.ret (.int (C7 ns k))):=by
 rw[← b2r hk]
 unfold u6 a2K
 walk_at "ev"
 split
 ·cases atI ns k<;>rfl
 ·rfl
def vl(f:Nat×Nat):Rat:=(f.1:Rat)/(f.2:Rat)
theorem ne0{n:Nat}(h:0<n):(n:Rat)≠0:=by
 intro z
 have:=Rat.natCast_inj.mp (show((n:Nat):Rat)=((0:Nat):Rat)from z)
 omega
theorem a9t{a b c d:Nat}(hb:0<b)(hd:0<d):vl (a*d+c*b,b*d)=vl (a,b)+vl (c,d):=by
 unfold vl
 have h1:=ne0 hb
 have h2:=ne0 hd
 simp only[Rat.natCast_add,Rat.natCast_mul]
 grind
theorem b4m{t b:Nat}(hb:0<b):vl (t/Nat.gcd t b,b/Nat.gcd t b)=vl (t,b):=by
 have hg:0<Nat.gcd t b:=Nat.gcd_pos_of_pos_right _ hb
 have e1:=Nat.div_mul_cancel (Nat.gcd_dvd_left t b)
 have e2:=Nat.div_mul_cancel (Nat.gcd_dvd_right t b)
 generalize Nat.gcd t b=g at *
 generalize t/g=t' at *
 generalize b/g=b' at *
 subst e1 e2
 unfold vl
 have h1:=ne0 hg
 have h2:(b':Rat)≠0:=ne0 (Nat.pos_of_mul_pos_right hb)
 simp only[Rat.natCast_mul]
 grind
theorem a9u(p q t w:Nat):vl (p*t,q*w)=vl (p,q)*(t:Rat)/(w:Rat):=by
 unfold vl
 simp only[Rat.natCast_mul]
 grind
theorem a9v(w:Nat):vl (w,1)=(w:Rat):=by
 have e:((1:Nat):Rat)=1:=rfl
 unfold vl
 dsimp only
 rw[e]
 grind
theorem b4n{p q n:Nat}(hq:0<q)(hg:Nat.gcd p q=1)(h:vl (p,q)=(n:Rat)):p=n∧q=1:=by
 unfold vl at h
 have h1:=ne0 hq
 have h2:(p:Rat)=(n:Rat)*(q:Rat):=by dsimp only at h;grind
 rw[← Rat.natCast_mul]at h2
 have h3:p=n*q:=Rat.natCast_inj.mp h2
 have h4:Nat.gcd p q=q:=by rw[h3];exact Nat.gcd_mul_left_left _ _
 have:q=1:=by omega
 subst this
 exact⟨by omega,rfl⟩
theorem b4U{a b c d:Nat}(hb:0<b)(hd:0<d)(h:vl (a,b)=vl (c,d)):a*d=c*b:=by
 unfold vl at h
 have h1:=ne0 hb
 have h2:=ne0 hd
 have h3:(a:Rat)*d=c*b:=by dsimp only at h;grind
 rw[← Rat.natCast_mul,← Rat.natCast_mul]at h3
 exact Rat.natCast_inj.mp h3
def rs:List Nat→(Nat→Rat)→Rat
 | [],_=>0
 | k::l,g=>g k+rs l g
theorem a3N(l m:List Nat)(g:Nat→Rat):rs (l++m) g=rs l g+rs m g:=by
 induction l with
 | nil=>simp only[List.nil_append,rs];grind
 | cons k l ih=>simp only[List.cons_append,rs,ih];grind
theorem a7e{l m:List Nat}(g:Nat→Rat)(h:l.Perm m):rs l g=rs m g:=by
 induction h with
 | nil=>rfl
 | cons x _ ih=>simp only[rs,ih]
 | swap x y l=>simp only[rs];grind
 | trans _ _ h1 h2=>exact h1.trans h2
theorem Q1{l:List Nat}{g h:Nat→Rat}(e:∀k∈l,g k=h k):rs l g=rs l h:=by
 induction l with
 | nil=>rfl
 | cons k l ih=>simp only[rs];rw[e k (by simp),ih fun j m=>e j (List.mem_cons_of_mem _ m)]
theorem a6d(l:List Nat)(g h:Nat→Rat):rs l (fun k=>g k+h k)=rs l g+rs l h:=by
 induction l with
 | nil=>simp only[rs];grind
 | cons k l ih=>simp only[rs,ih];grind
theorem a7f(l:List Nat):rs l (fun _=>0)=0:=by
 induction l with
 | nil=>rfl
 | cons k l ih=>simp only[rs,ih];grind
theorem b4o(l:List Nat)(c:Rat)(g:Nat→Rat):rs l (fun k=>c*g k)=c*rs l g:=by
 induction l with
 | nil=>simp only[rs];grind
 | cons k l ih=>simp only[rs,ih];grind
theorem b2W(l m:List Nat)(c:Nat→Nat→Rat):rs l (fun j=>rs m fun k=>c j k)=rs m (fun k=>rs l fun j=>c j k):=by
 induction l with
 | nil=>simp only[rs];exact(a7f m).symm
 | cons j l ih=>simp only[rs,ih];exact(a6d m _ _).symm
theorem a9w(l:List Nat)(g:Nat→Nat):rs l (fun k=>((g k:Nat):Rat))=(((l.map g).sum:Nat):Rat):=by
 induction l with
 | nil=>simp only[rs,List.map_nil,List.sum_nil];rfl
 | cons k l ih=>simp only[rs,ih,List.map_cons,List.sum_cons,Rat.natCast_add]
abbrev inE(S:List R4)(k p q:Nat)(s0 s1 s2 s3 s6 s9 s11 s4 s5 s13 s14:Sl):DE:=[s0,s1,s2,s3,s4,s5,s6,.fz (.int (k:Int)),.fz (.int (g7 S k).1),s9,.fz (.int (g7 S k).2.2.1),s11,.fz (frD p q),s13,s14]
theorem a6e{e f W D a b c d:Nat}(h:Fr e W a b)(hf:Fr f D c d)(hW:W ∣ D)(hD:0<D)(hD2:D<2 ^ 3000)(he:e≤4900)(hf2:f≤4900):∃p q,C9 [frD a b,frD c d]=some (.ret (frD p q))∧Fr (max e f+1) D p q∧Nat.gcd p q=1∧vl (p,q)=vl (a,b)+vl (c,d):=by
 have hb:b≤D:=Nat.le_of_dvd hD (Nat.dvd_trans h.dvd hW)
 have hd:d≤D:=Nat.le_of_dvd hD hf.dvd
 have b1:b<2 ^ 3000:=Nat.lt_of_le_of_lt hb hD2
 have d1:d<2 ^ 3000:=Nat.lt_of_le_of_lt hd hD2
 have up:∀{x:Nat},x<2 ^ 3000→x<2 ^ 8000:=fun hx=>Nat.lt_of_lt_of_le hx (Nat.pow_le_pow_right (by omega) (by omega))
 have a1:=a2g h.le b1 (by omega)
 have c1:=a2g hf.le d1 (by omega)
 have hB:0<b*d:=Nat.mul_pos h.pos hf.pos
 have bd1:b*d<2 ^ 8000:=by
  refine Nat.lt_of_lt_of_le (Nat.mul_lt_mul'' b1 d1) ?_
  rw[← Nat.pow_add]
  exact Nat.pow_le_pow_right (by omega) (by omega)
 refine⟨_,_,b4T X1 t8 _ _ _ _ _ _ _ _ (a2f a1 (up d1)) (a2f c1 (up b1)) (a2f (up b1) (up d1)) (by rw[← Int.natCast_add];exact b4j (a*d+c*b) (b*d) hB bd1) ⟨_,rfl⟩,?_,Nat.coprime_div_gcd_div_gcd (Nat.gcd_pos_of_pos_right _ hB),(b4m hB).trans (a9t h.pos hf.pos)⟩
 refine⟨Nat.div_pos (Nat.gcd_le_right _ hB) (Nat.gcd_pos_of_pos_right _ hB),b4k h.pos hf.pos (Nat.dvd_trans h.dvd hW) hf.dvd,b4S hB ?_⟩
 have m1:2 ^ e≤2 ^ max e f:=Nat.pow_le_pow_right (by omega) (by omega)
 have m2:2 ^ f≤2 ^ max e f:=Nat.pow_le_pow_right (by omega) (by omega)
 have x1:a*d≤2 ^ max e f*(b*d):=by
  rw[← Nat.mul_assoc]
  exact Nat.mul_le_mul_right _ (Nat.le_trans h.le (Nat.mul_le_mul_right _ m1))
 have x2:c*b≤2 ^ max e f*(b*d):=by
  rw[Nat.mul_comm b d,← Nat.mul_assoc]
  exact Nat.mul_le_mul_right _ (Nat.le_trans hf.le (Nat.mul_le_mul_right _ m2))
 rw[Nat.pow_succ,Nat.mul_assoc,Nat.mul_left_comm]
 omega
def AllFr(e W:Nat)(T:List (Nat×Nat)):Prop:=∀f∈T,Fr e W f.1 f.2∧Nat.gcd f.1 f.2=1
theorem AllFr.mono{e e' W W':Nat}{T:List (Nat×Nat)}(h:AllFr e W T)(he:e≤e')(hW:W ∣ W'):AllFr e' W' T:=fun f m=>⟨(h f m).1.mono he hW,(h f m).2⟩
theorem b2X{e W:Nat}{T:List (Nat×Nat)}{n:Nat}{f:Nat×Nat}(h:AllFr e W T)(hf:Fr e W f.1 f.2∧Nat.gcd f.1 f.2=1):AllFr e W (T.set n f):=fun g m=>by
 rcases List.mem_or_eq_of_mem_set m with z | z
 ·exact h g z
 ·rw[z];exact hf
def tv(T:List (Nat×Nat))(j:Nat):Rat:=vl (T.getD j (0,1))
theorem a3O{T:List (Nat×Nat)}{j:Nat}(h:j<T.length):tv T j=vl T[j]:=by
 unfold tv
 rw[M1 h]
theorem b4p{T:List (Nat×Nat)}{j:Nat}(h:j<T.length)(f:Nat×Nat)(i:Nat):tv (T.set j f) i=if i=j then vl f else tv T i:=by
 unfold tv
 rw[List.getD_eq_getElem?_getD]
 by_cases z:i=j
 ·subst z
  rw[if_pos rfl,List.getElem?_set_self h]
  rfl
 ·rw[if_neg z,List.getElem?_set_ne (Ne.symm z),List.getD_eq_getElem?_getD]
abbrev wk(S:List R4)(k:Nat):Nat:=((g7 S k).2.2.1-(g7 S k).1).toNat
def on(S:List R4)(k j:Nat):Bool:=q1 S k j && q2 S k j
def con(S:List R4)(k:Nat)(x:Rat)(j:Nat):Rat:=if on S k j=true then x*(((M9 (g7 S j) (g7 S k)).toNat:Nat):Rat)/((wk S k:Nat):Rat)else 0
def a1l(S:List R4)(k:Nat):List Nat:=((List.range S.length).filter (q1 S k)).filter (q2 S k)
theorem a6f{S:List R4}{k j:Nat}:j∈a1l S k↔j<S.length∧on S k j=true:=by
 unfold a1l on
 rw[List.mem_filter,List.mem_filter,List.mem_range,Bool.and_eq_true,and_assoc]
theorem b0U(S:List R4)(k:Nat):(a1l S k).Nodup:=(List.nodup_range.filter _).filter _
theorem b1s(S:List R4)(k:Nat):(tch S k).map tP=(a1l S k).map fun j=>tP (tJ S k j):=by
 unfold tch a1l
 rw[List.map_map]
 rfl
theorem b4V{S:List R4}{k:Nat}(hk:k<S.length)(hl:S.length≤60)(e W:Nat)(wd:Nat)(hw:(g7 S k).2.2.1-(g7 S k).1=(wd:Int))(hwd:0<wd)(hW:0<W)(hW2:W*wd<2 ^ 3000)(he:e≤4800)(T:List (Nat×Nat))(hT:T.length=S.length)(hA:AllFr e W T)(p q:Nat)(hp:Fr e W p q)(s0 s1 s2 s3 s4 s6 s9 s11:Sl)(h4:s4=.ow (S.map i9)∨s4=.fz (.lst (S.map i9)))(o13 o14:Option D) :
  ∃(T':List (Nat×Nat)) (p13 p14:Option D),(a18 (j9 u0 (aC (eV 4) (aC (eV 7) aN))) (x9 [(c7 13),(c7 14)]) (prI C9 t8)) (inE S k p q s0 s1 s2 s3 s6 s9 s11 s4 (.ow (T.map tD)) (un o13) (un o14))=some (.nx (inE S k p q s0 s1 s2 s3 s6 s9 s11 (.fz (.lst (S.map i9))) (.ow (T'.map tD)) (un p13) (un p14)))∧T'.length=S.length∧AllFr (e+60) (W*wd) T'∧∀i,i<S.length→tv T' i=tv T i+con S k (vl (p,q)) i:=by
 have e0:(j9 u0 (aC (eV 4) (aC (eV 7) aN))) (inE S k p q s0 s1 s2 s3 s6 s9 s11 s4 (.ow (T.map tD)) (un o13) (un o14))=some (.ok (.lst ((tch S k).map tP)) (inE S k p q s0 s1 s2 s3 s6 s9 s11 (.fz (.lst (S.map i9))) (.ow (T.map tD)) (un o13) (un o14))):=by
  have h:=a9i hk (by omega)
  rcases h4 with rfl | rfl
  ·show a1i (u0 [.lst (S.map i9),.int (k:Int)]) _=_
   rw[h]
   rfl
  ·show a1i (u0 [.lst (S.map i9),.int (k:Int)]) _=_
   rw[h]
   rfl
 have dW:W ∣ W*wd:=Nat.dvd_mul_right _ _
 have tl:(a1l S k).length≤S.length:=by
  have:=a6_ S k
  have e:=congrArg List.length (b1s S k)
  rw[List.length_map,List.length_map]at e
  omega
 have hwk:wk S k=wd:=by unfold wk;omega
 obtain⟨e',g,T',p13,p14,t1,t2,t3,rfl⟩:=K7 (b:=x9 [(c7 13),(c7 14)]) (body:=prI C9 t8) (fun j=>tP (tJ S k j)) (fun pre e1=>∃(T':List (Nat×Nat)) (p13 p14:Option D),T'.length=S.length∧AllFr (e+pre.length) (W*wd) T'∧(∀i,i<S.length→tv T' i=tv T i+if i∈pre then con S k (vl (p,q)) i else 0)∧e1=inE S k p q s0 s1 s2 s3 s6 s9 s11 (.fz (.lst (S.map i9))) (.ow (T'.map tD)) (un p13) (un p14)) (a1l S k) (inE S k p q s0 s1 s2 s3 s6 s9 s11 (.fz (.lst (S.map i9))) (.ow (T.map tD)) (un o13) (un o14)) ⟨T,o13,o14,hT,hA.mono (Nat.le_refl _) dW,fun i _=>by rw[if_neg (by simp)];grind,rfl⟩ (by
  rintro pre j post e1 hq ⟨T',p13,p14,t1,t2,t3,rfl⟩
  have hpl:pre.length<(a1l S k).length:=by have:=congrArg List.length hq;rw[List.length_append,List.length_cons]at this;omega
  have mj:j∈a1l S k:=by rw[hq];exact List.mem_append_right _ List.mem_cons_self
  obtain⟨j1,jon⟩:=a6f.mp mj
  have j3:0<M9 (g7 S j) (g7 S k):=of_decide_eq_true (show q2 S k j=true from(Bool.and_eq_true _ _▸jon:q1 S k j=true∧q2 S k j=true).2)
  have j4:=a9o (g7 S j) (g7 S k)
  have njp:j ∉ pre:=fun z=>by
   have nd:=b0U S k
   rw[hq]at nd
   exact(List.nodup_append.mp nd).2.2 j z j List.mem_cons_self rfl
  obtain⟨t,ht⟩:=Int.eq_ofNat_of_zero_le (show 0≤M9 (g7 S j) (g7 S k) by omega)
  have hb:x9 [(c7 13),(c7 14)] (tP (tJ S k j)) (inE S k p q s0 s1 s2 s3 s6 s9 s11 (.fz (.lst (S.map i9))) (.ow (T'.map tD)) (un p13) (un p14))=some (inE S k p q s0 s1 s2 s3 s6 s9 s11 (.fz (.lst (S.map i9))) (.ow (T'.map tD)) (.fz (.int (j:Int))) (.fz (.int (t:Int)))):=by
   unfold tJ
   rw[ht]
   cases p13<;>cases p14<;>rfl
  rw[hb,C3]
  have jT:j<T'.length:=by omega
  have qW:q≤W:=Nat.le_of_dvd hW hp.dvd
  have wd1:wd≤W*wd:=Nat.le_mul_of_pos_left _ hW
  have W1:W≤W*wd:=Nat.le_mul_of_pos_right _ hwd
  have up:∀{x:Nat},x≤W*wd→x<2 ^ 3000:=fun hx=>Nat.lt_of_le_of_lt hx hW2
  have up8:∀{x:Nat},x<2 ^ 3000→x<2 ^ 8000:=fun hx=>Nat.lt_of_lt_of_le hx (Nat.pow_le_pow_right (by omega) (by omega))
  have c1:=a2g hp.le (up (Nat.le_trans qW W1)) (by omega)
  have f2:Fr (e+pre.length) (W*wd) (p*t) (q*wd):=by
   refine⟨Nat.mul_pos hp.pos hwd,Nat.mul_dvd_mul_right hp.dvd _,?_⟩
   rw[← Nat.mul_assoc]
   refine Nat.mul_le_mul (Nat.le_trans hp.le (Nat.mul_le_mul_right _ (Nat.pow_le_pow_right (by omega) (by omega)))) (by omega)
  obtain⟨a,b,ad,fr,gab,vab⟩:=a6e (t2 T'[j] (List.getElem_mem jT)).1 f2 (Nat.dvd_refl _) (Nat.mul_pos hW hwd) hW2 (by omega) (by omega)
  have st:=b5y C9 t8 (T'.map tD) (j:Int) (p:Int) (q:Int) (t:Int) (g7 S k).1 (g7 S k).2.2.1 ((p*t:Nat):Int) ((q*wd:Nat):Int) j (tD T'[j]) (frD a b) s0 s1 s2 s3 (.fz (.lst (S.map i9))) s6 (.fz (.int (k:Int))) s9 s11 (V7 (by rw[List.getElem?_map,List.getElem?_eq_getElem jT];rfl)) (by rw[List.length_map];exact a4f jT) (a2f c1 (up8 (up (by omega)))) (by rw[hw];exact a2f (up8 (up (Nat.le_trans qW W1))) (up8 (up wd1))) ad
  refine⟨_,(congrArg F9 st).trans rfl,T'.set j (a,b),some (.int (j:Int)),some (.int (t:Int)),by rw[List.length_set];exact t1,?_,fun i hi=>?_,?_⟩
  ·rw[List.length_append,List.length_singleton]
   refine b2X (t2.mono (by omega) (Nat.dvd_refl _)) ?_
   have:=fr.mono (e':=e+(pre.length+1)) (by omega) (Nat.dvd_refl _)
   exact⟨this,gab⟩
  ·rw[b4p jT]
   by_cases z:i=j
   ·subst z
    rw[if_pos rfl,if_pos (by simp),vab]
    have h3:=t3 i hi
    rw[if_neg njp]at h3
    rw[show vl (T'[i].1,T'[i].2)=tv T' i from(a3O jT).symm,h3]
    unfold con
    rw[if_pos jon,hwk,ht,a9u,show((t:Int)).toNat=t from Int.toNat_natCast t]
    grind
   ·rw[if_neg z,t3 i hi]
    congr 1
    by_cases y:i∈pre
    ·rw[if_pos y,if_pos (by simp[y])]
    ·rw[if_neg y,if_neg (by simp[y,z])]
  ·rw[List.map_set]
   rfl)
 refine⟨T',p13,p14,?_,t1,t2.mono (by omega) (Nat.dvd_refl _),fun i hi=>?_⟩
 ·unfold a18
  rw[e0,Q7,b1s]
  exact g
 ·rw[t3 i hi]
  congr 1
  by_cases y:i∈a1l S k
  ·rw[if_pos y]
  ·rw[if_neg y]
   unfold con
   rw[if_neg fun z=>y (a6f.mpr ⟨hi,z⟩)]
theorem b5E(HA SP:List D→Option R1)(LO:SF)(GR:D→D→Option (List D))(A B W:List D)(S T0 T:List D)(fl:D)(s4 s7 s8 s9 s10 s11 s12 s13 s14:Sl)(h:HA [.lst A,.lst B]=some (.ret .non))(hs:SP [.lst A,.lst B]=some (.own S))(g:GR (.lst [.tup [.int 0,.int 1]]) (.int (A.length:Int))=some T0)(hl:LO [.fz (.lst A),.fz (.lst B),.fz (.lst W),.fz .non,.ow S,.ow T0,.fz (.tup [.int 0,.int 1]),.no,.no,.no,.no,.no,.no,.no,.no]=some (.nx [.fz (.lst A),.fz (.lst B),.fz (.lst W),.fz .non,s4,.ow T,.fz fl,s7,s8,s9,s10,s11,s12,s13,s14])):fD 15 3 (c6 (a0C 3 HA (aC (eV 0) (aC (eV 1) aN))) (c6 (A4 (bZ (eB (a16 true) (eV 3) (eC .non))) a7W B9) (c6 (a0C 4 SP (aC (eV 0) (aC (eV 1) aN))) (c6 (u9 5 (nB GR (zN (eL (aC (eT (aC (eC (.int 0)) (aC (eC (.int 1)) aN))) aN))) (y8 r8 0))) (c6 (j7 6 (eT (aC (eC (.int 0)) (aC (eC (.int 1)) aN)))) (c6 LO (t9 (eT (aC (eV 5) (aC (eV 6) aN)))))))))) [.lst A,.lst B,.lst W]=some (.ret (.tup [.lst T,fl])):=by
 walk_at "eh"
def wr(ws:List Nat)(k:Nat):Rat:=((ws.getD k 0:Nat):Rat)
theorem a4l:vl (0,1)=0:=by rw[a9v];rfl
theorem a4m{S:List R4}{k j:Nat}{x:Rat}(h:on S k j=false):con S k x j=0:=by
 unfold con
 rw[if_neg (by rw[h];simp)]
theorem b2Y(L:List Q)(hl:L.length≤60)(hw:∀q∈L,∃wd:Nat,q.1.2.2.1=(wd:Int)∧0<wd∧wd≤2 ^ 20)(ws:List Nat)(hws:ws.length=L.length)(hw2:∀w∈ws,w≤2 ^ 134)(e W:Nat)(he:134≤e)(he2:e≤4700)(hW:0<W)(hW2:W<2 ^ 2000)(T:List (Nat×Nat))(fl:Nat×Nat)(hT:T.length=L.length)(hA:AllFr e W T)(hf:Fr e W fl.1 fl.2∧Nat.gcd fl.1 fl.2=1)(s4:Sl)(h4:s4=.ow (L.map sQ)∨s4=.fz (.lst (L.map sQ)))(k:Nat)(hk:k<L.length)(o8 o9 o10 o11 o12 o13 o14:Option D) :
  ∃(wd:Nat) (T':List (Nat×Nat)) (fl':Nat×Nat) (p8 p9 p10 p11 p12 p13 p14:Option D),prB C9 (a18 (j9 u0 (aC (eV 4) (aC (eV 7) aN))) (x9 [(c7 13),(c7 14)]) (prI C9 t8)) [.fz (.lst (L.map wQ)),.fz (.lst (L.map pQ)),.fz (.lst (ws.map fun w=>D.int ((w:Nat):Int))),.fz .non,s4,.ow (T.map tD),.fz (tD fl),.fz (.int (k:Int)),un o8,un o9,un o10,un o11,un o12,un o13,un o14]=some (.nx [.fz (.lst (L.map wQ)),.fz (.lst (L.map pQ)),.fz (.lst (ws.map fun w=>D.int ((w:Nat):Int))),.fz .non,.fz (.lst (L.map sQ)),.ow (T'.map tD),.fz (tD fl'),.fz (.int (k:Int)),un p8,un p9,un p10,un p11,un p12,un p13,un p14])∧0<wd∧wd≤2 ^ 20∧T'.length=L.length∧AllFr (e+62) (W*wd) T'∧(Fr (e+62) (W*wd) fl'.1 fl'.2∧Nat.gcd fl'.1 fl'.2=1)∧(∀i,i<L.length→tv T' i=tv T i+con (L.map rQ) k (tv T k+wr ws k) i)∧vl fl'=vl fl+(if(g7 (L.map rQ) k).2.1=0 then tv T k+wr ws k else 0):=by
 obtain⟨wd,wd1,wd2,wd3⟩:=hw L[k] (List.getElem_mem hk)
 have eS:(L.map rQ).map i9=L.map sQ:=by rw[List.map_map];rfl
 have gk:=a8e L k hk
 have hwid:(g7 (L.map rQ) k).2.2.1-(g7 (L.map rQ) k).1=(wd:Int):=by rw[gk];show L[k].1.1+L[k].1.2.2.1-L[k].1.1=_;omega
 have kw:k<ws.length:=by omega
 have kT:k<T.length:=by omega
 have W3:W<2 ^ 3000:=Nat.lt_of_lt_of_le hW2 (Nat.pow_le_pow_right (by omega) (by omega))
 have Wwd:W*wd<2 ^ 3000:=by
  refine Nat.lt_of_lt_of_le (Nat.mul_lt_mul_of_lt_of_le hW2 wd3 (Nat.pow_pos (by omega))) ?_
  rw[← Nat.pow_add]
  exact Nat.pow_le_pow_right (by omega) (by omega)
 have fw:Fr 134 W ws[k] 1:=⟨by omega,Nat.one_dvd _,by rw[Nat.mul_one];exact hw2 _ (List.getElem_mem kw)⟩
 obtain⟨p,q,a1,fr1,gpq,vpq⟩:=a6e (hA T[k] (List.getElem_mem kT)).1 fw (Nat.dvd_refl _) hW W3 (by omega) (by omega)
 have fr1:Fr (e+1) W p q:=fr1.mono (by omega) (Nat.dvd_refl _)
 have vpq:vl (p,q)=tv T k+wr ws k:=by
  rw[vpq,a9v,a3O kT]
  unfold wr
  rw[M1 kw]
 obtain⟨fl',ff,fr2,vfl⟩:∃fl':Nat×Nat,(((g7 (L.map rQ) k).2.1=0∧C9 [tD fl,frD p q]=some (.ret (tD fl')))∨(¬(g7 (L.map rQ) k).2.1=0∧tD fl=tD fl'))∧(Fr (e+2) W fl'.1 fl'.2∧Nat.gcd fl'.1 fl'.2=1)∧vl fl'=vl fl+(if(g7 (L.map rQ) k).2.1=0 then tv T k+wr ws k else 0):=by
  by_cases z:(g7 (L.map rQ) k).2.1=0
  ·obtain⟨u,v,a2,fr2,guv,vuv⟩:=a6e hf.1 fr1 (Nat.dvd_refl _) hW W3 (by omega) (by omega)
   exact⟨(u,v),.inl ⟨z,a2⟩,⟨fr2.mono (by omega) (Nat.dvd_refl _),guv⟩,by rw[if_pos z,vuv,vpq]⟩
  ·exact⟨fl,.inr ⟨z,rfl⟩,⟨hf.1.mono (by omega) (Nat.dvd_refl _),hf.2⟩,by rw[if_neg z];grind⟩
 obtain⟨T',p13,p14,i1,i2,i3,i4⟩:=b4V (S:=L.map rQ) (k:=k) (by rw[List.length_map];exact hk) (by rw[List.length_map];exact hl) (e+1) W wd hwid wd2 hW Wwd (by omega) T (by rw[List.length_map];exact hT) (hA.mono (by omega) (Nat.dvd_refl _)) p q fr1 (.fz (.lst (L.map wQ))) (.fz (.lst (L.map pQ))) (.fz (.lst (ws.map fun w=>D.int ((w:Nat):Int)))) (.fz .non) s4 (.fz (tD fl')) (.fz (.int (g7 (L.map rQ) k).2.1)) (.fz (.int (g7 (L.map rQ) k).2.2.2)) (by rw[eS];exact h4) o13 o14
 rw[eS]at i1
 rw[List.length_map]at i2 i4
 rw[vpq]at i4
 refine⟨wd,T',fl',some (.int (g7 (L.map rQ) k).1),some (.int (g7 (L.map rQ) k).2.1),some (.int (g7 (L.map rQ) k).2.2.1),some (.int (g7 (L.map rQ) k).2.2.2),some (frD p q),p13,p14,?_,wd2,wd3,i2,i3.mono (by omega) (Nat.dvd_refl _),⟨fr2.1.mono (by omega) (Nat.dvd_mul_right _ _),fr2.2⟩,i4,vfl⟩
 exact b5z C9 _ (.lst (L.map wQ)) (.lst (L.map pQ)) (ws.map fun w=>D.int ((w:Nat):Int)) (L.map sQ) (T.map tD) s4 h4 (k:Int) _ _ _ _ (ws[k]:Int) (tD T[k]) (frD p q) (tD fl) (tD fl') o8 o9 o10 o11 o12 (un o13) (un o14) (V7 (by rw[gk,List.getElem?_map,List.getElem?_eq_getElem hk];rfl)) (V7 (by rw[List.getElem?_map,List.getElem?_eq_getElem kT];rfl)) (V7 (by rw[List.getElem?_map,List.getElem?_eq_getElem kw];rfl)) a1 ff _ i1
theorem a8g(L:List Q)(hl:L.length≤60)(h0:∀q∈L,0≤q.1.2.1)(hn:hgR (L.map rQ)=.non)(hw:∀q∈L,∃wd:Nat,q.1.2.2.1=(wd:Int)∧0<wd∧wd≤2 ^ 20)(ws:List Nat)(hws:ws.length=L.length)(hw2:∀w∈ws,w≤2 ^ 134)(hh0:∀q∈L,0<q.1.2.2.2) :
  ∃(T:List (Nat×Nat)) (fl:Nat×Nat),A6 [.lst (L.map wQ),.lst (L.map pQ),.lst (ws.map fun w=>D.int ((w:Nat):Int))]=some (.ret (.tup [.lst (T.map tD),tD fl]))∧T.length=L.length∧(∀f,f=fl∨f∈T→0<f.2∧f.2<2 ^ 1300∧f.1≤2 ^ 4000*f.2∧Nat.gcd f.1 f.2=1)∧(∀j,j<L.length→tv T j=rs (List.range L.length) fun k=>con (L.map rQ) k (tv T k+wr ws k) j)∧vl fl=rs (List.range L.length) fun k=>if(g7 (L.map rQ) k).2.1=0 then tv T k+wr ws k else 0:=by
 have hh:=a3J L (by omega) h0
 rw[hn]at hh
 obtain⟨σ,od,so⟩:=a56 L (by omega) (.lst (L.map wQ))
 have hσ:∀k∈σ,k<L.length:=fun k m=>List.mem_range.mp (od.pm.mem_iff.mp m)
 have σl:σ.length=L.length:=by rw[od.pm.length_eq,List.length_range]
 obtain⟨e',g,T,fl,W,ld,s4,o7,o8,o9,o10,o11,o12,o13,o14,hT,hA,hf,hW,hW2,I1,I2,I3,h4,rfl⟩:=K7 (b:=c7 7) (body:=prB C9 (a18 (j9 u0 (aC (eV 4) (aC (eV 7) aN))) (x9 [(c7 13),(c7 14)]) (prI C9 t8))) (fun(k:Nat)=>D.int (k:Int)) (fun pre e1=>∃(T:List (Nat×Nat)) (fl:Nat×Nat) (W:Nat) (ld:Nat→Rat) (s4:Sl) (o7 o8 o9 o10 o11 o12 o13 o14:Option D),T.length=L.length∧AllFr (134+62*pre.length) W T∧(Fr (134+62*pre.length) W fl.1 fl.2∧Nat.gcd fl.1 fl.2=1)∧0<W∧W≤2 ^ (20*pre.length)∧(∀j,j<L.length→tv T j=rs pre fun k=>con (L.map rQ) k (ld k) j)∧(∀k∈pre,ld k=tv T k+wr ws k)∧(vl fl=rs pre fun k=>if(g7 (L.map rQ) k).2.1=0 then ld k else 0)∧(s4=.ow (L.map sQ)∨s4=.fz (.lst (L.map sQ)))∧e1=[.fz (.lst (L.map wQ)),.fz (.lst (L.map pQ)),.fz (.lst (ws.map fun w=>D.int ((w:Nat):Int))),.fz .non,s4,.ow (T.map tD),.fz (tD fl),un o7,un o8,un o9,un o10,un o11,un o12,un o13,un o14]) σ.reverse [.fz (.lst (L.map wQ)),.fz (.lst (L.map pQ)),.fz (.lst (ws.map fun w=>D.int ((w:Nat):Int))),.fz .non,.ow (L.map sQ),.ow (List.replicate L.length (.tup [.int 0,.int 1])),.fz (.tup [.int 0,.int 1]),.no,.no,.no,.no,.no,.no,.no,.no] ⟨List.replicate L.length (0,1),(0,1),1,fun _=>0,_,none,none,none,none,none,none,none,none,List.length_replicate,fun f m=>by rw[(List.mem_replicate.mp m).2];exact⟨⟨by decide,Nat.dvd_refl _,by omega⟩,rfl⟩,⟨⟨by decide,Nat.dvd_refl _,by omega⟩,rfl⟩,by omega,Nat.le_refl _,fun j hj=>by rw[a3O (by rw[List.length_replicate];exact hj),List.getElem_replicate];exact a4l,fun _ m=>(by cases m),a4l,.inl rfl,by rw[List.map_replicate];rfl⟩ (by
  rintro pre k post e1 hq ⟨T,fl,W,ld,s4,o7,o8,o9,o10,o11,o12,o13,o14,hT,hA,hf,hW,hW2,I1,I2,I3,h4,rfl⟩
  have hk:k<L.length:=hσ k (List.mem_reverse.mp (by rw[hq];exact List.mem_append_right _ List.mem_cons_self))
  have hpl:pre.length<60:=by have:=congrArg List.length hq;rw[List.length_append,List.length_cons,List.length_reverse]at this;omega
  have hb:c7 7 (.int (k:Int)) [.fz (.lst (L.map wQ)),.fz (.lst (L.map pQ)),.fz (.lst (ws.map fun w=>D.int ((w:Nat):Int))),.fz .non,s4,.ow (T.map tD),.fz (tD fl),un o7,un o8,un o9,un o10,un o11,un o12,un o13,un o14]=some [.fz (.lst (L.map wQ)),.fz (.lst (L.map pQ)),.fz (.lst (ws.map fun w=>D.int ((w:Nat):Int))),.fz .non,s4,.ow (T.map tD),.fz (tD fl),.fz (.int (k:Int)),un o8,un o9,un o10,un o11,un o12,un o13,un o14]:=by cases o7<;>rfl
  rw[hb,C3]
  have nd:(σ.reverse).Nodup:=(List.reverse_perm σ).nodup_iff.mpr (od.pm.nodup_iff.mpr List.nodup_range)
  have pw:(σ.reverse).Pairwise fun a b=>yk L b<yk L a∨(yk L b=yk L a∧b<a):=List.pairwise_reverse.mpr od.up
  rw[hq]at nd pw
  have nkp:k ∉ pre:=fun z=>(List.nodup_append.mp nd).2.2 k z k List.mem_cons_self rfl
  have ldk:∀i∈pre,(if i=k then tv T k+wr ws k else ld i)=ld i:=fun i mi=>if_neg fun(z:i=k)=>nkp (z▸mi)
  have noon:∀i,i∈pre++[k]→i<L.length→on (L.map rQ) k i=false:=fun i mi hi=>by
   cases z:on (L.map rQ) k i with
   | false=>rfl
   | true =>
    have z1:=of_decide_eq_true (show q1 (L.map rQ) k i=true from(Bool.and_eq_true _ _▸z:q1 (L.map rQ) k i=true∧q2 (L.map rQ) k i=true).1)
    rw[a8e L k hk,a8e L i hi]at z1
    have z2:=hh0 L[i] (List.getElem_mem hi)
    have yi:yk L i=L[i].1.2.1:=by unfold yk gq;rw[M1 hi]
    have yk':yk L k=L[k].1.2.1:=by unfold yk gq;rw[M1 hk]
    have z3:yk L k≤yk L i:=by
     rcases List.mem_append.mp mi with m | m
     ·rcases(List.pairwise_append.mp pw).2.2 i m k List.mem_cons_self with y | y<;>omega
     ·rw[List.mem_singleton.mp m];exact Int.le_refl _
    have z1:L[i].1.2.1+L[i].1.2.2.2=L[k].1.2.1:=z1
    omega
  obtain⟨wd,T',fl',p8,p9,p10,p11,p12,p13,p14,st,w1,w2,t1,t2,t3,t4,t5⟩:=b2Y L hl hw ws hws hw2 (134+62*pre.length) W (by omega) (by omega) hW (Nat.lt_of_le_of_lt hW2 (Nat.pow_lt_pow_right (by omega) (by omega))) T fl hT hA hf s4 h4 k hk o8 o9 o10 o11 o12 o13 o14
  refine⟨_,(congrArg F9 st).trans rfl,T',fl',W*wd,fun i=>if i=k then tv T k+wr ws k else ld i,.fz (.lst (L.map sQ)),some (.int (k:Int)),p8,p9,p10,p11,p12,p13,p14,t1,?_,?_,Nat.mul_pos hW w1,?_,fun j hj=>?_,fun i mi=>?_,?_,.inr rfl,rfl⟩
  ·rw[List.length_append,List.length_singleton]
   exact t2.mono (by omega) (Nat.dvd_refl _)
  ·rw[List.length_append,List.length_singleton]
   exact⟨t3.1.mono (by omega) (Nat.dvd_refl _),t3.2⟩
  ·rw[List.length_append,List.length_singleton,Nat.mul_add,Nat.pow_add]
   exact Nat.mul_le_mul hW2 w2
  ·rw[t4 j hj,I1 j hj,a3N]
   congr 1
   ·exact Q1 fun i mi=>by(try dsimp only);rw[ldk i mi]
   ·simp only[rs,if_true]
    grind
  ·have hi:i<L.length:=by
    rcases List.mem_append.mp mi with m | m
    ·exact hσ i (List.mem_reverse.mp (by rw[hq];exact List.mem_append_left _ m))
    ·rw[List.mem_singleton.mp m];exact hk
   rw[t4 i hi,a4m (noon i mi hi)]
   dsimp only
   rcases List.mem_append.mp mi with m | m
   ·rw[ldk i m,I2 i m]
    grind
   ·have e:=List.mem_singleton.mp m
    subst e
    rw[if_pos rfl]
    grind
  ·rw[t5,I3,a3N]
   congr 1
   ·exact Q1 fun i mi=>by(try dsimp only);rw[ldk i mi]
   ·simp only[rs,if_true]
    grind)
 rw[List.length_reverse,σl]at hA hW2 hf
 have rp:(σ.reverse).Perm (List.range L.length):=(List.reverse_perm σ).trans od.pm
 have hlo:(a5d (j9 E4 (aC (eV 0) (aC (eV 1) aN))) (c7 7) (prB C9 (a18 (j9 u0 (aC (eV 4) (aC (eV 7) aN))) (x9 [(c7 13),(c7 14)]) (prI C9 t8)))) [.fz (.lst (L.map wQ)),.fz (.lst (L.map pQ)),.fz (.lst (ws.map fun w=>D.int ((w:Nat):Int))),.fz .non,.ow (L.map sQ),.ow (List.replicate L.length (.tup [.int 0,.int 1])),.fz (.tup [.int 0,.int 1]),.no,.no,.no,.no,.no,.no,.no,.no]=some (.nx [.fz (.lst (L.map wQ)),.fz (.lst (L.map pQ)),.fz (.lst (ws.map fun w=>D.int ((w:Nat):Int))),.fz .non,s4,.ow (T.map tD),.fz (tD fl),un o7,un o8,un o9,un o10,un o11,un o12,un o13,un o14]):=by
  have e0:(j9 E4 (aC (eV 0) (aC (eV 1) aN))) [.fz (.lst (L.map wQ)),.fz (.lst (L.map pQ)),.fz (.lst (ws.map fun w=>D.int ((w:Nat):Int))),.fz .non,.ow (L.map sQ),.ow (List.replicate L.length (.tup [.int 0,.int 1])),.fz (.tup [.int 0,.int 1]),.no,.no,.no,.no,.no,.no,.no,.no]=some (.ok (.lst (σ.map fun(k:Nat)=>D.int (k:Int))) [.fz (.lst (L.map wQ)),.fz (.lst (L.map pQ)),.fz (.lst (ws.map fun w=>D.int ((w:Nat):Int))),.fz .non,.ow (L.map sQ),.ow (List.replicate L.length (.tup [.int 0,.int 1])),.fz (.tup [.int 0,.int 1]),.no,.no,.no,.no,.no,.no,.no,.no]):=by
   show a1i (E4 [.lst (L.map wQ),.lst (L.map pQ)]) _=_
   rw[so]
   rfl
  unfold a5d
  rw[e0,Q7]
  show B6 _ _ (σ.map fun(k:Nat)=>D.int (k:Int)).reverse _=_
  rw[← List.map_reverse]
  exact g
 refine⟨T,fl,b5E F6 E9 _ a0u _ _ _ (L.map sQ) (List.replicate L.length (.tup [.int 0,.int 1])) _ _ _ _ _ _ _ _ _ _ _ hh (a51 L (by omega)) (by rw[List.length_map];exact a9p _ _ (by omega)) hlo,hT,fun f m=>?_,fun j hj=>?_,?_⟩
 ·have fin:Fr (134+62*L.length) W f.1 f.2∧Nat.gcd f.1 f.2=1:=by
   rcases m with rfl | m
   ·exact hf
   ·exact hA f m
  refine⟨fin.1.pos,Nat.lt_of_le_of_lt (Nat.le_trans (Nat.le_of_dvd hW fin.1.dvd) hW2) (Nat.pow_lt_pow_right (by omega) (by omega)),Nat.le_trans fin.1.le (Nat.mul_le_mul_right _ (Nat.pow_le_pow_right (by omega) (by omega))),fin.2⟩
 ·rw[I1 j hj,← a7e _ rp]
  exact Q1 fun i mi=>by(try dsimp only);rw[I2 i mi]
 ·rw[I3,← a7e _ rp]
  exact Q1 fun i mi=>by(try dsimp only);rw[I2 i mi]
def apX(a b:R4):Prop:=a.2.2.2=b.2.2.2→a.2.2.1≤b.1∨b.2.2.1≤a.1
theorem apX.symm{a b:R4}(h:apX a b):apX b a:=fun e=>(h e.symm).symm
theorem b4W{S:List R4}(h:S.Pairwise apX){i j:Nat}(hi:i<S.length)(hj:j<S.length)(n:i≠j):apX (g7 S i) (g7 S j):=by
 unfold g7
 rw[M1 hi,M1 hj]
 rcases Nat.lt_or_gt_of_ne n with z | z
 ·exact List.pairwise_iff_getElem.mp h i j hi hj z
 ·exact(List.pairwise_iff_getElem.mp h j i hj hi z).symm
theorem a7g(P:Nat→Prop) [DecidablePred P]:∀(l:List Nat),l.Nodup→∀j0,j0∈l→P j0→(∀j∈l,P j→j=j0)→(l.map fun j=>if P j then 1 else 0).sum=1
 | [],_,j0,m,_,_=>by cases m
 | x::l,nd,j0,m,p,u=>by
  rw[List.map_cons,List.sum_cons]
  have nx:=(List.nodup_cons.mp nd).1
  by_cases z:x=j0
  ·subst z
   have:(l.map fun j=>if P j then 1 else 0)=l.map fun _=>0:=List.map_congr_left fun j mj=>if_neg fun pj=>by
    have:=u j (List.mem_cons_of_mem _ mj) pj
    subst this
    exact nx mj
   rw[this,if_pos p]
   have z0:∀l:List Nat,(l.map fun _=>0).sum=0:=fun l=>by
    induction l with
    | nil=>rfl
    | cons a l ih=>rw[List.map_cons,List.sum_cons,ih]
   rw[z0]
  ·rw[if_neg fun px=>z (u x List.mem_cons_self px)]
   rw[a7g P l (List.nodup_cons.mp nd).2 j0 ((List.mem_cons.mp m).resolve_left (Ne.symm z)) p fun j mj pj=>u j (List.mem_cons_of_mem _ mj) pj]
theorem b2Z{S:List R4}(hS:Sup S)(hd:S.Pairwise apX)(hp:∀s∈S,s.1<s.2.2.1){k:Nat}(hk:k<S.length)(y0:0<(g7 S k).2.1):((List.range S.length).map fun j=>if on S k j=true then(M9 (g7 S j) (g7 S k)).toNat else 0).sum=wk S k:=by
 have hm:=a2h hk
 have hw:=hp _ hm
 obtain⟨n,hn⟩:=Int.eq_ofNat_of_zero_le (show 0≤(g7 S k).2.2.1-(g7 S k).1 by omega)
 have hwk:wk S k=n:=by unfold wk;omega
 rw[hwk]
 have e2:(fun j=>if on S k j=true then(M9 (g7 S j) (g7 S k)).toNat else 0)=fun j=>M8 n fun p=>if(g7 S j).2.2.2=(g7 S k).2.1∧(g7 S j).1≤(g7 S k).1+(p:Int)∧(g7 S k).1+(p:Int)<(g7 S j).2.2.1 then 1 else 0:=by
  funext j
  by_cases a:(g7 S j).2.2.2=(g7 S k).2.1
  ·have e3:(fun(p:Nat)=>if(g7 S j).2.2.2=(g7 S k).2.1∧(g7 S j).1≤(g7 S k).1+(p:Int)∧(g7 S k).1+(p:Int)<(g7 S j).2.2.1 then 1 else 0)=fun(p:Nat)=>if(g7 S j).1≤(g7 S k).1+(p:Int)∧(g7 S k).1+(p:Int)<(g7 S j).2.2.1 then 1 else 0:=by
    funext p
    simp only[a,true_and]
   rw[e3,a9q]
   have e4:(M9 (g7 S j) (g7 S k)).toNat=((if(g7 S k).1+(n:Int)<(g7 S j).2.2.1 then(g7 S k).1+(n:Int)else(g7 S j).2.2.1)-(if(g7 S k).1 > (g7 S j).1 then(g7 S k).1 else(g7 S j).1)).toNat:=by
    unfold M9
    rw[show(g7 S k).1+(n:Int)=(g7 S k).2.2.1 by omega]
   rw[← e4]
   by_cases b:on S k j=true
   ·rw[if_pos b]
   ·rw[if_neg b]
    have:¬0<M9 (g7 S j) (g7 S k):=fun z=>b (by unfold on;rw[show q1 S k j=true from decide_eq_true a,show q2 S k j=true from decide_eq_true z];rfl)
    omega
  ·have:¬on S k j=true:=fun z=>a (of_decide_eq_true (show q1 S k j=true from(Bool.and_eq_true _ _▸z:q1 S k j=true∧q2 S k j=true).1))
   rw[if_neg this]
   have e3:(fun(p:Nat)=>if(g7 S j).2.2.2=(g7 S k).2.1∧(g7 S j).1≤(g7 S k).1+(p:Int)∧(g7 S k).1+(p:Int)<(g7 S j).2.2.1 then 1 else 0)=fun _=>0:=by
    funext p
    exact if_neg fun z=>a z.1
   rw[e3,a4V]
 rw[e2,← a25 n (fun p j=>if(g7 S j).2.2.2=(g7 S k).2.1∧(g7 S j).1≤(g7 S k).1+(p:Int)∧(g7 S k).1+(p:Int)<(g7 S j).2.2.1 then 1 else 0)]
 refine(a3L n _ _ fun p hpn=>?_).trans (a6b n)
 obtain⟨t,mt,t1,t2,t3⟩:=hS _ hm y0 ((g7 S k).1+(p:Int)) (by omega) (by omega)
 obtain⟨j,hj,rfl⟩:=a9r mt
 refine a7g (fun j=>(g7 S j).2.2.2=(g7 S k).2.1∧(g7 S j).1≤(g7 S k).1+(p:Int)∧(g7 S k).1+(p:Int)<(g7 S j).2.2.1) (List.range S.length) List.nodup_range j (List.mem_range.mpr hj) ⟨t1,t2,t3⟩ fun i mi pi=>?_
 by_cases z:i=j
 ·exact z
 ·rcases b4W hd (List.mem_range.mp mi) hj z (pi.1.trans t1.symm)with y | y
  ·have:=pi.2.2
   omega
  ·have:=pi.2.1
   omega
theorem b20{S:List R4}(hS:Sup S)(hd:S.Pairwise apX)(hp:∀s∈S,s.1<s.2.2.1∧0≤s.2.1∧s.2.1<s.2.2.2){k:Nat}(hk:k<S.length)(x:Rat):rs (List.range S.length) (fun j=>con S k x j)=if(g7 S k).2.1=0 then 0 else x:=by
 obtain⟨p1,p2,p3⟩:=hp _ (a2h hk)
 by_cases z:(g7 S k).2.1=0
 ·rw[if_pos z,← a7f (List.range S.length)]
  refine Q1 fun j mj=>?_
  refine a4m ?_
  cases b:on S k j with
  | false=>rfl
  | true =>
   have a:=of_decide_eq_true (show q1 S k j=true from(Bool.and_eq_true _ _▸b:q1 S k j=true∧q2 S k j=true).1)
   obtain⟨r1,r2,r3⟩:=hp _ (a2h (List.mem_range.mp mj))
   omega
 ·rw[if_neg z]
  have hw:0<wk S k:=by unfold wk;omega
  have e:rs (List.range S.length) (fun j=>con S k x j)=rs (List.range S.length) fun j=>(x/((wk S k:Nat):Rat))*(((if on S k j=true then(M9 (g7 S j) (g7 S k)).toNat else 0:Nat)):Rat):=by
   refine Q1 fun j _=>?_
   unfold con
   by_cases b:on S k j=true
   ·rw[if_pos b,if_pos b]
    grind
   ·rw[if_neg b,if_neg b]
    have:((0:Nat):Rat)=0:=rfl
    rw[this]
    grind
  rw[e,b4o,a9w,b2Z hS hd (fun s m=>(hp s m).1) hk (by omega)]
  have:=ne0 hw
  grind
theorem a9x{S:List R4}(hS:Sup S)(hd:S.Pairwise apX)(hp:∀s∈S,s.1<s.2.2.1∧0≤s.2.1∧s.2.1<s.2.2.2)(x w:Nat→Rat)(hb:∀j,j<S.length→x j=rs (List.range S.length) fun k=>con S k (x k+w k) j):(rs (List.range S.length) fun k=>if(g7 S k).2.1=0 then x k+w k else 0)=rs (List.range S.length) w:=by
 have h1:rs (List.range S.length) x=rs (List.range S.length) fun k=>if(g7 S k).2.1=0 then 0 else x k+w k:=by
  refine(Q1 fun j mj=>hb j (List.mem_range.mp mj)).trans ?_
  rw[b2W]
  exact Q1 fun k mk=>b20 hS hd hp (List.mem_range.mp mk) _
 have h2:rs (List.range S.length) (fun k=>(if(g7 S k).2.1=0 then x k+w k else 0)+(if(g7 S k).2.1=0 then 0 else x k+w k))=rs (List.range S.length) fun k=>x k+w k:=Q1 fun k _=>by
  by_cases z:(g7 S k).2.1=0
  ·rw[if_pos z,if_pos z];grind
  ·rw[if_neg z,if_neg z];grind
 rw[a6d,a6d,← h1]at h2
 grind
theorem b4X(ws:List Nat)(n:Nat)(h:ws.length=n):rs (List.range n) (wr ws)=((ws.sum:Nat):Rat):=by
 subst h
 have:(List.range ws.length).map (fun k=>ws.getD k 0)=ws:=by
  refine List.ext_getElem (by simp) fun i h1 h2=>?_
  rw[List.getElem_map,List.getElem_range,M1 h2]
 have e:=a9w (List.range ws.length) fun k=>ws.getD k 0
 rw[this]at e
 exact e
theorem a4X{i:Int}(h:i.natAbs<2 ^ 100000):Fits i:=by
 unfold Fits Builtin.Int.intBits
 split
 ·exact Nat.zero_le _
 ·rename_i ha
  have ha':i.natAbs≠0:=by
   intro z;apply ha;first | exact Int.natAbs_eq_zero.mp z | (simpa using z)
  have h2:i.natAbs.log2<100000:=(Nat.log2_lt ha').mpr h
  clear h
  show _≤1048576
  omega
theorem T5{a b:Nat}(ha:a<2 ^ 100000)(hb:b<2 ^ 100000):t8 (.int (a:Int)) (.int (b:Int))=some (.int ((a*b:Nat):Int)):=by
 rw[a2v ((a4X (by rw[Int.natAbs_natCast];exact ha)).mul (a4X (by rw[Int.natAbs_natCast];exact hb))),Int.natCast_mul]
abbrev fgC:BF:=(bZ (eB gGt (eV 2) (eC (.int 0))))
abbrev fgB:SF:=(c6 (j7 3 (eB l5 (eV 1) (eV 2))) (c6 (j7 1 (eV 2)) (j7 2 (eV 3))))
theorem b4q(f:D)(a b:Int)(o2:Option D)(h:0<b):fgC [.fz f,.fz (.int a),.fz (.int b),un o2]=some (.ok true [.fz f,.fz (.int a),.fz (.int b),un o2]):=by
 unfold fgC
 walk_at "eh"
 try rfl
theorem b0V(f:D)(a:Int)(o2:Option D):fgC [.fz f,.fz (.int a),.fz (.int 0),un o2]=some (.ok false [.fz f,.fz (.int a),.fz (.int 0),un o2]):=by
 unfold fgC
 walk_at "eh"
 try rfl
theorem b4r(f:D)(a b:Int)(o2:Option D)(h:0<b):fgB [.fz f,.fz (.int a),.fz (.int b),un o2]=some (.nx [.fz f,.fz (.int b),.fz (.int (a%b)),.fz (.int (a%b))]):=by
 unfold fgB
 cases o2<;>simp only[un]<;>walk_at "eh"
theorem a9y(f:D):∀(n a b fuel:Nat) (o2:Option D),b<2 ^ n→2*n+1≤fuel→∃o2':Option D,v8 fgC fgB fuel [.fz f,.fz (.int (a:Int)),.fz (.int (b:Int)),un o2]=some (.nx [.fz f,.fz (.int ((Nat.gcd a b:Nat):Int)),.fz (.int 0),un o2'])
 | 0,a,b,fuel,o2,hb,hf=>by
  have:b=0:=by omega
  subst this
  obtain⟨m,rfl⟩:∃m,fuel=m+1:=⟨fuel-1,by omega⟩
  exact⟨o2,by rw[Nat.gcd_zero_right];exact U8 (b0V _ _ _)⟩
 | n+1,a,b,fuel,o2,hb,hf=>by
  obtain⟨m,rfl⟩:∃m,fuel=m+1+1+1:=⟨fuel-3,by omega⟩
  by_cases z:b=0
  ·subst z
   exact⟨o2,by rw[Nat.gcd_zero_right];exact U8 (b0V _ _ _)⟩
  ·have s1:v8 fgC fgB (m+1+1+1) [.fz f,.fz (.int (a:Int)),.fz (.int (b:Int)),un o2]=v8 fgC fgB (m+1+1) [.fz f,.fz (.int (b:Int)),.fz (.int ((a%b:Nat):Int)),un (some (.int ((a%b:Nat):Int)))]:=by
    refine a0k (b4q _ _ _ _ (by omega)) ?_
    rw[b4r _ _ _ _ (by omega),Int.natCast_emod]
    rfl
   have g1:Nat.gcd a b=Nat.gcd b (a%b):=by rw[Nat.gcd_comm a b,Nat.gcd_rec b a,Nat.gcd_comm]
   rw[s1,g1]
   generalize hr:a%b=r at *
   have hrb:r<b:=by rw[← hr];exact Nat.mod_lt _ (by omega)
   by_cases y:r=0
   ·subst y
    exact⟨_,by rw[Nat.gcd_zero_right];exact U8 (b0V _ _ _)⟩
   ·have s2:v8 fgC fgB (m+1+1) [.fz f,.fz (.int (b:Int)),.fz (.int (r:Int)),un (some (.int (r:Int)))]=v8 fgC fgB (m+1) [.fz f,.fz (.int (r:Int)),.fz (.int ((b%r:Nat):Int)),un (some (.int ((b%r:Nat):Int)))]:=by
     refine a0k (b4q _ _ _ _ (by omega)) ?_
     rw[b4r _ _ _ _ (by omega),Int.natCast_emod]
     rfl
    have g2:Nat.gcd b r=Nat.gcd r (b%r):=by rw[Nat.gcd_comm b r,Nat.gcd_rec r b,Nat.gcd_comm]
    rw[s2,g2]
    refine a9y f n r (b%r) (m+1) _ ?_ (by omega)
    have h1:b%r<r:=Nat.mod_lt _ (by omega)
    have h2:=Nat.div_add_mod b r
    have h3:1≤b/r:=Nat.div_pos (by omega) (by omega)
    have h4:r*1≤r*(b/r):=Nat.mul_le_mul_left _ h3
    rw[Nat.pow_succ]at hb
    omega
theorem b5F(WH:List D→Option R1)(WL:SF)(p q:Int)(hp:¬p<0)(hq:¬q<1)(s2 s3:Sl)(h1:WH [.int p]=some (.ret (.bl true)))(h2:WH [.int q]=some (.ret (.bl true)))(hl:WL [.fz (.tup [.int p,.int q]),.fz (.int p),.fz (.int q),.no]=some (.nx [.fz (.tup [.int p,.int q]),.fz (.int 1),s2,s3])):fD 4 1 (c6 (A4 (Q9 (G7 (bZ (a0F 0 "tuple"))) (bZ (eB (B8 true) (y8 r8 0) (eC (.int 2))))) (t9 (eC (.bl false))) B9) (c6 (A4 (Q9 (G7 (bZ (j9 WH (aC (eB i8 (eV 0) (eC (.int 0))) aN)))) (Q9 (G7 (bZ (j9 WH (aC (eB i8 (eV 0) (eC (.int 1))) aN)))) (Q9 (bZ (eB gLt (eB i8 (eV 0) (eC (.int 0))) (eC (.int 0)))) (bZ (eB gLt (eB i8 (eV 0) (eC (.int 1))) (eC (.int 1))))))) (t9 (eC (.bl false))) B9) (c6 (j7 1 (eB i8 (eV 0) (eC (.int 0)))) (c6 (j7 2 (eB i8 (eV 0) (eC (.int 1)))) (c6 WL (t9 (eB (B8 false) (eV 1) (eC (.int 1))))))))) [.tup [.int p,.int q]]=some (.ret (.bl true)):=by
 walk_at "eh"
theorem a7h(f:Nat×Nat)(h0:0<f.2)(h1:f.2<2 ^ 1300)(hg:Nat.gcd f.1 f.2=1):D4 [tD f]=some (.ret (.bl true)):=by
 obtain⟨o,h⟩:=a9y (tD f) 1300 f.1 f.2 1000000 none h1 (by omega)
 rw[hg]at h
 exact b5F O6 (v8 fgC fgB 1000000) (f.1:Int) (f.2:Int) (by omega) (by omega) _ _ (a5_ _) (a5_ _) h
abbrev baB(TC:List D→Option R1)(GM:D→D→Option D):SF:=(c6 (y9 7 TC (aC (m7 j6 0 (eV 3)) (aC (m7 j6 0 (eV 6)) aN))) (A4 (Y2 (bZ (eB (B8 false) (eB i8 (m7 j6 0 (eV 3)) (eC (.int 3))) (eB i8 (m7 j6 0 (eV 6)) (eC (.int 1))))) (bZ (eB gGt (eV 7) (eC (.int 0))))) (c6 (j7 8 (eB GM (eB u5 (eB i8 (m7 j6 1 (eV 6)) (eC (.int 0))) (eB GM (m7 j6 2 (eV 6)) (eB i8 (m7 j6 1 (eV 6)) (eC (.int 1))))) (eV 7))) (c6 (j7 9 (eB GM (eB i8 (m7 j6 1 (eV 6)) (eC (.int 1))) (eB w6 (eB i8 (m7 j6 0 (eV 6)) (eC (.int 2))) (eB i8 (m7 j6 0 (eV 6)) (eC (.int 0)))))) (c6 (j7 4 (eB u5 (eB GM (eV 4) (eV 9)) (eB GM (eV 8) (eV 5)))) (j7 5 (eB GM (eV 5) (eV 9)))))) B9))
theorem b5G(TC:List D→Option R1)(GM:D→D→Option D)(A B C:List D)(j k t b sh p q w wq part under tu pb bu:Int)(rj rk:R4)(o7 o8 o9:Option D)(aj:atI A j=some (i9 rj))(ak:atI A k=some (i9 rk))(tc:TC [i9 rj,i9 rk]=some (.ret (.int sh)))(c1:rj.2.2.2=rk.2.1)(c2:0<sh)(bk:atI B k=some (.tup [.int p,.int q]))(ck:atI C k=some (.int w))(g1:GM (.int w) (.int q)=some (.int wq))(g2:GM (.int (p+wq)) (.int sh)=some (.int part))(g3:GM (.int q) (.int (rk.2.2.1-rk.1))=some (.int under))(g4:GM (.int t) (.int under)=some (.int tu))(g5:GM (.int part) (.int b)=some (.int pb))(g6:GM (.int b) (.int under)=some (.int bu)) :
  baB TC GM [.fz (.lst A),.fz (.lst B),.fz (.lst C),.fz (.int j),.fz (.int t),.fz (.int b),.fz (.int k),un o7,un o8,un o9]=some (.nx [.fz (.lst A),.fz (.lst B),.fz (.lst C),.fz (.int j),.fz (.int (tu+pb)),.fz (.int bu),.fz (.int k),un (some (.int sh)),un (some (.int part)),un (some (.int under))]):=by
 unfold baB
 obtain⟨r1,r2,r3,r4⟩:=rj
 obtain⟨u1,u2,u3,u4⟩:=rk
 dsimp only at *
 subst c1
 cases o7<;>cases o8<;>cases o9<;>simp only[un]<;>walk_at "eh"
theorem b5H(TC:List D→Option R1)(GM:D→D→Option D)(A B C:List D)(j k t b sh:Int)(rj rk:R4)(o7 o8 o9:Option D)(aj:atI A j=some (i9 rj))(ak:atI A k=some (i9 rk))(tc:TC [i9 rj,i9 rk]=some (.ret (.int sh)))(c:¬(rj.2.2.2=rk.2.1∧0<sh)) :
  baB TC GM [.fz (.lst A),.fz (.lst B),.fz (.lst C),.fz (.int j),.fz (.int t),.fz (.int b),.fz (.int k),un o7,un o8,un o9]=some (.nx [.fz (.lst A),.fz (.lst B),.fz (.lst C),.fz (.int j),.fz (.int t),.fz (.int b),.fz (.int k),un (some (.int sh)),un o8,un o9]):=by
 unfold baB
 obtain⟨r1,r2,r3,r4⟩:=rj
 obtain⟨u1,u2,u3,u4⟩:=rk
 dsimp only at *
 by_cases z:r4=u2
 ·have y:¬0<sh:=fun y=>c ⟨z,y⟩
  subst z
  clear c
  cases o7<;>simp only[un]<;>walk_at "eh"
 ·clear c
  cases o7<;>simp only[un]<;>walk_at "eh"
theorem b5I(LP:SF)(GM:D→D→Option D)(A B C:List D)(j t b p q z:Int)(s6 s7 s8 s9:Sl)(hl:LP [.fz (.lst A),.fz (.lst B),.fz (.lst C),.fz (.int j),.fz (.int 0),.fz (.int 1),.no,.no,.no,.no]=some (.nx [.fz (.lst A),.fz (.lst B),.fz (.lst C),.fz (.int j),.fz (.int t),.fz (.int b),s6,s7,s8,s9]))(bj:atI B j=some (.tup [.int p,.int q]))(g1:GM (.int t) (.int q)=some (.int z))(g2:GM (.int p) (.int b)=some (.int z)):fD 10 4 (c6 (j7 4 (eC (.int 0))) (c6 (j7 5 (eC (.int 1))) (c6 LP (t9 (eB (B8 false) (eB GM (eV 4) (eB i8 (m7 j6 1 (eV 3)) (eC (.int 1)))) (eB GM (eB i8 (m7 j6 1 (eV 3)) (eC (.int 0))) (eV 5))))))) [.lst A,.lst B,.lst C,.int j]=some (.ret (.bl true)):=by
 walk_at "eh"
theorem a0c{x n:Nat}(h:x≤2 ^ n)(hn:n<100000):x<2 ^ 100000:=Nat.lt_of_le_of_lt h (Nat.pow_lt_pow_right (by decide) hn)
theorem a0L{a b x y n:Nat}(ha:a≤2 ^ x)(hb:b≤2 ^ y)(h:x+y=n):a*b≤2 ^ n:=by
 subst h
 rw[Nat.pow_add]
 exact Nat.mul_le_mul ha hb
theorem sz{m p q w sh wd t b:Nat}(hm:m<60)(q1:q≤2 ^ 1300)(p1:p≤2 ^ 4000*q)(w1:w≤2 ^ 134)(s1:sh≤wd)(d1:wd≤2 ^ 20)(b1:b≤2 ^ (1320*m))(t1:t≤m*2 ^ 4001*b) :
  (w<2 ^ 100000∧q<2 ^ 100000∧p+w*q<2 ^ 100000∧sh<2 ^ 100000∧wd<2 ^ 100000∧t<2 ^ 100000∧q*wd<2 ^ 100000∧(p+w*q)*sh<2 ^ 100000∧b<2 ^ 100000)∧b*(q*wd)≤2 ^ (1320*(m+1))∧t*(q*wd)+(p+w*q)*sh*b≤(m+1)*2 ^ 4001*(b*(q*wd)):=by
 have U:q*wd≤2 ^ 1320:=a0L q1 d1 rfl
 have PW:p+w*q≤2 ^ 4001*q:=by
  have w2:w≤2 ^ 4000:=Nat.le_trans w1 (Nat.pow_le_pow_right (by decide) (by decide))
  have w3:w*q≤2 ^ 4000*q:=Nat.mul_le_mul_right _ w2
  have e:2 ^ 4001*q=2 ^ 4000*q+2 ^ 4000*q:=by rw[Nat.pow_succ,Nat.mul_assoc,Nat.mul_left_comm,Nat.two_mul]
  rw[e]
  exact Nat.add_le_add p1 w3
 have PT:(p+w*q)*sh≤2 ^ 4001*(q*wd):=by
  rw[← Nat.mul_assoc]
  exact Nat.mul_le_mul PW s1
 have P2:p+w*q≤2 ^ 5301:=Nat.le_trans PW (a0L (Nat.le_refl _) q1 rfl)
 have m6:m≤2 ^ 6:=by show m≤64;omega
 have bB:b≤2 ^ 79200:=Nat.le_trans b1 (Nat.pow_le_pow_right (by decide) (by omega))
 have tB:t≤2 ^ 83207:=Nat.le_trans t1 (a0L (a0L m6 (Nat.le_refl (2 ^ 4001)) rfl) bB rfl)
 refine⟨⟨a0c w1 (by decide),a0c q1 (by decide),a0c P2 (by decide),a0c (Nat.le_trans s1 d1) (by decide),a0c d1 (by decide),a0c tB (by decide),a0c U (by decide),a0c (a0L P2 (Nat.le_trans s1 d1) rfl) (by decide),a0c bB (by decide)⟩,a0L b1 U (by omega),?_⟩
 have a1:t*(q*wd)≤m*2 ^ 4001*b*(q*wd):=Nat.mul_le_mul_right _ t1
 have a2:(p+w*q)*sh*b≤2 ^ 4001*(q*wd)*b:=Nat.mul_le_mul_right _ PT
 have e1:(m+1)*2 ^ 4001*(b*(q*wd))=m*2 ^ 4001*b*(q*wd)+2 ^ 4001*(q*wd)*b:=by
  generalize 2 ^ 4001=X
  generalize q*wd=Y
  rw[Nat.succ_mul,Nat.add_mul,Nat.mul_assoc (m*X) b Y]
  congr 1
  rw[Nat.mul_assoc,Nat.mul_comm b Y]
 rw[e1]
 exact Nat.add_le_add a1 a2
theorem b4Y{p q w:Nat}(hq:0<q):vl (p+w*q,q)=vl (p,q)+(w:Rat):=by
 unfold vl
 have h1:=ne0 hq
 simp only[Rat.natCast_add,Rat.natCast_mul]
 grind
abbrev iN(ws:List Nat):List D:=ws.map fun w=>D.int ((w:Nat):Int)
theorem a4n{α:Type}{f:α→D}{l:List α}{k:Nat}(h:k<l.length):atI (l.map f) (k:Int)=some (f l[k]):=V7 (by rw[List.getElem?_map,List.getElem?_eq_getElem h];rfl)
structure Rt(S:List R4)(T:List (Nat×Nat))(ws:List Nat):Prop where
 n:S.length≤60
 t:T.length=S.length
 w:ws.length=S.length
 wb:∀w∈ws,w≤2 ^ 134
 fr:∀f∈T,0<f.2∧f.2<2 ^ 1300∧f.1≤2 ^ 4000*f.2∧Nat.gcd f.1 f.2=1
 wd:∀s∈S,∃wd:Nat,s.2.2.1-s.1=(wd:Int)∧0<wd∧wd≤2 ^ 20
 bal:∀j,j<S.length→tv T j=rs (List.range S.length) fun k=>con S k (tv T k+wr ws k) j
abbrev baE(S:List R4)(T:List (Nat×Nat))(ws:List Nat)(j:Nat)(t b:Nat)(s6 s7 s8 s9:Sl):DE:=[.fz (.lst (S.map i9)),.fz (.lst (T.map tD)),.fz (.lst (iN ws)),.fz (.int (j:Int)),.fz (.int (t:Int)),.fz (.int (b:Int)),s6,s7,s8,s9]
theorem b4s{S:List R4}{T:List (Nat×Nat)}{ws:List Nat}(h:Rt S T ws){j:Nat}(hj:j<S.length):D5 [.lst (S.map i9),.lst (T.map tD),.lst (iN ws),.int (j:Int)]=some (.ret (.bl true)):=by
 have hn:=h.n
 obtain⟨e',g,t,b,o6,o7,o8,o9,b0,b1,t1,v,rfl⟩:=K7 (b:=c7 6) (body:=baB E3 t8) (fun(k:Nat)=>D.int (k:Int)) (fun pre e1=>∃(t b:Nat) (o6 o7 o8 o9:Option D),0<b∧b≤2 ^ (1320*pre.length)∧t≤pre.length*2 ^ 4001*b∧(vl (t,b)=rs pre fun k=>con S k (tv T k+wr ws k) j)∧e1=baE S T ws j t b (un o6) (un o7) (un o8) (un o9)) (List.range S.length) (baE S T ws j 0 1 .no .no .no .no) ⟨0,1,none,none,none,none,by decide,Nat.le_refl _,Nat.zero_le _,a4l,rfl⟩ (by
  rintro pre k post e1 hq ⟨t,b,o6,o7,o8,o9,b0,b1,t1,v,rfl⟩
  obtain⟨hk0,hk⟩:=a21 hq
  have hk:k<S.length:=by omega
  have hb:c7 6 (.int (k:Int)) (baE S T ws j t b (un o6) (un o7) (un o8) (un o9))=some (baE S T ws j t b (.fz (.int (k:Int))) (un o7) (un o8) (un o9)):=by cases o6<;>rfl
  rw[hb,C3]
  have kT:k<T.length:=by rw[h.t];exact hk
  have kw:k<ws.length:=by rw[h.w];exact hk
  have aj:=b0O hj
  have ak:=b0O hk
  by_cases c:on S k j=true
  ·have c':=(Bool.and_eq_true _ _▸c:q1 S k j=true∧q2 S k j=true)
   have c1:(g7 S j).2.2.2=(g7 S k).2.1:=of_decide_eq_true c'.1
   have c2:0<M9 (g7 S j) (g7 S k):=of_decide_eq_true c'.2
   obtain⟨wd,d1,d2,d3⟩:=h.wd _ (a2h hk)
   have c3:=a9o (g7 S j) (g7 S k)
   obtain⟨sh,hs⟩:=Int.eq_ofNat_of_zero_le (show 0≤M9 (g7 S j) (g7 S k) by omega)
   have hwk:wk S k=wd:=by unfold wk;omega
   have sw:sh≤wd:=by omega
   obtain⟨f0,f1,f2,f3⟩:=h.fr _ (List.getElem_mem kT)
   have w1:=h.wb _ (List.getElem_mem kw)
   obtain⟨⟨z1,z2,z3,z4,z5,z6,z7,z8,z9⟩,y1,y2⟩:=sz (m:=pre.length) (by omega) (Nat.le_of_lt f1) f2 w1 sw d3 b1 t1
   have st:=b5G E3 t8 (S.map i9) (T.map tD) (iN ws) (j:Int) (k:Int) (t:Int) (b:Int) (sh:Int) (T[k].1:Int) (T[k].2:Int) (ws[k]:Int) _ _ _ _ _ _ _ _ o7 o8 o9 aj ak (by rw[b1p,hs]) c1 (by omega) (a4n (f:=tD) kT) (a4n (f:=fun w=>D.int ((w:Nat):Int)) kw) (T5 z1 z2) (by rw[← Int.natCast_add];exact T5 z3 z4) (by rw[d1];exact T5 z2 z5) (T5 z6 z7) (T5 z8 z9) (T5 z9 z7)
   refine⟨_,(congrArg F9 st).trans rfl,t*(T[k].2*wd)+(T[k].1+ws[k]*T[k].2)*sh*b,b*(T[k].2*wd),some (.int (k:Int)),_,_,_,Nat.mul_pos b0 (Nat.mul_pos f0 d2),?_,?_,?_,rfl⟩
   ·rw[List.length_append];exact y1
   ·rw[List.length_append];exact y2
   ·rw[a9t b0 (Nat.mul_pos f0 d2),v,a3N,a9u,b4Y f0]
    congr 1
    simp only[rs]
    unfold con
    rw[if_pos c,hwk,hs,show((sh:Int)).toNat=sh from Int.toNat_natCast sh,a3O kT]
    unfold wr
    rw[M1 kw]
    grind
  ·have st:=b5H E3 t8 (S.map i9) (T.map tD) (iN ws) (j:Int) (k:Int) (t:Int) (b:Int) _ _ _ o7 o8 o9 aj ak (b1p _ _) (fun z=>c (by unfold on;rw[show q1 S k j=true from decide_eq_true z.1,show q2 S k j=true from decide_eq_true z.2];rfl))
   refine⟨_,(congrArg F9 st).trans rfl,t,b,some (.int (k:Int)),_,_,_,b0,?_,?_,?_,rfl⟩
   ·rw[List.length_append]
    exact Nat.le_trans b1 (Nat.pow_le_pow_right (by decide) (by omega))
   ·rw[List.length_append]
    exact Nat.le_trans t1 (Nat.mul_le_mul_right _ (Nat.mul_le_mul_right _ (by omega)))
   ·rw[v,a3N]
    simp only[rs]
    rw[a4m (by cases y:on S k j;rfl;exact absurd y c)]
    grind)
 rw[List.length_range]at b1 t1
 have jT:j<T.length:=by rw[h.t];exact hj
 obtain⟨f0,f1,f2,f3⟩:=h.fr _ (List.getElem_mem jT)
 have bB:b≤2 ^ 79200:=Nat.le_trans b1 (Nat.pow_le_pow_right (by decide) (by omega))
 have tB:t≤2 ^ 83207:=Nat.le_trans t1 (a0L (a0L (show S.length≤2 ^ 6 by show _≤64;omega) (Nat.le_refl (2 ^ 4001)) rfl) bB rfl)
 have pB:T[j].1≤2 ^ 5300:=Nat.le_trans f2 (a0L (Nat.le_refl _) (Nat.le_of_lt f1) rfl)
 have e:=b4U (a:=t) (b:=b) (c:=T[j].1) (d:=T[j].2) b0 f0 (by rw[v,← h.bal j hj,a3O jT])
 refine b5I (C8 P4 (aC (y8 r8 0) aN) (c7 6) (baB E3 t8)) t8 (S.map i9) (T.map tD) (iN ws) (j:Int) (t:Int) (b:Int) (T[j].1:Int) (T[j].2:Int) ((t*T[j].2:Nat):Int) (un o6) (un o7) (un o8) (un o9) ?_ (a4n (f:=tD) jT) (T5 (a0c tB (by decide)) (a0c (Nat.le_of_lt f1) (by decide))) (by rw[e];exact T5 (a0c pB (by decide)) (a0c bB (by decide)))
 have e0:(aC (y8 r8 0) aN) (baE S T ws j 0 1 .no .no .no .no)=some (.ok [.int (S.length:Int)] (baE S T ws j 0 1 .no .no .no .no)):=by
  have:((S.map i9).length:Int)=S.length:=by rw[List.length_map]
  walk_at "eh"
 have g':=(X4 (b:=c7 6) (body:=baB E3 t8) e0 (a1w (by omega))).trans ((congrArg (fun l=>B6 (c7 6) (baB E3 t8) l (baE S T ws j 0 1 .no .no .no .no)) (a59 S.length)).trans g)
 exact g'
abbrev r1B(FR:List D→Option R1):SF:=(A4 (G7 (bZ (j9 FR (aC (eV 4) aN)))) (t9 (eC (.bl false))) B9)
abbrev r2B(BA:List D→Option R1):SF:=(A4 (V6 (G7 (bZ (j9 BA (aC (eV 1) (aC (eV 3) (aC (eV 2) (aC (eV 5) aN)))))))) (t9 (eC (.bl false))) B9)
abbrev Z1(A S W:List D)(fl:D)(s4 s5:Sl):DE:=[.fz (.tup [.lst A,fl]),.fz (.lst S),.fz (.lst W),.fz (.lst A),s4,s5]
theorem b5J(FR:List D→Option R1)(A S W:List D)(fl f:D)(s5:Sl)(h:FR [f]=some (.ret (.bl true))):r1B FR (Z1 A S W fl (.fz f) s5)=some (.nx (Z1 A S W fl (.fz f) s5)):=by
 unfold r1B
 walk_at "eh"
theorem b5K(BA:List D→Option R1)(A S W:List D)(fl:D)(s4:Sl)(j:Int)(h:BA [.lst S,.lst A,.lst W,.int j]=some (.ret (.bl true))):r2B BA (Z1 A S W fl s4 (.fz (.int j)))=some (.nx (Z1 A S W fl s4 (.fz (.int j)))):=by
 unfold r2B
 walk_at "eh"
theorem b5L(FR:List D→Option R1)(GE:Bool→D→D→Option D)(GS:D→Option D)(L1 L2:SF)(A S W:List D)(fl:D)(N:Int)(s4 s5:Sl)(hl:(A.length:Int)=(S.length:Int))(hf:FR [fl]=some (.ret (.bl true)))(h1:L1 (Z1 A S W fl .no .no)=some (.nx (Z1 A S W fl s4 .no)))(h2:L2 (Z1 A S W fl s4 .no)=some (.nx (Z1 A S W fl s4 s5)))(gs:GS (.lst W)=some (.int N))(ge:GE false fl (.tup [.int N,.int 1])=some (.bl true)):fD 6 3 (c6 (A4 (Q9 (G7 (bZ (a0F 0 "tuple"))) (Q9 (bZ (eB (B8 true) (y8 r8 0) (eC (.int 2)))) (G7 (bZ (eCB a38 (aC (eB i8 (eV 0) (eC (.int 0))) (aC (eC (.ty "list")) aN))))))) (t9 (eC (.bl false))) B9) (c6 (j7 3 (eB i8 (eV 0) (eC (.int 0)))) (c6 (A4 (Q9 (bZ (eB (B8 true) (y8 r8 3) (y8 r8 1))) (G7 (bZ (j9 FR (aC (eB i8 (eV 0) (eC (.int 1))) aN))))) (t9 (eC (.bl false))) B9) (c6 L1 (c6 L2 (t9 (eB (GE false) (eB i8 (eV 0) (eC (.int 1))) (eT (aC (eCB (g1 GS) (aC (eV 2) aN)) (aC (eC (.int 1)) aN)))))))))) [.tup [.lst A,fl],.lst S,.lst W]=some (.ret (.bl true)):=by
 walk_at "eh"
theorem b4t(ws:List Nat):a0w (.lst (iN ws))=some (.int ((ws.sum:Nat):Int)):=by
 have h:=a7a (ws.map fun w=>((0:Int),((w:Nat):Int)))
 have e1:(ws.map fun w=>((0:Int),((w:Nat):Int))).map (·.2)=ws.map fun w=>((w:Nat):Int):=by rw[List.map_map];rfl
 have e2:∀l:List Nat,(l.map fun w=>((w:Nat):Int)).sum=((l.sum:Nat):Int):=fun l=>by
  induction l with
  | nil=>rfl
  | cons a l ih=>rw[List.map_cons,List.sum_cons,List.sum_cons,ih,Int.natCast_add]
 rw[e1,e2,List.map_map]at h
 exact h
theorem a6h{S:List R4}{T:List (Nat×Nat)}{ws:List Nat}(h:Rt S T ws):F8 [.tup [.lst (T.map tD),tD (ws.sum,1)],.lst (S.map i9),.lst (iN ws)]=some (.ret (.bl true)):=by
 have hn:=h.n
 obtain⟨e1,g1,o4,rfl⟩:=K7 (b:=c7 4) (body:=r1B D4) tD (fun _ e=>∃o4:Option D,e=Z1 (T.map tD) (S.map i9) (iN ws) (tD (ws.sum,1)) (un o4) .no) T (Z1 (T.map tD) (S.map i9) (iN ws) (tD (ws.sum,1)) .no .no) ⟨none,rfl⟩ (by
  rintro pre f post e hq ⟨o4,rfl⟩
  have mf:f∈T:=by rw[hq];exact List.mem_append_right _ List.mem_cons_self
  obtain⟨f0,f1,f2,f3⟩:=h.fr f mf
  have hb:c7 4 (tD f) (Z1 (T.map tD) (S.map i9) (iN ws) (tD (ws.sum,1)) (un o4) .no)=some (Z1 (T.map tD) (S.map i9) (iN ws) (tD (ws.sum,1)) (.fz (tD f)) .no):=by cases o4<;>rfl
  rw[hb,C3]
  exact⟨_,(congrArg F9 (b5J D4 _ _ _ _ _ _ (a7h f f0 f1 f3))).trans rfl,some (tD f),rfl⟩)
 obtain⟨e2,g2,o5,rfl⟩:=K7 (b:=c7 5) (body:=r2B D5) (fun(k:Nat)=>D.int (k:Int)) (fun _ e=>∃o5:Option D,e=Z1 (T.map tD) (S.map i9) (iN ws) (tD (ws.sum,1)) (un o4) (un o5)) (List.range S.length) (Z1 (T.map tD) (S.map i9) (iN ws) (tD (ws.sum,1)) (un o4) .no) ⟨none,rfl⟩ (by
  rintro pre j post e hq ⟨o5,rfl⟩
  have mj:j<S.length:=List.mem_range.mp (by rw[hq];exact List.mem_append_right _ List.mem_cons_self)
  have hb:c7 5 (.int (j:Int)) (Z1 (T.map tD) (S.map i9) (iN ws) (tD (ws.sum,1)) (un o4) (un o5))=some (Z1 (T.map tD) (S.map i9) (iN ws) (tD (ws.sum,1)) (un o4) (.fz (.int (j:Int)))):=by cases o5<;>rfl
  rw[hb,C3]
  exact⟨_,(congrArg F9 (b5K D5 _ _ _ _ _ _ (b4s h mj))).trans rfl,some (.int (j:Int)),rfl⟩)
 refine b5L D4 I0 a0w (a09 3 (c7 4) (r1B D4)) (C8 P4 (aC (y8 r8 1) aN) (c7 5) (r2B D5)) _ _ _ _ _ (un o4) (un o5) (by rw[List.length_map,List.length_map,h.t]) (a7h (ws.sum,1) (show 0<1 by decide) (show 1<2 ^ 1300 from Nat.one_lt_two_pow (by decide)) (Nat.gcd_one_right _)) g1 ?_ (b4t ws) (a2a false rfl (by simp[G9,G3]) rfl)
 have e0:(aC (y8 r8 1) aN) (Z1 (T.map tD) (S.map i9) (iN ws) (tD (ws.sum,1)) (un o4) .no)=some (.ok [.int (S.length:Int)] (Z1 (T.map tD) (S.map i9) (iN ws) (tD (ws.sum,1)) (un o4) .no)):=by
  have:((S.map i9).length:Int)=S.length:=by rw[List.length_map]
  walk_at "eh"
 exact(X4 (b:=c7 5) (body:=r2B D5) e0 (a1w (by omega))).trans ((congrArg (fun l=>B6 (c7 5) (r2B D5) l (Z1 (T.map tD) (S.map i9) (iN ws) (tD (ws.sum,1)) (un o4) .no)) (a59 S.length)).trans g2)
theorem a6i{n k:Nat}(h:k<n):V2 n (k:Int)=some k:=by
 unfold V2
 rw[if_pos (by omega),if_pos (by omega),Int.toNat_natCast]
theorem a2i{c:BF}{body:SF}(I:Nat→DE→Prop)(Fin:DE→Prop)(hs:∀m e,I m e→(∃e1 e2,c e=some (.ok true e1)∧F9 (body e1)=some (.nx e2)∧∃m',m'<m∧I m' e2)∨(∃e1,c e=some (.ok false e1)∧Fin e1)):∀(fuel m:Nat) (e:DE),m<fuel→I m e→∃e',v8 c body fuel e=some (.nx e')∧Fin e'
 | 0,_,_,h,_=>absurd h (Nat.not_lt_zero _)
 | fuel+1,m,e,h,hi=>by
  rcases hs m e hi with⟨e1,e2,h1,h2,m',hm,h3⟩ | ⟨e1,h1,h2⟩
  ·obtain⟨e',h4,h5⟩:=a2i I Fin hs fuel m' e2 (by omega) h3
   refine⟨e',?_,h5⟩
   rw[v8,h1,Q7,if_pos rfl]
   unfold F9 at h2
   split at h2
   ·rename_i q
    cases h2
    rw[q];exact h4
   ·rw[h2];exact h4
  ·exact⟨e1,by rw[v8,h1,Q7];rfl,h2⟩
abbrev wlC:BF:=(Y2 (bZ (eB gLt (eV 7) (y8 r8 3))) (Y2 (bZ (eB (B8 false) (m7 j6 3 (eV 7)) (m7 j6 3 (eV 6)))) (bZ (eB gLt (eV 7) (eB u5 (eB u5 (eV 6) (eC (.int 1))) (eB l5 (eV 5) (eC (.int 6))))))))
abbrev wlB:SF:=(j7 7 (eB u5 (eV 7) (eC (.int 1))))
abbrev M6(C E:D)(u:Int)(T Sp:List D)(s5 s6 s7 s8 s9 s10:Sl):DE:=[.fz C,.fz E,.fz (.int u),.ow T,.ow Sp,s5,s6,s7,s8,s9,s10]
theorem b5M(C E:D)(u:Int)(T Sp:List D)(s5 s6:Sl)(en:Int)(s8 s9 s10:Sl):wlB (M6 C E u T Sp s5 s6 (.fz (.int en)) s8 s9 s10)=some (.nx (M6 C E u T Sp s5 s6 (.fz (.int (en+1))) s8 s9 s10)):=by
 unfold wlB M6
 walk_at "eh"
abbrev skT:SF:=(U9 3 (eV 10) (eV 9))
theorem b5N(C E:D)(u:Int)(T Sp:List D)(s5 s6 s7 s8:Sl)(h k:Int)(n:Nat)(hn:V2 T.length k=some n):skT (M6 C E u T Sp s5 s6 s7 s8 (.fz (.int h)) (.fz (.int k)))=some (.nx (M6 C E u (T.set n (.int h)) Sp s5 s6 s7 s8 (.fz (.int h)) (.fz (.int k)))):=by
 unfold skT M6
 walk_at "eh"
abbrev skB(WL FL:SF)(GM GD:D→D→Option D):SF:=(c6 (j7 6 (eB l5 (eV 5) (y8 r8 3))) (c6 (j7 5 (eB GD (eV 5) (y8 r8 3))) (c6 (j7 7 (eV 6)) (c6 WL (c6 (j7 8 (m7 j6 3 (eV 6))) (c6 (j7 9 (eB u5 (eB u5 (eV 8) (eC (.int 1))) (eB l5 (eB r9 (eV 5) (eC (.int 6))) (eC (.int 2))))) (c6 (A4 (Y2 (bZ (eB (B8 false) (eB l5 (eB r9 (eV 5) (eC (.int 12))) (eC (.int 2))) (eC (.int 0)))) (Y2 (bZ (eB gLt (eV 7) (y8 r8 3))) (bZ (eB gGt (m7 j6 3 (eV 7)) (eV 8))))) (j7 9 (m7 j6 3 (eV 7))) B9) (c6 (K0 4 (eT (aC (m7 j6 1 (eV 6)) (aC (eB GM (eV 8) (eV 2)) (aC (m7 j6 1 (eV 7)) (aC (eB GM (eV 9) (eV 2)) aN)))))) FL))))))))
theorem a9z(E:List Int)(h:1≤E.length):cutD (iI E) (some 1) none=iI (E.drop 1):=by
 unfold L2.cutD
 have e1:HT.sIx (iI E).length 0 (some 1)=1:=by
  show HT.sIx _ 0 (some ((1:Nat):Int))=1
  rw[HT.sIx_nat,List.length_map]
  omega
 rw[e1]
 show((iI E).drop 1).take ((iI E).length-1)=_
 rw[List.take_of_length_le (by rw[List.length_drop];omega),← List.map_drop]
theorem b5O(E:List Int)(h:1≤E.length)(hl:E.length≤100)(C U:D)(s3 s4 s5 s6 s7 s8 s9 s10:Sl):(a0D 1 [] (zN (T3 1 (oS (eC (.int 1))) oN)) (c7 0) D7 (eC (.int 0))) [.fz C,.fz (.lst (iI E)),.fz U,s3,s4,s5,s6,s7,s8,s9,s10]=some (.ok (iI ((E.drop 1).map fun _=>0)) [.fz C,.fz (.lst (iI E)),.fz U,s3,s4,s5,s6,s7,s8,s9,s10]):=by
 have h0:(T3 1 (oS (eC (.int 1))) oN) [.fz C,.fz (.lst (iI E)),.fz U,s3,s4,s5,s6,s7,s8,s9,s10]=some (.ok (cutD (iI E) (some 1) none) [.fz C,.fz (.lst (iI E)),.fz U,s3,s4,s5,s6,s7,s8,s9,s10]):=rfl
 rw[a9z E h]at h0
 have:=P8 (b:=c7 0) (c:=D7) (el:=eC (.int 0)) (ec:=[.no]) (eo:=[.fz C,.fz (.lst (iI E)),.fz U,s3,s4,s5,s6,s7,s8,s9,s10]) D.int (fun _=>D.int 0) (fun _=>true) (E.drop 1) [] (by
   rw[List.length_drop]
   show 0+_≤2 ^ 24;omega) (fun i m=>⟨[.fz (.int i)],_,rfl,rfl,fun _=>⟨_,rfl⟩⟩)
 rw[List.filter_eq_self.mpr (fun _ _=>rfl),List.nil_append]at this
 unfold a0D zN
 rw[h0]
 unfold iI
 rw[List.map_map]
 exact this
theorem b5P(N:NF)(LP:SF)(C E U:D)(T0 R T:List D)(s5 s6 s7 s8 s9 s10:Sl)(hn:N [.fz C,.fz E,.fz U,.no,.no,.no,.no,.no,.no,.no,.no]=some (.ok T0 [.fz C,.fz E,.fz U,.no,.no,.no,.no,.no,.no,.no,.no]))(hl:LP [.fz C,.fz E,.fz U,.ow T0,.ow [],.no,.no,.no,.no,.no,.no]=some (.nx [.fz C,.fz E,.fz U,.ow T,.ow R,s5,s6,s7,s8,s9,s10])) :
  fD 11 3 (c6 (u9 3 N) (c6 (u9 4 (eL aN)) (c6 LP (P3 4)))) [C,E,U]=some (.own R):=by
 walk_at "eh"
theorem a27{E:List Int}(s:Nat)(p:Int):∀(d:Nat),En E s≤p→p<En E (s+d)→∃c,s≤c∧c<s+d∧En E c≤p∧p<En E (c+1)
 | 0,h1,h2=>absurd (Int.lt_of_le_of_lt h1 h2) (Int.lt_irrefl _)
 | d+1,h1,h2=>by
  by_cases z:p<En E (s+d)
  ·obtain⟨c,c1,c2,c3,c4⟩:=a27 s p d h1 z
   exact⟨c,c1,by omega,c3,c4⟩
  ·exact⟨s+d,by omega,by omega,by omega,h2⟩
theorem b4Z(C E:D)(u:Int)(T Sp:List D)(c s en:Int)(s8 s9 s10:Sl)(t ts:Int)(h1:atI T s=some (.int ts))(h2:en<(T.length:Int)→atI T en=some (.int t)):∃b:Bool,wlC (M6 C E u T Sp (.fz (.int c)) (.fz (.int s)) (.fz (.int en)) s8 s9 s10)=some (.ok b (M6 C E u T Sp (.fz (.int c)) (.fz (.int s)) (.fz (.int en)) s8 s9 s10))∧(b=true→en<(T.length:Int)∧t=ts)∧(b=false→¬(en<(T.length:Int)∧t=ts∧en<s+1+c%6)):=by
 unfold wlC M6
 by_cases z:en<(T.length:Int)
 ·have h2:=h2 z
  by_cases y:t=ts
  ·by_cases x:en<s+1+c%6
   ·refine⟨true,?_,fun _=>⟨z,y⟩,fun w=>(by cases w)⟩
    walk_at "eh"
   ·refine⟨false,?_,fun w=>(by cases w),fun _ w=>x w.2.2⟩
    walk_at "eh"
    rfl
  ·refine⟨false,?_,fun w=>(by cases w),fun _ w=>y w.2.1⟩
   walk_at "eh"
 ·clear h2
  refine⟨false,?_,fun w=>(by cases w),fun _ w=>z w.1⟩
  walk_at "eh"
theorem b4v(C E:D)(u:Int)(T:List Int)(Sp:List D)(c:Int)(s:Nat)(hs:s<T.length)(hT:T.length≤100)(s8 s9 s10:Sl):∃en:Nat,s<en∧en≤T.length∧(∀j,s≤j→j<en→En T j=En T s)∧v8 wlC wlB 1000000 (M6 C E u (iI T) Sp (.fz (.int c)) (.fz (.int (s:Int))) (.fz (.int (s:Int))) s8 s9 s10)=some (.nx (M6 C E u (iI T) Sp (.fz (.int c)) (.fz (.int (s:Int))) (.fz (.int (en:Int))) s8 s9 s10)):=by
 have lT:(iI T).length=T.length:=List.length_map ..
 have aT:∀j:Nat,j<T.length→atI (iI T) (j:Int)=some (.int (En T j)):=fun j h=>a0b (by
  unfold En
  rw[List.getElem?_map,List.getD_eq_getElem?_getD,List.getElem?_eq_getElem h]
  rfl)
 obtain⟨e',h,en,h1,h2,h3,rfl⟩:=a2i (c:=wlC) (body:=wlB) (fun m e=>∃en:Nat,s≤en∧en≤T.length∧(∀j,s≤j→j<en→En T j=En T s)∧m=T.length-en∧e=M6 C E u (iI T) Sp (.fz (.int c)) (.fz (.int (s:Int))) (.fz (.int (en:Int))) s8 s9 s10) (fun e=>∃en:Nat,s<en∧en≤T.length∧(∀j,s≤j→j<en→En T j=En T s)∧e=M6 C E u (iI T) Sp (.fz (.int c)) (.fz (.int (s:Int))) (.fz (.int (en:Int))) s8 s9 s10) (by
  rintro m e ⟨en,h1,h2,h3,rfl,rfl⟩
  obtain⟨b,hb,ht,hf⟩:=b4Z C E u (iI T) Sp c s en s8 s9 s10 (En T en) (En T s) (aT s hs) (fun z=>aT en (by rw[lT]at z;omega))
  rw[lT]at ht hf
  cases b
  ·have hf:=hf rfl
   refine .inr ⟨_,hb,en,?_,h2,h3,rfl⟩
   by_cases z:s<en
   ·exact z
   ·have e:en=s:=by omega
    subst e
    exact absurd ⟨by omega,rfl,by omega⟩ hf
  ·obtain⟨z1,z2⟩:=ht rfl
   refine .inl ⟨_,_,hb,(congrArg F9 (b5M C E u (iI T) Sp _ _ _ s8 s9 s10)).trans rfl,T.length-(en+1),by omega,en+1,by omega,by omega,fun j j1 j2=>?_,rfl,by rw[Int.natCast_add];rfl⟩
   by_cases y:j<en
   ·exact h3 j j1 y
   ·rw[show j=en by omega]
    exact z2) 1000000 (T.length-s) _ (by omega) ⟨s,Nat.le_refl _,by omega,fun j j1 j2=>absurd j2 (by omega),rfl,rfl⟩
 exact⟨en,h1,h2,h3,h⟩
theorem a9A(T:List Int)(n:Nat)(h:Int)(hn:n<T.length)(j:Nat):En (T.set n h) j=if j=n then h else En T j:=by
 unfold En
 simp only[List.getD_eq_getElem?_getD]
 by_cases z:j=n
 ·subst z
  rw[List.getElem?_set_self hn,if_pos rfl]
  rfl
 ·rw[List.getElem?_set_ne (Ne.symm z),if_neg z]
theorem a9B{n x:Nat}{pre post:List Nat}(h:List.range n=pre++x::post):x=pre.length:=by
 have:(List.range n)[pre.length]? = (pre++x::post)[pre.length]?:=by rw[h]
 rw[List.getElem?_append_right (Nat.le_refl _),Nat.sub_self]at this
 have hl:=congrArg List.length h
 rw[List.length_range,List.length_append,List.length_cons]at hl
 rw[List.getElem?_range (by omega)]at this
 exact(Option.some.inj this).symm
theorem b4w(C E:D)(u:Int)(T:List Int)(Sp:List D)(s5 s8:Sl)(s en:Nat)(h:Int)(h1:s≤en)(h2:en≤T.length)(hT:T.length≤100)(o10:Option D):∃(T':List Int) (o:Option D),T'.length=T.length∧(∀j,En T' j=if s≤j∧j<en then h else En T j) ∧
  C8 Y3 (aC (eV 6) (aC (eV 7) aN)) (c7 10) skT (M6 C E u (iI T) Sp s5 (.fz (.int (s:Int))) (.fz (.int (en:Int))) s8 (.fz (.int h)) (un o10))=some (.nx (M6 C E u (iI T') Sp s5 (.fz (.int (s:Int))) (.fz (.int (en:Int))) s8 (.fz (.int h)) (un o))):=by
 have h0:(aC (eV 6) (aC (eV 7) aN)) (M6 C E u (iI T) Sp s5 (.fz (.int (s:Int))) (.fz (.int (en:Int))) s8 (.fz (.int h)) (un o10))=some (.ok [.int (s:Int),.int (en:Int)] (M6 C E u (iI T) Sp s5 (.fz (.int (s:Int))) (.fz (.int (en:Int))) s8 (.fz (.int h)) (un o10))):=rfl
 rw[X4 h0 (a6Z ⟨by omega,by omega,by omega,by omega⟩)]
 have e1:((en:Int)-(s:Int)).toNat=en-s:=by omega
 rw[e1]
 have e2:L8 (s:Int) (en-s)=(List.range (en-s)).map fun(k:Nat)=>D.int ((s+k:Nat):Int):=by
  unfold L8
  refine List.map_congr_left fun i _=>?_
  rw[Int.natCast_add]
 rw[e2]
 obtain⟨e',hf,T',o,hl,hv,rfl⟩:=K7 (b:=c7 10) (body:=skT) (fun(k:Nat)=>D.int ((s+k:Nat):Int)) (fun pre e=>∃(T':List Int) (o:Option D),T'.length=T.length∧(∀j,En T' j=if s≤j∧j<s+pre.length then h else En T j)∧e=M6 C E u (iI T') Sp s5 (.fz (.int (s:Int))) (.fz (.int (en:Int))) s8 (.fz (.int h)) (un o)) (List.range (en-s)) _ ⟨T,o10,rfl,fun j=>by rw[if_neg (by rw[List.length_nil];omega)],rfl⟩ (by
  rintro pre x post e hq ⟨T',o,hl,hv,rfl⟩
  have hx:x<en-s:=List.mem_range.mp (by rw[hq];simp)
  have hxp:=a9B hq
  have hb:c7 10 (.int ((s+x:Nat):Int)) (M6 C E u (iI T') Sp s5 (.fz (.int (s:Int))) (.fz (.int (en:Int))) s8 (.fz (.int h)) (un o))=some (M6 C E u (iI T') Sp s5 (.fz (.int (s:Int))) (.fz (.int (en:Int))) s8 (.fz (.int h)) (.fz (.int ((s+x:Nat):Int)))):=by cases o<;>rfl
  rw[hb,C3]
  have st:=b5N C E u (iI T') Sp s5 (.fz (.int (s:Int))) (.fz (.int (en:Int))) s8 h ((s+x:Nat):Int) (s+x) (by rw[List.length_map,hl];exact a6i (by omega))
  refine⟨_,(congrArg F9 st).trans rfl,T'.set (s+x) h,some (.int ((s+x:Nat):Int)),by rw[List.length_set];exact hl,fun j=>?_,?_⟩
  ·rw[a9A T' (s+x) h (by omega) j,hv j,List.length_append,List.length_singleton]
   by_cases z:j=s+x
   ·rw[if_pos z,if_pos (by omega)]
   ·rw[if_neg z]
    by_cases y:s≤j∧j<s+pre.length
    ·rw[if_pos y,if_pos (by omega)]
    ·rw[if_neg y,if_neg (by omega)]
  ·unfold iI
   rw[List.map_set]
   rfl)
 refine⟨T',o,hl,fun j=>?_,hf⟩
 rw[hv j,List.length_range,show s+(en-s)=en by omega]
theorem b0W(WL FL:SF)(GM GD:D→D→Option D)(C:D)(E T Sp:List D)(u x s c en l ea eb:Int)(o6 o7 o8 o9 o10:Option D)(h0:(0:Int)<(T.length:Int))(hs:x%(T.length:Int)=s)(hd:GD (.int x) (.int (T.length:Int))=some (.int c))
  (w:WL (M6 C (.lst E) u T Sp (.fz (.int c)) (.fz (.int s)) (.fz (.int s)) (un o8) (un o9) (un o10))=some (.nx (M6 C (.lst E) u T Sp (.fz (.int c)) (.fz (.int s)) (.fz (.int en)) (un o8) (un o9) (un o10))))
  (a1:atI T s=some (.int l)) (a2:atI E s=some (.int ea)) (a3:atI E en=some (.int eb)) (hT:en<(T.length:Int)→∃t,atI T en=some (.int t)) (hM:∀h:Int,GM (.int h) (.int u)=some (.int (h*u))) (hn:Sp.length<sizeLine) :
  ∃(hi:Int),l<hi∧skB WL FL GM GD (M6 C (.lst E) u T Sp (.fz (.int x)) (un o6) (un o7) (un o8) (un o9) (un o10))=FL (M6 C (.lst E) u T (Sp++[i9 (ea,l*u,eb,hi*u)]) (.fz (.int c)) (.fz (.int s)) (.fz (.int en)) (.fz (.int l)) (.fz (.int hi)) (un o10)):=by
 unfold skB
 unfold M6 at *
 by_cases z:en<(T.length:Int)
 ·obtain⟨t,ht⟩:=hT z
  clear hT
  by_cases y:c/12%2=0
  ·by_cases v:t > l
   ·refine⟨t,v,?_⟩
    walk_at "eh"
   ·refine⟨l+1+c/6%2,by omega,?_⟩
    walk_at "eh"
  ·refine⟨l+1+c/6%2,by omega,?_⟩
   walk_at "eh"
 ·clear hT
  refine⟨l+1+c/6%2,by omega,?_⟩
  by_cases y:c/12%2=0<;>walk_at "eh"
structure Wall(E:List Int)(u:Int)(T:List Int)(S:List R4):Prop where
 nn:∀c,c<T.length→0≤En T c
 cov:∀c,c<T.length→0<En T c→∀p,En E c≤p→p<En E (c+1)→∃t∈S,t.2.2.2=En T c*u∧t.1≤p∧p<t.2.2.1
 sup:Sup S
 pos:∀s∈S,s.1<s.2.2.1∧s.2.2.1-s.1≤2 ^ 20∧0≤s.2.1∧s.2.1<s.2.2.2
 top:∀c,c<T.length→∀t∈S,∀p,En E c≤p→p<En E (c+1)→t.1≤p→p<t.2.2.1→t.2.2.2≤En T c*u
 dis:S.Pairwise apX
theorem Wall.add{E:List Int}{u:Int}{T T':List Int}{S:List R4}(h:Wall E u T S)(hE:Edg E)(hu:0<u)(hTE:T.length+1=E.length)(hE2:E.length≤61)(hT':T'.length=T.length){s en:Nat}(hs:s<en)(he:en≤T.length)(al:∀j,s≤j→j<en→En T j=En T s){hi:Int}(hh:En T s<hi)(hv:∀j,En T' j=if s≤j∧j<en then hi else En T j):Wall E u T' (S++[(En E s,En T s*u,En E en,hi*u)]):=by
 have l0:=h.nn s (by omega)
 have m1:∀i j,i≤j→j<E.length→En E i≤En E j:=fun i j hij hj=>by
  have:=hE.mono (j-i) i (by omega)
  rw[show i+(j-i)=j by omega]at this
  exact this
 have up:En T s*u<hi*u:=Int.mul_lt_mul_of_pos_right hh hu
 refine⟨fun c hc=>?_,fun c hc c0 p p1 p2=>?_,fun r mr y0 p p1 p2=>?_,fun r mr=>?_,fun c hc t mt p p1 p2 p3 p4=>?_,List.pairwise_append.mpr ⟨h.dis,List.pairwise_singleton _ _,fun t mt r mr=>?_⟩⟩
 ·rw[hv c]
  split
  ·omega
  ·exact h.nn c (by omega)
 ·rw[hv c]at c0 ⊢
  by_cases z:s≤c∧c<en
  ·rw[if_pos z]at c0 ⊢
   refine⟨_,List.mem_append_right _ (List.mem_singleton.mpr rfl),rfl,?_,?_⟩
   ·show En E s≤p
    have:=m1 s c z.1 (by omega)
    omega
   ·show p<En E en
    have:=m1 (c+1) en (by omega) (by omega)
    omega
  ·rw[if_neg z]at c0 ⊢
   obtain⟨t,mt,t1,t2,t3⟩:=h.cov c (by omega) c0 p p1 p2
   exact⟨t,List.mem_append_left _ mt,t1,t2,t3⟩
 ·rcases List.mem_append.mp mr with mr | mr
  ·obtain⟨t,mt,t1,t2,t3⟩:=h.sup r mr y0 p p1 p2
   exact⟨t,List.mem_append_left _ mt,t1,t2,t3⟩
  ·have e:=List.mem_singleton.mp mr
   subst e
   dsimp only at y0 p1 p2 ⊢
   have l1:0<En T s:=by
    rcases Int.lt_or_eq_of_le l0 with z | z
    ·exact z
    ·rw[← z,Int.zero_mul]at y0
     exact absurd y0 (Int.lt_irrefl _)
   obtain⟨c,c1,c2,c3,c4⟩:=a27 (E:=E) s p (en-s) p1 (by rw[show s+(en-s)=en by omega];exact p2)
   have ec:=al c c1 (by omega)
   obtain⟨t,mt,t1,t2,t3⟩:=h.cov c (by omega) (by omega) p c3 c4
   rw[ec]at t1
   exact⟨t,List.mem_append_left _ mt,t1,t2,t3⟩
 ·rcases List.mem_append.mp mr with mr | mr
  ·exact h.pos r mr
  ·have e:=List.mem_singleton.mp mr
   subst e
   dsimp only
   have i1:=hE.inc s (by omega)
   have i2:=m1 (s+1) en (by omega) (by omega)
   have b1:=hE.lo s (by omega)
   have b2:=hE.lo en (by omega)
   refine⟨by omega,by omega,Int.mul_nonneg l0 (by omega),up⟩
 ·rw[hv c]
  by_cases z:s≤c∧c<en
  ·rw[if_pos z]
   rcases List.mem_append.mp mt with mt | mt
   ·have:=h.top c (by omega) t mt p p1 p2 p3 p4
    rw[al c z.1 z.2]at this
    omega
   ·rw[List.mem_singleton.mp mt]
    exact Int.le_refl _
  ·rw[if_neg z]
   rcases List.mem_append.mp mt with mt | mt
   ·exact h.top c (by omega) t mt p p1 p2 p3 p4
   ·have e:=List.mem_singleton.mp mt
    subst e
    dsimp only at p3 p4
    exfalso
    rcases Nat.lt_or_ge c s with y | y
    ·have:=m1 (c+1) s (by omega) (by omega)
     omega
    ·have:=m1 en c (by omega) (by omega)
     omega
 ·rw[List.mem_singleton.mp mr]
  intro e
  dsimp only at e ⊢
  rcases Decidable.em (En E s<t.2.2.1)with a | a
  ·rcases Decidable.em (t.1<En E en)with b | b
   ·exfalso
    obtain⟨q1,_,_⟩:=h.pos t mt
    have i1:=hE.inc s (by omega)
    have i2:=m1 (s+1) en (by omega) (by omega)
    obtain⟨p,p1,p2,p3,p4⟩:∃p,En E s≤p∧p<En E en∧t.1≤p∧p<t.2.2.1:=by
     rcases Int.le_total (En E s) t.1 with y | y
     ·exact⟨t.1,y,b,Int.le_refl _,q1⟩
     ·exact⟨En E s,Int.le_refl _,by omega,y,a⟩
    obtain⟨c,c1,c2,c3,c4⟩:=a27 (E:=E) s p (en-s) p1 (by rw[show s+(en-s)=en by omega];exact p2)
    have:=h.top c (by omega) t mt p c3 c4 p3 p4
    rw[al c c1 (by omega),e]at this
    omega
   ·exact .inr (by omega)
  ·exact .inl (by omega)
theorem a9C(cells E:List Int)(u:Int)(hc:cells.length≤100)(hE:3≤E.length)(hE2:E.length≤11)(hE3:Edg E)(hu:0<u)(hu2:u.natAbs<2 ^ 64):∃S:List R4,S.length=cells.length∧Sup S∧(∀s∈S,s.1<s.2.2.1∧s.2.2.1-s.1≤2 ^ 20∧0≤s.2.1∧s.2.1<s.2.2.2)∧S.Pairwise apX∧O8 [.lst (iI cells),.lst (iI E),.int u]=some (.own (S.map i9)):=by
 have hz:((E.drop 1).map fun _=>(0:Int)).length=E.length-1:=by rw[List.length_map,List.length_drop]
 have z0:∀c,En ((E.drop 1).map fun _=>(0:Int)) c=0:=fun c=>by
  unfold En
  rw[List.getD_eq_getElem?_getD,List.getElem?_map]
  cases (E.drop 1)[c]? <;>rfl
 obtain⟨e',h,T,S,o5,o6,o7,o8,o9,o10,hT,hS,hW,rfl⟩:=K7 (b:=c7 5) (body:=skB (v8 wlC wlB 1000000) (C8 Y3 (aC (eV 6) (aC (eV 7) aN)) (c7 10) skT) t8 r9) D.int (fun pre e=>∃(T:List Int) (S:List R4) (o5 o6 o7 o8 o9 o10:Option D),T.length=E.length-1∧S.length=pre.length∧Wall E u T S∧e=M6 (.lst (iI cells)) (.lst (iI E)) u (iI T) (S.map i9) (un o5) (un o6) (un o7) (un o8) (un o9) (un o10)) cells (M6 (.lst (iI cells)) (.lst (iI E)) u (iI ((E.drop 1).map fun _=>0)) [] .no .no .no .no .no .no)
  ⟨_,[],none,none,none,none,none,none,hz,rfl,⟨fun c _=>by rw[z0];exact Int.le_refl _,fun c _ hp=>by rw[z0]at hp;exact absurd hp (Int.lt_irrefl _),fun s m=>(by cases m),fun s m=>(by cases m),fun c _ t m=>(by cases m),List.Pairwise.nil⟩,rfl⟩ (by
  rintro pre x post e hq ⟨T,S,o5,o6,o7,o8,o9,o10,hT,hS,hW,rfl⟩
  have hp:pre.length<100:=by have:=congrArg List.length hq;rw[List.length_append,List.length_cons]at this;omega
  have hb:c7 5 (.int x) (M6 (.lst (iI cells)) (.lst (iI E)) u (iI T) (S.map i9) (un o5) (un o6) (un o7) (un o8) (un o9) (un o10))=some (M6 (.lst (iI cells)) (.lst (iI E)) u (iI T) (S.map i9) (.fz (.int x)) (un o6) (un o7) (un o8) (un o9) (un o10)):=by cases o5<;>rfl
  rw[hb,C3]
  have lT:(iI T).length=T.length:=List.length_map ..
  have p0:(0:Int)<(T.length:Int):=by omega
  have e1:=Int.emod_nonneg x (show(T.length:Int)≠0 by omega)
  have e2:=Int.emod_lt_of_pos x p0
  obtain⟨s,hs⟩:∃s:Nat,x%(T.length:Int)=(s:Int):=⟨(x%(T.length:Int)).toNat,by omega⟩
  have hsT:s<T.length:=by omega
  obtain⟨en,w1,w2,w3,w⟩:=b4v (.lst (iI cells)) (.lst (iI E)) u T (S.map i9) (x/(T.length:Int)) s hsT (by omega) (un o8) (un o9) (un o10)
  have aI:∀(l:List Int) (j:Nat),j<l.length→atI (iI l) (j:Int)=some (.int (En l j)):=fun l j h=>a0b (by
   unfold En
   rw[List.getElem?_map,List.getD_eq_getElem?_getD,List.getElem?_eq_getElem h]
   rfl)
  have hd:r9 (.int x) (.int ((iI T).length:Int))=some (.int (x/(T.length:Int))):=by
   rw[lT]
   refine a0P ⟨p0,?_⟩
   rw[Int.natAbs_natCast]
   have h1:T.length.log2≤T.length:=Nat.log2_le_self _
   omega
  obtain⟨hi,hh,st⟩:=b0W (v8 wlC wlB 1000000) (C8 Y3 (aC (eV 6) (aC (eV 7) aN)) (c7 10) skT) t8 r9 (.lst (iI cells)) (iI E) (iI T) (S.map i9) u x s _ en _ _ _ o6 o7 o8 o9 o10 (by rw[lT];exact p0) (by rw[lT];exact hs) hd w (aI T s hsT) (aI E s (by omega)) (aI E en (by omega)) (fun z=>by rw[lT]at z;exact⟨_,aI T en (by omega)⟩) (fun h=>a3y hu2) (by rw[List.length_map];show _<2 ^ 24;omega)
  obtain⟨T',o,hT',hv,fl⟩:=b4w (.lst (iI cells)) (.lst (iI E)) u T (S.map i9++[i9 (En E s,En T s*u,En E en,hi*u)]) (.fz (.int (x/(T.length:Int)))) (.fz (.int (En T s))) s en hi (by omega) w2 (by omega) o10
  refine⟨_,(congrArg F9 (st.trans fl)).trans rfl,T',S++[(En E s,En T s*u,En E en,hi*u)],some (.int (x/(T.length:Int))),some (.int (s:Int)),some (.int (en:Int)),some (.int (En T s)),some (.int hi),o,by omega,by simp[hS],hW.add hE3 hu (by omega) (by omega) hT' w1 w2 w3 hh hv,?_⟩
  rw[List.map_append]
  rfl)
 refine⟨S,hS,hW.sup,hW.pos,hW.dis,b5P _ _ (.lst (iI cells)) (.lst (iI E)) (.int u) _ _ (iI T) (un o5) (un o6) (un o7) (un o8) (un o9) (un o10) (b5O E (by omega) (by omega) _ _ .no .no .no .no .no .no .no .no) ?_⟩
 exact h
abbrev Z2(C:D)(T Sp W:List D)(s4 s5 s6 s7 s8:Sl):DE:=[.fz C,.ow T,.ow Sp,.ow W,s4,s5,s6,s7,s8]
abbrev plT:SF:=(U9 1 (eV 8) (eV 7))
theorem b5Q(C:D)(T Sp W:List D)(s4 s5 s6:Sl)(h k:Int)(n:Nat)(hn:V2 T.length k=some n):plT (Z2 C T Sp W s4 s5 s6 (.fz (.int h)) (.fz (.int k)))=some (.nx (Z2 C (T.set n (.int h)) Sp W s4 s5 s6 (.fz (.int h)) (.fz (.int k)))):=by
 unfold plT
 walk_at "eh"
theorem b40(C:D)(T:List Int)(Sp W:List D)(s4:Sl)(s en:Nat)(h:Int)(h1:s≤en)(h2:en≤T.length)(hT:T.length≤100)(o8:Option D):∃(T':List Int) (o:Option D),T'.length=T.length∧(∀j,En T' j=if s≤j∧j<en then h else En T j) ∧
  C8 Y3 (aC (eV 5) (aC (eV 6) aN)) (c7 8) plT (Z2 C (iI T) Sp W s4 (.fz (.int (s:Int))) (.fz (.int (en:Int))) (.fz (.int h)) (un o8))=some (.nx (Z2 C (iI T') Sp W s4 (.fz (.int (s:Int))) (.fz (.int (en:Int))) (.fz (.int h)) (un o))):=by
 have h0:(aC (eV 5) (aC (eV 6) aN)) (Z2 C (iI T) Sp W s4 (.fz (.int (s:Int))) (.fz (.int (en:Int))) (.fz (.int h)) (un o8))=some (.ok [.int (s:Int),.int (en:Int)] (Z2 C (iI T) Sp W s4 (.fz (.int (s:Int))) (.fz (.int (en:Int))) (.fz (.int h)) (un o8))):=rfl
 rw[X4 h0 (a6Z ⟨by omega,by omega,by omega,by omega⟩)]
 have e1:((en:Int)-(s:Int)).toNat=en-s:=by omega
 rw[e1]
 have e2:L8 (s:Int) (en-s)=(List.range (en-s)).map fun(k:Nat)=>D.int ((s+k:Nat):Int):=by
  unfold L8
  refine List.map_congr_left fun i _=>?_
  rw[Int.natCast_add]
 rw[e2]
 obtain⟨e',hf,T',o,hl,hv,rfl⟩:=K7 (b:=c7 8) (body:=plT) (fun(k:Nat)=>D.int ((s+k:Nat):Int)) (fun pre e=>∃(T':List Int) (o:Option D),T'.length=T.length∧(∀j,En T' j=if s≤j∧j<s+pre.length then h else En T j)∧e=Z2 C (iI T') Sp W s4 (.fz (.int (s:Int))) (.fz (.int (en:Int))) (.fz (.int h)) (un o)) (List.range (en-s)) _ ⟨T,o8,rfl,fun j=>by rw[if_neg (by rw[List.length_nil];omega)],rfl⟩ (by
  rintro pre x post e hq ⟨T',o,hl,hv,rfl⟩
  have hx:x<en-s:=List.mem_range.mp (by rw[hq];simp)
  have hxp:=a9B hq
  have hb:c7 8 (.int ((s+x:Nat):Int)) (Z2 C (iI T') Sp W s4 (.fz (.int (s:Int))) (.fz (.int (en:Int))) (.fz (.int h)) (un o))=some (Z2 C (iI T') Sp W s4 (.fz (.int (s:Int))) (.fz (.int (en:Int))) (.fz (.int h)) (.fz (.int ((s+x:Nat):Int)))):=by cases o<;>rfl
  rw[hb,C3]
  have st:=b5Q C (iI T') Sp W s4 (.fz (.int (s:Int))) (.fz (.int (en:Int))) h ((s+x:Nat):Int) (s+x) (by rw[List.length_map,hl];exact a6i (by omega))
  refine⟨_,(congrArg F9 st).trans rfl,T'.set (s+x) h,some (.int ((s+x:Nat):Int)),by rw[List.length_set];exact hl,fun j=>?_,?_⟩
  ·rw[a9A T' (s+x) h (by omega) j,hv j,List.length_append,List.length_singleton]
   by_cases z:j=s+x
   ·rw[if_pos z,if_pos (by omega)]
   ·rw[if_neg z]
    by_cases y:s≤j∧j<s+pre.length
    ·rw[if_pos y,if_pos (by omega)]
    ·rw[if_neg y,if_neg (by omega)]
  ·unfold iI
   rw[List.map_set]
   rfl)
 refine⟨T',o,hl,fun j=>?_,hf⟩
 rw[hv j,List.length_range,show s+(en-s)=en by omega]
abbrev plB(GE:Bool→D→D→Option D)(GR:D→D→Option (List D))(GP GD:D→D→Option D)(FL:SF):SF:=(c6 (j7 5 (eB l5 (eV 4) (eC (.int 60)))) (c6 (j7 4 (eB r9 (eV 4) (eC (.int 60)))) (c6 (j7 6 (eB u5 (eB u5 (eV 5) (eC (.int 1))) (eB l5 (eV 4) (eB w6 (eC (.int 60)) (eV 5))))) (c6 (j7 4 (eB GD (eV 4) (eB w6 (eC (.int 60)) (eV 5)))) (c6 (j7 7 (eB u5 (eB u5 (m7 j6 1 (eV 5)) (eC (.int 1))) (eB l5 (eV 4) (eC (.int 1000))))) (c6 (j7 4 (eB r9 (eV 4) (eC (.int 1000)))) (A4 (bZ (eB (GE false) (zN (T3 1 (oS (eV 5)) (oS (eV 6)))) (zN (nB GR (zN (eL (aC (m7 j6 1 (eV 5)) aN))) (eB w6 (eV 6) (eV 5)))))) (c6 (K0 2 (eT (aC (eV 5) (aC (m7 j6 1 (eV 5)) (aC (eV 6) (aC (eV 7) aN)))))) (c6 (K0 3 (eB l5 (eV 4) (eB u5 (eB GP (eC (.int 10)) (eC (.int 40))) (eC (.int 1))))) FL)) B9)))))))
theorem b5R(GE:Bool→D→D→Option D)(GR:D→D→Option (List D))(GP GD:D→D→Option D)(FL:SF)(C:D)(T Sp W X Y:List D)(x s c1 r en c2 r2 ts hi c3 v w:Int)(o5 o6 o7 o8:Option D)(R:Option RS)(h1:x%60=s)(h2:x/60=c1)(h3:c1%(60-s)=r)(hp:0<60-s)(h4:s+1+r=en)(h5:GD (.int c1) (.int (60-s))=some (.int c2))(h6:atI T s=some (.int ts))(h7:c2%1000=r2)(h8:ts+1+r2=hi)(h9:c2/1000=c3)(hx:cutD T (some s) (some en)=X)(hy:GR (.lst [.int ts]) (.int (en-s))=some Y)(hg:GE false (.lst X) (.lst Y)=some (.bl true))(gv:GP (.int 10) (.int 40)=some (.int v))(v0:0<v+1)(hw:c3%(v+1)=w)(l1:Sp.length<sizeLine)(l2:W.length<sizeLine)
  (hf:FL (Z2 C T (Sp++[.tup [.int s,.int ts,.int en,.int hi]]) (W++[.int w]) (.fz (.int c3)) (.fz (.int s)) (.fz (.int en)) (.fz (.int hi)) (un o8))=R) :
  plB GE GR GP GD FL (Z2 C T Sp W (.fz (.int x)) (un o5) (un o6) (un o7) (un o8))=R:=by
 subst hf
 unfold plB
 cases o5<;>cases o6<;>cases o7<;>simp only[un]<;>walk_at "eh"
theorem b5S(GE:Bool→D→D→Option D)(GR:D→D→Option (List D))(GP GD:D→D→Option D)(FL:SF)(C:D)(T Sp W X Y:List D)(x s c1 r en c2 r2 ts hi c3:Int)(o5 o6 o7 o8:Option D)(h1:x%60=s)(h2:x/60=c1)(h3:c1%(60-s)=r)(hp:0<60-s)(h4:s+1+r=en)(h5:GD (.int c1) (.int (60-s))=some (.int c2))(h6:atI T s=some (.int ts))(h7:c2%1000=r2)(h8:ts+1+r2=hi)(h9:c2/1000=c3)(hx:cutD T (some s) (some en)=X)(hy:GR (.lst [.int ts]) (.int (en-s))=some Y)(hg:GE false (.lst X) (.lst Y)=some (.bl false)) :
  plB GE GR GP GD FL (Z2 C T Sp W (.fz (.int x)) (un o5) (un o6) (un o7) (un o8))=some (.nx (Z2 C T Sp W (.fz (.int c3)) (.fz (.int s)) (.fz (.int en)) (.fz (.int hi)) (un o8))):=by
 unfold plB
 cases o5<;>cases o6<;>cases o7<;>simp only[un]<;>walk_at "eh"
theorem b5T(NC:NF)(LP:SF)(C:D)(T0 T Sp W:List D)(s4 s5 s6 s7 s8:Sl)(hn:NC [.fz C,.no,.no,.no,.no,.no,.no,.no,.no]=some (.ok T0 [.fz C,.no,.no,.no,.no,.no,.no,.no,.no]))(hl:LP (Z2 C T0 [] [] .no .no .no .no .no)=some (.nx (Z2 C T Sp W s4 s5 s6 s7 s8))):fD 9 1 (c6 (u9 1 NC) (c6 (u9 2 (eL aN)) (c6 (u9 3 (eL aN)) (c6 LP (t9 (eT (aC (eV 2) (aC (eV 3) aN)))))))) [C]=some (.ret (.tup [.lst Sp,.lst W])):=by
 walk_at "eh"
theorem z60(C:D):(a3w P4 1 [] (aC (eC (.int 60)) aN) (c7 0) D7 (eC (.int 0))) [.fz C,.no,.no,.no,.no,.no,.no,.no,.no]=some (.ok (iI (List.replicate 60 0)) [.fz C,.no,.no,.no,.no,.no,.no,.no,.no]):=by
 rfl
theorem a6j:∀(l m:List Int),K1 (iI l) (iI m)=true→l=m
 | [],[],_=>rfl
 | [],_::_,h=>by simp[iI,K1]at h
 | _::_,[],h=>by simp[iI,K1]at h
 | a::l,b::m,h=>by
  simp only[iI,List.map_cons,K1,Bool.and_eq_true]at h
  have h1:a=b:=by have:=h.1;simp[A5,eqD]at this;exact this
  rw[h1,a6j l m h.2]
theorem a9D(l m:List Int):∃b,I0 false (.lst (iI l)) (.lst (iI m))=some (.bl b)∧(b=true→l=m):=by
 refine⟨K1 (iI l) (iI m),?_,a6j l m⟩
 unfold I0
 have p:∀l:List Int,j5 (.lst (iI l))=true:=fun l=>by
  show C5 (l.map D.int)=true
  exact V5 fun a _=>rfl
 have q:G9 (.lst (iI l))≤40:=by
  have:=a2b (f:=D.int) (l:=l) (n:=1) (fun a _=>by simp[G9])
  simp only[G9]
  show G3 (l.map D.int)+1≤40
  omega
 rw[if_pos (by simp[p,q,Y5])]
 simp[A5]
abbrev eI:List Int:=(List.range 61).map fun(i:Nat)=>(i:Int)
theorem a3P{i:Nat}(h:i<61):En eI i=(i:Int):=by
 unfold En eI
 rw[List.getD_eq_getElem?_getD,List.getElem?_map,List.getElem?_range h]
 rfl
theorem a3Q:eI.length=61:=by unfold eI;rw[List.length_map,List.length_range]
theorem b4x:Edg eI:=by
 refine⟨fun i hi=>?_,fun i hi=>?_⟩
 ·rw[a3Q]at hi
  rw[a3P (by omega),a3P hi]
  omega
 ·rw[a3Q]at hi
  rw[a3P hi]
  omega
theorem b41{T:List Int}{s en:Nat}{ts:Int}(h:(T.drop s).take (en-s)=List.replicate (en-s) ts)(j:Nat)(h1:s≤j)(h2:j<en):En T j=ts:=by
 have e:((T.drop s).take (en-s))[j-s]? = (List.replicate (en-s) ts)[j-s]?:=by rw[h]
 rw[List.getElem?_take_of_lt (by omega),List.getElem?_drop,List.getElem?_replicate,if_pos (by omega),show s+(j-s)=j by omega]at e
 unfold En
 rw[List.getD_eq_getElem?_getD,e]
 rfl
theorem b0X(cells:List Int)(hc:cells.length≤60):∃(S:List R4) (ws:List Nat),S.length≤60∧ws.length=S.length∧(∀w∈ws,w≤2 ^ 134)∧Sup S∧(∀s∈S,s.1<s.2.2.1∧s.2.2.1-s.1≤2 ^ 20∧0≤s.2.1∧s.2.1<s.2.2.2)∧S.Pairwise apX∧X2 [.lst (iI cells)]=some (.ret (.tup [.lst (S.map i9),.lst (iN ws)])):=by
 obtain⟨v,g3,hv,hv2⟩:∃v:Int,S1 (.int 10) (.int 40)=some (.int v)∧0<v∧v≤2 ^ 134:=⟨_,a1s (by decide +kernel),by decide,by decide⟩
 have z0:∀c,En (List.replicate 60 (0:Int)) c=0:=fun c=>by
  unfold En
  rw[List.getD_eq_getElem?_getD,List.getElem?_replicate]
  split<;>rfl
 obtain⟨e',h,T,S,ws,o4,o5,o6,o7,o8,hT,hS,hws,hw2,hW,rfl⟩:=K7 (b:=c7 4) (body:=plB I0 a0u S1 r9 (C8 Y3 (aC (eV 5) (aC (eV 6) aN)) (c7 8) plT)) D.int (fun pre e=>∃(T:List Int) (S:List R4) (ws:List Nat) (o4 o5 o6 o7 o8:Option D),T.length=60∧S.length≤pre.length∧ws.length=S.length∧(∀w∈ws,w≤2 ^ 134)∧Wall eI 1 T S∧e=Z2 (.lst (iI cells)) (iI T) (S.map i9) (iN ws) (un o4) (un o5) (un o6) (un o7) (un o8)) cells (Z2 (.lst (iI cells)) (iI (List.replicate 60 0)) [] [] .no .no .no .no .no)
  ⟨List.replicate 60 0,[],[],none,none,none,none,none,List.length_replicate,Nat.le_refl _,rfl,fun _ m=>(by cases m),⟨fun c _=>by rw[z0];exact Int.le_refl _,fun c _ hp=>by rw[z0]at hp;exact absurd hp (Int.lt_irrefl _),fun s m=>(by cases m),fun s m=>(by cases m),fun c _ t m=>(by cases m),List.Pairwise.nil⟩,rfl⟩ (by
  rintro pre x post e hq ⟨T,S,ws,o4,o5,o6,o7,o8,hT,hS,hws,hw2,hW,rfl⟩
  have hp:pre.length<60:=by have:=congrArg List.length hq;rw[List.length_append,List.length_cons]at this;omega
  have hb:c7 4 (.int x) (Z2 (.lst (iI cells)) (iI T) (S.map i9) (iN ws) (un o4) (un o5) (un o6) (un o7) (un o8))=some (Z2 (.lst (iI cells)) (iI T) (S.map i9) (iN ws) (.fz (.int x)) (un o5) (un o6) (un o7) (un o8)):=by cases o4<;>rfl
  rw[hb,C3]
  obtain⟨s,hs⟩:∃s:Nat,x%60=(s:Int):=⟨(x%60).toNat,by omega⟩
  have s60:s<60:=by omega
  have r0:=Int.emod_nonneg (x/60) (show(60-(s:Int))≠0 by omega)
  have r1:=Int.emod_lt_of_pos (x/60) (show 0<60-(s:Int) by omega)
  obtain⟨en,hen⟩:∃en:Nat,(s:Int)+1+x/60%(60-(s:Int))=(en:Int):=⟨((s:Int)+1+x/60%(60-(s:Int))).toNat,by omega⟩
  have en1:s<en:=by omega
  have en2:en≤60:=by omega
  have hd:r9 (.int (x/60)) (.int (60-(s:Int)))=some (.int (x/60/(60-(s:Int)))):=a0P ⟨by omega,by
   have h1:(60-(s:Int)).natAbs.log2≤(60-(s:Int)).natAbs:=Nat.log2_le_self _
   omega⟩
  generalize x/60/(60-(s:Int))=c2 at hd
  have at_s:atI (iI T) (s:Int)=some (.int (En T s)):=a0b (by
   unfold En
   rw[List.getElem?_map,List.getD_eq_getElem?_getD,List.getElem?_eq_getElem (by omega)]
   rfl)
  have hx:cutD (iI T) (some (s:Int)) (some (en:Int))=iI ((T.drop s).take (en-s)):=by
   rw[a65 (by omega) (by omega),show((en:Int)-(s:Int)).toNat=en-s by omega,Int.toNat_natCast]
   unfold iI
   rw[List.map_take,List.map_drop]
  have hy:a0u (.lst [.int (En T s)]) (.int ((en:Int)-(s:Int)))=some (iI (List.replicate (en-s) (En T s))):=by
   rw[show((en:Int)-(s:Int))=((en-s:Nat):Int) by omega,a9p _ _ (by omega)]
   unfold iI
   rw[List.map_replicate]
  obtain⟨b,hg,hgt⟩:=a9D ((T.drop s).take (en-s)) (List.replicate (en-s) (En T s))
  cases b with
  | false =>
   have st:=b5S I0 a0u S1 r9 (C8 Y3 (aC (eV 5) (aC (eV 6) aN)) (c7 8) plT) (.lst (iI cells)) (iI T) (S.map i9) (iN ws) _ _ x (s:Int) _ _ (en:Int) c2 _ (En T s) _ _ o5 o6 o7 o8 hs rfl rfl (by omega) hen hd at_s rfl rfl rfl hx hy hg
   exact⟨_,(congrArg F9 st).trans rfl,T,S,ws,some (.int (c2/1000)),some (.int (s:Int)),some (.int (en:Int)),some (.int (En T s+1+c2%1000)),o8,hT,by rw[List.length_append];omega,hws,hw2,hW,rfl⟩
  | true =>
   have al:=b41 (hgt rfl)
   obtain⟨w,hw⟩:∃w:Nat,c2/1000%(v+1)=(w:Int):=⟨(c2/1000%(v+1)).toNat,by
    have:=Int.emod_nonneg (c2/1000) (show v+1≠0 by omega)
    omega⟩
   have w2:w≤2 ^ 134:=by
    have:=Int.emod_lt_of_pos (c2/1000) (show 0<v+1 by omega)
    have h3:(w:Int)≤2 ^ 134:=by omega
    omega
   obtain⟨T',o,hT',hvv,fl⟩:=b40 (.lst (iI cells)) T (S.map i9++[.tup [.int (s:Int),.int (En T s),.int (en:Int),.int (En T s+1+c2%1000)]]) (iN ws++[.int (w:Int)]) (.fz (.int (c2/1000))) s en (En T s+1+c2%1000) (by omega) (by omega) (by omega) o8
   have st:=b5R I0 a0u S1 r9 (C8 Y3 (aC (eV 5) (aC (eV 6) aN)) (c7 8) plT) (.lst (iI cells)) (iI T) (S.map i9) (iN ws) _ _ x (s:Int) _ _ (en:Int) c2 _ (En T s) _ _ v (w:Int) o5 o6 o7 o8 _ hs rfl rfl (by omega) hen hd at_s rfl rfl rfl hx hy hg g3 (by omega) hw (by rw[List.length_map];show _<2 ^ 24;omega) (by rw[List.length_map];show _<2 ^ 24;omega) fl
   have W':=hW.add b4x (by decide) (by rw[a3Q];omega) (by rw[a3Q];decide) hT' en1 (by omega) (fun j a b=>al j a b) (hi:=En T s+1+c2%1000) (by omega) hvv
   rw[a3P (by omega),a3P (by omega),Int.mul_one,Int.mul_one]at W'
   refine⟨_,(congrArg F9 st).trans rfl,T',S++[((s:Int),En T s,(en:Int),En T s+1+c2%1000)],ws++[w],some (.int (c2/1000)),some (.int (s:Int)),some (.int (en:Int)),some (.int (En T s+1+c2%1000)),o,by omega,by rw[List.length_append,List.length_append,List.length_singleton,List.length_singleton];omega,by rw[List.length_append,List.length_append,hws];rfl,fun y m=>?_,W',?_⟩
   ·rcases List.mem_append.mp m with m | m
    ·exact hw2 y m
    ·rw[List.mem_singleton.mp m];exact w2
   ·unfold iN
    rw[List.map_append,List.map_append]
    rfl)
 exact⟨S,ws,by omega,hws,hw2,hW.sup,hW.pos,hW.dis,b5T _ (a09 0 (c7 4) (plB I0 a0u S1 r9 (C8 Y3 (aC (eV 5) (aC (eV 6) aN)) (c7 8) plT))) (.lst (iI cells)) _ _ _ _ _ _ _ _ _ (z60 _) h⟩
abbrev odC:BF:=(bZ (eB gGt (y8 r8 2) (eC (.int 0))))
abbrev odB(ZP:ZF)(GD:D→D→Option D):SF:=(c6 (K0 3 ZP) (j7 1 (eB GD (eV 1) (eB u5 (y8 r8 2) (eC (.int 1))))))
abbrev Z4(R:D)(c:Int)(l fnd:List D):DE:=[.fz R,.fz (.int c),.ow l,.ow fnd]
theorem b5U(R:D)(c:Int)(l fnd:List D)(h:0<(l.length:Int)):odC (Z4 R c l fnd)=some (.ok true (Z4 R c l fnd)):=by
 unfold odC
 walk_at "eh"
 try rfl
theorem b5V(R:D)(c:Int)(fnd:List D):odC (Z4 R c [] fnd)=some (.ok false (Z4 R c [] fnd)):=by
 rfl
theorem b5W(R:D)(c:Int)(l fnd:List D)(n:Nat)(x:D)(h0:0<(l.length:Int))(hn:c%(l.length:Int)=(n:Int))(hl:n<l.length)(h6:l.length≤1000000)(hx:l[n]? = some x):(a0q 2 (eB l5 (eV 1) (y8 r8 2))) (Z4 R c l fnd)=some (.ok x (Z4 R c (l.eraseIdx n) fnd)):=by
 have e:(eB l5 (eV 1) (y8 r8 2)) (Z4 R c l fnd)=some (.ok (.int (n:Int)) (Z4 R c l fnd)):=by
  walk_at "eh"
 unfold a0q
 rw[e]
 show(if 0≤(n:Int)∧(n:Int)<l.length∧l.length≤1000000 then(match l[(n:Int).toNat]? with
   | some d=>some (L2.R.ok d ((Z4 R c l fnd).set 2 (.ow (l.eraseIdx (n:Int).toNat))))
   | none=>none)else none)=_
 rw[if_pos ⟨by omega,by omega,h6⟩,Int.toNat_natCast,hx]
 rfl
theorem b5X(ZP:ZF)(GD:D→D→Option D)(R:D)(c c2:Int)(l l2 fnd:List D)(x:D)(hz:ZP (Z4 R c l fnd)=some (.ok x (Z4 R c l2 fnd)))(hl:fnd.length<sizeLine)(hd:GD (.int c) (.int ((l2.length:Int)+1))=some (.int c2)):odB ZP GD (Z4 R c l fnd)=some (.nx (Z4 R c2 l2 (fnd++[x]))):=by
 unfold odB
 walk_at "eh"
theorem b5Y(WL:SF)(GL:D→Option (List D))(R l fnd:List D)(c c2:Int)(hg:GL (.lst R)=some R)(hl:WL (Z4 (.lst R) c R [])=some (.nx (Z4 (.lst R) c2 l fnd))):fD 4 2 (c6 (u9 2 (nCV GL 0)) (c6 (u9 3 (eL aN)) (c6 WL (P3 3)))) [.lst R,.int c]=some (.own fnd):=by
 walk_at "eh"
theorem b0Y(R:List D)(c:Int)(hl:R.length≤60):∃R':List D,R'.Perm R∧X3 [.lst R,.int c]=some (.own R'):=by
 obtain⟨e',h,c2,fnd,hp,rfl⟩:=a2i (c:=odC) (body:=odB (a0q 2 (eB l5 (eV 1) (y8 r8 2))) r9) (fun m e=>∃(c:Int) (l fnd:List D),l.length=m∧(l++fnd).Perm R∧e=Z4 (.lst R) c l fnd) (fun e=>∃(c2:Int) (fnd:List D),fnd.Perm R∧e=Z4 (.lst R) c2 [] fnd) (by
  rintro m e ⟨c,l,fnd,rfl,hp,rfl⟩
  have hlen:=hp.length_eq
  rw[List.length_append]at hlen
  cases l with
  | nil=>exact .inr ⟨_,b5V _ _ _,c,fnd,hp,rfl⟩
  | cons a t =>
   generalize hL:a::t=l at *
   have l0:0<l.length:=by rw[← hL,List.length_cons];omega
   have r0:=Int.emod_nonneg c (show(l.length:Int)≠0 by omega)
   have r1:=Int.emod_lt_of_pos c (show 0<(l.length:Int) by omega)
   obtain⟨n,hn⟩:∃n:Nat,c%(l.length:Int)=(n:Int):=⟨(c%(l.length:Int)).toNat,by omega⟩
   have nl:n<l.length:=by omega
   have el:(l.eraseIdx n).length=l.length-1:=by rw[List.length_eraseIdx,if_pos nl]
   have st:=b5X (a0q 2 (eB l5 (eV 1) (y8 r8 2))) r9 (.lst R) c (c/(((l.eraseIdx n).length:Int)+1)) l (l.eraseIdx n) fnd l[n] (b5W (.lst R) c l fnd n _ (by omega) hn nl (by omega) (List.getElem?_eq_getElem nl)) (by show _<2 ^ 24;omega) (a0P ⟨by omega,by
    have h1:(((l.eraseIdx n).length:Int)+1).natAbs.log2≤(((l.eraseIdx n).length:Int)+1).natAbs:=Nat.log2_le_self _
    omega⟩)
   refine .inl ⟨_,_,b5U _ _ _ _ (by omega),(congrArg F9 st).trans rfl,l.length-1,by omega,_,_,_,el,?_,rfl⟩
   have p1:(l[n]::l.eraseIdx n).Perm l:=by
    rw[List.eraseIdx_eq_take_drop_succ]
    refine List.perm_middle.symm.trans ?_
    rw[← List.drop_eq_getElem_cons nl,List.take_append_drop]
   have p2:(l.eraseIdx n++(fnd++[l[n]])).Perm (l[n]::l.eraseIdx n++fnd):=by
    rw[← List.append_assoc]
    exact List.perm_append_singleton _ _
   exact(p2.trans (p1.append_right fnd)).trans hp) 1000000 R.length (Z4 (.lst R) c R []) (by omega) ⟨c,R,[],rfl,by rw[List.append_nil],rfl⟩
 exact⟨fnd,hp,b5Y (v8 odC (odB (a0q 2 (eB l5 (eV 1) (y8 r8 2))) r9) 1000000) P0 R [] fnd c c2 rfl h⟩
abbrev apB:SF:=(c6 (V0 (m7 j6 2 (eV 5)) (x9 [(c7 6),(c7 7),(c7 8),(c7 9)])) (c6 (A4 (bZ (eB (B8 false) (eB l5 (eV 1) (eC (.int 3))) (eC (.int 0)))) (K0 4 (eT (aC (eT (aC (eB w6 (eV 9) (eV 7)) (aC (eB w6 (eV 8) (eV 6)) (aC (eC (.bl true)) aN)))) (aC (eT (aC (eV 6) (aC (eV 7) (aC (eC (.bl true)) aN)))) (aC (m7 j6 2 (eV 5)) (aC (m7 j6 3 (eV 5)) aN)))))) (K0 4 (eT (aC (eT (aC (eB w6 (eV 8) (eV 6)) (aC (eB w6 (eV 9) (eV 7)) (aC (eB (B8 false) (eB l5 (eV 1) (eC (.int 3))) (eC (.int 1))) aN)))) (aC (eT (aC (eV 6) (aC (eV 7) (aC (eC (.bl false)) aN)))) (aC (m7 j6 2 (eV 5)) (aC (m7 j6 3 (eV 5)) aN))))))) (j7 1 (eB r9 (eV 1) (eC (.int 3))))))
abbrev qA(x y x2 y2 c:Int):Q:=((x,y,x2-x,y2-y),decide (c%3=0),decide (c%3=1))
def T6(r:Q×Nat):D:=.tup [wQ r.1,pQ r.1,sQ r.1,.int ((r.2:Nat):Int)]
theorem b1v(s:R4)(c:Int):rQ (qA s.1 s.2.1 s.2.2.1 s.2.2.2 c)=s:=by
 show(s.1,s.2.1,s.1+(s.2.2.1-s.1),s.2.1+(s.2.2.2-s.2.1))=s
 rw[show s.1+(s.2.2.1-s.1)=s.2.2.1 by omega,show s.2.1+(s.2.2.2-s.2.1)=s.2.2.2 by omega]
abbrev X5(C:D)(c:Int)(Sp W R:List D)(s5 s6 s7 s8 s9:Sl):DE:=[.fz C,.fz (.int c),.fz (.lst Sp),.fz (.lst W),.ow R,s5,s6,s7,s8,s9]
theorem b5Z(C:D)(c k:Int)(Sp W R:List D)(x y x2 y2:Int)(w:Nat)(o6 o7 o8 o9:Option D)(a1:atI Sp k=some (.tup [.int x,.int y,.int x2,.int y2]))(a2:atI W k=some (.int ((w:Nat):Int)))(hl:R.length<sizeLine) :
  apB (X5 C c Sp W R (.fz (.int k)) (un o6) (un o7) (un o8) (un o9))=some (.nx (X5 C (c/3) Sp W (R++[T6 (qA x y x2 y2 c,w)]) (.fz (.int k)) (.fz (.int x)) (.fz (.int y)) (.fz (.int x2)) (.fz (.int y2)))):=by
 have es:sQ (qA x y x2 y2 c)=.tup [.int x,.int y,.int x2,.int y2]:=congrArg i9 (b1v (x,y,x2,y2) c)
 have ep:pQ (qA x y x2 y2 c)=.tup [.int x,.int y,.bl (decide (c%3=0))]:=rfl
 by_cases z:c%3=0
 ·have e:T6 (qA x y x2 y2 c,w)=.tup [.tup [.int (y2-y),.int (x2-x),.bl true],.tup [.int x,.int y,.bl true],.tup [.int x,.int y,.int x2,.int y2],.int ((w:Nat):Int)]:=by
   unfold T6
   dsimp only
   rw[es,ep]
   unfold wQ
   simp only[z,decide_true,if_true]
  rw[e]
  clear e es ep
  unfold apB
  cases o6<;>cases o7<;>cases o8<;>cases o9<;>simp only[un]<;>walk_at "eh"
 ·have e:T6 (qA x y x2 y2 c,w)=.tup [.tup [.int (x2-x),.int (y2-y),.bl (decide (c%3=1))],.tup [.int x,.int y,.bl false],.tup [.int x,.int y,.int x2,.int y2],.int ((w:Nat):Int)]:=by
   unfold T6
   dsimp only
   rw[es,ep]
   unfold wQ
   simp only[z,decide_false,Bool.false_eq_true,if_false]
  rw[e]
  clear e es ep
  unfold apB
  cases o6<;>cases o7<;>cases o8<;>cases o9<;>simp only[un]<;>walk_at "eh"
theorem a5e{α:Type}(j:Int)(f g:α→D)(l:List α)(hl:l.length≤100)(hj:∀k,i8 (f k) (.int j)=some (g k))(a0 a1 a2 a3:D)(e:DE):N8 4 1 [] (c7 0) D7 (eB i8 (eV 0) (eC (.int j))) (.fz a0 :: .fz a1 :: .fz a2 :: .fz a3 :: .ow (l.map f)::e)=some (.ok (l.map g) (.fz a0 :: .fz a1 :: .fz a2 :: .fz a3 :: .ow (l.map f)::e)):=by
 have:=P8 (b:=c7 0) (c:=D7) (el:=eB i8 (eV 0) (eC (.int j))) (ec:=[.no]) (eo:=(.fz a0 :: .fz a1 :: .fz a2 :: .fz a3 :: .ow (l.map f)::e)) f g (fun _=>true) l [] (by show 0+l.length≤2 ^ 24;omega) (by
  intro k _
  refine⟨[.fz (f k)],[.fz (f k)],rfl,rfl,fun _=>⟨[.fz (f k)],?_⟩⟩
  have:=hj k
  generalize i8=GI at *
  generalize f k=fk at *
  walk_at "eh")
 rw[List.filter_eq_self.mpr (fun _ _=>rfl),List.nil_append]at this
 exact this
theorem b50(PI OD:List D→Option R1)(LP:SF)(N0 N1 N2 N3:NF)(C:D)(c c2:Int)(Sp W R R' A0 A1 A2 A3:List D)(s5 s6 s7 s8 s9:Sl)(hp:PI [C]=some (.ret (.tup [.lst Sp,.lst W])))(hl:LP (X5 C c Sp W [] .no .no .no .no .no)=some (.nx (X5 C c2 Sp W R s5 s6 s7 s8 s9)))(ho:OD [.lst R,.int c2]=some (.own R'))(n0:N0 (X5 C c2 Sp W R' s5 s6 s7 s8 s9)=some (.ok A0 (X5 C c2 Sp W R' s5 s6 s7 s8 s9)))(n1:N1 (X5 C c2 Sp W R' s5 s6 s7 s8 s9)=some (.ok A1 (X5 C c2 Sp W R' s5 s6 s7 s8 s9)))(n2:N2 (X5 C c2 Sp W R' s5 s6 s7 s8 s9)=some (.ok A2 (X5 C c2 Sp W R' s5 s6 s7 s8 s9)))(n3:N3 (X5 C c2 Sp W R' s5 s6 s7 s8 s9)=some (.ok A3 (X5 C c2 Sp W R' s5 s6 s7 s8 s9))):fD 10 2 (c6 (V0 (j9 PI (aC (eV 0) aN)) (x9 [(c7 2),(c7 3)])) (c6 (u9 4 (eL aN)) (c6 LP (c6 (y9 4 OD (aC (eV 4) (aC (eV 1) aN))) (a04 N0 N1 N2 N3))))) [C,.int c]=some (.owz [A0,A1,A2,A3]):=by
 have hz:(a04 N0 N1 N2 N3) (X5 C c2 Sp W R' s5 s6 s7 s8 s9)=some (.rz [A0,A1,A2,A3]):=by
  unfold a04
  rw[n0]
  dsimp only
  rw[n1]
  dsimp only
  rw[n2]
  dsimp only
  rw[n3]
 generalize a04 N0 N1 N2 N3=RZ at *
 clear n0 n1 n2 n3
 walk_at "eh"
theorem b21(cells:List Int)(hc:cells.length≤60)(c:Int):∃(L:List Q) (ws:List Nat),L.length≤60∧ws.length=L.length∧(∀w∈ws,w≤2 ^ 134)∧Sup (L.map rQ)∧(∀s∈L.map rQ,s.1<s.2.2.1∧s.2.2.1-s.1≤2 ^ 20∧0≤s.2.1∧s.2.1<s.2.2.2)∧(L.map rQ).Pairwise apX∧D3 [.lst (iI cells),.int c]=some (.owz [L.map wQ,L.map pQ,L.map sQ,iN ws]):=by
 obtain⟨S,ws,s1,s2,s3,s4,s5,s6,pl⟩:=b0X cells hc
 obtain⟨e',h,rows,c2,o5,o6,o7,o8,o9,r1,r2,r3,rfl⟩:=K7 (b:=c7 5) (body:=apB) (fun(k:Nat)=>D.int (k:Int)) (fun pre e=>∃(rows:List (Q×Nat)) (c2:Int) (o5 o6 o7 o8 o9:Option D),rows.length=pre.length∧rows.map (fun r=>rQ r.1)=S.take pre.length∧rows.map (fun r=>r.2)=ws.take pre.length∧e=X5 (.lst (iI cells)) c2 (S.map i9) (iN ws) (rows.map T6) (un o5) (un o6) (un o7) (un o8) (un o9)) (List.range S.length) (X5 (.lst (iI cells)) c (S.map i9) (iN ws) [] .no .no .no .no .no) ⟨[],c,none,none,none,none,none,rfl,rfl,rfl,rfl⟩ (by
  rintro pre k post e hq ⟨rows,c2,o5,o6,o7,o8,o9,r1,r2,r3,rfl⟩
  obtain⟨hk0,hk⟩:=a21 hq
  subst hk0
  have hw:pre.length<ws.length:=by omega
  have hb:c7 5 (.int (pre.length:Int)) (X5 (.lst (iI cells)) c2 (S.map i9) (iN ws) (rows.map T6) (un o5) (un o6) (un o7) (un o8) (un o9))=some (X5 (.lst (iI cells)) c2 (S.map i9) (iN ws) (rows.map T6) (.fz (.int (pre.length:Int))) (un o6) (un o7) (un o8) (un o9)):=by cases o5<;>rfl
  rw[hb,C3]
  have st:=b5Z (.lst (iI cells)) c2 (pre.length:Int) (S.map i9) (iN ws) (rows.map T6) _ _ _ _ _ o6 o7 o8 o9 (a4n (f:=i9) hk) (a4n (f:=fun w=>D.int ((w:Nat):Int)) hw) (by rw[List.length_map];show _<2 ^ 24;omega)
  refine⟨_,(congrArg F9 st).trans rfl,rows++[(qA S[pre.length].1 S[pre.length].2.1 S[pre.length].2.2.1 S[pre.length].2.2.2 c2,ws[pre.length])],c2/3,some (.int (pre.length:Int)),some (.int S[pre.length].1),some (.int S[pre.length].2.1),some (.int S[pre.length].2.2.1),some (.int S[pre.length].2.2.2),by rw[List.length_append,List.length_append,r1];rfl,?_,?_,?_⟩
  ·rw[List.map_append,r2,List.length_append,List.length_singleton,List.take_succ,List.getElem?_eq_getElem hk]
   show _++[rQ (qA S[pre.length].1 S[pre.length].2.1 S[pre.length].2.2.1 S[pre.length].2.2.2 c2)]=_
   rw[b1v]
   rfl
  ·rw[List.map_append,r3,List.length_append,List.length_singleton,List.take_succ,List.getElem?_eq_getElem hw]
   rfl
  ·rw[List.map_append]
   rfl)
 rw[List.length_range]at r1 r2 r3
 rw[List.take_of_length_le (Nat.le_refl _)]at r2
 rw[List.take_of_length_le (by omega)]at r3
 obtain⟨R',hp,od⟩:=b0Y (rows.map T6) c2 (by rw[List.length_map];omega)
 obtain⟨rows',rp,rfl⟩:=a24 T6 hp rows rfl
 have rl:=rp.length_eq
 have pS:((rows'.map (fun r=>r.1)).map rQ).Perm S:=by
  rw[List.map_map,← r2]
  exact rp.map _
 have pw:(rows'.map (fun r=>r.2)).Perm ws:=by
  rw[← r3]
  exact rp.map _
 refine⟨rows'.map (fun r=>r.1),rows'.map (fun r=>r.2),by rw[List.length_map];omega,by rw[List.length_map,List.length_map],fun w m=>s3 w (pw.mem_iff.mp m),?_,fun s m=>s5 s (pS.mem_iff.mp m),?_,?_⟩
 ·intro s ms y0 p p1 p2
  obtain⟨t,mt,t1⟩:=s4 s (pS.mem_iff.mp ms) y0 p p1 p2
  exact⟨t,pS.mem_iff.mpr mt,t1⟩
 ·exact(pS.pairwise_iff fun h=>apX.symm h).mpr s6
 ·have e0:(aC (y8 r8 2) aN) (X5 (.lst (iI cells)) c (S.map i9) (iN ws) [] .no .no .no .no .no)=some (.ok [.int (S.length:Int)] (X5 (.lst (iI cells)) c (S.map i9) (iN ws) [] .no .no .no .no .no)):=by
   have:((S.map i9).length:Int)=S.length:=by rw[List.length_map]
   walk_at "eh"
  have lp:=(X4 (b:=c7 5) (body:=apB) e0 (a1w (by omega))).trans ((congrArg (fun l=>B6 (c7 5) apB l (X5 (.lst (iI cells)) c (S.map i9) (iN ws) [] .no .no .no .no .no)) (a59 S.length)).trans h)
  unfold iN
  rw[List.map_map,List.map_map,List.map_map,List.map_map]
  exact b50 X2 X3 (C8 P4 (aC (y8 r8 2) aN) (c7 5) apB) _ _ _ _ (.lst (iI cells)) c c2 (S.map i9) (iN ws) (rows.map T6) (rows'.map T6) _ _ _ _ _ _ _ _ _ pl lp od (a5e 0 T6 (wQ∘fun r=>r.1) rows' (by omega) (fun _=>rfl) _ _ _ _ _) (a5e 1 T6 (pQ∘fun r=>r.1) rows' (by omega) (fun _=>rfl) _ _ _ _ _) (a5e 2 T6 (sQ∘fun r=>r.1) rows' (by omega) (fun _=>rfl) _ _ _ _ _) (a5e 3 T6 ((fun w=>D.int ((w:Nat):Int))∘fun r=>r.2) rows' (by omega) (fun _=>rfl) _ _ _ _ _)
structure Pk(L:List Q)(ws:List Nat):Prop where
 n:L.length≤60
 w:ws.length=L.length
 wb:∀w∈ws,w≤2 ^ 134
 sup:Sup (L.map rQ)
 pos:∀s∈L.map rQ,s.1<s.2.2.1∧s.2.2.1-s.1≤2 ^ 20∧0≤s.2.1∧s.2.1<s.2.2.2
 dis:(L.map rQ).Pairwise apX
theorem Pk.q{L:List Q}{ws:List Nat}(h:Pk L ws){q:Q}(m:q∈L):0<q.1.2.2.1∧q.1.2.2.1≤2 ^ 20∧0≤q.1.2.1∧0<q.1.2.2.2:=by
 obtain⟨h1,h2,h3,h4⟩:=h.pos (rQ q) (List.mem_map.mpr ⟨q,m,rfl⟩)
 have h1:q.1.1<q.1.1+q.1.2.2.1:=h1
 have h2:q.1.1+q.1.2.2.1-q.1.1≤2 ^ 20:=h2
 have h4:q.1.2.1<q.1.2.1+q.1.2.2.2:=h4
 exact⟨by omega,by omega,h3,by omega⟩
theorem Pk.ha{L:List Q}{ws:List Nat}(h:Pk L ws):F6 [.lst (L.map wQ),.lst (L.map pQ)]=some (.ret .non):=by
 have hn:=h.n
 have:=a3J L (by omega) fun q m=>(h.q m).2.2.1
 rw[a7d h.sup fun s m=>(h.pos s m).1]at this
 exact this
theorem Pk.pr{L:List Q}{ws:List Nat}(h:Pk L ws):∃T:List (Nat×Nat),A6 [.lst (L.map wQ),.lst (L.map pQ),.lst (iN ws)]=some (.ret (.tup [.lst (T.map tD),tD (ws.sum,1)]))∧Rt (L.map rQ) T ws:=by
 have ln:(L.map rQ).length=L.length:=List.length_map ..
 obtain⟨T,fl,hp,hT,hf,hb,hfl⟩:=a8g L h.n (fun q m=>(h.q m).2.2.1) (a7d h.sup fun s m=>(h.pos s m).1) (fun q m=>by
  obtain⟨a,b,_,_⟩:=h.q m
  exact⟨q.1.2.2.1.toNat,by omega,by omega,by omega⟩) ws h.w h.wb fun q m=>(h.q m).2.2.2
 have e:=a9x h.sup h.dis (fun s m=>⟨(h.pos s m).1,(h.pos s m).2.2⟩) (tv T) (wr ws) (by rw[ln];exact hb)
 rw[ln,← hfl,b4X ws _ h.w]at e
 obtain⟨f0,f1,f2,f3⟩:=hf fl (.inl rfl)
 obtain⟨x1,x2⟩:=b4n (p:=fl.1) (q:=fl.2) f0 f3 e
 have efl:fl=(ws.sum,1):=Prod.ext x1 x2
 rw[efl]at hp
 exact⟨T,hp,by rw[ln];exact h.n,by rw[ln];exact hT,by rw[ln];exact h.w,h.wb,fun f m=>hf f (.inr m),fun s m=>by
  obtain⟨a,b,_,_⟩:=h.pos s m
  exact⟨(s.2.2.1-s.1).toNat,by omega,by omega,by omega⟩,by rw[ln];exact hb⟩
theorem Pk.set{L:List Q}{ws:List Nat}(h:Pk L ws){n:Nat}(hn:n<ws.length):Pk L (ws.set n (1+ws[n]/2)):=by
 refine⟨h.n,by rw[List.length_set];exact h.w,fun w m=>?_,h.sup,h.pos,h.dis⟩
 rcases List.mem_or_eq_of_mem_set m with z | z
 ·exact h.wb w z
 ·rw[z]
  have:=h.wb _ (List.getElem_mem hn)
  omega
theorem b42{L:List R4}(hl:L.length≤60)(c:Int):∃(o:Int) (Ls:List Q),T4 [.lst (L.map i9),.int c]=some (.ret (.tup [.lst (Ls.map wQ),.lst (Ls.map pQ),.lst (Ls.map sQ)]))∧(Ls.map rQ).Perm (L.map (sh4 o)):=by
 obtain⟨o,h0⟩:=b4b (.lst (L.map i9)) c
 obtain⟨e,k1⟩:=a9k L c o (by omega)
 obtain⟨σ,hp,hs⟩:=a9l L c o (by omega)
 have hlen:σ.length=L.length:=by rw[hp.length_eq,List.length_range]
 refine⟨o,σ.map (qF L c o),?_,?_⟩
 ·rw[List.map_map,List.map_map,List.map_map]
  refine b5u (C8 P4 (aC (y8 r8 0) aN) (c7 4) (lbB x4)) _ a1u _ _ _ (L.map i9) _ _ _ _ _ (.int c) (.int o) e h0 ?_ hs (a4k 2 (fun k=>K2 (V1 L c o k)) (fun k=>wQ (qF L c o k)) σ (by omega) (fun k=>rfl) _ _ e) (a4k 3 (fun k=>K2 (V1 L c o k)) (fun k=>pQ (qF L c o k)) σ (by omega) (fun k=>rfl) _ _ e) (a4k 4 (fun k=>K2 (V1 L c o k)) (fun k=>sQ (qF L c o k)) σ (by omega) (fun k=>rfl) _ _ e)
  rw[X4 (ds:=[.int (L.length:Int)]) (e1:=[.fz (.lst (L.map i9)),.fz (.int c),.ow [],.fz (.int o),.no,.no,.no,.no,.no,.no,.no]) (lo:=0) (n:=L.length) (by
   have:((L.map i9).length:Int)=L.length:=by rw[List.length_map]
   walk_at "eh") (a1w (by omega))]
  exact k1
 ·rw[List.map_map]
  refine(hp.map _).trans (List.Perm.of_eq ?_)
  refine List.ext_getElem (by rw[List.length_map,List.length_range,List.length_map]) fun k h1 h2=>?_
  rw[List.length_map,List.length_range]at h1
  rw[List.getElem_map,List.getElem_range,List.getElem_map]
  show rQ (qF L c o k)=sh4 o L[k]
  unfold qF
  rw[show L.getD k rD0=L[k] by rw[List.getD_eq_getElem?_getD,List.getElem?_eq_getElem h1];rfl]
  show(L[k].1-o,L[k].2.1,L[k].1-o+(L[k].2.2.1-L[k].1),L[k].2.1+(L[k].2.2.2-L[k].2.1))=(L[k].1-o,L[k].2.1,L[k].2.2.1-o,L[k].2.2.2)
  rw[show L[k].1-o+(L[k].2.2.1-L[k].1)=L[k].2.2.1-o by omega,show L[k].2.1+(L[k].2.2.2-L[k].2.1)=L[k].2.2.2 by omega]
theorem b22{S:List R4}{Ls:List Q}{o:Int}{ws:List Nat}(hp:(Ls.map rQ).Perm (S.map (sh4 o)))(hS:S.length≤60)(hw:ws.length=Ls.length)(wb:∀w∈ws,w≤2 ^ 134)(sup:Sup S)(pos:∀s∈S,s.1<s.2.2.1∧s.2.2.1-s.1≤2 ^ 20∧0≤s.2.1∧s.2.1<s.2.2.2)(dis:S.Pairwise apX):Pk Ls ws:=by
 have ln:=hp.length_eq
 rw[List.length_map,List.length_map]at ln
 refine⟨by omega,hw,wb,fun s ms y0 p p1 p2=>?_,fun s ms=>?_,(hp.pairwise_iff fun h=>apX.symm h).mpr ?_⟩
 ·obtain⟨t,mt,rfl⟩:=List.mem_map.mp (hp.mem_iff.mp ms)
  dsimp only at y0 p1 p2
  obtain⟨r,mr,r1,r2,r3⟩:=sup t mt y0 (p+o) (by omega) (by omega)
  refine⟨sh4 o r,hp.mem_iff.mpr (List.mem_map.mpr ⟨r,mr,rfl⟩),r1,?_,?_⟩
  ·show r.1-o≤p
   omega
  ·show p<r.2.2.1-o
   omega
 ·obtain⟨t,mt,rfl⟩:=List.mem_map.mp (hp.mem_iff.mp ms)
  obtain⟨a,b,c,d⟩:=pos t mt
  exact⟨show t.1-o<t.2.2.1-o by omega,show t.2.2.1-o-(t.1-o)≤2 ^ 20 by omega,c,d⟩
 ·rw[List.pairwise_map]
  refine dis.imp ?_
  intro a b h e
  rcases h e with z | z
  ·exact .inl (show a.2.2.1-o≤b.1-o by omega)
  ·exact .inr (show b.2.2.1-o≤a.1-o by omega)
abbrev lE(ns:List Int)(c0:Int)(E S:List D)(s4 s5 s6 s7 s8 s9 s10 s11 s12 s13:Sl):DE:=[.fz (.scr ns),.fz (.int c0),.fz (.lst E),.fz (.lst S),s4,s5,s6,s7,s8,s9,s10,s11,s12,s13]
theorem b51(CE ED ST LA WE:List D→Option R1)(GX:D→D→Option D)(REST:SF)(ns:List Int)(c0 c1 c2 u:Int)(M E S A B P W:List D)(r:Option RS)(k0:CE [.scr ns,.int 0]=some (.ret (.int c0)))(k1:CE [.scr ns,.int 1]=some (.ret (.int c1)))(k2:CE [.scr ns,.int 2]=some (.ret (.int c2)))(he:ED [.int c1]=some (.own E))(hM:cutD (ns.map D.int) (some 3) (some 63)=M)(hx:GX (.lst [.int 1,.int 5,.int 7000]) (.int (c0%3))=some (.int u))(hst:ST [.lst M,.lst E,.int u]=some (.own S))(hla:LA [.lst S,.int c0]=some (.ret (.tup [.lst A,.lst B,.lst P])))(hwe:WE [.int c2,.int (A.length:Int)]=some (.own W))
  (hr:REST (lE ns c0 E S (.fz (.lst A)) (.fz (.lst B)) (.fz (.lst P)) (.ow W) .no .no .no .no .no .no)=r):(c6 (y9 1 CE (aC (eV 0) (aC (eC (.int 0)) aN))) (c6 (y9 2 ED (aC (j9 CE (aC (eV 0) (aC (eC (.int 1)) aN))) aN)) (c6 (y9 3 ST (aC (zN (T3 0 (oS (eC (.int 3))) (oS (eC (.int 63))))) (aC (eV 2) (aC (eB GX (zN (eL (aC (eC (.int 1)) (aC (eC (.int 5)) (aC (eC (.int 7000)) aN))))) (eB l5 (eV 1) (eC (.int 3)))) aN)))) (c6 (V0 (j9 LA (aC (eV 3) (aC (eV 1) aN))) (x9 [(c7 4),(c7 5),(c7 6)])) (c6 (y9 7 WE (aC (j9 CE (aC (eV 0) (aC (eC (.int 2)) aN))) (aC (y8 r8 4) aN))) REST))))) [.fz (.scr ns),.no,.no,.no,.no,.no,.no,.no,.no,.no,.no,.no,.no,.no]=r:=by
 subst hr
 walk_at "eh"
theorem b52(CE:List D→Option R1)(ZS:SF)(ns:List Int)(c0 c1:Int)(E S A B P W:List D)(k1:CE [.scr ns,.int 1]=some (.ret (.int c1)))(z:¬c1%2=1):(A4 (bZ (eB (B8 false) (eB l5 (j9 CE (aC (eV 0) (aC (eC (.int 1)) aN))) (eC (.int 2))) (eC (.int 1)))) ZS B9) (lE ns c0 E S (.fz (.lst A)) (.fz (.lst B)) (.fz (.lst P)) (.ow W) .no .no .no .no .no .no)=some (.nx (lE ns c0 E S (.fz (.lst A)) (.fz (.lst B)) (.fz (.lst P)) (.ow W) .no .no .no .no .no .no)):=by
 walk_at "eh"
theorem b53(CE:List D→Option R1)(ZS:SF)(ns:List Int)(c0 c1:Int)(E S A B P W:List D)(r:Option RS)(k1:CE [.scr ns,.int 1]=some (.ret (.int c1)))(z:c1%2=1)(hz:ZS (lE ns c0 E S (.fz (.lst A)) (.fz (.lst B)) (.fz (.lst P)) (.ow W) .no .no .no .no .no .no)=r):(A4 (bZ (eB (B8 false) (eB l5 (j9 CE (aC (eV 0) (aC (eC (.int 1)) aN))) (eC (.int 2))) (eC (.int 1)))) ZS B9) (lE ns c0 E S (.fz (.lst A)) (.fz (.lst B)) (.fz (.lst P)) (.ow W) .no .no .no .no .no .no)=r:=by
 subst hz
 walk_at "eh"
theorem b54(AP:List D→Option R1)(ns:List Int)(c0:Int)(M E S A B P W A' B' P' W':List D)(hM:cutD (ns.map D.int) (some 3) (some 63)=M)(ha:AP [.lst M,.int (c0/3)]=some (.owz [A',B',P',W'])):(a05 4 5 6 7 AP (aC (zN (T3 0 (oS (eC (.int 3))) (oS (eC (.int 63))))) (aC (eB r9 (eV 1) (eC (.int 3))) aN))) (lE ns c0 E S (.fz (.lst A)) (.fz (.lst B)) (.fz (.lst P)) (.ow W) .no .no .no .no .no .no)=some (.nx (lE ns c0 E S (.ow A') (.ow B') (.ow P') (.ow W') .no .no .no .no .no .no)):=by
 have e:(aC (zN (T3 0 (oS (eC (.int 3))) (oS (eC (.int 63))))) (aC (eB r9 (eV 1) (eC (.int 3))) aN)) (lE ns c0 E S (.fz (.lst A)) (.fz (.lst B)) (.fz (.lst P)) (.ow W) .no .no .no .no .no .no)=some (.ok [.lst M,.int (c0/3)] (lE ns c0 E S (.fz (.lst A)) (.fz (.lst B)) (.fz (.lst P)) (.ow W) .no .no .no .no .no .no)):=by
  walk_at "eh"
 unfold a05
 rw[e,Q7,ha]
 dsimp only
 rw[if_pos ⟨by decide,rfl,rfl,rfl,rfl⟩]
 rfl
def V3(A B P:List D)(s4 s5 s6:Sl):Prop:=(s4=.fz (.lst A)∧s5=.fz (.lst B)∧s6=.fz (.lst P))∨(s4=.ow A∧s5=.ow B∧s6=.ow P)
theorem b55(GL:D→Option (List D))(HA:List D→Option R1)(REST:SF)(ns:List Int)(c0:Int)(E S A B P W:List D)(s4 s5 s6:Sl)(v:V3 A B P s4 s5 s6)(r:Option RS)(gA:GL (.lst A)=some A)(gB:GL (.lst B)=some B)(gW:GL (.lst W)=some W)(hh:HA [.lst A,.lst B]=some (.ret .non))(hr:REST (lE ns c0 E S s4 s5 s6 (.ow W) (.fz (.lst A)) (.fz (.lst B)) (.ow W) .no .no .no)=r):(c6 (u9 8 (nCV GL 4)) (c6 (u9 9 (nCV GL 5)) (c6 (u9 10 (nCV GL 7)) (c6 (A4 (bZ (eB (a16 true) (L6 HA (aC (eV 8) (aC (eV 9) aN))) (eC .non))) (t9 (eC (.bl false))) B9) REST)))) (lE ns c0 E S s4 s5 s6 (.ow W) .no .no .no .no .no .no)=r:=by
 subst hr
 rcases v with⟨rfl,rfl,rfl⟩ | ⟨rfl,rfl,rfl⟩<;>walk_at "eh"
theorem b56(GL:D→Option (List D))(GE:Bool→D→D→Option D)(RI:List D→Option R1)(REST:SF)(ns:List Int)(c0:Int)(E S A B P W T:List D)(fl:D)(s4 s5 s6 s10:Sl)(v:V3 A B P s4 s5 s6)(v10:s10=.ow W∨s10=.fz (.lst W))(r:Option RS)(gA:GE true (.lst A) (.lst A)=some (.bl false))(gB:GE true (.lst B) (.lst B)=some (.bl false))(gW:GE true (.lst W) (.lst W)=some (.bl false))(ri:RI [.tup [.lst T,fl],.lst P,.lst W]=some (.ret (.bl true)))(gT:GL (.lst T)=some T)(hr:REST (lE ns c0 E S s4 s5 s6 (.ow W) (.fz (.lst A)) (.fz (.lst B)) s10 (.fz (.tup [.lst T,fl])) (.fz (.tup [.lst T,fl])) .no)=r):(c6 (A4 (V6 (Q9 (bZ (a0t (GE true) 8 4)) (Q9 (bZ (a0t (GE true) 9 5)) (Q9 (bZ (a0t (GE true) 10 7)) (G7 (bZ (j9 RI (aC (eV 11) (aC (eV 6) (aC (eV 7) aN)))))))))) (t9 (eC (.bl false))) B9) (c6 (j7 12 (eT (aC (zN (nCB GL (eB i8 (eV 11) (eC (.int 0))))) (aC (eB i8 (eV 11) (eC (.int 1))) aN)))) REST)) (lE ns c0 E S s4 s5 s6 (.ow W) (.fz (.lst A)) (.fz (.lst B)) s10 (.fz (.tup [.lst T,fl])) .no .no)=r:=by
 subst hr
 rcases v10 with rfl | rfl<;>rcases v with⟨rfl,rfl,rfl⟩ | ⟨rfl,rfl,rfl⟩<;>walk_at "eh"
theorem b57(GE:Bool→D→D→Option D)(RI PR:List D→Option R1)(ns:List Int)(c0:Int)(E S A B P:List D)(F:D)(s4 s5 s6 s10:Sl)(v10:s10=.ow []∨s10=.fz (.lst []))(ge:GE false F F=some (.bl true)):(c6 (A4 (bZ (eB gGt (y8 r8 7) (eC (.int 0)))) (c6 (j7 13 (eB l5 (eB r9 (eV 1) (eC (.int 3))) (y8 r8 7))) (c6 (U9 7 (eV 13) (eB u5 (eC (.int 1)) (eB r9 (m7 j6 7 (eV 13)) (eC (.int 2))))) (c6 (U9 10 (eV 13) (m7 j6 7 (eV 13))) (A4 (V6 (G7 (bZ (j9 RI (aC (L6 PR (aC (eV 8) (aC (eV 9) (aC (eV 10) aN)))) (aC (eV 6) (aC (eV 7) aN))))))) (t9 (eC (.bl false))) B9)))) B9) (t9 (eB (GE false) (eV 11) (eV 12)))) (lE ns c0 E S s4 s5 s6 (.ow []) (.fz (.lst A)) (.fz (.lst B)) s10 (.fz F) (.fz F) .no)=some (.rt (.bl true)):=by
 rcases v10 with rfl | rfl<;>walk_at "eh"
theorem b58(GE:Bool→D→D→Option D)(RI PR:List D→Option R1)(ns:List Int)(c0 at' w:Int)(n:Nat)(E S A B P W:List D)(F F2:D)(s4 s5 s6:Sl)(v:V3 A B P s4 s5 s6)(h0:(W.length:Int) > 0)(ha:c0/3%(W.length:Int)=at')(aw:atI W at'=some (.int w))(hn:V2 W.length at'=some n)(aw2:atI (W.set n (.int (1+w/2))) at'=some (.int (1+w/2)))(hp:PR [.lst A,.lst B,.lst (W.set n (.int (1+w/2)))]=some (.ret F2))(ri:RI [F2,.lst P,.lst (W.set n (.int (1+w/2)))]=some (.ret (.bl true)))(ge:GE false F F=some (.bl true)):(c6 (A4 (bZ (eB gGt (y8 r8 7) (eC (.int 0)))) (c6 (j7 13 (eB l5 (eB r9 (eV 1) (eC (.int 3))) (y8 r8 7))) (c6 (U9 7 (eV 13) (eB u5 (eC (.int 1)) (eB r9 (m7 j6 7 (eV 13)) (eC (.int 2))))) (c6 (U9 10 (eV 13) (m7 j6 7 (eV 13))) (A4 (V6 (G7 (bZ (j9 RI (aC (L6 PR (aC (eV 8) (aC (eV 9) (aC (eV 10) aN)))) (aC (eV 6) (aC (eV 7) aN))))))) (t9 (eC (.bl false))) B9)))) B9) (t9 (eB (GE false) (eV 11) (eV 12)))) (lE ns c0 E S s4 s5 s6 (.ow W) (.fz (.lst A)) (.fz (.lst B)) (.ow W) (.fz F) (.fz F) .no)=some (.rt (.bl true)):=by
 have h1:(0:Int)<(W.length:Int):=h0
 rcases v with⟨rfl,rfl,rfl⟩ | ⟨rfl,rfl,rfl⟩<;>walk_at "eh"
theorem a8h{α:Type}(f:α→D)(l:List α)(neg:Bool)(h1:∀a,j5 (f a)=true)(h2:∀a,G9 (f a)≤10):I0 neg (.lst (l.map f)) (.lst (l.map f))=some (.bl (!neg)):=by
 refine a2a neg (by show C5 (l.map f)=true;exact V5 fun a _=>h1 a) ?_ rfl
 have:=a2b (f:=f) (l:=l) (n:=10) (fun a _=>h2 a)
 simp only[G9]
 show G3 (l.map f)+1≤40
 omega
theorem b0Z(q:Q):j5 (wQ q)=true∧G9 (wQ q)≤10:=by
 unfold wQ
 split
 ·exact⟨rfl,by simp[G9,G3]⟩
 ·exact⟨rfl,by simp[G9,G3]⟩
theorem b1w(T:List (Nat×Nat))(f:Nat×Nat):I0 false (.tup [.lst (T.map tD),tD f]) (.tup [.lst (T.map tD),tD f])=some (.bl true):=by
 have p:C5 (T.map tD)=true:=V5 fun a _=>rfl
 have q:=a2b (f:=tD) (l:=T) (n:=10) (fun a _=>by simp[G9,G3])
 refine a2a false ?_ ?_ rfl
 ·show(C5 (T.map tD) && (j5 (tD f) && true))=true
  rw[p]
  rfl
 ·have e:G9 (tD f)≤10:=by simp[G9,G3]
  simp only[G9,G3]at e ⊢
  omega
theorem a7n(e:DE):∀T:List (Nat×Nat),newLs e (T.map tD)=true
 | []=>rfl
 | f::T=>by
  rw[List.map_cons,newLs,a7n e T]
  rfl
theorem a5f{α:Type}(T:List (Nat×Nat))(l:List α)(f:α→D)(hT:0<T.length)(hl:0<l.length)(h1:∀a,j5 (f a)=true)(h2:∀t a,A5 (tD t) (f a)=false):apS (T.map tD) (.ow (l.map f))=true:=by
 have p:j5 (.lst (l.map f))=true:=by show C5 (l.map f)=true;exact V5 fun a _=>h1 a
 show(j5 (.lst (l.map f)) && !A5 (.lst (T.map tD)) (.lst (l.map f)))=true
 rw[p]
 have e:A5 (.lst (T.map tD)) (.lst (l.map f))=false:=by
  cases T with
  | nil=>exact absurd hT (by simp)
  | cons t T =>
   cases l with
   | nil=>exact absurd hl (by simp)
   | cons a l =>
    show K1 (tD t::T.map tD) (f a::l.map f)=false
    simp only[K1,h2 t a,Bool.false_and]
 rw[e]
 rfl
theorem b59(t:Nat×Nat)(q:Q):A5 (tD t) (wQ q)=false:=by
 unfold wQ
 split
 ·exact P6 (by simp)
 ·exact P6 (by simp)
abbrev l10(ns:List Int)(c0:Int)(E S:List D)(L:List Q)(ws:List Nat)(s4 s5 s6 s10 s11:Sl):DE:=lE ns c0 E S s4 s5 s6 (.ow (iN ws)) (.fz (.lst (L.map wQ))) (.fz (.lst (L.map pQ))) s10 s11 .no .no
theorem b43(ns:List Int)(c0:Int)(E S:List D)(L:List Q)(ws:List Nat)(T:List (Nat×Nat))(fl:Nat×Nat)(s4 s5 s6:Sl)(v:V3 (L.map wQ) (L.map pQ) (L.map sQ) s4 s5 s6)(hp:A6 [.lst (L.map wQ),.lst (L.map pQ),.lst (iN ws)]=some (.ret (.tup [.lst (T.map tD),tD fl])))(hT:T.length=L.length)(hw:ws.length=L.length):∃s10:Sl,(s10=.ow (iN ws)∨(s10=.fz (.lst (iN ws))∧L.length=0))∧(j7 11 (a0r (L6 A6 (aC (eV 8) (aC (eV 9) (aC (eV 10) aN)))))) (l10 ns c0 E S L ws s4 s5 s6 (.ow (iN ws)) .no)=some (.nx (l10 ns c0 E S L ws s4 s5 s6 s10 (.fz (.tup [.lst (T.map tD),tD fl])))):=by
 have z1:(L6 A6 (aC (eV 8) (aC (eV 9) (aC (eV 10) aN)))) (L4 (l10 ns c0 E S L ws s4 s5 s6 (.ow (iN ws)) .no))=some (.ok (.tup [.lst (T.map tD),tD fl]) (L4 (l10 ns c0 E S L ws s4 s5 s6 (.ow (iN ws)) .no))):=by
  show toZ (A6 [.lst (L.map wQ),.lst (L.map pQ),.lst (iN ws)]) _=_
  rw[hp]
  rfl
 have z2:(L6 A6 (aC (eV 8) (aC (eV 9) (aC (eV 10) aN)))) (l10 ns c0 E S L ws s4 s5 s6 (.ow (iN ws)) .no)=some (.ok (.tup [.lst (T.map tD),tD fl]) (l10 ns c0 E S L ws s4 s5 s6 (.fz (.lst (iN ws))) .no)):=by
  show toZ (A6 [.lst (L.map wQ),.lst (L.map pQ),.lst (iN ws)]) _=_
  rw[hp]
  rfl
 by_cases h0:L.length=0
 ·by_cases nl:newL (l10 ns c0 E S L ws s4 s5 s6 (.ow (iN ws)) .no) (.tup [.lst (T.map tD),tD fl])=true
  ·refine⟨_,.inl rfl,?_⟩
   unfold j7 a0r
   rw[z1]
   dsimp only
   rw[if_pos nl,Q7]
   rfl
  ·refine⟨_,.inr ⟨rfl,h0⟩,?_⟩
   unfold j7 a0r
   rw[z1]
   dsimp only
   rw[if_neg nl,z2,Q7]
   rfl
 ·have nl:newL (l10 ns c0 E S L ws s4 s5 s6 (.ow (iN ws)) .no) (.tup [.lst (T.map tD),tD fl])=true:=by
   have w0:apS (T.map tD) (.ow (iN ws))=true:=a5f T ws _ (by omega) (by omega) (fun _=>rfl) (fun _ _=>rfl)
   have ap:apL (l10 ns c0 E S L ws s4 s5 s6 (.ow (iN ws)) .no) (T.map tD)=true:=by
    unfold apL
    rw[Bool.and_eq_true]
    refine⟨by show C5 (T.map tD)=true;exact V5 fun a _=>rfl,?_⟩
    have q4:apS (T.map tD) s4=true∧apS (T.map tD) s5=true∧apS (T.map tD) s6=true:=by
     rcases v with⟨rfl,rfl,rfl⟩ | ⟨rfl,rfl,rfl⟩
     ·exact⟨rfl,rfl,rfl⟩
     ·exact⟨a5f T L wQ (by omega) (by omega) (fun a=>(b0Z a).1) b59,a5f T L pQ (by omega) (by omega) (fun _=>rfl) (fun _ _=>P6 (by simp)),a5f T L sQ (by omega) (by omega) (fun _=>rfl) (fun _ _=>P6 (by simp))⟩
    simp only[l10,lE,List.all_cons,List.all_nil,q4.1,q4.2.1,q4.2.2,w0]
    rfl
   show(apL _ (T.map tD) && newLs _ (T.map tD) && (newLs _ [.int (fl.1:Int),.int (fl.2:Int)] && true))=true
   rw[ap,a7n]
   rfl
  refine⟨_,.inl rfl,?_⟩
  unfold j7 a0r
  rw[z1]
  dsimp only
  rw[if_pos nl,Q7]
  rfl
abbrev lwB:SF:=(c6 (u9 8 (nCV P0 4)) (c6 (u9 9 (nCV P0 5)) (c6 (u9 10 (nCV P0 7)) (c6 (A4 (bZ (eB (a16 true) (L6 F6 (aC (eV 8) (aC (eV 9) aN))) (eC .non))) (t9 (eC (.bl false))) B9) (c6 (j7 11 (a0r (L6 A6 (aC (eV 8) (aC (eV 9) (aC (eV 10) aN)))))) (c6 (A4 (V6 (Q9 (bZ (a0t (I0 true) 8 4)) (Q9 (bZ (a0t (I0 true) 9 5)) (Q9 (bZ (a0t (I0 true) 10 7)) (G7 (bZ (j9 F8 (aC (eV 11) (aC (eV 6) (aC (eV 7) aN)))))))))) (t9 (eC (.bl false))) B9) (c6 (j7 12 (eT (aC (zN (nCB P0 (eB i8 (eV 11) (eC (.int 0))))) (aC (eB i8 (eV 11) (eC (.int 1))) aN)))) (c6 (A4 (bZ (eB gGt (y8 r8 7) (eC (.int 0)))) (c6 (j7 13 (eB l5 (eB r9 (eV 1) (eC (.int 3))) (y8 r8 7))) (c6 (U9 7 (eV 13) (eB u5 (eC (.int 1)) (eB r9 (m7 j6 7 (eV 13)) (eC (.int 2))))) (c6 (U9 10 (eV 13) (m7 j6 7 (eV 13))) (A4 (V6 (G7 (bZ (j9 F8 (aC (L6 A6 (aC (eV 8) (aC (eV 9) (aC (eV 10) aN)))) (aC (eV 6) (aC (eV 7) aN))))))) (t9 (eC (.bl false))) B9)))) B9) (t9 (eB (I0 false) (eV 11) (eV 12)))))))))))
theorem a7o(ns:List Int)(c0:Int)(E S:List D)(L:List Q)(ws:List Nat)(h:Pk L ws)(s4 s5 s6:Sl)(v:V3 (L.map wQ) (L.map pQ) (L.map sQ) s4 s5 s6):lwB (lE ns c0 E S s4 s5 s6 (.ow (iN ws)) .no .no .no .no .no .no)=some (.rt (.bl true)):=by
 obtain⟨T,hp,ht⟩:=h.pr
 have ln:(L.map rQ).length=L.length:=List.length_map ..
 have eS:(L.map rQ).map i9=L.map sQ:=by rw[List.map_map];rfl
 have tl:=ht.t
 rw[ln]at tl
 obtain⟨s10,v10,st⟩:=b43 ns c0 E S L ws T (ws.sum,1) s4 s5 s6 v hp tl h.w
 have ri:=a6h ht
 rw[eS]at ri
 refine b55 P0 F6 _ ns c0 E S (L.map wQ) (L.map pQ) (L.map sQ) (iN ws) s4 s5 s6 v _ rfl rfl rfl h.ha ?_
 rw[a39,st,a2u]
 refine b56 P0 I0 F8 _ ns c0 E S (L.map wQ) (L.map pQ) (L.map sQ) (iN ws) (T.map tD) (tD (ws.sum,1)) s4 s5 s6 s10 v (v10.imp id fun z=>z.1) _ (a8h wQ L true (fun a=>(b0Z a).1) (fun a=>(b0Z a).2)) (a8h pQ L true (fun _=>rfl) (fun _=>by simp[G9,G3])) (a8h _ ws true (fun _=>rfl) (fun _=>by simp[G9])) ri rfl ?_
 by_cases h0:L.length=0
 ·have w0:ws=[]:=List.eq_nil_of_length_eq_zero (by rw[h.w];exact h0)
  subst w0
  exact b57 I0 F8 A6 ns c0 E S _ _ (L.map sQ) _ s4 s5 s6 s10 (v10.imp id fun z=>z.1) (b1w T _)
 ·have e10:s10=.ow (iN ws):=v10.resolve_right fun z=>h0 z.2
  subst e10
  have lw:(iN ws).length=ws.length:=List.length_map ..
  have hw:=h.w
  have r0:=Int.emod_nonneg (c0/3) (show(ws.length:Int)≠0 by omega)
  have r1:=Int.emod_lt_of_pos (c0/3) (show(0:Int)<(ws.length:Int) by omega)
  obtain⟨n,hn⟩:∃n:Nat,c0/3%(ws.length:Int)=(n:Int):=⟨(c0/3%(ws.length:Int)).toNat,by omega⟩
  have nl:n<ws.length:=by omega
  have h2:=h.set nl
  obtain⟨T2,hp2,ht2⟩:=h2.pr
  have ri2:=a6h ht2
  rw[eS]at ri2
  have es:(iN ws).set n (.int (1+(ws[n]:Int)/2))=iN (ws.set n (1+ws[n]/2)):=by
   unfold iN
   rw[List.map_set]
   rfl
  exact b58 I0 F8 A6 ns c0 (n:Int) (ws[n]:Int) n E S _ _ (L.map sQ) (iN ws) _ _ s4 s5 s6 v (by rw[lw];omega) (by rw[lw];exact hn) (a4n (f:=fun w=>D.int ((w:Nat):Int)) nl) (by rw[lw];exact a4f nl) (V7 (by rw[List.getElem?_set_self (by rw[lw];exact nl)])) (by rw[es];exact hp2) (by rw[es];exact ri2) (b1w T _)
theorem main(ns:List Int)(hl:ns.length≤63)(hb:∀m∈ns,Builtin.Int.intBits m≤2 ^ 20):a8c [.scr ns]=some (.ret (.bl true)):=by
 obtain⟨E,e1,e2,e3,e4⟩:=a9s (C7 ns 1)
 have hM:cutD (ns.map D.int) (some 3) (some 63)=iI ((ns.drop 3).take 60):=by
  rw[a65 (by decide) (by decide)]
  show((ns.map D.int).drop 3).take 60=_
  unfold iI
  rw[List.map_take,List.map_drop]
 have m60:((ns.drop 3).take 60).length≤60:=by rw[List.length_take];omega
 obtain⟨u,hx,u1,u2⟩:∃u:Int,j6 (.lst [.int 1,.int 5,.int 7000]) (.int (C7 ns 0%3))=some (.int u)∧0<u∧u.natAbs<2 ^ 64:=by
  rcases(show C7 ns 0%3=0∨C7 ns 0%3=1∨C7 ns 0%3=2 by omega)with e | e | e<;>rw[e]
  ·exact⟨1,rfl,by decide,by decide⟩
  ·exact⟨5,rfl,by decide,by decide⟩
  ·exact⟨7000,rfl,by decide,by decide⟩
 obtain⟨S,s1,s2,s3,s5,s4⟩:=a9C ((ns.drop 3).take 60) E u (by omega) e1 e2 e3 u1 u2
 obtain⟨o,Ls,la,lp⟩:=b42 (L:=S) (by omega) (C7 ns 0)
 have lln:=lp.length_eq
 rw[List.length_map,List.length_map]at lln
 obtain⟨ws,we,w1,w2⟩:=a8f (C7 ns 2) Ls.length (by omega)
 have hlA:((Ls.map wQ).length:Int)=(Ls.length:Int):=by rw[List.length_map]
 have k1:u6 [.scr ns,.int 1]=some (.ret (.int (C7 ns 1))):=a26 (by omega)
 have fin:∀REST:SF,REST (lE ns (C7 ns 0) (iI E) (S.map i9) (.fz (.lst (Ls.map wQ))) (.fz (.lst (Ls.map pQ))) (.fz (.lst (Ls.map sQ))) (.ow (iN ws)) .no .no .no .no .no .no)=some (.rt (.bl true))→(c6 (y9 1 u6 (aC (eV 0) (aC (eC (.int 0)) aN))) (c6 (y9 2 O7 (aC (j9 u6 (aC (eV 0) (aC (eC (.int 1)) aN))) aN)) (c6 (y9 3 O8 (aC (zN (T3 0 (oS (eC (.int 3))) (oS (eC (.int 63))))) (aC (eV 2) (aC (eB j6 (zN (eL (aC (eC (.int 1)) (aC (eC (.int 5)) (aC (eC (.int 7000)) aN))))) (eB l5 (eV 1) (eC (.int 3)))) aN)))) (c6 (V0 (j9 T4 (aC (eV 3) (aC (eV 1) aN))) (x9 [(c7 4),(c7 5),(c7 6)])) (c6 (y9 7 K6 (aC (j9 u6 (aC (eV 0) (aC (eC (.int 2)) aN))) (aC (y8 r8 4) aN))) REST))))) [.fz (.scr ns),.no,.no,.no,.no,.no,.no,.no,.no,.no,.no,.no,.no,.no]=some (.rt (.bl true)):=fun REST hr =>
  b51 u6 O7 O8 T4 K6 j6 REST ns (C7 ns 0) (C7 ns 1) (C7 ns 2) u _ (iI E) (S.map i9) (Ls.map wQ) (Ls.map pQ) (Ls.map sQ) (iN ws) _ (a26 (by omega)) k1 (a26 (by omega)) e4 hM hx s4 la (by rw[hlA];exact we) hr
 have go:a8b [.fz (.scr ns),.no,.no,.no,.no,.no,.no,.no,.no,.no,.no,.no,.no,.no]=some (.rt (.bl true)):=by
  refine fin (c6 (A4 (bZ (eB (B8 false) (eB l5 (j9 u6 (aC (eV 0) (aC (eC (.int 1)) aN))) (eC (.int 2))) (eC (.int 1)))) (a05 4 5 6 7 D3 (aC (zN (T3 0 (oS (eC (.int 3))) (oS (eC (.int 63))))) (aC (eB r9 (eV 1) (eC (.int 3))) aN))) B9) lwB) ?_
  rw[a39]
  by_cases z:C7 ns 1%2=1
  ·obtain⟨L,w',p1,p2,p3,p4,p5,p6,pl⟩:=b21 ((ns.drop 3).take 60) m60 (C7 ns 0/3)
   rw[b53 u6 (a05 4 5 6 7 D3 (aC (zN (T3 0 (oS (eC (.int 3))) (oS (eC (.int 63))))) (aC (eB r9 (eV 1) (eC (.int 3))) aN))) ns (C7 ns 0) (C7 ns 1) (iI E) (S.map i9) (Ls.map wQ) (Ls.map pQ) (Ls.map sQ) (iN ws) _ k1 z (b54 D3 ns (C7 ns 0) _ (iI E) (S.map i9) (Ls.map wQ) (Ls.map pQ) (Ls.map sQ) (iN ws) _ _ _ _ hM pl),a2u]
   exact a7o ns _ _ _ L w' ⟨p1,p2,p3,p4,p5,p6⟩ _ _ _ (.inr ⟨rfl,rfl,rfl⟩)
  ·rw[b52 u6 (a05 4 5 6 7 D3 (aC (zN (T3 0 (oS (eC (.int 3))) (oS (eC (.int 63))))) (aC (eB r9 (eV 1) (eC (.int 3))) aN))) ns (C7 ns 0) (C7 ns 1) (iI E) (S.map i9) (Ls.map wQ) (Ls.map pQ) (Ls.map sQ) (iN ws) k1 z,a2u]
   exact a7o ns _ _ _ Ls ws (b22 lp (by omega) w1 w2 s2 s3 s5) _ _ _ (.inl ⟨rfl,rfl,rfl⟩)
 have:a8c [.scr ns]=a0Z (a8b [.fz (.scr ns),.no,.no,.no,.no,.no,.no,.no,.no,.no,.no,.no,.no,.no]):=rfl
 rw[this,go]
 rfl
def a3R(K:PySem.W.Frag)(c:Str→Addr):Sp:=fun vs H Q _=>∃a,∃ns:List Int,vs=[.ref a]∧Scr K H a (ns.map V.int)∧(∀m∈ns,Builtin.Int.intBits m≤2 ^ 20)∧ns.length≤63∧∀H',Q (.bl true) H'
theorem b4y{TB:List (Addr×Str)}{f:Addr}{fd:FuncData}(F:Fun K "law" "law" a0i f fd)(T:Txt K mg c)(G_l_cell_at:Own P w K mg base 3 "_law_cell_at" ["_law_script","_law_k"] (k8 K c u6))(G_l_edges:Own P w K mg base 5 "_law_edges" ["_law_cell"] (k8 K c O7))(G_l_stack:Own P w K mg base 3 "_law_stack" ["_law_cells","_law_edges_here","_law_unit"] (k8 K c O8))(G_l_laid:Own P w K mg base 5 "_law_laid" ["_law_spots","_law_cell"] (k8 K c T4))(G_l_weights:Own P w K mg base 5 "_law_weights" ["_law_cell","_law_count"] (k8 K c K6))(G_l_any_pile:Own P w K mg base 5 "_law_any_pile" ["_law_cells","_law_cell"] (k8 K c D3))(G_hanging:Own P w K mg base 9 "hanging" ["wares","places"] (k8 K c F6))(G_pressed:Own P w K mg base 11 "pressed" ["wares","places","weights"] (spT TB (k8 K c A6)))(G_l_right:Own P w K mg base 7 "_law_right" ["_law_found","_law_spots","_law_weights_here"] (k8 K c F8)):FnOk P w K mg base (B7 P w) 13 f fd ["_law_script"] (spT TB (a3R K c)) :=
 (b2Q F T G_l_cell_at G_l_edges G_l_stack G_l_laid G_l_weights G_l_any_pile G_hanging G_pressed G_l_right ).imp fun vs H Q E ⟨hT,a,ns,e,h,hb,hl,q⟩=>⟨hT,b1W e h q (main ns hl hb)⟩
def cOf(l:List (Str×Addr))(x:Str):Addr:=(l.lookup x).getD 0
abbrev cL(c0:Addr):=cOf [("BadTurn",c0)]
theorem all_mk{w:World}{K:PySem.W.Frag}{h:Heap}{mg:Str→Option Value}{fa:Addr}(X:K.In h)(G:h.Ns mainGlobals mg)(hfa:mg "law" = some (.ref fa)){q:Program}{loose:List Str}{mean:ExcName→Option Value}{mb:Str→Option Value}(Tp:PyProof.Rows.Top q loose mean mg mb h)
  {c0:Addr} {f_0:Addr} {oc_0 kV_0 dc_0 pm_0 cd_0 ct_0:Value} {od_0 an_0:Option Addr} {sl_0:Array (Option Value)} {f_1:Addr} {oc_1 kV_1 dc_1 pm_1 cd_1 ct_1:Value} {od_1 an_1:Option Addr} {sl_1:Array (Option Value)} {f_2:Addr} {oc_2 kV_2 dc_2 pm_2 cd_2 ct_2:Value} {od_2 an_2:Option Addr} {sl_2:Array (Option Value)} {f_3:Addr} {oc_3 kV_3 dc_3 pm_3 cd_3 ct_3:Value} {od_3 an_3:Option Addr} {sl_3:Array (Option Value)} {f_4:Addr} {oc_4 kV_4 dc_4 pm_4 cd_4 ct_4:Value} {od_4 an_4:Option Addr} {sl_4:Array (Option Value)} {f_5:Addr} {oc_5 kV_5 dc_5 pm_5 cd_5 ct_5:Value} {od_5 an_5:Option Addr} {sl_5:Array (Option Value)} {f_6:Addr} {oc_6 kV_6 dc_6 pm_6 cd_6 ct_6:Value} {od_6 an_6:Option Addr} {sl_6:Array (Option Value)} {f_7:Addr} {oc_7 kV_7 dc_7 pm_7 cd_7 ct_7:Value} {od_7 an_7:Option Addr} {sl_7:Array (Option Value)} {f_8:Addr} {oc_8 kV_8 dc_8 pm_8 cd_8 ct_8:Value} {od_8 an_8:Option Addr} {sl_8:Array (Option Value)} {f_9:Addr} {oc_9 kV_9 dc_9 pm_9 cd_9 ct_9:Value} {od_9 an_9:Option Addr} {sl_9:Array (Option Value)} {f_10:Addr} {oc_10 kV_10 dc_10 pm_10 cd_10 ct_10:Value} {od_10 an_10:Option Addr} {sl_10:Array (Option Value)} {f_11:Addr} {oc_11 kV_11 dc_11 pm_11 cd_11 ct_11:Value} {od_11 an_11:Option Addr} {sl_11:Array (Option Value)} {f_12:Addr} {oc_12 kV_12 dc_12 pm_12 cd_12 ct_12:Value} {od_12 an_12:Option Addr} {sl_12:Array (Option Value)} {f_13:Addr} {oc_13 kV_13 dc_13 pm_13 cd_13 ct_13:Value} {od_13 an_13:Option Addr} {sl_13:Array (Option Value)} {f_14:Addr} {oc_14 kV_14 dc_14 pm_14 cd_14 ct_14:Value} {od_14 an_14:Option Addr} {sl_14:Array (Option Value)} {f_15:Addr} {oc_15 kV_15 dc_15 pm_15 cd_15 ct_15:Value} {od_15 an_15:Option Addr} {sl_15:Array (Option Value)} {f_16:Addr} {oc_16 kV_16 dc_16 pm_16 cd_16 ct_16:Value} {od_16 an_16:Option Addr} {sl_16:Array (Option Value)} {f_17:Addr} {oc_17 kV_17 dc_17 pm_17 cd_17 ct_17:Value} {od_17 an_17:Option Addr} {sl_17:Array (Option Value)} {f_18:Addr} {oc_18 kV_18 dc_18 pm_18 cd_18 ct_18:Value} {od_18 an_18:Option Addr} {sl_18:Array (Option Value)} {f_19:Addr} {oc_19 kV_19 dc_19 pm_19 cd_19 ct_19:Value} {od_19 an_19:Option Addr} {sl_19:Array (Option Value)} {f_20:Addr} {oc_20 kV_20 dc_20 pm_20 cd_20 ct_20:Value} {od_20 an_20:Option Addr} {sl_20:Array (Option Value)} {f_21:Addr} {oc_21 kV_21 dc_21 pm_21 cd_21 ct_21:Value} {od_21 an_21:Option Addr} {sl_21:Array (Option Value)} {f_22:Addr} {oc_22 kV_22 dc_22 pm_22 cd_22 ct_22:Value} {od_22 an_22:Option Addr} {sl_22:Array (Option Value)} {f_23:Addr} {oc_23 kV_23 dc_23 pm_23 cd_23 ct_23:Value} {od_23 an_23:Option Addr} {sl_23:Array (Option Value)} {f_24:Addr} {oc_24 kV_24 dc_24 pm_24 cd_24 ct_24:Value} {od_24 an_24:Option Addr} {sl_24:Array (Option Value)} {f_25:Addr} {oc_25 kV_25 dc_25 pm_25 cd_25 ct_25:Value} {od_25 an_25:Option Addr} {sl_25:Array (Option Value)} {cc_set_order Pt_set_order:Addr} {oq_set_order:Value} {oe_set_order:Option Addr} {vs_set_order:Array Value} {sm_set_order:Array (Option Value)}
  (a_0:PySem.W.nsIn K mainGlobals "sides_of" = some (some (.ref f_0)))
  (l_0:K.lookup f_0=some ⟨oc_0,od_0,.func (PySem.W.fnOf "sides_of" "sides_of" (n9 U6) (l7 U6) (c9 U6) .none kV_0 dc_0 pm_0 an_0 cd_0 ct_0),sl_0⟩)
  (c_0:PySem.W.codeIn K cd_0 "sides_of" = true)
  (k_0:PySem.W.keepIn K (.ref f_0)=true)
  (a_1:PySem.W.nsIn K mainGlobals "spot_of" = some (some (.ref f_1)))
  (l_1:K.lookup f_1=some ⟨oc_1,od_1,.func (PySem.W.fnOf "spot_of" "spot_of" (n9 W0) (l7 W0) (c9 W0) .none kV_1 dc_1 pm_1 an_1 cd_1 ct_1),sl_1⟩)
  (c_1:PySem.W.codeIn K cd_1 "spot_of" = true)
  (k_1:PySem.W.keepIn K (.ref f_1)=true)
  (a_2:PySem.W.nsIn K mainGlobals "spots_of" = some (some (.ref f_2)))
  (l_2:K.lookup f_2=some ⟨oc_2,od_2,.func (PySem.W.fnOf "spots_of" "spots_of" (n9 M5) (l7 M5) (c9 M5) .none kV_2 dc_2 pm_2 an_2 cd_2 ct_2),sl_2⟩)
  (c_2:PySem.W.codeIn K cd_2 "spots_of" = true)
  (k_2:PySem.W.keepIn K (.ref f_2)=true)
  (a_3:PySem.W.nsIn K mainGlobals "shared_width" = some (some (.ref f_3)))
  (l_3:K.lookup f_3=some ⟨oc_3,od_3,.func (PySem.W.fnOf "shared_width" "shared_width" (n9 K8) (l7 K8) (c9 K8) .none kV_3 dc_3 pm_3 an_3 cd_3 ct_3),sl_3⟩)
  (c_3:PySem.W.codeIn K cd_3 "shared_width" = true)
  (k_3:PySem.W.keepIn K (.ref f_3)=true)
  (a_4:PySem.W.nsIn K mainGlobals "touches_of" = some (some (.ref f_4)))
  (l_4:K.lookup f_4=some ⟨oc_4,od_4,.func (PySem.W.fnOf "touches_of" "touches_of" (n9 D2) (l7 D2) (c9 D2) .none kV_4 dc_4 pm_4 an_4 cd_4 ct_4),sl_4⟩)
  (c_4:PySem.W.codeIn K cd_4 "touches_of" = true)
  (k_4:PySem.W.keepIn K (.ref f_4)=true)
  (a_5:PySem.W.nsIn K mainGlobals "hanging" = some (some (.ref f_5)))
  (l_5:K.lookup f_5=some ⟨oc_5,od_5,.func (PySem.W.fnOf "hanging" "hanging" (n9 O2) (l7 O2) (c9 O2) .none kV_5 dc_5 pm_5 an_5 cd_5 ct_5),sl_5⟩)
  (c_5:PySem.W.codeIn K cd_5 "hanging" = true)
  (k_5:PySem.W.keepIn K (.ref f_5)=true)
  (a_6:PySem.W.nsIn K mainGlobals "set_order" = some (some (.ref f_6)))
  (l_6:K.lookup f_6=some ⟨oc_6,od_6,.func (PySem.W.fnOf "set_order" "set_order" (n9 K5) (l7 K5) (c9 K5) .none kV_6 dc_6 pm_6 an_6 cd_6 ct_6),sl_6⟩)
  (c_6:PySem.W.codeIn K cd_6 "set_order" = true)
  (k_6:PySem.W.keepIn K (.ref f_6)=true)
  (a_7:PySem.W.nsIn K mainGlobals "common_divisor" = some (some (.ref f_7)))
  (l_7:K.lookup f_7=some ⟨oc_7,od_7,.func (PySem.W.fnOf "common_divisor" "common_divisor" (n9 J0) (l7 J0) (c9 J0) .none kV_7 dc_7 pm_7 an_7 cd_7 ct_7),sl_7⟩)
  (c_7:PySem.W.codeIn K cd_7 "common_divisor" = true)
  (k_7:PySem.W.keepIn K (.ref f_7)=true)
  (a_8:PySem.W.nsIn K mainGlobals "reduced" = some (some (.ref f_8)))
  (l_8:K.lookup f_8=some ⟨oc_8,od_8,.func (PySem.W.fnOf "reduced" "reduced" (n9 W2) (l7 W2) (c9 W2) .none kV_8 dc_8 pm_8 an_8 cd_8 ct_8),sl_8⟩)
  (c_8:PySem.W.codeIn K cd_8 "reduced" = true)
  (k_8:PySem.W.keepIn K (.ref f_8)=true)
  (a_9:PySem.W.nsIn K mainGlobals "added" = some (some (.ref f_9)))
  (l_9:K.lookup f_9=some ⟨oc_9,od_9,.func (PySem.W.fnOf "added" "added" (n9 a0Q) (l7 a0Q) (c9 a0Q) .none kV_9 dc_9 pm_9 an_9 cd_9 ct_9),sl_9⟩)
  (c_9:PySem.W.codeIn K cd_9 "added" = true)
  (k_9:PySem.W.keepIn K (.ref f_9)=true)
  (a_10:PySem.W.nsIn K mainGlobals "pressed" = some (some (.ref f_10)))
  (l_10:K.lookup f_10=some ⟨oc_10,od_10,.func (PySem.W.fnOf "pressed" "pressed" (n9 W4) (l7 W4) (c9 W4) .none kV_10 dc_10 pm_10 an_10 cd_10 ct_10),sl_10⟩)
  (c_10:PySem.W.codeIn K cd_10 "pressed" = true)
  (k_10:PySem.W.keepIn K (.ref f_10)=true)
  (a_11:PySem.W.nsIn K mainGlobals "_law_cell_at" = some (some (.ref f_11)))
  (l_11:K.lookup f_11=some ⟨oc_11,od_11,.func (PySem.W.fnOf "_law_cell_at" "_law_cell_at" (n9 R7) (l7 R7) (c9 R7) .none kV_11 dc_11 pm_11 an_11 cd_11 ct_11),sl_11⟩)
  (c_11:PySem.W.codeIn K cd_11 "_law_cell_at" = true)
  (k_11:PySem.W.keepIn K (.ref f_11)=true)
  (a_12:PySem.W.nsIn K mainGlobals "_law_whole" = some (some (.ref f_12)))
  (l_12:K.lookup f_12=some ⟨oc_12,od_12,.func (PySem.W.fnOf "_law_whole" "_law_whole" (n9 W5) (l7 W5) (c9 W5) .none kV_12 dc_12 pm_12 an_12 cd_12 ct_12),sl_12⟩)
  (c_12:PySem.W.codeIn K cd_12 "_law_whole" = true)
  (k_12:PySem.W.keepIn K (.ref f_12)=true)
  (a_13:PySem.W.nsIn K mainGlobals "_law_mixed" = some (some (.ref f_13)))
  (l_13:K.lookup f_13=some ⟨oc_13,od_13,.func (PySem.W.fnOf "_law_mixed" "_law_mixed" (n9 W6) (l7 W6) (c9 W6) .none kV_13 dc_13 pm_13 an_13 cd_13 ct_13),sl_13⟩)
  (c_13:PySem.W.codeIn K cd_13 "_law_mixed" = true)
  (k_13:PySem.W.keepIn K (.ref f_13)=true)
  (a_14:PySem.W.nsIn K mainGlobals "_law_edges" = some (some (.ref f_14)))
  (l_14:K.lookup f_14=some ⟨oc_14,od_14,.func (PySem.W.fnOf "_law_edges" "_law_edges" (n9 W7) (l7 W7) (c9 W7) .none kV_14 dc_14 pm_14 an_14 cd_14 ct_14),sl_14⟩)
  (c_14:PySem.W.codeIn K cd_14 "_law_edges" = true)
  (k_14:PySem.W.keepIn K (.ref f_14)=true)
  (a_15:PySem.W.nsIn K mainGlobals "_law_stack" = some (some (.ref f_15)))
  (l_15:K.lookup f_15=some ⟨oc_15,od_15,.func (PySem.W.fnOf "_law_stack" "_law_stack" (n9 O3) (l7 O3) (c9 O3) .none kV_15 dc_15 pm_15 an_15 cd_15 ct_15),sl_15⟩)
  (c_15:PySem.W.codeIn K cd_15 "_law_stack" = true)
  (k_15:PySem.W.keepIn K (.ref f_15)=true)
  (a_16:PySem.W.nsIn K mainGlobals "_law_piled" = some (some (.ref f_16)))
  (l_16:K.lookup f_16=some ⟨oc_16,od_16,.func (PySem.W.fnOf "_law_piled" "_law_piled" (n9 O4) (l7 O4) (c9 O4) .none kV_16 dc_16 pm_16 an_16 cd_16 ct_16),sl_16⟩)
  (c_16:PySem.W.codeIn K cd_16 "_law_piled" = true)
  (k_16:PySem.W.keepIn K (.ref f_16)=true)
  (a_17:PySem.W.nsIn K mainGlobals "_law_order" = some (some (.ref f_17)))
  (l_17:K.lookup f_17=some ⟨oc_17,od_17,.func (PySem.W.fnOf "_law_order" "_law_order" (n9 W8) (l7 W8) (c9 W8) .none kV_17 dc_17 pm_17 an_17 cd_17 ct_17),sl_17⟩)
  (c_17:PySem.W.codeIn K cd_17 "_law_order" = true)
  (k_17:PySem.W.keepIn K (.ref f_17)=true)
  (a_18:PySem.W.nsIn K mainGlobals "_law_any_pile" = some (some (.ref f_18)))
  (l_18:K.lookup f_18=some ⟨oc_18,od_18,.func (PySem.W.fnOf "_law_any_pile" "_law_any_pile" (n9 y3) (l7 y3) (c9 y3) .none kV_18 dc_18 pm_18 an_18 cd_18 ct_18),sl_18⟩)
  (c_18:PySem.W.codeIn K cd_18 "_law_any_pile" = true)
  (k_18:PySem.W.keepIn K (.ref f_18)=true)
  (a_19:PySem.W.nsIn K mainGlobals "_law_laid" = some (some (.ref f_19)))
  (l_19:K.lookup f_19=some ⟨oc_19,od_19,.func (PySem.W.fnOf "_law_laid" "_law_laid" (n9 K3) (l7 K3) (c9 K3) .none kV_19 dc_19 pm_19 an_19 cd_19 ct_19),sl_19⟩)
  (c_19:PySem.W.codeIn K cd_19 "_law_laid" = true)
  (k_19:PySem.W.keepIn K (.ref f_19)=true)
  (a_20:PySem.W.nsIn K mainGlobals "_law_touch" = some (some (.ref f_20)))
  (l_20:K.lookup f_20=some ⟨oc_20,od_20,.func (PySem.W.fnOf "_law_touch" "_law_touch" (n9 W9) (l7 W9) (c9 W9) .none kV_20 dc_20 pm_20 an_20 cd_20 ct_20),sl_20⟩)
  (c_20:PySem.W.codeIn K cd_20 "_law_touch" = true)
  (k_20:PySem.W.keepIn K (.ref f_20)=true)
  (a_21:PySem.W.nsIn K mainGlobals "_law_weights" = some (some (.ref f_21)))
  (l_21:K.lookup f_21=some ⟨oc_21,od_21,.func (PySem.W.fnOf "_law_weights" "_law_weights" (n9 R8) (l7 R8) (c9 R8) .none kV_21 dc_21 pm_21 an_21 cd_21 ct_21),sl_21⟩)
  (c_21:PySem.W.codeIn K cd_21 "_law_weights" = true)
  (k_21:PySem.W.keepIn K (.ref f_21)=true)
  (a_22:PySem.W.nsIn K mainGlobals "_law_fraction" = some (some (.ref f_22)))
  (l_22:K.lookup f_22=some ⟨oc_22,od_22,.func (PySem.W.fnOf "_law_fraction" "_law_fraction" (n9 N9) (l7 N9) (c9 N9) .none kV_22 dc_22 pm_22 an_22 cd_22 ct_22),sl_22⟩)
  (c_22:PySem.W.codeIn K cd_22 "_law_fraction" = true)
  (k_22:PySem.W.keepIn K (.ref f_22)=true)
  (a_23:PySem.W.nsIn K mainGlobals "_law_balanced" = some (some (.ref f_23)))
  (l_23:K.lookup f_23=some ⟨oc_23,od_23,.func (PySem.W.fnOf "_law_balanced" "_law_balanced" (n9 O0) (l7 O0) (c9 O0) .none kV_23 dc_23 pm_23 an_23 cd_23 ct_23),sl_23⟩)
  (c_23:PySem.W.codeIn K cd_23 "_law_balanced" = true)
  (k_23:PySem.W.keepIn K (.ref f_23)=true)
  (a_24:PySem.W.nsIn K mainGlobals "_law_right" = some (some (.ref f_24)))
  (l_24:K.lookup f_24=some ⟨oc_24,od_24,.func (PySem.W.fnOf "_law_right" "_law_right" (n9 X0) (l7 X0) (c9 X0) .none kV_24 dc_24 pm_24 an_24 cd_24 ct_24),sl_24⟩)
  (c_24:PySem.W.codeIn K cd_24 "_law_right" = true)
  (k_24:PySem.W.keepIn K (.ref f_24)=true)
  (a_25:PySem.W.nsIn K mainGlobals "law" = some (some (.ref f_25)))
  (l_25:K.lookup f_25=some ⟨oc_25,od_25,.func (PySem.W.fnOf "law" "law" (n9 a0i) (l7 a0i) (c9 a0i) .none kV_25 dc_25 pm_25 an_25 cd_25 ct_25),sl_25⟩)
  (c_25:PySem.W.codeIn K cd_25 "law" = true)
  (k_25:PySem.W.keepIn K (.ref f_25)=true)
  (tc_set_order:cd_6=.ref cc_set_order)
  (tk_set_order:K.lookup cc_set_order=some ⟨oq_set_order,oe_set_order,.fields vs_set_order,sm_set_order⟩)
  (tp_set_order:vs_set_order.getD 11 .none=.ref Pt_set_order)
  (tn_set_order:K.lookup Pt_set_order=none)
  (tr_set_order:(PyProof.Rows.recsOf q).any (fun d=>d.name == "set_order")=true)
  (z_bool:PySem.W.nsIn K mainGlobals "bool" = some none)
  (z_enumerate:PySem.W.nsIn K mainGlobals "enumerate" = some none)
  (z_int:PySem.W.nsIn K mainGlobals "int" = some none)
  (z_isinstance:PySem.W.nsIn K mainGlobals "isinstance" = some none)
  (z_len:PySem.W.nsIn K mainGlobals "len" = some none)
  (z_list:PySem.W.nsIn K mainGlobals "list" = some none)
  (z_max:PySem.W.nsIn K mainGlobals "max" = some none)
  (z_min:PySem.W.nsIn K mainGlobals "min" = some none)
  (z_range:PySem.W.nsIn K mainGlobals "range" = some none)
  (z_reversed:PySem.W.nsIn K mainGlobals "reversed" = some none)
  (z_sorted:PySem.W.nsIn K mainGlobals "sorted" = some none)
  (z_sum:PySem.W.nsIn K mainGlobals "sum" = some none)
  (z_tuple:PySem.W.nsIn K mainGlobals "tuple" = some none)
  (z_zip:PySem.W.nsIn K mainGlobals "zip" = some none)
  (m_BadTurn:PySem.W.nsIn K mainGlobals "BadTurn" = some (some (.ref c0)))
  (x_BadTurn:PySem.W.excIn K c0 a5r "ValueError.__new__" = true)
  : ∃(fd:FuncData) (TB:List (Addr×Str)),(∀(s:Shared) (v:Value),BindsTo s fd ⟨[v],[]⟩ [("_law_script",v)])∧(∀Pa qq,TB.lookup Pa=some qq→(∃c,h.TableAt c Pa #[])∧K.lookup Pa=none)∧∃c:Str→Addr,∀base:Heap,K.In base→base.Ns mainGlobals mg→(∀b o,h.get? b=some o→o.cls≠.none→o.cls≠.type "list"→base.get? b=some o)→FnOk (PySem.Challenge.rw_cratefit_k74_whole_the_floor_carries_all).prog w K mg base (B7 (PySem.Challenge.rw_cratefit_k74_whole_the_floor_carries_all).prog w) 13 fa fd ["_law_script"] (spT TB (a3R K c)):=by
 have e:=hfa.symm.trans (PySem.W.mg_of X G a_25)
 cases e
 have T:Txt K mg (cL c0):=⟨PySem.W.mg_none_of X G z_bool,PySem.W.mg_none_of X G z_enumerate,PySem.W.mg_none_of X G z_int,PySem.W.mg_none_of X G z_isinstance,PySem.W.mg_none_of X G z_len,PySem.W.mg_none_of X G z_list,PySem.W.mg_none_of X G z_max,PySem.W.mg_none_of X G z_min,PySem.W.mg_none_of X G z_range,PySem.W.mg_none_of X G z_reversed,PySem.W.mg_none_of X G z_sorted,PySem.W.mg_none_of X G z_sum,PySem.W.mg_none_of X G z_tuple,PySem.W.mg_none_of X G z_zip,PySem.W.mg_of X G m_BadTurn,x_BadTurn⟩
 have TT_set_order:=b3H Tp X tr_set_order (PySem.W.mg_of X G a_6) l_6 tc_set_order tk_set_order tp_set_order
 refine⟨PySem.W.fnOf "law" "law" (n9 a0i) (l7 a0i) (c9 a0i) .none kV_25 dc_25 pm_25 an_25 cd_25 ct_25,[(Pt_set_order,("set_order.<locals>.<lambda>" : Str))],fun s v=>.of_eq rfl,fun Pa qq e=>?_,cOf [("BadTurn",c0)],fun base _ _ kp=>?_⟩
 ·simp only[List.lookup]at e
  split at e
  ·rename_i z;have z:=beq_iff_eq.mp z;subst z;exact⟨⟨_,TT_set_order.1⟩,tn_set_order⟩
  ·cases e
 have hL_set_order:List.lookup Pt_set_order [(Pt_set_order,("set_order.<locals>.<lambda>" : Str))]=some "set_order.<locals>.<lambda>" := by simp[List.lookup]
 have F_0:=B2 (st:=U6) l_0 c_0 k_0
 have B_0:=F_0.binds (ps:=["ware","lie"]) fun _ _ _ _ _ _ us hl=>match us,hl with | [_,_],_=>rfl
 have O_0:Own (PySem.Challenge.rw_cratefit_k74_whole_the_floor_carries_all).prog w K mg base 3 "sides_of" ["ware","lie"] (k8 K (cL c0) Y7):=⟨_,_,a6w F_0 T ,B_0,k_0,PySem.W.mg_of X G a_0⟩
 have F_1:=B2 (st:=W0) l_1 c_1 k_1
 have B_1:=F_1.binds (ps:=["ware","place"]) fun _ _ _ _ _ _ us hl=>match us,hl with | [_,_],_=>rfl
 have O_1:Own (PySem.Challenge.rw_cratefit_k74_whole_the_floor_carries_all).prog w K mg base 5 "spot_of" ["ware","place"] (k8 K (cL c0) O5):=⟨_,_,a7X F_1 T O_0,B_1,k_1,PySem.W.mg_of X G a_1⟩
 have F_2:=B2 (st:=M5) l_2 c_2 k_2
 have B_2:=F_2.binds (ps:=["wares","places"]) fun _ _ _ _ _ _ us hl=>match us,hl with | [_,_],_=>rfl
 have O_2:Own (PySem.Challenge.rw_cratefit_k74_whole_the_floor_carries_all).prog w K mg base 7 "spots_of" ["wares","places"] (k8 K (cL c0) E9):=⟨_,_,a6y F_2 T O_1,B_2,k_2,PySem.W.mg_of X G a_2⟩
 have F_3:=B2 (st:=K8) l_3 c_3 k_3
 have B_3:=F_3.binds (ps:=["one","other"]) fun _ _ _ _ _ _ us hl=>match us,hl with | [_,_],_=>rfl
 have O_3:Own (PySem.Challenge.rw_cratefit_k74_whole_the_floor_carries_all).prog w K mg base 3 "shared_width" ["one","other"] (k8 K (cL c0) C2):=⟨_,_,a3H F_3 T ,B_3,k_3,PySem.W.mg_of X G a_3⟩
 have F_4:=B2 (st:=D2) l_4 c_4 k_4
 have B_4:=F_4.binds (ps:=["spots","k"]) fun _ _ _ _ _ _ us hl=>match us,hl with | [_,_],_=>rfl
 have O_4:Own (PySem.Challenge.rw_cratefit_k74_whole_the_floor_carries_all).prog w K mg base 5 "touches_of" ["spots","k"] (k8 K (cL c0) u0):=⟨_,_,a44 F_4 T O_3,B_4,k_4,PySem.W.mg_of X G a_4⟩
 have F_5:=B2 (st:=O2) l_5 c_5 k_5
 have B_5:=F_5.binds (ps:=["wares","places"]) fun _ _ _ _ _ _ us hl=>match us,hl with | [_,_],_=>rfl
 have O_5:Own (PySem.Challenge.rw_cratefit_k74_whole_the_floor_carries_all).prog w K mg base 9 "hanging" ["wares","places"] (k8 K (cL c0) F6):=⟨_,_,a7Y F_5 T O_2 O_4,B_5,k_5,PySem.W.mg_of X G a_5⟩
 have F_6:=B2 (st:=K5) l_6 c_6 k_6
 have B_6:=F_6.binds (ps:=["wares","places"]) fun _ _ _ _ _ _ us hl=>match us,hl with | [_,_],_=>rfl
 have O_6:Own (PySem.Challenge.rw_cratefit_k74_whole_the_floor_carries_all).prog w K mg base 3 "set_order" ["wares","places"] (spT [(Pt_set_order,("set_order.<locals>.<lambda>" : Str))] (k8 K (cL c0) E4)):=⟨_,_,a5T F_6 T  (tc_set_order) (TT_set_order.2 base kp).1 (TT_set_order.2 base kp).2 hL_set_order,B_6,k_6,PySem.W.mg_of X G a_6⟩
 have F_7:=B2 (st:=J0) l_7 c_7 k_7
 have B_7:=F_7.binds (ps:=["one","other"]) fun _ _ _ _ _ _ us hl=>match us,hl with | [_,_],_=>rfl
 have O_7:Own (PySem.Challenge.rw_cratefit_k74_whole_the_floor_carries_all).prog w K mg base 3 "common_divisor" ["one","other"] (k8 K (cL c0) J1):=⟨_,_,a2A F_7 T ,B_7,k_7,PySem.W.mg_of X G a_7⟩
 have F_8:=B2 (st:=W2) l_8 c_8 k_8
 have B_8:=F_8.binds (ps:=["top","bottom"]) fun _ _ _ _ _ _ us hl=>match us,hl with | [_,_],_=>rfl
 have O_8:Own (PySem.Challenge.rw_cratefit_k74_whole_the_floor_carries_all).prog w K mg base 5 "reduced" ["top","bottom"] (k8 K (cL c0) X1):=⟨_,_,a7Z F_8 T O_7,B_8,k_8,PySem.W.mg_of X G a_8⟩
 have F_9:=B2 (st:=a0Q) l_9 c_9 k_9
 have B_9:=F_9.binds (ps:=["one","other"]) fun _ _ _ _ _ _ us hl=>match us,hl with | [_,_],_=>rfl
 have O_9:Own (PySem.Challenge.rw_cratefit_k74_whole_the_floor_carries_all).prog w K mg base 7 "added" ["one","other"] (k8 K (cL c0) C9):=⟨_,_,b0M F_9 T O_8,B_9,k_9,PySem.W.mg_of X G a_9⟩
 have F_10:=B2 (st:=W4) l_10 c_10 k_10
 have B_10:=F_10.binds (ps:=["wares","places","weights"]) fun _ _ _ _ _ _ us hl=>match us,hl with | [_,_,_],_=>rfl
 have O_10:Own (PySem.Challenge.rw_cratefit_k74_whole_the_floor_carries_all).prog w K mg base 11 "pressed" ["wares","places","weights"] (spT [(Pt_set_order,("set_order.<locals>.<lambda>" : Str))] (k8 K (cL c0) A6)):=⟨_,_,a70 F_10 T O_5 O_2 O_6 O_9 O_4,B_10,k_10,PySem.W.mg_of X G a_10⟩
 have F_11:=B2 (st:=R7) l_11 c_11 k_11
 have B_11:=F_11.binds (ps:=["_law_script","_law_k"]) fun _ _ _ _ _ _ us hl=>match us,hl with | [_,_],_=>rfl
 have O_11:Own (PySem.Challenge.rw_cratefit_k74_whole_the_floor_carries_all).prog w K mg base 3 "_law_cell_at" ["_law_script","_law_k"] (k8 K (cL c0) u6):=⟨_,_,a5V F_11 T ,B_11,k_11,PySem.W.mg_of X G a_11⟩
 have F_12:=B2 (st:=W5) l_12 c_12 k_12
 have B_12:=F_12.binds (ps:=["_law_found"]) fun _ _ _ _ _ _ us hl=>match us,hl with | [_],_=>rfl
 have O_12:Own (PySem.Challenge.rw_cratefit_k74_whole_the_floor_carries_all).prog w K mg base 3 "_law_whole" ["_law_found"] (k8 K (cL c0) O6):=⟨_,_,a72 F_12 T ,B_12,k_12,PySem.W.mg_of X G a_12⟩
 have F_13:=B2 (st:=W6) l_13 c_13 k_13
 have B_13:=F_13.binds (ps:=["_law_cell","_law_k"]) fun _ _ _ _ _ _ us hl=>match us,hl with | [_,_],_=>rfl
 have O_13:Own (PySem.Challenge.rw_cratefit_k74_whole_the_floor_carries_all).prog w K mg base 3 "_law_mixed" ["_law_cell","_law_k"] (k8 K (cL c0) x4):=⟨_,_,a74 F_13 T ,B_13,k_13,PySem.W.mg_of X G a_13⟩
 have F_14:=B2 (st:=W7) l_14 c_14 k_14
 have B_14:=F_14.binds (ps:=["_law_cell"]) fun _ _ _ _ _ _ us hl=>match us,hl with | [_],_=>rfl
 have O_14:Own (PySem.Challenge.rw_cratefit_k74_whole_the_floor_carries_all).prog w K mg base 5 "_law_edges" ["_law_cell"] (k8 K (cL c0) O7):=⟨_,_,a75 F_14 T O_13,B_14,k_14,PySem.W.mg_of X G a_14⟩
 have F_15:=B2 (st:=O3) l_15 c_15 k_15
 have B_15:=F_15.binds (ps:=["_law_cells","_law_edges_here","_law_unit"]) fun _ _ _ _ _ _ us hl=>match us,hl with | [_,_,_],_=>rfl
 have O_15:Own (PySem.Challenge.rw_cratefit_k74_whole_the_floor_carries_all).prog w K mg base 3 "_law_stack" ["_law_cells","_law_edges_here","_law_unit"] (k8 K (cL c0) O8):=⟨_,_,a76 F_15 T ,B_15,k_15,PySem.W.mg_of X G a_15⟩
 have F_16:=B2 (st:=O4) l_16 c_16 k_16
 have B_16:=F_16.binds (ps:=["_law_cells"]) fun _ _ _ _ _ _ us hl=>match us,hl with | [_],_=>rfl
 have O_16:Own (PySem.Challenge.rw_cratefit_k74_whole_the_floor_carries_all).prog w K mg base 3 "_law_piled" ["_law_cells"] (k8 K (cL c0) X2):=⟨_,_,a77 F_16 T ,B_16,k_16,PySem.W.mg_of X G a_16⟩
 have F_17:=B2 (st:=W8) l_17 c_17 k_17
 have B_17:=F_17.binds (ps:=["_law_rows","_law_cell"]) fun _ _ _ _ _ _ us hl=>match us,hl with | [_,_],_=>rfl
 have O_17:Own (PySem.Challenge.rw_cratefit_k74_whole_the_floor_carries_all).prog w K mg base 3 "_law_order" ["_law_rows","_law_cell"] (k8 K (cL c0) X3):=⟨_,_,a78 F_17 T ,B_17,k_17,PySem.W.mg_of X G a_17⟩
 have F_18:=B2 (st:=y3) l_18 c_18 k_18
 have B_18:=F_18.binds (ps:=["_law_cells","_law_cell"]) fun _ _ _ _ _ _ us hl=>match us,hl with | [_,_],_=>rfl
 have O_18:Own (PySem.Challenge.rw_cratefit_k74_whole_the_floor_carries_all).prog w K mg base 5 "_law_any_pile" ["_law_cells","_law_cell"] (k8 K (cL c0) D3):=⟨_,_,a45 F_18 T O_16 O_17,B_18,k_18,PySem.W.mg_of X G a_18⟩
 have F_19:=B2 (st:=K3) l_19 c_19 k_19
 have B_19:=F_19.binds (ps:=["_law_spots","_law_cell"]) fun _ _ _ _ _ _ us hl=>match us,hl with | [_,_],_=>rfl
 have O_19:Own (PySem.Challenge.rw_cratefit_k74_whole_the_floor_carries_all).prog w K mg base 5 "_law_laid" ["_law_spots","_law_cell"] (k8 K (cL c0) T4):=⟨_,_,a9g F_19 T O_13,B_19,k_19,PySem.W.mg_of X G a_19⟩
 have F_20:=B2 (st:=W9) l_20 c_20 k_20
 have B_20:=F_20.binds (ps:=["_law_one","_law_other"]) fun _ _ _ _ _ _ us hl=>match us,hl with | [_,_],_=>rfl
 have O_20:Own (PySem.Challenge.rw_cratefit_k74_whole_the_floor_carries_all).prog w K mg base 3 "_law_touch" ["_law_one","_law_other"] (k8 K (cL c0) E3):=⟨_,_,a7_ F_20 T ,B_20,k_20,PySem.W.mg_of X G a_20⟩
 have F_21:=B2 (st:=R8) l_21 c_21 k_21
 have B_21:=F_21.binds (ps:=["_law_cell","_law_count"]) fun _ _ _ _ _ _ us hl=>match us,hl with | [_,_],_=>rfl
 have O_21:Own (PySem.Challenge.rw_cratefit_k74_whole_the_floor_carries_all).prog w K mg base 5 "_law_weights" ["_law_cell","_law_count"] (k8 K (cL c0) K6):=⟨_,_,a5X F_21 T O_13,B_21,k_21,PySem.W.mg_of X G a_21⟩
 have F_22:=B2 (st:=N9) l_22 c_22 k_22
 have B_22:=F_22.binds (ps:=["_law_found"]) fun _ _ _ _ _ _ us hl=>match us,hl with | [_],_=>rfl
 have O_22:Own (PySem.Challenge.rw_cratefit_k74_whole_the_floor_carries_all).prog w K mg base 5 "_law_fraction" ["_law_found"] (k8 K (cL c0) D4):=⟨_,_,a46 F_22 T O_12,B_22,k_22,PySem.W.mg_of X G a_22⟩
 have F_23:=B2 (st:=O0) l_23 c_23 k_23
 have B_23:=F_23.binds (ps:=["_law_spots","_law_loads","_law_weights_here","_law_j"]) fun _ _ _ _ _ _ us hl=>match us,hl with | [_,_,_,_],_=>rfl
 have O_23:Own (PySem.Challenge.rw_cratefit_k74_whole_the_floor_carries_all).prog w K mg base 5 "_law_balanced" ["_law_spots","_law_loads","_law_weights_here","_law_j"] (k8 K (cL c0) D5):=⟨_,_,a47 F_23 T O_20,B_23,k_23,PySem.W.mg_of X G a_23⟩
 have F_24:=B2 (st:=X0) l_24 c_24 k_24
 have B_24:=F_24.binds (ps:=["_law_found","_law_spots","_law_weights_here"]) fun _ _ _ _ _ _ us hl=>match us,hl with | [_,_,_],_=>rfl
 have O_24:Own (PySem.Challenge.rw_cratefit_k74_whole_the_floor_carries_all).prog w K mg base 7 "_law_right" ["_law_found","_law_spots","_law_weights_here"] (k8 K (cL c0) F8):=⟨_,_,a8a F_24 T O_22 O_23,B_24,k_24,PySem.W.mg_of X G a_24⟩
 have F_25:=B2 (st:=a0i) l_25 c_25 k_25
 exact b4y F_25 T O_11 O_14 O_15 O_19 O_21 O_18 O_5 O_10 O_24
end Law
namespace Law
open PySem L2 PyProof.Rows
theorem walk{q:Program}{loose:List Str}{XP:(Str→Option Value)→Heap→Prop}{YP:World→Heap→Prop}{d:DefRec}{K:Params→PySem.W.Frag}(hdf:d.params.defaults=[])(hY:∀(w:World) (h:Heap),YP w h→(K w.params).In h)
  (F:∀(w:World) (mg mb:Str→Option Value) (fa:Addr) (h:Heap) (mean:ExcName→Option Value),(K w.params).In h→h.Ns mainGlobals mg→mg d.name=some (.ref fa)→PyProof.Rows.Top q (PySem.W.looseW q loose) mean mg mb h →
   ∃(fd:FuncData) (TB:List (Addr×Str)),(∀(s:Shared) (u:Value),BindsTo s fd ⟨[u],[]⟩ [("_law_script",u)])∧(∀Pa qq,TB.lookup Pa=some qq→(∃c,h.TableAt c Pa #[])∧(K w.params).lookup Pa=none)∧∃c:Str→Addr,∀base:Heap,(K w.params).In base→base.Ns mainGlobals mg→(∀b o,h.get? b=some o→o.cls≠.none→o.cls≠.type "list"→base.get? b=some o)→FnOk (PySem.Challenge.rw_cratefit_k74_whole_the_floor_carries_all).prog w (K w.params) mg base (B7 (PySem.Challenge.rw_cratefit_k74_whole_the_floor_carries_all).prog w) 13 fa fd ["_law_script"] (spT TB (a3R (K w.params) c))) :
  PySem.W.WalkO q loose XP YP (PySem.Challenge.rw_cratefit_k74_whole_the_floor_carries_all).row.toRowW d [] (fun f vs=>PySem.call f vs):=by
 refine L2.walk_ofT (l:=PySem.Challenge.rw_cratefit_k74_whole_the_floor_carries_all) (n:=63) (k:=13) (x := "_law_script") (K:=K) (CX:=fun w=>B7 (PySem.Challenge.rw_cratefit_k74_whole_the_floor_carries_all).prog w) (sp:=fun w vs H Q E=>∀c,a3R (K w.params) c vs H Q E) rfl (by decide) hdf ⟨rfl,by decide,by decide⟩ hY (fun w mg mb fa h mean KX G hm Tp=>?_) (fun w H a ns h1 h2 h3 c=>⟨a,ns,rfl,h3,h2,h1,fun _=>rfl⟩) fun w H s e s' z=>b4C H s e s' z
 obtain⟨fd,TB,hb,hTb,c,hF⟩:=F w mg mb fa h mean KX G hm Tp
 exact⟨fd,TB,hb,hTb,fun base kb nb kp=>(hF base kb nb kp).imp fun vs H Q E z=>⟨z.1,z.2 c⟩⟩
end Law
local macro_rules|`(#check 0)=>do
 let g:=fun(n:Lean.Name)=>do
  let y:=Lean.mkIdent (.str `PySem.W.Fast s!"tw{n.hash}")
  `(theorem $y:ident : True:=trivial)
 let mut r:=#[←g `PySem.Challenge.pw_cratefit_k74_whole_the_floor_carries_all]
 for x in ["tree_47","tree_63","tree_78","tree_126","tree_211","tree_272","heap_39","heap_46","heap_273","sts_49","sts_64","sts_79","sts_127","sts_212","view_39","env_41"]++(List.range 230).map (s!"o_{·+43}") do r:=r.push (←g (.str `PySem.Challenge.cw_cratefit_k74_whole_the_floor_carries_all_holds x))
 return Lean.mkNullNode r
#check 0
open PySem.W
set_option maxRecDepth 100000 in
set_option maxHeartbeats 0 in
theorem PySem.Challenge.cw_cratefit_k74_whole_the_floor_carries_all_holds : PySem.Challenge.rw_cratefit_k74_whole_the_floor_carries_all.Holds := by
 w_on;o_law;k_head; (case hw=>w_witness2)
 k_fill
 refine Law.walk rfl (fun w h Y=>PySem.W.km_in_of Y) ?F
 case F =>
  intro w mg mb fa h mean KX G hmg Tp
  refine' Law.all_mk KX G hmg Tp ?a_sides_of ?l_sides_of ?c_sides_of ?k_sides_of ?a_spot_of ?l_spot_of ?c_spot_of ?k_spot_of ?a_spots_of ?l_spots_of ?c_spots_of ?k_spots_of ?a_shared_width ?l_shared_width ?c_shared_width ?k_shared_width ?a_touches_of ?l_touches_of ?c_touches_of ?k_touches_of ?a_hanging ?l_hanging ?c_hanging ?k_hanging ?a_set_order ?l_set_order ?c_set_order ?k_set_order ?a_common_divisor ?l_common_divisor ?c_common_divisor ?k_common_divisor ?a_reduced ?l_reduced ?c_reduced ?k_reduced ?a_added ?l_added ?c_added ?k_added ?a_pressed ?l_pressed ?c_pressed ?k_pressed ?a_l_cell_at ?l_l_cell_at ?c_l_cell_at ?k_l_cell_at ?a_l_whole ?l_l_whole ?c_l_whole ?k_l_whole ?a_l_mixed ?l_l_mixed ?c_l_mixed ?k_l_mixed ?a_l_edges ?l_l_edges ?c_l_edges ?k_l_edges ?a_l_stack ?l_l_stack ?c_l_stack ?k_l_stack ?a_l_piled ?l_l_piled ?c_l_piled ?k_l_piled ?a_l_order ?l_l_order ?c_l_order ?k_l_order ?a_l_any_pile ?l_l_any_pile ?c_l_any_pile ?k_l_any_pile ?a_l_laid ?l_l_laid ?c_l_laid ?k_l_laid ?a_l_touch ?l_l_touch ?c_l_touch ?k_l_touch ?a_l_weights ?l_l_weights ?c_l_weights ?k_l_weights ?a_l_fraction ?l_l_fraction ?c_l_fraction ?k_l_fraction ?a_l_balanced ?l_l_balanced ?c_l_balanced ?k_l_balanced ?a_l_right ?l_l_right ?c_l_right ?k_l_right ?a_law ?l_law ?c_law ?k_law ?tc_set_order ?tk_set_order ?tp_set_order ?tn_set_order ?tr_set_order ?z_bool ?z_enumerate ?z_int ?z_isinstance ?z_len ?z_list ?z_max ?z_min ?z_range ?z_reversed ?z_sorted ?z_sum ?z_tuple ?z_zip ?m_BadTurn ?x_BadTurn
  (case a_sides_of=>k_is)
  (case l_sides_of=>k_is)
  (case c_sides_of=>k_is)
  (case k_sides_of=>k_is)
  (case a_spot_of=>k_is)
  (case l_spot_of=>k_is)
  (case c_spot_of=>k_is)
  (case k_spot_of=>k_is)
  (case a_spots_of=>k_is)
  (case l_spots_of=>k_is)
  (case c_spots_of=>k_is)
  (case k_spots_of=>k_is)
  (case a_shared_width=>k_is)
  (case l_shared_width=>k_is)
  (case c_shared_width=>k_is)
  (case k_shared_width=>k_is)
  (case a_touches_of=>k_is)
  (case l_touches_of=>k_is)
  (case c_touches_of=>k_is)
  (case k_touches_of=>k_is)
  (case a_hanging=>k_is)
  (case l_hanging=>k_is)
  (case c_hanging=>k_is)
  (case k_hanging=>k_is)
  (case a_set_order=>k_is)
  (case l_set_order=>k_is)
  (case c_set_order=>k_is)
  (case k_set_order=>k_is)
  (case a_common_divisor=>k_is)
  (case l_common_divisor=>k_is)
  (case c_common_divisor=>k_is)
  (case k_common_divisor=>k_is)
  (case a_reduced=>k_is)
  (case l_reduced=>k_is)
  (case c_reduced=>k_is)
  (case k_reduced=>k_is)
  (case a_added=>k_is)
  (case l_added=>k_is)
  (case c_added=>k_is)
  (case k_added=>k_is)
  (case a_pressed=>k_is)
  (case l_pressed=>k_is)
  (case c_pressed=>k_is)
  (case k_pressed=>k_is)
  (case a_l_cell_at=>k_is)
  (case l_l_cell_at=>k_is)
  (case c_l_cell_at=>k_is)
  (case k_l_cell_at=>k_is)
  (case a_l_whole=>k_is)
  (case l_l_whole=>k_is)
  (case c_l_whole=>k_is)
  (case k_l_whole=>k_is)
  (case a_l_mixed=>k_is)
  (case l_l_mixed=>k_is)
  (case c_l_mixed=>k_is)
  (case k_l_mixed=>k_is)
  (case a_l_edges=>k_is)
  (case l_l_edges=>k_is)
  (case c_l_edges=>k_is)
  (case k_l_edges=>k_is)
  (case a_l_stack=>k_is)
  (case l_l_stack=>k_is)
  (case c_l_stack=>k_is)
  (case k_l_stack=>k_is)
  (case a_l_piled=>k_is)
  (case l_l_piled=>k_is)
  (case c_l_piled=>k_is)
  (case k_l_piled=>k_is)
  (case a_l_order=>k_is)
  (case l_l_order=>k_is)
  (case c_l_order=>k_is)
  (case k_l_order=>k_is)
  (case a_l_any_pile=>k_is)
  (case l_l_any_pile=>k_is)
  (case c_l_any_pile=>k_is)
  (case k_l_any_pile=>k_is)
  (case a_l_laid=>k_is)
  (case l_l_laid=>k_is)
  (case c_l_laid=>k_is)
  (case k_l_laid=>k_is)
  (case a_l_touch=>k_is)
  (case l_l_touch=>k_is)
  (case c_l_touch=>k_is)
  (case k_l_touch=>k_is)
  (case a_l_weights=>k_is)
  (case l_l_weights=>k_is)
  (case c_l_weights=>k_is)
  (case k_l_weights=>k_is)
  (case a_l_fraction=>k_is)
  (case l_l_fraction=>k_is)
  (case c_l_fraction=>k_is)
  (case k_l_fraction=>k_is)
  (case a_l_balanced=>k_is)
  (case l_l_balanced=>k_is)
  (case c_l_balanced=>k_is)
  (case k_l_balanced=>k_is)
  (case a_l_right=>k_is)
  (case l_l_right=>k_is)
  (case c_l_right=>k_is)
  (case k_l_right=>k_is)
  (case a_law=>k_is)
  (case l_law=>k_is)
  (case c_law=>k_is)
  (case k_law=>k_is)
  (case tc_set_order=>exact rfl)
  (case tk_set_order=>k_is)
  (case tp_set_order=>exact rfl)
  (case tn_set_order=>first | k_is | rfl | decide +kernel)
  (case tr_set_order=>first | rfl | decide +kernel)
  (case z_bool=>k_is)
  (case z_enumerate=>k_is)
  (case z_int=>k_is)
  (case z_isinstance=>k_is)
  (case z_len=>k_is)
  (case z_list=>k_is)
  (case z_max=>k_is)
  (case z_min=>k_is)
  (case z_range=>k_is)
  (case z_reversed=>k_is)
  (case z_sorted=>k_is)
  (case z_sum=>k_is)
  (case z_tuple=>k_is)
  (case z_zip=>k_is)
  (case m_BadTurn=>k_is)
  (case x_BadTurn=>kernel_rfl)
