import PyProof.Rows.All
import Wide.All
import OpenK.AllK
import Wide.FinOn
import Lean
import PyProof.EqAt
import PyProof.EqKinds
import PyProof.TupleCall
import KE.KLam
import KE.KSortKey
import PyProof.ListRange
import PyProof.CollectIter
import PyProof.Rows.RuleB_bool
import PySem.Challenge.RW_cratefit_k65_drawn_sign_by_sign
set_option Elab.async false
set_option linter.all false
set_option maxRecDepth 100000
set_option hygiene false
namespace L2
open PySem PySem.Spec PyProof.Rows
abbrev t6:=Sum Int Str
def a7c:t6→Value→Bool
 | .inl k,v=>Value.isInt k v
 | .inr x,v=>Value.isStrOf x v
def b07(w:World):t6→Int
 | .inl k=>hashInt k
 | .inr x=>hashStr w x
theorem v9:∀{k:t6} {v:Value},a7c k v=true→(∃i t,k=Sum.inl i∧v=Value.int i t)∨(∃x t,k=Sum.inr x∧v=Value.str x t)
 | .inl i,v,h=>by
  obtain⟨t,e⟩:=Value.isInt_shape (k:=i) (v:=v) h
  exact .inl ⟨i,t,rfl,e⟩
 | .inr x,v,h=>by
  obtain⟨t,e⟩:=Value.isStrOf_shape (x:=x) (v:=v) h
  exact .inr ⟨x,t,rfl,e⟩
theorem a9h(a b:Int):decide ((Sum.inl a:t6)=Sum.inl b)=(a == b):=by
 by_cases e:a=b
 ·subst e;simp
 ·have h:¬(Sum.inl a:t6)=Sum.inl b:=fun q=>e (Sum.inl.inj q)
  rw[decide_eq_false h]
  exact(beq_eq_false_iff_ne.mpr e).symm
theorem a9i(a b:Str):decide ((Sum.inr a:t6)=Sum.inr b)=decide (a=b):=by
 by_cases e:a=b
 ·subst e;simp
 ·have h:¬(Sum.inr a:t6)=Sum.inr b:=fun q=>e (Sum.inr.inj q)
  rw[decide_eq_false h,decide_eq_false e]
theorem a9j(a:Int)(b:Str):decide ((Sum.inl a:t6)=Sum.inr b)=false:=decide_eq_false (fun q=>nomatch q)
theorem a9k(a:Str)(b:Int):decide ((Sum.inr a:t6)=Sum.inl b)=false:=decide_eq_false (fun q=>nomatch q)
def a3A(prog:Program)(w:World):PySem.KeyKind prog w t6 where
 is:=a7c
 hash:=b07 w
 inj:=fun v a b ha hb=>by
  rcases v9 ha with⟨i,t,rfl,rfl⟩ | ⟨x,t,rfl,rfl⟩
  ·rcases v9 hb with⟨j,u,rfl,e⟩ | ⟨y,u,rfl,e⟩
   ·injection e with e1 _;rw[e1]
   ·exact nomatch e
  ·rcases v9 hb with⟨j,u,rfl,e⟩ | ⟨y,u,rfl,e⟩
   ·exact nomatch e
   ·injection e with e1 _;rw[e1]
 byValue:=fun k v h=>by
  rcases v9 h with⟨i,t,rfl,rfl⟩ | ⟨x,t,rfl,rfl⟩<;>rfl
 pyHash:=fun hv h=>by
  rcases v9 hv with⟨i,t,rfl,rfl⟩ | ⟨x,t,rfl,rfl⟩
  ·exact wpAny_pyHash_int h
  ·exact wpAny_pyHash_str h
 eqBool:=fun hu hv h=>by
  rcases v9 hu with⟨i,t,rfl,rfl⟩ | ⟨x,t,rfl,rfl⟩
  ·rcases v9 hv with⟨j,u,rfl,rfl⟩ | ⟨y,u,rfl,rfl⟩
   ·rw[a9h]at h;exact wpAny_eqBool_int h
   ·rw[a9j]at h;exact SeqAt.EqAt.int_str i t y u _ _ _ _ h
  ·rcases v9 hv with⟨j,u,rfl,rfl⟩ | ⟨y,u,rfl,rfl⟩
   ·rw[a9k]at h;exact SeqAt.EqAt.str_int x t j u _ _ _ _ h
   ·rw[a9i]at h;exact wpAny_eqBool_str h
 «strs» := fun k x t v h=>by
  rcases v9 h with⟨i,u,rfl,e⟩ | ⟨y,u,rfl,e⟩
  ·exact nomatch e
  ·injection e with e1 _
   subst e1
   cases v<;>rfl
inductive V where
 | non | bl (b:Bool) | int (i:Int) | str (x:Str) | byt (b:Array UInt8) | flt (b:UInt64) | ref (a:Addr) | ty (n:String)
 deriving DecidableEq
def RelV:V→Value→Prop
 | .non,u=>u=Value.none
 | .bl b,u=>u=Value.bool b
 | .int i,u=>∃t,u=Value.int i t
 | .str x,u=>∃t,u=Value.str x t
 | .byt b,u=>∃t,u=Value.bytes b t
 | .flt b,u=>∃t,u=Value.float b t
 | .ref a,u=>u=Value.ref a
 | .ty n,u=>u=Value.type n
abbrev Vals:List V→List Value→Prop:=Paired RelV
theorem Vals.length{xs:List V}{us:List Value}(r:Vals xs us):xs.length=us.length:=Paired.length r
theorem Vals.get:∀{xs:List V} {us:List Value} {i:Nat} {x:V},Vals xs us→xs[i]? = some x→∃u,us[i]? = some u∧RelV x u
 | _,_,_,_,.nil,e=>by simp at e
 | _,_,0,_,.cons r _,e=>by simp at e;subst e;exact⟨_,rfl,r⟩
 | _,_,i+1,x,.cons _ t,e=>by
  obtain⟨u,h1,h2⟩:=Vals.get (i:=i) (x:=x) t (by simpa using e)
  exact⟨u,by simpa using h1,h2⟩
theorem Vals.set{x:V}{u:Value}(r:RelV x u):∀{xs:List V} {us:List Value} (i:Nat),Vals xs us→Vals (xs.set i x) (us.set i u)
 | _,_,_,.nil=>.nil
 | _,_,0,.cons _ t=>.cons r t
 | _,_,i+1,.cons q t=>.cons q (Vals.set r i t)
theorem Vals.append:∀{xs ys:List V} {us ws:List Value},Vals xs us→Vals ys ws→Vals (xs++ys) (us++ws)
 | _,_,_,_,.nil,s=>s
 | _,_,_,_,.cons r t,s=>.cons r (Vals.append t s)
theorem Vals.take:∀{xs:List V} {us:List Value} (n:Nat),Vals xs us→Vals (xs.take n) (us.take n)
 | _,_,0,_=>.nil
 | _,_,_+1,.nil=>.nil
 | _,_,n+1,.cons r t=>.cons r (Vals.take n t)
theorem Vals.drop:∀{xs:List V} {us:List Value} (n:Nat),Vals xs us→Vals (xs.drop n) (us.drop n)
 | _,_,0,r=>r
 | _,_,_+1,.nil=>.nil
 | _,_,n+1,.cons _ t=>Vals.drop n t
def RelO:Option V→Option Value→Prop
 | some v,some u=>RelV v u
 | none,none=>True
 | _,_=>False
def KV{κ:Type}:List (κ×V)→List (κ×Value)→Prop:=Paired fun(p:κ×V) (q:κ×Value)=>p.1=q.1∧RelV p.2 q.2
def kV:t6→V
 | .inl i=>.int i
 | .inr x=>.str x
inductive HO where
 /-- a list -/
 | lst (xs:List V)
 /-- a tuple (never changes) -/
 | tup (xs:List V)
 /-- a dict whose keys are ints and texts; one whose keys are tuples of ints and texts (the empty one is both) -/
 | dK (kvs:List (t6×V)) | dT (kvs:List (List t6×V))
 /-- a set of ints: its members, its size -/
 | set (S:Int→Bool) (n:Nat)
 /-- an instance of the class at C, its dict at dx, its attributes -/
 | ins (C dx:Addr) (fs:List (Str×V))
 /-- the dict of the instance at x -/
 | own (x:Addr)
 /-- the dict of an exception -/
 | xd (fs:List (Str×V))
 /-- a bound method, f of x -/
 | met (f x:Addr)
 /-- a range object lo, lo + 1, .. below hi -/
 | rng (lo hi:Int)
 /-- a thing that is known to the object (the script; a dict while a loop walks it): read, never written while it is so -/
 | frz (o:Obj) (u:HO)
 /-- a code object's table -/
 | tbl (ps:Array Value)
 /-- any other thing, by what is true of its one object (a def of one's own: SetO a S n := HO.ext fun h => ..) -/
 | ext (φ:Heap→Prop)
abbrev Hp:=Addr→Option HO
def upd(H:Hp)(a:Addr)(o:HO):Hp:=fun b=>if b=a then some o else H b
theorem i0{H:Hp}{a:Addr}{o:HO}:upd H a o a=some o:=by unfold upd;rw[if_pos rfl]
theorem c8{H:Hp}{a b:Addr}{o:HO}(h:b≠a):upd H a o b=H b:=by unfold upd;rw[if_neg h]
theorem b0B{H:Hp}{a b:Addr}{o u:HO}(h:H a=some o)(h':H b=some u)(d:o≠u):a≠b:=by
 intro e;subst e;rw[h]at h';exact d (Option.some.inj h')
theorem m8{H:Hp}{a b:Addr}{o:HO}(h:H a=some o)(h':H b=none):a≠b:=by
 intro e;subst e;rw[h]at h';cases h'
section
variable (P:Program)(w:World)
def ObjOk(H:Hp)(h:Heap)(a:Addr):HO→Prop
 | .lst xs=>xs.length≤sizeLine∧∃(its:List Value) (n:Nat),Vals xs its∧h.get? a=some { cls:=.type "list",data:=.seq its.toArray n }
 | .tup xs=>xs.length≤sizeLine∧∃its:List Value,Vals xs its∧IsTup h a its.toArray
 | .dK kvs=>kvs.length≤sizeLine∧(a == sysModules)=false∧∃vs,KV kvs vs∧h.DictOf (a3A P w) a vs
 | .dT kvs=>kvs.length≤sizeLine∧(a == sysModules)=false∧∃xs:List (List t6×Addr×Value),
   Paired (fun(p:List t6×V) (q:List t6×Addr×Value)=>p.1=q.1∧H q.2.1=some (.tup (p.1.map kV))∧RelV p.2 q.2.2) kvs xs ∧
   ∃o es ep,h.get? a=some o∧o.ExactDict∧o.data=.dict es ep∧es.toList=xs.map (entryOfKey (tupleKind (a3A P w)))∧(xs.map (·.1)).Nodup
 | .set S n=>h.SetOf (intKind P w) a S n
 | .ins C dx fs=>H dx=some (.own a)∧fs.length≤1000∧dx≠a∧h.get? a=some (W.instObj C dx) ∧
   ∃mA,h.Ns1 dx mA∧(∀f,RelO (fs.lookup f) (mA f))∧PySem.Within mA (fs.map (·.1))
 | .own _=>∃o,h.get? a=some o
 | .xd fs=>∃mA,h.Ns1 a mA∧∀f,RelO (fs.lookup f) (mA f)
 | .rng lo hi=>∃t u v,h.get? a=some { cls:=.type "range",data:=.fields #[.int lo t,.int hi u,.int 1 v] }
 | .frz o u=>h.get? a=some o∧ObjOk H h a u
 | .tbl qs=>∃ps:Array Value,h.get? a=some { cls:=.none,data:=.fields ps }∧TriplesOk ps.toList∧∀pos cv,codeAmong pos ps.toList=some cv→∃c oc u,cv=Value.ref c∧H c=some (.frz oc u)∧∃vs q t t2,oc.data=.fields vs∧vs[1]? = some (Value.str q t2)∧qs[0]? = some (Value.str q t)
 | .met f x=>h.get? a=some (W.methodObj (.ref f) (.ref x))
 | .ext φ=>φ h∧(∃o,h.get? a=some o)∧∀h1 h2:Heap,φ h1→(∀o,h1.get? a=some o→h2.get? a=some o)→φ h2
def HOk(H:Hp)(h:Heap):Prop:=∀a o,H a=some o→ObjOk P w H h a o
end
section
variable {P:Program}{w:World}{H H':Hp}{h h':Heap}{a:Addr}{o:HO}
theorem ObjOk.lt(x:ObjOk P w H h a o):a<h.objs.size:=by
 cases o with
 | lst xs=>obtain⟨_,_,_,_,e⟩:=x;exact Heap.lt_size e
 | tup xs=>obtain⟨_,_,_,p⟩:=x;exact p.lt
 | dK kvs=>obtain⟨_,_,_,_,o,_,_,e,_⟩:=x;exact Heap.lt_size e
 | dT kvs=>obtain⟨_,_,_,_,o,_,_,e,_⟩:=x;exact Heap.lt_size e
 | set S n=>obtain⟨o,_,_,_,e,_⟩:=x;exact Heap.lt_size e
 | ins C dx fs=>obtain⟨_,_,_,e,_⟩:=x;exact Heap.lt_size e
 | own y=>obtain⟨_,e⟩:=x;exact Heap.lt_size e
 | xd fs=>obtain⟨_,⟨_,_,_,e,_⟩,_⟩:=x;exact Heap.lt_size e
 | rng lo hi=>obtain⟨_,_,_,e⟩:=x;exact Heap.lt_size e
 | frz ob u=>obtain⟨e,_⟩:=x;exact Heap.lt_size e
 | tbl ps=>obtain⟨_,e,_⟩:=x;exact Heap.lt_size e
 | met f y=>exact Heap.lt_size (show h.get? a=some _ from x)
 | ext φ=>obtain⟨_,⟨_,e⟩,_⟩:=x;exact Heap.lt_size e
theorem Paired.mapP{α β:Type}{F G:α→β→Prop}:∀{l₁:List α} {l₂:List β},Paired F l₁ l₂→(∀a b,F a b→G a b)→Paired G l₁ l₂
 | _,_,.nil,_=>.nil
 | _,_,.cons r t,f=>.cons (f _ _ r) (Paired.mapP t f)
theorem ObjOk.stay(x:ObjOk P w H h a o)(k:∀b u,(b=a∨H b=some (.own a))→h.get? b=some u→h'.get? b=some u)
  (ho:∀b,H b=some (.own a)→H' b=some (.own a)) (ht:∀b xs,H b=some (.tup xs)→H' b=some (.tup xs)) (hz:∀b ob u,H b=some (.frz ob u)→H' b=some (.frz ob u)):ObjOk P w H' h' a o:=by
 induction o with
 | lst xs=>obtain⟨z,its,n,r,e⟩:=x;exact⟨z,its,n,r,k _ _ (.inl rfl) e⟩
 | tup xs=>obtain⟨z,its,r,ob,e,c⟩:=x;exact⟨z,its,r,ob,k _ _ (.inl rfl) e,c⟩
 | dK kvs=>obtain⟨z,y,vs,r,ob,es,ep,e,c⟩:=x;exact⟨z,y,vs,r,ob,es,ep,k _ _ (.inl rfl) e,c⟩
 | dT kvs =>
  obtain⟨z,y,xs,r,ob,es,ep,e,c⟩:=x
  exact⟨z,y,xs,Paired.mapP r fun p q z=>⟨z.1,ht _ _ z.2.1,z.2.2⟩,ob,es,ep,k _ _ (.inl rfl) e,c⟩
 | set S n=>obtain⟨ob,es,ep,t,e,c⟩:=x;exact⟨ob,es,ep,t,k _ _ (.inl rfl) e,c⟩
 | ins C dx fs =>
  obtain⟨d,z,ne,e,mA,⟨od,es,ep,e2,c⟩,r⟩:=x
  exact⟨ho _ d,z,ne,k _ _ (.inl rfl) e,mA,⟨od,es,ep,k _ _ (.inr d) e2,c⟩,r⟩
 | own y=>obtain⟨ob,e⟩:=x;exact⟨ob,k _ _ (.inl rfl) e⟩
 | xd fs=>obtain⟨mA,⟨od,es,ep,e,c⟩,r⟩:=x;exact⟨mA,⟨od,es,ep,k _ _ (.inl rfl) e,c⟩,r⟩
 | rng lo hi=>obtain⟨t,u,v,e⟩:=x;exact⟨t,u,v,k _ _ (.inl rfl) e⟩
 | frz ob u ih=>obtain⟨e,q⟩:=x;exact⟨k _ _ (.inl rfl) e,ih q⟩
 | tbl qs =>
  obtain⟨ps,e,tr,al⟩:=x
  refine⟨ps,k a _ (.inl rfl) e,tr,fun pos cv q=>?_⟩
  obtain⟨c,oc,u,e1,e3,r⟩:=al pos cv q
  exact⟨c,oc,u,e1,hz _ _ _ e3,r⟩
 | met f y =>
  have e:h.get? a=some (W.methodObj (.ref f) (.ref y)):=x
  show h'.get? a=some (W.methodObj (.ref f) (.ref y))
  exact k a _ (.inl rfl) e
 | ext φ=>obtain⟨p,⟨o,e⟩,st⟩:=x;exact⟨st _ _ p fun o q=>k _ _ (.inl rfl) q,⟨o,k _ _ (.inl rfl) e⟩,st⟩
theorem HOk.lt(x:HOk P w H h)(e:H a=some o):a<h.objs.size:=(x a o e).lt
theorem HOk.fresh(x:HOk P w H h)(e:h.objs.size≤a):H a=none:=by
 cases q:H a with
 | none=>rfl
 | some u=>exact absurd (Nat.lt_of_lt_of_le (x.lt q) e) (Nat.lt_irrefl _)
theorem HOk.kept(x:HOk P w H h)(k:∀b u,h.get? b=some u→h'.get? b=some u):HOk P w H h':=fun a o e =>
 (x a o e).stay (fun b u _ q=>k b u q) (fun _ q=>q) (fun _ _ q=>q) fun _ _ _ q=>q
theorem HOk.laid(x:HOk P w H h)(k:∀b u,h.get? b=some u→h'.get? b=some u)(hp:h.objs.size≤a)(new:ObjOk P w (upd H a o) h' a o):HOk P w (upd H a o) h':=fun b u e=>by
 have hn:=x.fresh hp
 by_cases hb:b=a
 ·subst hb;rw[i0]at e;cases e;exact new
 ·rw[c8 hb]at e
  exact(x b u e).stay (fun c v _ q=>k c v q) (fun c q=>by rw[c8 (m8 q hn)];exact q) (fun c xs q=>by rw[c8 (m8 q hn)];exact q) fun c ob u q=>by rw[c8 (m8 q hn)];exact q
end
def Rd(H:Hp)(a:Addr)(u:HO):Prop:=H a=some u∨∃o,H a=some (.frz o u)
theorem Rd.of{H:Hp}{a:Addr}{u:HO}(h:H a=some u):Rd H a u:=.inl h
theorem Rd.ok{P:Program}{w:World}{H:Hp}{h:Heap}{a:Addr}{u:HO}(r:Rd H a u)(x:HOk P w H h):ObjOk P w H h a u:=by
 rcases r with r | ⟨o,r⟩
 ·exact x a u r
 ·obtain⟨_,q⟩:=x a _ r
  exact q
def Mut:Option HO→Prop
 | some (.lst _)=>True
 | some (.dK _)=>True
 | some (.dT _)=>True
 | some (.set _ _)=>True
 | some (.ins _ _ _)=>True
 | some (.ext _)=>True
 | _=>False
section
variable {P:Program}{w:World}{H:Hp}{h h':Heap}{x e:Addr}{o':HO}
theorem HOk.write(ok:HOk P w H h)(mu:Mut (H x))(he:e=x∨H e=some (.own x))(k:∀b u,b≠e→h.get? b=some u→h'.get? b=some u)(heo:∃u,h'.get? e=some u)
  (new:ObjOk P w (upd H x o') h' x o'):HOk P w (upd H x o') h':=fun b u q=>by
 have nown:∀c y,H c=some (.own y)→c≠x:=fun c y r z=>by subst z;rw[r]at mu;exact mu
 have ntup:∀c xs,H c=some (.tup xs)→c≠x:=fun c xs r z=>by subst z;rw[r]at mu;exact mu
 by_cases hb:b=x
 ·subst hb;rw[i0]at q;cases q;exact new
 ·rw[c8 hb]at q
  by_cases hbe:b=e
  ·have q':H b=some (.own x):=by
    rcases he with z | z
    ·exact absurd (hbe.trans z) hb
    ·rw[hbe];exact z
   rw[q]at q';cases q'
   obtain⟨v,hv⟩:=heo
   exact⟨v,by rw[hbe];exact hv⟩
  ·refine(ok b u q).stay (fun c v hc r=>k c v ?_ r) (fun c r=>by rw[c8 (nown c b r)];exact r) (fun c xs r=>by rw[c8 (ntup c xs r)];exact r) fun c ob u r=>by rw[c8 (fun z=>by subst z;rw[r]at mu;exact mu)];exact r
   rcases hc with rfl | hc
   ·exact hbe
   ·rintro rfl
    rcases he with z | z
    ·exact nown c b hc z
    ·rw[hc]at z;cases z;exact hb rfl
end
structure Un(fs ex:List Addr)(H H':Hp)(h h':Heap):Prop where
 keep:∀b o,h.get? b=some o→H b=none→b ∉ fs→b ∉ ex→h'.get? b=some o
 slot:∀b o,h.get? b=some o→H b=none→b∈fs→b ∉ ex→∃sl,h'.get? b=some { o with slots:=sl }
 free:∀b o,h.get? b=some o→H b=none→b ∉ ex→H' b=none
 there:∀b o,h.get? b=some o→b ∉ ex→∃o',h'.get? b=some o'
 tups:∀b xs,H b=some (.tup xs)→H' b=some (.tup xs)
 frzs:∀b o u,H b=some (.frz o u)→H' b=some (.frz o u)
 tbls:∀b ps,H b=some (.tbl ps)→∃more,H' b=some (.tbl (ps++more))
section
variable {fs fs' ex ex':List Addr}{H H1 H2:Hp}{h h1 h2 h':Heap}{a x e:Addr}{o:HO}
theorem Un.any(u:Un fs ex H H1 h h1){b:Addr}{ob:Obj}(q:h.get? b=some ob)(n:H b=none)(hx:b ∉ ex):∃sl,h1.get? b=some { ob with slots:=sl }:=by
 by_cases hb:b∈fs
 ·exact u.slot b ob q n hb hx
 ·exact⟨ob.slots,u.keep b ob q n hb hx⟩
theorem Un.trans(a:Un fs ex H H1 h h1)(b:Un fs ex H1 H2 h1 h2):Un fs ex H H2 h h2 where
 keep:=fun c ob q n hc hx=>b.keep c ob (a.keep c ob q n hc hx) (a.free c ob q n hx) hc hx
 slot:=fun c ob q n hc hx=>by
  obtain⟨sl,e1⟩:=a.slot c ob q n hc hx
  obtain⟨sl',e2⟩:=b.slot c _ e1 (a.free c ob q n hx) hc hx
  exact⟨sl',e2⟩
 free:=fun c ob q n hx=>by
  obtain⟨o',e1⟩:=a.there c ob q hx
  exact b.free c o' e1 (a.free c ob q n hx) hx
 there:=fun c ob q hx=>by
  obtain⟨o',e1⟩:=a.there c ob q hx
  exact b.there c o' e1 hx
 tups:=fun c xs q=>b.tups c xs (a.tups c xs q)
 frzs:=fun c ob xs q=>b.frzs c ob xs (a.frzs c ob xs q)
 tbls:=fun c ps q=>by
  obtain⟨m1,e1⟩:=a.tbls c ps q
  obtain⟨m2,e2⟩:=b.tbls c _ e1
  exact⟨m1++m2,by rw[e2,Array.append_assoc]⟩
theorem Un.kept(k:∀b u,h.get? b=some u→h'.get? b=some u):Un fs ex H H h h' :=
 ⟨fun b ob q _ _ _=>k b ob q,fun b ob q _ _ _=>⟨ob.slots,k b ob q⟩,fun _ _ _ n _=>n,fun b ob q _=>⟨ob,k b ob q⟩,fun _ _ q=>q,fun _ _ _ q=>q,fun _ ps q=>⟨#[],by rw[q];simp⟩⟩
theorem Un.refl:Un fs ex H H h h:=Un.kept fun _ _ q=>q
theorem Un.laid(k:∀b u,h.get? b=some u→h'.get? b=some u)(hp:h.objs.size≤a)(hn:H a=none):Un fs ex H (upd H a o) h h' where
 keep:=fun b u q _ _ _=>k b u q
 slot:=fun b u q _ _ _=>⟨u.slots,k b u q⟩
 free:=fun b u q n _=>by rw[c8 (Nat.ne_of_lt (Nat.lt_of_lt_of_le (Heap.lt_size q) hp))];exact n
 there:=fun b u q _=>⟨u,k b u q⟩
 tups:=fun b xs q=>by rw[c8 (m8 q hn)];exact q
 frzs:=fun b u xs q=>by rw[c8 (m8 q hn)];exact q
 tbls:=fun b ps q=>⟨#[],by rw[c8 (m8 q hn),q];simp⟩
theorem Un.write(mu:Mut (H x))(he:e=x∨H e=some (.own x))(k:∀b u,b≠e→h.get? b=some u→h'.get? b=some u)(heo:∃u,h'.get? e=some u):Un fs ex H (upd H x o) h h':=by
 have hx:∀b,H b=none→b≠x:=fun b n z=>by subst z;rw[n]at mu;exact mu
 have hb:∀b,H b=none→b≠e:=fun b n z=>by
  subst z
  rcases he with r | r
  ·exact hx b n r
  ·rw[n]at r;cases r
 have hm:∀b u,H b=some u→¬Mut (some u)→b≠x:=fun b u q nm z=>by subst z;rw[q]at mu;exact nm mu
 refine⟨fun b u q n _ _=>k b u (hb b n) q,fun b u q n _ _=>⟨u.slots,k b u (hb b n) q⟩,fun b u q n _=>by rw[c8 (hx b n)];exact n,fun b u q _=>?_,
  fun b xs q=>by rw[c8 (hm b _ q fun z=>z)];exact q,fun b u xs q=>by rw[c8 (hm b _ q fun z=>z)];exact q,fun b ps q=>⟨#[],by rw[c8 (hm b _ q fun z=>z),q];simp⟩⟩
 by_cases hbe:b=e
 ·subst hbe;exact heo
 ·exact⟨u,k b u hbe q⟩
theorem Un.mono(u:Un fs ex H H1 h h1)(hs:∀b∈fs,b∈fs')(hx:∀b∈ex,b∈ex'):Un fs' ex' H H1 h h1 :=
 ⟨fun b ob q n hb he=>u.keep b ob q n (fun z=>hb (hs b z)) fun z=>he (hx b z),fun _ _ q n _ he=>u.any q n fun z=>he (hx _ z),fun b ob q n he=>u.free b ob q n fun z=>he (hx b z),fun b ob q he=>u.there b ob q fun z=>he (hx b z),u.tups,u.frzs,u.tbls⟩
end
def trk(h:Heap)(H:Hp):List Addr:=(List.range h.objs.size).filter fun a=>(H a).isSome
def U8(h:Heap)(H:Hp):Heap:=W.hideAll h (trk h H)
theorem a46(h:Heap)(H:Hp):(U8 h H).objs.size=h.objs.size:=W.hideAll_size _ _
theorem a5Z{h:Heap}{H:Hp}{b:Addr}{o:Obj}(e:h.get? b=some o)(n:H b=none):(U8 h H).get? b=some o :=
 W.hideAll_get _ e fun hm=>by
  have q:(H b).isSome=true:=(List.mem_filter.mp hm).2
  rw[n]at q;simp at q
theorem a7E{h:Heap}{H:Hp}{b:Addr}{o:Obj}(e:(U8 h H).get? b=some o):h.get? b=some o∧H b=none:=by
 have e':h.get? b=some o:=W.of_hideAll (trk h H) e
 refine⟨e',?_⟩
 cases q:H b with
 | none=>rfl
 | some x =>
  have hm:b∈trk h H:=List.mem_filter.mpr ⟨List.mem_range.mpr (Heap.lt_size e'),by simp[q]⟩
  have z:(U8 h H).get? b=none:=W.hideAll_none (trk h H) hm
  rw[z]at e;cases e
def a7F(g h:Heap)(L:Addr):List (Addr×Obj):=(List.range h.objs.size).filterMap fun a=>if a=L∨(g.get? a).isSome=true then none else(h.get? a).map fun o=>(a,o)
def x4(g h:Heap)(L d:Addr):List (Addr×Obj):=(a7F g h L).filter fun p=>decide (p.1≠d)
structure Mod(K:W.Frag)(mg:Str→Option Value)(base:Heap):Prop where
 kin:K.In base
 glob:base.Ns mainGlobals mg
 blt:∃mb,base.Ns builtinsNs mb∧∀x:Str,x≠"__name__"→mb x=bootBuiltins x
 nolimit:base.NoLimit
structure Cx where
 prog:Program
 w:World
 K:W.Frag
 mg:Str→Option Value
 base:Heap
 A:Around
 N:List Str
 s₀:Shared
 H₀:Hp
 env:Env
 outer:List Env
 stack:List Env
 ex:List Addr
 fn:Str→Bool
 calm:Bool
 pn:List (Addr×Obj)
 xe:Value→Shared→Prop
def B3(l:List Env):List Addr:=l.filterMap (·.frame)
abbrev Cx.fs(X:Cx):List Addr:=B3 X.outer
def Vis(sc:Scope)(x:Str):Prop:=sc.names.lookup x=some .local∨sc.names.lookup x=some .cell∨sc.names.lookup x=some .free
def Loc(sc:Scope)(x:Str):Prop:=sc.names.lookup x=some .local∨sc.names.lookup x=some .cell
def b08(env:Env)(h:Heap)(m:Str→Option Value)(x:Str)(u:Value):Prop :=
 (env.kindOf x=some .local∧m x=some u)∨((env.kindOf x=some .cell∨env.kindOf x=some .free)∧∃c,env.cells.lookup x=some c∧h.IsCell c (some u))
structure Cx.Ok(X:Cx):Prop where
 mod:Mod X.K X.mg X.base
 kind:X.env.scope.kind=.function
 glob:X.env.globals=mainGlobals
 blt:X.env.builtins=builtinsNs
 above:X.s₀.heap.objs.size≤X.env.locals
 inj:∀x y c,X.env.cells.lookup x=some c→X.env.cells.lookup y=some c→x=y
 has:∀x,(X.env.kindOf x=some .cell∨X.env.kindOf x=some .free)→∃c,X.env.cells.lookup x=some c
 cab:∀x c,X.fn x=true→X.env.cells.lookup x=some c→X.s₀.heap.objs.size≤c
 hd:X.calm=true→X.A.handled=none
 frames:X.A.frames=some X.stack
 stk:X.stack=X.outer∨(X.stack=X.env::X.outer∧X.env.frame=some X.env.locals)
 exf:∀b∈X.ex,b≠X.env.locals∧∀x c,X.env.cells.lookup x=some c→c≠b
 bs:∀b o,X.base.get? b=some o→X.s₀.heap.get? b=some o∧X.H₀ b=none
 bsz:X.base.objs.size≤X.s₀.heap.objs.size
 noex:∀b o,X.base.get? b=some o→b ∉ X.ex
 exfs:∀b∈X.ex,b ∉ X.fs
 funs:X.s₀.heap.FunFrames X.base X.outer
 frf:∀b∈X.fs,X.H₀ b=none
structure Inv(X:Cx)(pins:List (Addr×Obj))(σ:List (Option V))(H:Hp)(s:Shared):Prop where
 ok:X.Ok
 os:s.os=X.s₀.os
 bare:AllBare s.gens
 base:Un X.fs X.ex X.H₀ H X.s₀.heap s.heap
 loc:∃m,s.heap.Ns X.env.locals m∧∀(i:Nat) (x:Str) (v:V),X.N[i]? = some x→σ[i]? = some (some v)→Vis X.env.scope x→∃u,RelV v u∧b08 X.env s.heap m x u
 cell:∀x c,X.env.cells.lookup x=some c→∃v,s.heap.IsCell c v
 free:H X.env.locals=none
 freeC:∀x c,X.env.cells.lookup x=some c→H c=none
 pin:∀p∈X.pn++pins,s.heap.get? p.1=some p.2∧H p.1=none∧p.1≠X.env.locals∧p.1 ∉ X.fs∧∀v,p.2.data≠.cell v
 hok:HOk X.prog X.w H s.heap
 len:σ.length=X.N.length
section
variable {X:Cx}{pins:List (Addr×Obj)}{σ:List (Option V)}{H H':Hp}{s:Shared}{h':Heap}
theorem Cx.Ok.nofr(ok:X.Ok){b:Addr}{o:Obj}(e:X.base.get? b=some o):b ∉ X.fs:=fun hb=>by
 have:=(ok.funs.mem hb).1
 rw[e]at this;cases this
theorem Inv.bs(I:Inv X pins σ H s):∀b o,X.base.get? b=some o→s.heap.get? b=some o∧H b=none:=fun b o e =>
 ⟨I.base.keep b o (I.ok.bs b o e).1 (I.ok.bs b o e).2 (I.ok.nofr e) (I.ok.noex b o e),I.base.free b o (I.ok.bs b o e).1 (I.ok.bs b o e).2 (I.ok.noex b o e)⟩
theorem Inv.bk(I:Inv X pins σ H s):∀b o,X.base.get? b=some o→s.heap.get? b=some o:=fun b o e=>(I.bs b o e).1
theorem Inv.mod(I:Inv X pins σ H s):Mod X.K X.mg X.base:=I.ok.mod
theorem Inv.kIn(I:Inv X pins σ H s):X.K.In s.heap:=I.ok.mod.kin.keeps I.bk
theorem Inv.nolimit(I:Inv X pins σ H s):s.heap.NoLimit:=I.ok.mod.nolimit.keeps I.bk
theorem Inv.fr(I:Inv X pins σ H s):∃m,Fr X.base X.env.locals s.heap m :=
 let ⟨m,hn,_⟩:=I.loc
 ⟨m,hn,I.bk,Nat.le_trans I.ok.bsz I.ok.above⟩
theorem Inv.lt(I:Inv X pins σ H s):X.env.locals<s.heap.objs.size:=let ⟨_,hn,_⟩:=I.loc;hn.lt
theorem Inv.sz(I:Inv X pins σ H s):X.s₀.heap.objs.size≤s.heap.objs.size:=Nat.le_trans I.ok.above (Nat.le_of_lt I.lt)
theorem Inv.nofs(I:Inv X pins σ H s){a:Addr}(h:s.heap.objs.size≤a):a ∉ X.fs:=fun hb=>by
 obtain⟨_,o,ho,_⟩:=I.ok.funs.mem hb
 exact absurd (Nat.lt_of_lt_of_le (Heap.lt_size ho) (Nat.le_trans I.sz h)) (Nat.lt_irrefl _)
theorem Inv.cne(I:Inv X pins σ H s):∀x c,X.env.cells.lookup x=some c→c≠X.env.locals:=fun x c e z=>by
 obtain⟨v,o,ho,hd⟩:=I.cell x c e
 obtain⟨m,⟨o',es,ep,ho',hd',_⟩,_⟩:=I.loc
 rw[z,ho']at ho;cases ho;rw[hd']at hd;cases hd
theorem Inv.funs(I:Inv X pins σ H s):s.heap.FunFrames X.base X.outer:=by
 have all:∀(l:List Env),(∀b∈B3 l,b∈X.fs)→X.s₀.heap.FunFrames X.base l→s.heap.FunFrames X.base l:=by
  intro l
  induction l with
  | nil=>intro _ _;trivial
  | cons env r ih =>
   intro hs hl
   obtain⟨hk,⟨L,o,hf,hn,ho,hd⟩,hr⟩:=hl
   have hL:L∈X.fs:=hs L (by unfold B3;rw[List.filterMap_cons,hf];exact List.mem_cons_self)
   obtain⟨sl,e⟩:=I.base.slot L o ho (I.ok.frf L hL) hL fun z=>I.ok.exfs L z hL
   exact⟨hk,⟨L,_,hf,hn,e,hd⟩,ih (fun b hb=>hs b (by unfold B3;rw[List.filterMap_cons,hf];exact List.mem_cons_of_mem _ hb)) hr⟩
 exact all X.outer (fun _ hb=>hb) I.ok.funs
theorem Inv.stack(I:Inv X pins σ H s):s.heap.FunFrames X.base X.stack:=by
 rcases I.ok.stk with e | ⟨e,hf⟩
 ·rw[e];exact I.funs
 ·rw[e]
  obtain⟨m,hn,_⟩:=I.loc
  refine .cons (by rw[I.ok.kind];decide) hf hn ?_ I.funs
  exact Heap.get?_none_of_le (Nat.le_trans I.ok.bsz I.ok.above)
theorem Inv.stkSub(I:Inv X pins σ H s):∀b∈B3 X.stack,b∈X.env.locals::X.fs:=fun b hb=>by
 rcases I.ok.stk with e | ⟨e,hf⟩
 ·rw[e]at hb;exact List.mem_cons_of_mem _ hb
 ·rw[e]at hb
  unfold B3 at hb
  rw[List.filterMap_cons,hf]at hb
  exact hb
theorem Inv.stkFree(I:Inv X pins σ H s):∀b∈B3 X.stack,H b=none:=fun b hb=>by
 rcases List.mem_cons.mp (I.stkSub b hb)with e | hb
 ·rw[e];exact I.free
 ·obtain⟨_,o,ho,_⟩:=I.ok.funs.mem hb
  exact I.base.free b o ho (I.ok.frf b hb) fun z=>I.ok.exfs b z hb
theorem Inv.step{g':Array GenState}{t':Nat}{d':Drawn}{ch:List Addr}(I:Inv X pins σ H s)
  (hch:∀b∈ch,(b∈X.ex∨X.s₀.heap.objs.size≤b)∧b≠X.env.locals∧(∀x c,X.env.cells.lookup x=some c→c≠b)∧∀p∈X.pn++pins,p.1≠b)
  (keep:∀b o,b≠X.env.locals→b ∉ X.fs→b ∉ ch→s.heap.get? b=some o→H b=none→h'.get? b=some o)
  (slot:∀b o,b≠X.env.locals→b∈X.fs→b ∉ ch→s.heap.get? b=some o→H b=none→∃sl,h'.get? b=some { o with slots:=sl }) (free:∀b o,b ∉ ch→s.heap.get? b=some o→H b=none→H' b=none)
  (there:∀b o,b ∉ ch→s.heap.get? b=some o→∃o',h'.get? b=some o')
  (tups:∀b xs,H b=some (.tup xs)→H' b=some (.tup xs)) (frzs:∀b o u,H b=some (.frz o u)→H' b=some (.frz o u)) (tbls:∀b ps,H b=some (.tbl ps)→∃more,H' b=some (.tbl (ps++more)))
  (ns:∀m,s.heap.Ns X.env.locals m→h'.Ns X.env.locals m) (hok:HOk X.prog X.w H' h') (hg:AllBare g') :
  Inv X pins σ H' { s with heap:=h',gens:=g',drawn:=d',toks:=t' }:=by
 have neL:∀b o,X.s₀.heap.get? b=some o→b≠X.env.locals:=fun b o e=>Nat.ne_of_lt (Nat.lt_of_lt_of_le (Heap.lt_size e) I.ok.above)
 have neC:∀b o,X.s₀.heap.get? b=some o→b ∉ X.ex→b ∉ ch:=fun b o e hx hb=>by
  rcases(hch b hb).1 with z | z
  ·exact hx z
  ·exact absurd (Nat.lt_of_lt_of_le (Heap.lt_size e) z) (Nat.lt_irrefl _)
 have cellK:∀x c,X.env.cells.lookup x=some c→∀v,s.heap.IsCell c v→h'.IsCell c v:=fun x c e v ⟨o,ho,hd⟩=>by
  have nch:c ∉ ch:=fun z=>(hch c z).2.2.1 x c e rfl
  by_cases hc:c∈X.fs
  ·obtain⟨sl,q⟩:=slot c o (I.cne x c e) hc nch ho (I.freeC x c e)
   exact⟨_,q,hd⟩
  ·exact⟨o,keep c o (I.cne x c e) hc nch ho (I.freeC x c e),hd⟩
 refine⟨I.ok,I.os,hg,⟨fun b o e n hb hx=>?_,fun b o e n hb hx=>?_,fun b o e n hx=>?_,fun b o e hx=>?_,fun b xs e=>tups b xs (I.base.tups b xs e),fun b o xs e=>frzs b o xs (I.base.frzs b o xs e),fun b ps e=>?_⟩,?_,fun x c e=>?_,?_,fun x c e=>?_,fun p hp=>?_,hok,I.len⟩
 ·exact keep b o (neL b o e) hb (neC b o e hx) (I.base.keep b o e n hb hx) (I.base.free b o e n hx)
 ·obtain⟨sl,e1⟩:=I.base.slot b o e n hb hx
  obtain⟨sl',e2⟩:=slot b _ (neL b o e) hb (neC b o e hx) e1 (I.base.free b o e n hx)
  exact⟨sl',e2⟩
 ·obtain⟨o',e1⟩:=I.base.there b o e hx
  exact free b o' (neC b o e hx) e1 (I.base.free b o e n hx)
 ·obtain⟨o',e1⟩:=I.base.there b o e hx
  exact there b o' (neC b o e hx) e1
 ·obtain⟨m1,e1⟩:=I.base.tbls b ps e
  obtain⟨m2,e2⟩:=tbls b _ e1
  exact⟨m1++m2,by rw[e2,Array.append_assoc]⟩
 ·obtain⟨m,hn,hl⟩:=I.loc
  refine⟨m,ns m hn,fun i x v e1 e2 e3=>?_⟩
  obtain⟨u,r,l⟩:=hl i x v e1 e2 e3
  refine⟨u,r,?_⟩
  rcases l with l | ⟨k,c,e,z⟩
  ·exact .inl l
  ·exact .inr ⟨k,c,e,cellK x c e _ z⟩
 ·obtain⟨v,z⟩:=I.cell x c e
  exact⟨v,cellK x c e v z⟩
 ·obtain⟨m,⟨o,_,_,ho,_⟩,_⟩:=I.loc
  exact free _ o (fun z=>(hch _ z).2.1 rfl) ho I.free
 ·obtain⟨v,o,ho,hd⟩:=I.cell x c e
  exact free c o (fun z=>(hch c z).2.2.1 x c e rfl) ho (I.freeC x c e)
 ·obtain⟨e,n,ne,nf,d⟩:=I.pin p hp
  have nch:p.1 ∉ ch:=fun z=>(hch p.1 z).2.2.2 p hp rfl
  exact⟨keep p.1 p.2 ne nf nch e n,free p.1 p.2 nch e n,ne,nf,d⟩
theorem Inv.un{t':Nat}(I:Inv X pins σ H s)(u:Un X.fs [] H H' s.heap h')(hok:HOk X.prog X.w H' h'):Inv X pins σ H' { s with heap:=h',toks:=t' }:=by
 obtain⟨m,⟨o,es,ep,ho,r⟩,_⟩:=id I.loc
 obtain⟨sl,hL⟩:=u.any ho I.free (by simp)
 exact I.step (g':=s.gens) (d':=s.drawn) (ch:=[]) (fun _ z=>nomatch z) (fun b o _ hb _ e n=>u.keep b o e n hb (by simp)) (fun b o _ hb _ e n=>u.slot b o e n hb (by simp)) (fun b o _ e n=>u.free b o e n (by simp)) (fun b o _ e=>u.there b o e (by simp)) u.tups u.frzs u.tbls (fun m' hm=>by
  obtain⟨o',es',ep',ho',r'⟩:=hm
  rw[ho]at ho';cases ho'
  exact⟨_,es',ep',hL,r'⟩) hok I.bare
theorem Inv.call{g':Array GenState}{t':Nat}{d':Drawn}{ch:List Addr}(I:Inv X pins σ H s)(u:Un (B3 X.stack) ch H H' s.heap h')(hok:HOk X.prog X.w H' h')(hg:AllBare g')
  (hch:∀b∈ch,(b∈X.ex∨X.s₀.heap.objs.size≤b)∧b≠X.env.locals∧(∀x c,X.env.cells.lookup x=some c→c≠b)∧∀p∈X.pn++pins,p.1≠b) :
  Inv X pins σ H' { s with heap:=h',gens:=g',drawn:=d',toks:=t' }:=by
 obtain⟨m,⟨o,es,ep,ho,r⟩,_⟩:=id I.loc
 obtain⟨sl,hL⟩:=u.any ho I.free fun z=>(hch _ z).2.1 rfl
 exact I.step (ch:=ch) hch (fun b o hL hb hc e n=>u.keep b o e n (fun z=>(List.mem_cons.mp (I.stkSub b z)).elim hL hb) hc) (fun b o _ _ hc e n=>u.any e n hc) (fun b o hc e n=>u.free b o e n hc) (fun b o hc e=>u.there b o e hc) u.tups u.frzs u.tbls (fun m' hm=>by
  obtain⟨o',es',ep',ho',r'⟩:=hm
  rw[ho]at ho';cases ho'
  exact⟨_,es',ep',hL,r'⟩) hok hg
theorem Inv.turned{t':Nat}{it:Addr}(I:Inv X pins σ H s)(k:∀b o,b≠it→s.heap.get? b=some o→h'.get? b=some o)(hn:H it=none)(hL:it≠X.env.locals)
  (h1:it∈X.ex∨X.s₀.heap.objs.size≤it) (h2:∀x c,X.env.cells.lookup x=some c→c≠it) (h3:∀p∈X.pn++pins,p.1≠it):Inv X pins σ H { s with heap:=h',toks:=t' }:=by
 have nit:∀b u,H b=some u→b≠it:=fun b u e z=>by rw[z,hn]at e;cases e
 refine I.step (g':=s.gens) (d':=s.drawn) (ch:=[it]) (fun b hb=>?_) (fun b o _ _ hc e _=>k b o (fun z=>hc (by simp[z])) e) (fun b o _ _ hc e _=>⟨o.slots,k b o (fun z=>hc (by simp[z])) e⟩) (fun _ _ _ _ n=>n)
  (fun b o hc e=>⟨o,k b o (fun z=>hc (by simp[z])) e⟩) (fun _ _ e=>e) (fun _ _ _ e=>e) (fun b ps e=>⟨#[],by rw[e];simp⟩) (fun m hm=>?_) (fun b u e=>?_) I.bare
 ·have e:b=it:=by simpa using hb
  subst e
  exact⟨h1,hL,h2,h3⟩
 ·obtain⟨o,es,ep,ho,r⟩:=hm
  exact⟨o,es,ep,k _ o (Ne.symm hL) ho,r⟩
 ·refine(I.hok b u e).stay (fun c v hc q=>k c v ?_ q) (fun _ q=>q) (fun _ _ q=>q) fun _ _ _ q=>q
  rcases hc with z | z
  ·rw[z];exact nit b u e
  ·exact nit c _ z
theorem Inv.tok(I:Inv X pins σ H s)(t:Nat):Inv X pins σ H { s with toks:=t }:=I.un (h':=s.heap) (t':=t) Un.refl I.hok
theorem Inv.kept{t':Nat}(I:Inv X pins σ H s)(k:∀b u,s.heap.get? b=some u→h'.get? b=some u):Inv X pins σ H { s with heap:=h',toks:=t' }:=I.un (Un.kept k) (I.hok.kept k)
theorem Inv.laid{a:Addr}{o:HO}{t':Nat}(I:Inv X pins σ H s)(k:∀b u,s.heap.get? b=some u→h'.get? b=some u)(hp:s.heap.objs.size≤a)(new:ObjOk X.prog X.w (upd H a o) h' a o) :
  Inv X pins σ (upd H a o) { s with heap:=h',toks:=t' }:=I.un (Un.laid k hp (I.hok.fresh hp)) (I.hok.laid k hp new)
theorem Inv.write{x e:Addr}{o:HO}{t':Nat}(I:Inv X pins σ H s)(mu:Mut (H x))(he:e=x∨H e=some (.own x))(k:∀b u,b≠e→s.heap.get? b=some u→h'.get? b=some u)(heo:∃u,h'.get? e=some u)
  (new:ObjOk X.prog X.w (upd H x o) h' x o):Inv X pins σ (upd H x o) { s with heap:=h',toks:=t' }:=I.un (Un.write mu he k heo) (I.hok.write mu he k heo new)
theorem Inv.weak{σ':List (Option V)}(I:Inv X pins σ H s)(hl:σ'.length=σ.length)(w:∀(i:Nat) v,σ'[i]? = some (some v)→σ[i]? = some (some v)):Inv X pins σ' H s :=
 ⟨I.ok,I.os,I.bare,I.base,let ⟨m,hn,hl'⟩:=I.loc; ⟨m,hn,fun i x v e1 e2 e3=>hl' i x v e1 (w i v e2) e3⟩,I.cell,I.free,I.freeC,I.pin,I.hok,hl.trans I.len⟩
theorem Inv.pins_of{pins':List (Addr×Obj)}(I:Inv X pins σ H s)(h:∀p∈pins',s.heap.get? p.1=some p.2∧H p.1=none∧p.1≠X.env.locals∧p.1 ∉ X.fs∧∀v,p.2.data≠.cell v):Inv X pins' σ H s :=
 ⟨I.ok,I.os,I.bare,I.base,I.loc,I.cell,I.free,I.freeC,fun p hp=>(List.mem_append.mp hp).elim (fun z=>I.pin p (List.mem_append_left _ z)) (h p),I.hok,I.len⟩
theorem a2t{N:List Str}(hN:N.Nodup){i j:Nat}{x:Str}(a:N[i]? = some x)(b:N[j]? = some x):i=j:=by
 obtain⟨h1,e1⟩:=List.getElem?_eq_some_iff.mp a
 obtain⟨h2,e2⟩:=List.getElem?_eq_some_iff.mp b
 exact(List.getElem_inj hN).mp (e1.trans e2.symm)
theorem a1N{M:Model}{A:Around}{E:Value→Shared→Prop}{i:Nat}{x:Str}{v:V}{u:Value}{Q:Unit→Shared→Prop}(I:Inv X pins σ H s)(hN:X.N.Nodup)(hi:X.N[i]? = some x)(hx:Loc X.env.scope x)(r:RelV v u)
  (h:∀s',Inv X pins (σ.set i (some v)) H s'→(∃a,Heap.SameBut a s.heap s'.heap∧(a=X.env.locals∨X.env.cells.lookup x=some a))→Q () s') (hf:X.fn x=true∨X.env.scope.names.lookup x=some .local:=by first | exact .inl rfl | exact .inr rfl | assumption):wpAny M A (storeName X.env x u) Q E s:=by
 obtain⟨m,hn,hl⟩:=id I.loc
 have hcls:(X.env.scope.kind == .class || (X.env.scope.kind == .module && X.env.locals != X.env.globals))=false:=by rw[I.ok.kind];rfl
 have hiσ:i<σ.length:=by rw[I.len];exact(List.getElem?_eq_some_iff.mp hi).1
 have cne:=I.cne
 have tracked:∀{a:Addr} {h':Heap},(∃o,s.heap.get? a=some o∧H a=none)→Heap.SameBut a s.heap h'→HOk X.prog X.w H h':=fun{a h'} ha hs b ob e=>by
  obtain⟨_,_,hfree⟩:=ha
  refine(I.hok b ob e).stay (fun c w' hc q=>(hs.2 c ?_).trans q) (fun _ q=>q) (fun _ _ q=>q) fun _ _ _ q=>q
  rintro rfl
  rcases hc with rfl | hc
  ·rw[hfree]at e;cases e
  ·rw[hfree]at hc;cases hc
 rcases hx with hk | hk
 ·refine wpAny_storeName_local hk hn (fun h' hn' hs=>?_) hcls
  obtain⟨oL,_,_,hoL,_⟩:=id hn
  refine h _ ⟨I.ok,I.os,I.bare,⟨fun b o e n hb hx=>?_,fun b o e n hb hx=>?_,I.base.free,fun b o e hx=>?_,I.base.tups,I.base.frzs,I.base.tbls⟩,⟨_,hn',fun j y v' e1 e2 e3=>?_⟩,fun y c e=>?_,I.free,I.freeC,fun p hp=>?_,tracked ⟨oL,hoL,I.free⟩ hs,by simpa using I.len⟩ ⟨_,hs,.inl rfl⟩
  ·exact(hs.2 b (Nat.ne_of_lt (Nat.lt_of_lt_of_le (Heap.lt_size e) I.ok.above))).trans (I.base.keep b o e n hb hx)
  ·obtain⟨sl,e1⟩:=I.base.slot b o e n hb hx
   exact⟨sl,(hs.2 b (Nat.ne_of_lt (Nat.lt_of_lt_of_le (Heap.lt_size e) I.ok.above))).trans e1⟩
  ·obtain⟨o',e1⟩:=I.base.there b o e hx
   exact⟨o',(hs.2 b (Nat.ne_of_lt (Nat.lt_of_lt_of_le (Heap.lt_size e) I.ok.above))).trans e1⟩
  ·by_cases hj:j=i
   ·subst hj
    rw[hi]at e1;cases e1
    rw[List.getElem?_set_self hiσ]at e2
    cases e2
    exact⟨u,r,.inl ⟨hk,by simp⟩⟩
   ·rw[List.getElem?_set_ne (Ne.symm hj)]at e2
    obtain⟨u',r',q⟩:=hl j y v' e1 e2 e3
    refine⟨u',r',?_⟩
    rcases q with⟨k,e⟩ | ⟨k,c,e,z⟩
    ·refine .inl ⟨k,?_⟩
     have:y≠x:=fun e=>hj (a2t hN e1 (e▸hi))
     simp[this,e]
    ·exact .inr ⟨k,c,e,z.sameBut hs (cne y c e)⟩
  ·obtain⟨w',z⟩:=I.cell y c e
   exact⟨w',z.sameBut hs (cne y c e)⟩
  ·obtain⟨e,n,ne,nf,d⟩:=I.pin p hp
   exact⟨(hs.2 p.1 ne).trans e,n,ne,nf,d⟩
 ·have hfn:X.fn x=true:=by
   rcases hf with z | z
   ·exact z
   ·rw[z]at hk;cases hk
  obtain⟨c,hc⟩:=I.ok.has x (.inl hk)
  obtain⟨w',z⟩:=I.cell x c hc
  refine wpAny_storeName_cell I.ok.kind hk hc z (fun h' hc' hs=>?_)
  obtain⟨oc,hoc,hocd⟩:=id z
  refine h { s with heap:=h' } ⟨I.ok,I.os,I.bare,⟨fun b o e n hb hx=>?_,fun b o e n hb hx=>?_,I.base.free,fun b o e hx=>?_,I.base.tups,I.base.frzs,I.base.tbls⟩,⟨m,hn.sameBut hs (Ne.symm (cne x c hc)),fun j y v' e1 e2 e3=>?_⟩,fun y c' e=>?_,I.free,I.freeC,fun p hp=>?_,tracked ⟨oc,hoc,I.freeC x c hc⟩ hs,by simpa using I.len⟩ ⟨c,hs,.inr hc⟩
  ·exact(hs.2 b (Nat.ne_of_lt (Nat.lt_of_lt_of_le (Heap.lt_size e) (I.ok.cab x c hfn hc)))).trans (I.base.keep b o e n hb hx)
  ·obtain⟨sl,e1⟩:=I.base.slot b o e n hb hx
   exact⟨sl,(hs.2 b (Nat.ne_of_lt (Nat.lt_of_lt_of_le (Heap.lt_size e) (I.ok.cab x c hfn hc)))).trans e1⟩
  ·obtain⟨o',e1⟩:=I.base.there b o e hx
   exact⟨o',(hs.2 b (Nat.ne_of_lt (Nat.lt_of_lt_of_le (Heap.lt_size e) (I.ok.cab x c hfn hc)))).trans e1⟩
  ·by_cases hj:j=i
   ·subst hj
    rw[hi]at e1;cases e1
    rw[List.getElem?_set_self hiσ]at e2
    cases e2
    exact⟨u,r,.inr ⟨.inl hk,c,hc,hc'⟩⟩
   ·rw[List.getElem?_set_ne (Ne.symm hj)]at e2
    obtain⟨u',r',q⟩:=hl j y v' e1 e2 e3
    refine⟨u',r',?_⟩
    rcases q with q | ⟨k,c',e,z'⟩
    ·exact .inl q
    ·refine .inr ⟨k,c',e,z'.sameBut hs ?_⟩
     rintro rfl
     exact hj (a2t hN e1 (I.ok.inj _ _ _ e hc▸hi))
  ·by_cases hcc:c'=c
   ·subst hcc;exact⟨_,hc'⟩
   ·obtain⟨w2,z2⟩:=I.cell y c' e
    exact⟨w2,z2.sameBut hs hcc⟩
  ·obtain⟨e,n,ne,nf,d⟩:=I.pin p hp
   refine⟨(hs.2 p.1 ?_).trans e,n,ne,nf,d⟩
   intro q
   rw[q,hoc]at e
   have q':oc=p.2:=Option.some.inj e
   exact d w' (by rw[← q'];exact hocd)
theorem U9{M:Model}{A:Around}{E:Value→Shared→Prop}{i:Nat}{x:Str}{v:V}{u:Value}{Q:Unit→Shared→Prop}(I:Inv X pins σ H s)(hN:X.N.Nodup)(hi:X.N[i]? = some x)(hx:Loc X.env.scope x)(r:RelV v u)
  (h:∀s',Inv X pins (σ.set i (some v)) H s'→Q () s') (hf:X.fn x=true∨X.env.scope.names.lookup x=some .local:=by first | exact .inl rfl | exact .inr rfl | assumption):wpAny M A (storeName X.env x u) Q E s :=
 a1N I hN hi hx r (fun s' I' _=>h s' I') hf
theorem Inv.call'{s':Shared}{ch:List Addr}(I:Inv X pins σ H s)(ho:s'.os=s.os)(u:Un (B3 X.stack) ch H H' s.heap s'.heap)(hok:HOk X.prog X.w H' s'.heap)(hg:AllBare s'.gens)
  (hch:∀b∈ch,(b∈X.ex∨X.s₀.heap.objs.size≤b)∧b≠X.env.locals∧(∀x c,X.env.cells.lookup x=some c→c≠b)∧∀p∈X.pn++pins,p.1≠b):Inv X pins σ H' s':=by
 obtain⟨h',g',d',t',o'⟩:=s'
 have e:o'=s.os:=ho
 subst e
 exact I.call (g':=g') (t':=t') (d':=d') u hok hg hch
end
abbrev XK:=Value→Option Addr→Hp→Prop
abbrev St:=List (Option V)
abbrev VK:=V→Hp→Prop
abbrev TE:=St→Hp→VK→Prop
abbrev TT:=St→Hp→(Bool→Hp→Prop)→Prop
abbrev TA:=St→Hp→(List V→Hp→Prop)→Prop
structure Ends where
 nx:St→Hp→Prop
 rt:VK
 bk:St→Hp→Prop:=fun _ _=>False
 ct:St→Hp→Prop:=fun _ _=>False
abbrev TS:=Ends→St→Hp→Prop
def EP(X:Cx)(pins:List (Addr×Obj))(σ:St)(Q:VK)(u:Value)(s':Shared):Prop:=∃v H',Inv X pins σ H' s'∧RelV v u∧Q v H'
def TP(X:Cx)(pins:List (Addr×Obj))(σ:St)(Q:Bool→Hp→Prop)(b:Bool)(s':Shared):Prop:=∃H',Inv X pins σ H' s'∧Q b H'
def AP(X:Cx)(pins:List (Addr×Obj))(σ:St)(Q:List V→Hp→Prop)(us:List Value)(s':Shared):Prop:=∃vs H',Inv X pins σ H' s'∧Vals vs us∧Q vs H'
def SP(X:Cx)(pins:List (Addr×Obj))(D:Ends)(f:Flow)(s':Shared):Prop :=
 match f with
 | .next=>∃σ' H',Inv X pins σ' H' s'∧D.nx σ' H'
 | .brk=>∃σ' H',Inv X pins σ' H' s'∧D.bk σ' H'
 | .cont=>∃σ' H',Inv X pins σ' H' s'∧D.ct σ' H'
 | .ret u=>∃v σ' H',Inv X pins σ' H' s'∧RelV v u∧D.rt v H'
def PE(X:Cx)(e:Expr)(t:TE):Prop :=
 ∀(pins:List (Addr×Obj)) (s:Shared) (σ:St) (H:Hp) (Q:VK),Inv X pins σ H s→t σ H Q→wpAny (model X.prog X.w) X.A (eval e X.env) (EP X pins σ Q) X.xe s
def PT(X:Cx)(e:Expr)(t:TT):Prop :=
 ∀(pins:List (Addr×Obj)) (s:Shared) (σ:St) (H:Hp) (Q:Bool→Hp→Prop),Inv X pins σ H s→t σ H Q→wpAny (model X.prog X.w) X.A (isTrue e X.env (eval e X.env)) (TP X pins σ Q) X.xe s
def PW(X:Cx)(e:Expr)(t:TT):Prop :=
 ∀(whole:Sem Value) (pins:List (Addr×Obj)) (s:Shared) (σ:St) (H:Hp) (Q:Bool→Hp→Prop),Inv X pins σ H s→t σ H Q→wpAny (model X.prog X.w) X.A (isTrue e X.env whole) (TP X pins σ Q) X.xe s
theorem PW.pt{X:Cx}{e:Expr}{t:TT}(h:PW X e t):PT X e t:=h _
def PA(X:Cx)(es:List Expr)(t:TA):Prop :=
 ∀(pos:Pos) (pins:List (Addr×Obj)) (s:Shared) (σ:St) (H:Hp) (Q:List V→Hp→Prop),Inv X pins σ H s→t σ H Q→wpAny (model X.prog X.w) X.A (spliced (backTo pos (starEach es X.env))) (AP X pins σ Q) X.xe s
def PS(X:Cx)(st:Stmt)(t:TS):Prop :=
 ∀(pins:List (Addr×Obj)) (s:Shared) (σ:St) (H:Hp) (D:Ends),Inv X pins σ H s→t D σ H→wpAny (model X.prog X.w) X.A (exec st X.env) (SP X pins D) X.xe s
def PSs(X:Cx)(st:List Stmt)(t:TS):Prop :=
 ∀(pins:List (Addr×Obj)) (s:Shared) (σ:St) (H:Hp) (D:Ends),Inv X pins σ H s→t D σ H→wpAny (model X.prog X.w) X.A (execs st X.env) (SP X pins D) X.xe s
theorem j4{α:Type}{t:Sem α}{Q Q':α→Shared→Prop}{M:Model}{A:Around}{E:Value→Shared→Prop}{s:Shared}(h:wpAny M A t Q E s)(hQ:∀a s,Q a s→Q' a s):wpAny M A t Q' E s:=wpAny_mono h hQ fun _ _ x=>x
section
variable {X:Cx}
def D7(i:Nat):TE:=fun σ H Q=>∃v,σ[i]? = some (some v)∧Q v H
def tC(v:V):TE:=fun _ H Q=>Q v H
theorem a9m{i:Nat}{x:Str}{pos:Pos}(hN:X.N[i]? = some x)(hv:Vis X.env.scope x)(hd:(x == ("__debug__" : Str))=false:=by decide)(hcd:(x == ("__classdict__" : Str))=false:=by decide):PE X (.Name x pos) (D7 i):=by
 intro pins s σ H Q I h
 obtain⟨v,e,h⟩:=h
 obtain⟨m,hn,hl⟩:=I.loc
 obtain⟨u,r,l⟩:=hl i x v hN e hv
 have fin:EP X pins σ Q u s:=⟨v,H,I,r,h⟩
 rcases l with⟨hk,hm⟩ | ⟨hk,c,hc,hcell⟩
 ·exact wpAny_Name (wpAny_loadName_local I.ok.kind hk hn hm fin) hd
 ·rcases hk with hk | hk
  ·exact wpAny_Name (wpAny_loadName_cell I.ok.kind hk hc hcell fin) hd
  ·exact wpAny_Name (wpAny_loadName_free I.ok.kind hk hc hcell fin hcd) hd
theorem b7{i j pos}:PE X (.Constant (.int i) j pos) (tC (.int i)):=fun _ _ _ H _ I h=>wpAny_Constant_int ⟨.int i,H,I.tok _,⟨_,rfl⟩,h⟩
theorem a0U{b j pos}:PE X (.Constant (.bool b) j pos) (tC (.bl b)):=fun _ _ _ H _ I h=>Constant_bool ⟨.bl b,H,I,rfl,h⟩
theorem a47{j pos}:PE X (.Constant .none j pos) (tC .non):=fun _ _ _ H _ I h=>Constant_none ⟨.non,H,I,rfl,h⟩
theorem G2{x j pos}:PE X (.Constant (.str x) j pos) (tC (.str x)):=fun _ _ _ H _ I h=>Calls.Constant_str ⟨.str x,H,I.tok _,⟨_,rfl⟩,h⟩
def Gl(X:Cx)(x:Str):Prop:=X.env.kindOf x=some .globalImplicit
theorem a1q{E:Value→Shared→Prop}{pins:List (Addr×Obj)}{s:Shared}{σ:St}{H:Hp}{x:Str}{u:Value}{pos:Pos}{Q:Value→Shared→Prop}(I:Inv X pins σ H s)(hg:Gl X x)(hm:X.mg x=some u)(h:Q u s)
  (hd:(x == ("__debug__" : Str))=false:=by decide):wpAny (model X.prog X.w) X.A (eval (.Name x pos) X.env) Q E s :=
 Calls.Name_function_global I.ok.kind hg (Calls.loadGlobal_global (by rw[I.ok.glob];exact I.mod.glob.keeps I.bk) hm h) hd
theorem O0{E:Value→Shared→Prop}{pins:List (Addr×Obj)}{s:Shared}{σ:St}{H:Hp}{x:Str}{u:Value}{pos:Pos}{Q:Value→Shared→Prop}(I:Inv X pins σ H s)(hg:Gl X x)(hm:X.mg x=none)(hv:bootBuiltins x=some u)(h:Q u s)
  (hn:x≠"__name__" := by decide) (hd:(x == ("__debug__" : Str))=false:=by decide):wpAny (model X.prog X.w) X.A (eval (.Name x pos) X.env) Q E s:=by
 obtain⟨mb,h1,h2⟩:=I.mod.blt
 exact Calls.Name_function_global I.ok.kind hg (Calls.loadGlobal_builtin (by rw[I.ok.glob];exact I.mod.glob.keeps I.bk) hm (by rw[I.ok.blt];exact h1.keeps I.bk) ((h2 x hn).trans hv) h) hd
theorem a7G{x:Str}{v:V}{u:Value}{pos:Pos}(hg:Gl X x)(hm:X.mg x=some u)(r:RelV v u)(hd:(x == ("__debug__" : Str))=false:=by decide):PE X (.Name x pos) (tC v) :=
 fun _ _ _ H _ I h=>a1q I hg hm ⟨v,H,I,r,h⟩ hd
theorem a3B{x:Str}{v:V}{u:Value}{pos:Pos}(hg:Gl X x)(hm:X.mg x=none)(hv:bootBuiltins x=some u)(r:RelV v u)(hn:x≠"__name__" := by decide)(hd:(x == ("__debug__" : Str))=false:=by decide):PE X (.Name x pos) (tC v) :=
 fun _ _ _ H _ I h=>O0 I hg hm hv ⟨v,H,I,r,h⟩ hn hd
variable {a b:Expr}{ta tb:TE}{pos:Pos}
def tB(t:TE):TT:=fun σ H Q=>t σ H fun x H1=>∃c,x=.bl c∧Q c H1
theorem B4{e:Expr}{t:TE}(h:PE X e t)(he:∀whole,isTrue e X.env whole=(do let v ← whole;standAt e.pos;holding [v] (truthy v)):=by intro _;rfl):PT X e (tB t):=by
 intro pins s σ H Q I hw
 refine isTrue_plain (j4 (h pins s σ H _ I hw) fun v s1 ⟨x,H1,I1,r1,q1⟩=>?_) (he _)
 obtain⟨d,rfl,q⟩:=q1
 cases r1
 exact wpAny_truthy_bool ⟨H1,I1,q⟩
variable {tA tB':TT}{x4:List Expr}
def a9n(t u:TT):TT:=fun σ H Q=>t σ H fun c H1=>if c=true then u σ H1 Q else Q false H1
def tOr(t u:TT):TT:=fun σ H Q=>t σ H fun c H1=>if c=true then Q true H1 else u σ H1 Q
def a9o(t:TT):TT:=fun σ H Q=>t σ H fun c H1=>Q (!c) H1
theorem a3C(ha:PT X a tA):PW X (.BoolOp .And [a] pos) tA:=by
 intro wh pins s σ H Q I h
 refine isTrue_and (j4 (ha pins s σ H Q I h) fun c s1 e=>?_)
 cases c with
 | true=>exact isTrue_and_nil e
 | false=>exact e
theorem a0V(ha:PT X a tA):PW X (.BoolOp .Or [a] pos) tA:=by
 intro wh pins s σ H Q I h
 refine isTrue_or (j4 (ha pins s σ H Q I h) fun c s1 e=>?_)
 cases c with
 | false=>exact isTrue_or_nil e
 | true=>exact e
theorem a48(ha:PT X a tA)(hb:PW X (.BoolOp .And (b::x4) pos) tB'):PW X (.BoolOp .And (a::b::x4) pos) (a9n tA tB'):=by
 intro wh pins s σ H Q I h
 refine isTrue_and (j4 (ha pins s σ H _ I h) fun c s1 ⟨H1,I1,q1⟩=>?_)
 cases c with
 | true=>exact hb wh pins s1 σ H1 Q I1 q1
 | false=>exact⟨H1,I1,q1⟩
theorem a0W(ha:PT X a tA)(hb:PW X (.BoolOp .Or (b::x4) pos) tB'):PW X (.BoolOp .Or (a::b::x4) pos) (tOr tA tB'):=by
 intro wh pins s σ H Q I h
 refine isTrue_or (j4 (ha pins s σ H _ I h) fun c s1 ⟨H1,I1,q1⟩=>?_)
 cases c with
 | true=>exact⟨H1,I1,q1⟩
 | false=>exact hb wh pins s1 σ H1 Q I1 q1
theorem D8(ha:PT X a tA):PT X (.UnaryOp .Not a pos) (a9o tA):=by
 intro pins s σ H Q I h
 exact isTrue_not (ha pins s σ H (fun c H1=>Q (!c) H1) I h)
def a7g(ta tb:TE):TE:=fun σ H Q=>ta σ H fun x H1=>∃c,x=.bl c∧if c=true then tb σ H1 Q else Q (.bl false) H1
def a9p(ta tb:TE):TE:=fun σ H Q=>ta σ H fun x H1=>∃c,x=.bl c∧if c=true then Q (.bl true) H1 else tb σ H1 Q
theorem T9{op}{t:TE}(h:PE X a t):PE X (.BoolOp op [a] pos) t:=fun pins s σ H Q I hw=>BoolOp_one (h pins s σ H Q I hw)
theorem a0X(ha:PE X a ta)(hb:PE X (.BoolOp .And (b::x4) pos) tb):PE X (.BoolOp .And (a::b::x4) pos) (a7g ta tb):=by
 intro pins s σ H Q I h
 refine BoolOp_and (j4 (ha pins s σ H _ I h) fun v s1 ⟨x,H1,I1,r1,q1⟩=>?_)
 obtain⟨c,rfl,q1⟩:=q1
 cases r1
 refine wpAny_truthy_bool ?_
 cases c with
 | true=>exact hb pins s1 σ H1 Q I1 q1
 | false=>exact⟨.bl false,H1,I1,rfl,q1⟩
theorem a2j(ha:PE X a ta)(hb:PE X (.BoolOp .Or (b::x4) pos) tb):PE X (.BoolOp .Or (a::b::x4) pos) (a9p ta tb):=by
 intro pins s σ H Q I h
 refine BoolOp_or (j4 (ha pins s σ H _ I h) fun v s1 ⟨x,H1,I1,r1,q1⟩=>?_)
 obtain⟨c,rfl,q1⟩:=q1
 cases r1
 refine wpAny_truthy_bool ?_
 cases c with
 | false=>exact hb pins s1 σ H1 Q I1 q1
 | true=>exact⟨.bl true,H1,I1,rfl,q1⟩
end
def SqL(K:W.Frag)(H:Hp)(a:Addr)(xs:List V):Prop :=
 Rd H a (.lst xs) ∨
  ∃(o:Obj) (its:Array Value) (n:Nat),K.lookup a=some o∧o.cls=.type "list"∧o.dict=none∧o.data=.seq its n∧its.size≤sizeLine∧Vals xs its.toList
def SqT(K:W.Frag)(H:Hp)(a:Addr)(xs:List V):Prop :=
 Rd H a (.tup xs) ∨
  ∃(o:Obj) (its:Array Value) (n:Nat),K.lookup a=some o∧o.cls=.type "tuple"∧o.data=.seq its n∧its.size≤sizeLine∧Vals xs its.toList
def b09:Value→Option V
 | .none=>some .non
 | .bool b=>some (.bl b)
 | .int i _=>some (.int i)
 | .str x _=>some (.str x)
 | .bytes b _=>some (.byt b)
 | .float b _=>some (.flt b)
 | .ref a=>some (.ref a)
 | .type n=>some (.ty n)
 | _=>none
theorem RelV.abs{x:V}{u:Value}(r:RelV x u):b09 u=some x:=by
 cases x with
 | non=>cases r;rfl
 | bl _=>cases r;rfl
 | int _=>obtain⟨t,rfl⟩:=r;rfl
 | str _=>obtain⟨t,rfl⟩:=r;rfl
 | byt _=>obtain⟨t,rfl⟩:=r;rfl
 | flt _=>obtain⟨t,rfl⟩:=r;rfl
 | ref _=>cases r;rfl
 | ty _=>cases r;rfl
theorem RelV.inj{x y:V}{u:Value}(r:RelV x u)(q:RelV y u):x=y:=Option.some.inj (r.abs.symm.trans q.abs)
theorem Vals.inj:∀{xs ys:List V} {us:List Value},Vals xs us→Vals ys us→xs=ys
 | _,_,_,.nil,.nil=>rfl
 | _,_,_,.cons r t,.cons r' t'=>by rw[r.inj r',Vals.inj t t']
section
variable {X:Cx}{pins:List (Addr×Obj)}{σ:St}{H:Hp}{s:Shared}{a:Addr}{xs ys:List V}
theorem SqL.of{K:W.Frag}(h:H a=some (.lst xs)):SqL K H a xs:=.inl (.inl h)
theorem SqT.of{K:W.Frag}(h:H a=some (.tup xs)):SqT K H a xs:=.inl (.inl h)
theorem Inv.list(I:Inv X pins σ H s)(h:SqL X.K H a xs):∃its:List Value,Vals xs its∧PlainL s.heap a its.toArray∧xs.length≤sizeLine:=by
 rcases h with h | ⟨o,its,n,hk,hc,hd,hs,hz,r⟩
 ·obtain⟨z,its,n,r,e⟩:=h.ok I.hok
  exact⟨its,r,⟨_,n,e,rfl,rfl,rfl⟩,z⟩
 ·refine⟨its.toList,r,⟨o,n,I.kIn a o hk,hc,hd,by simpa using hs⟩,?_⟩
  have e:=r.length
  simp only[Array.length_toList]at e
  omega
theorem Inv.tuple(I:Inv X pins σ H s)(h:SqT X.K H a xs):∃its:List Value,Vals xs its∧IsTup s.heap a its.toArray∧xs.length≤sizeLine:=by
 rcases h with h | ⟨o,its,n,hk,hc,hs,hz,r⟩
 ·obtain⟨z,its,r,p⟩:=h.ok I.hok
  exact⟨its,r,p,z⟩
 ·refine⟨its.toList,r,⟨o,I.kIn a o hk,hc,n,by simpa using hs⟩,?_⟩
  have e:=r.length
  simp only[Array.length_toList]at e
  omega
theorem Inv.list_inj(I:Inv X pins σ H s)(h:SqL X.K H a xs)(h':SqL X.K H a ys):xs=ys:=by
 obtain⟨its,r,⟨o,n,e,_,_,d⟩,_⟩:=I.list h
 obtain⟨its',r',⟨o',n',e',_,_,d'⟩,_⟩:=I.list h'
 rw[e]at e';cases e'
 rw[d]at d'
 injection d' with d1 _
 have:its=its':=by simpa using congrArg Array.toList d1
 subst this
 exact r.inj r'
end
abbrev Cx.wish(X:Cx)(E:Value→Shared→Prop):Cx:={ X with xe:=E }
abbrev Cx.nox(X:Cx):Cx:=X.wish fun _ _=>False
theorem Cx.Ok.wish{X:Cx}(ok:X.Ok)(E:Value→Shared→Prop):(X.wish E).Ok :=
 ⟨ok.mod,ok.kind,ok.glob,ok.blt,ok.above,ok.inj,ok.has,ok.cab,ok.hd,ok.frames,ok.stk,ok.exf,ok.bs,ok.bsz,ok.noex,ok.exfs,ok.funs,ok.frf⟩
theorem Cx.Ok.unwish{X:Cx}{E:Value→Shared→Prop}(ok:(X.wish E).Ok):X.Ok :=
 ⟨ok.mod,ok.kind,ok.glob,ok.blt,ok.above,ok.inj,ok.has,ok.cab,ok.hd,ok.frames,ok.stk,ok.exf,ok.bs,ok.bsz,ok.noex,ok.exfs,ok.funs,ok.frf⟩
section
variable {X:Cx}{pins:List (Addr×Obj)}{σ:St}{H:Hp}{s:Shared}{E:Value→Shared→Prop}
theorem Inv.wish(I:Inv X pins σ H s)(E:Value→Shared→Prop):Inv (X.wish E) pins σ H s:=⟨I.ok.wish E,I.os,I.bare,I.base,I.loc,I.cell,I.free,I.freeC,I.pin,I.hok,I.len⟩
theorem Inv.unwish(I:Inv (X.wish E) pins σ H s):Inv X pins σ H s:=⟨I.ok.unwish,I.os,I.bare,I.base,I.loc,I.cell,I.free,I.freeC,I.pin,I.hok,I.len⟩
theorem SP.unwish{D:Ends}{f:Flow}{s':Shared}(h:SP (X.wish E) pins D f s'):SP X pins D f s':=by
 cases f with
 | next=>obtain⟨σ',H',I,q⟩:=h;exact⟨σ',H',I.unwish,q⟩
 | brk=>obtain⟨σ',H',I,q⟩:=h;exact⟨σ',H',I.unwish,q⟩
 | cont=>obtain⟨σ',H',I,q⟩:=h;exact⟨σ',H',I.unwish,q⟩
 | ret u=>obtain⟨v,σ',H',I,r,q⟩:=h;exact⟨v,σ',H',I.unwish,r,q⟩
theorem PE.nox{e:Expr}{t:TE}(h:PE X.nox e t):PE X e t:=fun pins s σ H Q I hw =>
 wpAny_mono (h pins s σ H Q (I.wish _) hw) (fun _ _ ⟨v,H',I',r,q⟩=>⟨v,H',I'.unwish,r,q⟩) fun _ _ z=>False.elim z
theorem PT.nox{e:Expr}{t:TT}(h:PT X.nox e t):PT X e t:=fun pins s σ H Q I hw =>
 wpAny_mono (h pins s σ H Q (I.wish _) hw) (fun _ _ ⟨H',I',q⟩=>⟨H',I'.unwish,q⟩) fun _ _ z=>False.elim z
theorem PSs.nox{st:List Stmt}{t:TS}(h:PSs X.nox st t):PSs X st t:=fun pins s σ H D I hw =>
 wpAny_mono (h pins s σ H D (I.wish _) hw) (fun _ _ q=>q.unwish) fun _ _ z=>False.elim z
end
section
variable {X:Cx}{st:Stmt}{x4:List Stmt}{t u:TS}{e:Expr}{te:TE}{pos:Pos}
def a7h:TS:=fun D σ H=>D.nx σ H
def a1r(t u:TS):TS:=fun D σ H=>t { D with nx:=u D } σ H
theorem n8:PSs X [] a7h:=fun _ _ σ H _ I h=>wpAny_execs_nil ⟨σ,H,I,h⟩
theorem c4(h1:PS X st t)(h2:PSs X x4 u):PSs X (st::x4) (a1r t u):=by
 intro pins s σ H D I h
 refine wpAny_execs_cons (j4 (h1 pins s σ H { D with nx:=u D } I h) fun f s1 q=>?_)
 cases f with
 | next =>
  obtain⟨σ',H',I',q⟩:=q
  exact h2 pins s1 σ' H' D I' q
 | ret v=>exact q
 | brk=>exact q
 | cont=>exact q
theorem g5(h1:PS X st t):PSs X [st] t:=by
 intro pins s σ H D I h
 refine wpAny_execs_cons (j4 (h1 pins s σ H D I h) fun f s1 q=>?_)
 cases f with
 | next=>exact wpAny_execs_nil q
 | ret v=>exact q
 | brk=>exact q
 | cont=>exact q
theorem Inv.quiet{pins:List (Addr×Obj)}{σ:St}{H:Hp}{s:Shared}(I:Inv X pins σ H s):interactive X.env=false:=by simp[interactive,I.ok.kind]
def a4f(te:TE):TS:=fun D σ H=>te σ H fun _ H1=>D.nx σ H1
theorem J6(he:PE X e te)(hs:swapsWith e none pos.line X.env=pure false:=by rfl):PS X (.Expr e pos) (a4f te):=by
 intro pins s σ H D I h
 exact wpAny_Expr_any (j4 (he pins s σ H _ I h) fun v s1 ⟨x,H1,I1,r1,q1⟩=>⟨σ,H1,I1,q1⟩) I.quiet hs
def a2u(te:TE):TS:=fun D σ H=>te σ H D.rt
theorem k8(he:PE X e te):PS X (.Return (some e) pos) (a2u te):=by
 intro pins s σ H D I h
 exact wpAny_Return_some (j4 (he pins s σ H _ I h) fun v s1 ⟨x,H1,I1,r1,q1⟩=>⟨x,σ,H1,I1,r1,q1⟩)
def a9q(c:TT)(t u:TS):TS:=fun D σ H=>c σ H fun b H1=>if b=true then t D σ H1 else u D σ H1
theorem w6{c:Expr}{a b:List Stmt}{tc:TT}(hc:PT X c tc)(ha:PSs X a t)(hb:PSs X b u):PS X (.If c a b pos) (a9q tc t u):=by
 intro pins s σ H D I h
 refine wpAny_If (j4 (hc pins s σ H _ I h) fun d s1 ⟨H1,I1,q1⟩=>?_)
 cases d with
 | true=>exact ha pins s1 σ H1 D I1 q1
 | false=>exact hb pins s1 σ H1 D I1 q1
end
abbrev TG:=V→St→Hp→(St→Hp→Prop)→Prop
abbrev Y4:=List V→St→Hp→(St→Hp→Prop)→Prop
def PG(X:Cx)(target:Expr)(t:TG):Prop :=
 ∀(pins:List (Addr×Obj)) (s:Shared) (σ:St) (H:Hp) (v:V) (u:Value) (Q:St→Hp→Prop),Inv X pins σ H s→RelV v u→t v σ H Q →
  wpAny (model X.prog X.w) X.A (assign target X.env u) (fun _ s'=>∃σ' H',Inv X pins σ' H' s'∧Q σ' H') X.xe s
def PGs(X:Cx)(ts:List Expr)(t:Y4):Prop :=
 ∀(pins:List (Addr×Obj)) (s:Shared) (σ:St) (H:Hp) (vs:List V) (us:List Value) (Q:St→Hp→Prop),Inv X pins σ H s→Vals vs us→t vs σ H Q →
  wpAny (model X.prog X.w) X.A (assignInOrder ((assignEach ts X.env).map (·.2)) us) (fun _ s'=>∃σ' H',Inv X pins σ' H' s'∧Q σ' H') X.xe s
abbrev a50:=V→V→V→Hp→(Hp→Prop)→Prop
def a9r(X:Cx)(t:a50):Prop :=
 ∀(pins:List (Addr×Obj)) (s:Shared) (σ:St) (H:Hp) (o i v:V) (ov iv u:Value) (Q:Hp→Prop),Inv X pins σ H s→RelV o ov→RelV i iv→RelV v u→t o i v H Q →
  wpAny (model X.prog X.w) X.A (setItem ov iv u) (fun _ s'=>∃H',Inv X pins σ H' s'∧Q H') X.xe s
section
variable {X:Cx}{pos:Pos}
def K3(i:Nat):TG:=fun v σ H Q=>Q (σ.set i (some v)) H
theorem g9{i:Nat}{x:Str}(hN:X.N.Nodup)(hi:X.N[i]? = some x)(hx:Loc X.env.scope x)(hf:X.fn x=true∨X.env.scope.names.lookup x=some .local:=by first | exact .inl rfl | exact .inr rfl | assumption):PG X (.Name x pos) (K3 i):=by
 intro pins s σ H v u Q I r h
 exact wpAny_assign_Name (U9 I hN hi hx r (fun s' I'=>⟨_,H,I',h⟩) hf)
def a51:Y4:=fun vs σ H Q=>vs=[]∧Q σ H
def a2k(t:TG)(u:Y4):Y4:=fun vs σ H Q=>∃v r,vs=v::r∧t v σ H fun σ' H'=>u r σ' H' Q
theorem y4:PGs X [] a51:=by
 intro pins s σ H vs us Q I r h
 obtain⟨e,h⟩:=h
 subst e
 cases r
 exact assignInOrder_nil ⟨σ,H,I,h⟩
theorem h7{e:Expr}{es:List Expr}{t:TG}{u:Y4}(h1:PG X e t)(h2:PGs X es u)
  (hs:(assignEach (e::es) X.env).map (·.2)=assign e X.env::(assignEach es X.env).map (·.2):=by rfl):PGs X (e::es) (a2k t u):=by
 intro pins s σ H vs us Q I r h
 obtain⟨v,vr,e1,h⟩:=h
 subst e1
 cases r with
 | cons r rr =>
  rw[hs]
  refine assignInOrder_cons (j4 (h1 pins s σ H _ _ _ I r h) fun _ s1 ⟨σ1,H1,I1,q1⟩=>?_)
  exact h2 pins s1 σ1 H1 _ _ Q I1 rr q1
def a4g(K:W.Frag)(n:Nat)(t:Y4):TG:=fun v σ H Q=>∃a xs,v=.ref a∧SqT K H a xs∧xs.length=n∧t xs σ H Q
theorem a9s{es:List Expr}{k:Nat}{t:Y4}{n:Nat}(hc:X.calm=true)(h:PGs X es t)
  (hn:(assignEach es X.env).length=n:=by rfl) (hst:(assignEach es X.env).findIdx? (·.1)=none:=by rfl):PG X (.Tuple es k pos) (a4g X.K n t):=by
 intro pins s σ H v u Q I r hw
 obtain⟨a,xs,e1,hq,hl,hw⟩:=hw
 subst e1
 cases r
 obtain⟨its,rv,ht,hz⟩:=I.tuple hq
 refine assign_Tuple_tuple (I.ok.hd hc) ht (by simp[hn,← hl,rv.length]) hst fun h' hx=>?_
 have I1:Inv X pins σ H { s with heap:=h' }:=I.kept (t':=s.toks) fun b o e=>hx b o (Nat.ne_of_lt (Heap.lt_size e)) e
 exact h pins _ σ H xs _ Q I1 (by simpa using rv) hw
def a52(to ti:TE)(t:a50):TG:=fun v σ H Q=>to σ H fun o H1=>ti σ H1 fun i H2=>t o i v H2 fun H3=>Q σ H3
theorem a2v{o i:Expr}{to ti:TE}{t:a50}(ho:PE X o to)(hi:PE X i ti)(hs:a9r X t)
  (ha:∀v,assign (.Subscript o i pos) X.env v=(do
   let ov ← holding [v] (eval o X.env)
   let iv ← holding [v,ov] (eval i X.env)
   standAt pos
   holding [v,ov,iv] (setItem ov iv v)
   release [v,ov,iv] []):=by intro _;rfl):PG X (.Subscript o i pos) (a52 to ti t):=by
 intro pins s σ H v u Q I r h
 rw[ha]
 refine wpAny_bind (wpAny_holding (j4 (ho pins s σ H _ I h) fun ov s1 ⟨x,H1,I1,r1,q1⟩=>?_))
 refine wpAny_bind (wpAny_holding (j4 (hi pins s1 σ H1 _ I1 q1) fun iv s2 ⟨y,H2,I2,r2,q2⟩=>?_))
 refine wpAny_bind (wpAny_standAt (wpAny_bind (wpAny_holding (j4 (hs pins s2 σ H2 x y v ov iv u _ I2 r1 r2 r q2) fun _ s3 ⟨H3,I3,q3⟩=>?_))))
 exact wpAny_release ⟨σ,H3,I3,q3⟩
def T1(te:TE)(g:TG):TS:=fun D σ H=>te σ H fun x H1=>g x σ H1 D.nx
theorem G3{tg e:Expr}{te:TE}{g:TG}(he:PE X e te)(hg:PG X tg g)(hs:swapsWithSole [tg] e pos.line X.env=pure false:=by rfl)(hw:swappedStores [tg] e X.env=pure none:=by rfl)
  (h1:(assignEach [tg] X.env).map (·.2)=[assign tg X.env]:=by rfl):PS X (.Assign [tg] e pos) (T1 te g):=by
 intro pins s σ H D I h
 refine wpAny_Assign_stores (j4 (he pins s σ H _ I h) fun v s1 ⟨x,H1,I1,r1,q1⟩=>?_) hs hw
 rw[h1]
 exact j4 (hg pins s1 σ H1 x v _ I1 r1 q1) fun _ s2 q=>q
theorem i8{i:Nat}{x:Str}{e:Expr}{te:TE}{pos':Pos}(hN:X.N.Nodup)(hi:X.N[i]? = some x)(hx:Loc X.env.scope x)(he:PE X e te)(hs:swapsWith e (some (.Name x pos')) pos.line X.env=pure false:=by rfl)(hf:X.fn x=true∨X.env.scope.names.lookup x=some .local:=by first | exact .inl rfl | exact .inr rfl | assumption) :
  PS X (.Assign [.Name x pos'] e pos) (T1 te (K3 i)):=by
 intro pins s σ H D I h
 refine wpAny_Assign_Name (j4 (he pins s σ H _ I h) fun v s1 ⟨y,H1,I1,r1,q1⟩=>?_) hs
 exact U9 I1 hN hi hx r1 (fun s2 I2=>⟨_,H1,I2,q1⟩) hf
def a9t(i j:Nat)(ta:TA):TS:=fun D σ H=>ta σ H fun vs H1=>∃v w,vs=[v,w]∧D.nx ((σ.set i (some v)).set j (some w)) H1
theorem a9u{i j:Nat}{x y:Str}{a b:Expr}{ta:TA}{px py pt:Pos}{kt k2 pt2}(hc:X.calm=true)(hN:X.N.Nodup)(hi:X.N[i]? = some x)(hj:X.N[j]? = some y)(hij:i≠j)
  (hx:X.env.scope.names.lookup x=some .local) (hy:X.env.scope.names.lookup y=some .local) (ha:PA X [a,b] ta)
  (hw:swappedStores [.Tuple [.Name x px,.Name y py] kt pt] (.Tuple [a,b] k2 pt2) X.env=pure (some [x,y]))
  (hs:swapsWithSole [.Tuple [.Name x px,.Name y py] kt pt] (.Tuple [a,b] k2 pt2) pos.line X.env=pure false:=by rfl) :
  PS X (.Assign [.Tuple [.Name x px,.Name y py] kt pt] (.Tuple [a,b] k2 pt2) pos) (a9t i j ta):=by
 intro pins s σ H D I h
 rw[exec_Assign_arm]
 refine wpAny_bind (wpAny_standAt ?_)
 rw[hs]
 refine wpAny_bind (wpAny_pure ?_)
 rw[if_neg (by decide)]
 refine wpAny_bind (Tuple_ (j4 (ha _ pins s σ H _ I h) fun us s1 ⟨vs,H1,I1,r1,q1⟩=>?_))
 obtain⟨v,w,e1,q1⟩:=q1
 subst e1
 obtain⟨u1,u2,rfl,rv,rw'⟩:∃u1 u2,us=[u1,u2]∧RelV v u1∧RelV w u2:=by
  cases r1 with
  | cons p q =>
   cases q with
   | cons p' q' =>
    cases q'
    exact⟨_,_,rfl,p,p'⟩
 refine wpAny_newObj_type ?_ (by show 2≤sizeLine;decide)
 have I2:Inv X pins σ H1 { s1 with heap:=s1.heap.push { cls:=.type "tuple",data:=.seq [u1,u2].toArray } }:=I1.kept (t':=s1.toks) fun b o e=>Heap.get?_push_of_some _ e
 rw[hw]
 refine wpAny_bind (wpAny_pure ?_)
 show wpAny (model X.prog X.w) X.A (do rule "assign.swapped-stores";let items ← unpackItems (.ref s1.heap.objs.size) 2 none;assignInOrder [fun v=>bindName X.env y v,fun v=>bindName X.env x v] items.reverse;pure Flow.next) _ _ _
 refine wpAny_bind (wpAny_rule (wpAny_bind (unpackItems_tuple (items := #[u1,u2]) (I.ok.hd hc) (IsTup.new s1.heap _) fun h' hx'=>?_)))
 have I3:=I2.kept (h':=h') (t':=s1.toks) fun b o e=>hx' b o (Nat.ne_of_lt (Heap.lt_size e)) e
 show wpAny _ _ (assignInOrder [fun v=>bindName X.env y v,fun v=>bindName X.env x v] [u2,u1] >>= fun _=>pure Flow.next) _ _ _
 refine wpAny_bind (assignInOrder_cons (wpAny_bindName (U9 I3 hN hj (.inl hy) rw' (fun s2 I4=>?_) (.inr hy))))
 refine assignInOrder_cons (wpAny_bindName (U9 I4 hN hi (.inl hx) rv (fun s3 I5=>assignInOrder_nil (wpAny_pure ?_)) (.inr hx)))
 rw[List.set_comm _ _ (Ne.symm hij)]at I5
 exact⟨_,H1,I5,q1⟩
end
structure It where
 go:Nat→Hp→Prop
 yld:Nat→Hp→V→Hp→Prop
 stop:Nat→Hp→Prop
def FpOk(X:Cx)(pins:List (Addr×Obj))(H:Hp)(b:Addr):Prop :=
 H b=none∧b≠X.env.locals∧b ∉ X.fs∧(b∈X.ex∨X.s₀.heap.objs.size≤b)∧(∀x c,X.env.cells.lookup x=some c→c≠b)∧∀p∈X.pn++pins,p.1≠b
theorem Inv.fpOk{X:Cx}{pins:List (Addr×Obj)}{σ:St}{H H':Hp}{s:Shared}{b:Addr}(I:Inv X pins σ H s)(hb:s.heap.objs.size≤b)(hn:H' b=none):FpOk X pins H' b:=by
 refine⟨hn,Nat.ne_of_gt (Nat.lt_of_lt_of_le I.lt hb),I.nofs hb,.inr (Nat.le_trans I.sz hb),fun x c e z=>?_,fun p hp z=>?_⟩
 ·obtain⟨v,q⟩:=I.cell x c e
  exact absurd (Nat.lt_of_lt_of_le q.lt (by rw[z];exact hb)) (Nat.lt_irrefl _)
 ·exact absurd (Nat.lt_of_lt_of_le (Heap.lt_size (I.pin p hp).1) (by rw[z];exact hb)) (Nat.lt_irrefl _)
structure Turn(P:Program)(w:World)(K:W.Frag)(tg:Expr)(J:It)(fp:List Addr)(it:Addr)(tn:Nat→Heap→Prop):Prop where
 mem:it∈fp
 obj:∀i h,tn i h→∀b∈fp,∃o,h.get? b=some o∧∀v,o.data≠.cell v
 keep:∀i h h',tn i h→(∀b∈fp,∀o,h.get? b=some o→h'.get? b=some o)→tn i h'
 item:∀(X:Cx),X.prog=P→X.w=w→X.K=K→X.calm=true→∀(i:Nat) (pins:List (Addr×Obj)) (s:Shared) (σ:St) (H:Hp) (E:Value→Shared→Prop),Inv X pins σ H s→(∀b∈fp,FpOk X pins H b)→tn i s.heap→J.go i H →
  wpAny (model P w) X.A (pyNext (.ref it)) (fun r s1=>∃u,r=some u ∧
   wpAny (model P w) X.A (letOwnedTupleGo tg (.ref it) u) (fun _ s2=>∃x H',Inv X pins σ H' s2∧RelV x u∧J.yld i H x H'∧tn (i+1) s2.heap∧∀b∈fp,H' b=none) E s1) E s
 done:∀(X:Cx),X.prog=P→X.w=w→X.K=K→X.calm=true→∀(i:Nat) (pins:List (Addr×Obj)) (s:Shared) (σ:St) (H:Hp) (E:Value→Shared→Prop),Inv X pins σ H s→(∀b∈fp,FpOk X pins H b)→tn i s.heap→J.stop i H →
  wpAny (model P w) X.A (pyNext (.ref it)) (fun r s1=>r=none∧Inv X pins σ H s1) E s
 self:∀(A:Around) (i:Nat) (s:Shared) (Q:Value→Shared→Prop) (E:Value→Shared→Prop),tn i s.heap→Q (.ref it) s→wpAny (model P w) A (pyIter (.ref it)) Q E s
abbrev TI:=St→Hp→(It→Hp→Prop)→Prop
def PIE(X:Cx)(pins:List (Addr×Obj))(σ:St)(tg:Expr)(R:It→Hp→Prop)(itv:Value)(s2:Shared):Prop :=
 ∃(it:Addr) (fp:List Addr) (tn:Nat→Heap→Prop) (J:It) (H':Hp),itv=.ref it∧Inv X pins σ H' s2∧Turn X.prog X.w X.K tg J fp it tn∧tn 0 s2.heap∧(∀b∈fp,FpOk X pins H' b)∧R J H'
def PI(X:Cx)(tg iter:Expr)(wi:TI):Prop :=
 ∀(pins:List (Addr×Obj)) (s:Shared) (σ:St) (H:Hp) (R:It→Hp→Prop),Inv X pins σ H s→wi σ H R →
  wpAny (model X.prog X.w) X.A (eval iter X.env) (fun v s1=>wpAny (model X.prog X.w) X.A (pyIter v) (PIE X pins σ tg R) X.xe s1) X.xe s
theorem a4h{M:Model}{A:Around}{E:Value→Shared→Prop}{s:Shared}{tg:Expr}{it:Addr}{u:Value}{o:Obj}{n:String}{vs:Array Value}{Q:Unit→Shared→Prop}(ho:s.heap.get? it=some o)(hc:o.cls=.type n)(hd:o.data=.fields vs)
  (hn:["enumerate","zip","dict_itemiterator","dict_reverseitemiterator","odict_iterator","itertools.zip_longest","itertools.pairwise"].contains n=false) (hQ:Q () s):wpAny M A (letOwnedTupleGo tg (.ref it) u) Q E s:=by
 unfold letOwnedTupleGo
 cases tg<;>first
  | exact wpAny_pure hQ
  | (cases u<;>first
    | exact wpAny_pure hQ
    | (refine wpAny_bind (wpAny_load ho ?_)
       rw[hc,hd]
       show wpAny M A (if(["enumerate","zip","dict_itemiterator","dict_reverseitemiterator","odict_iterator","itertools.zip_longest","itertools.pairwise"].contains n && vs[0]? == some (rawInt _))=true then _ else _) Q E s
       rw[if_neg (by intro h;rw[hn,Bool.false_and]at h;cases h)]
       exact wpAny_pure hQ))
def Itl(K:W.Frag)(a:Addr):It :=
 ⟨fun i H=>∃xs x,SqL K H a xs∧xs[i]? = some x,fun i H x H'=>H'=H∧∀xs,SqL K H a xs→xs[i]? = some x,fun i H=>∃xs,SqL K H a xs∧xs.length≤i⟩
def X4(lo:Int)(n:Nat):It:=⟨fun i _=>i<n,fun i H x H'=>H'=H∧x=.int (lo+i),fun i _=>n≤i⟩
theorem a4_{P:Program}{w:World}{K:W.Frag}{tg:Expr}(a it:Addr):Turn P w K tg (Itl K a) [it] it (fun i h=>h.IsListIter it a i) where
 mem:=by simp
 obj:=fun i h st b hb=>by
  have e:b=it:=by simpa using hb
  subst e
  obtain⟨o,e,c,d⟩:=st
  exact⟨o,e,fun v z=>by rw[d]at z;cases z⟩
 keep:=fun i h h' st k=>st.at fun o e=>k it (by simp) o e
 item:=by
  intro X hP hw hK hc i pins s σ H E I hf st hg
  subst hP hw hK
  obtain⟨xs,x,hq,hx⟩:=hg
  obtain⟨its,rv,p,hz⟩:=I.list hq
  obtain⟨u,hu,ru⟩:=rv.get hx
  obtain⟨f0,f1,f2,f3,f4,f5⟩:=hf it (by simp)
  refine wpAny_pyNext_list_item st p.isList (x:=u) (by simpa using hu) fun h' st' sb=>?_
  have I1:Inv X pins σ H { s with heap:=h' }:=I.turned (t':=s.toks) (fun b o hb e=>(sb.2 b hb).trans e) f0 f1 f3 f4 f5
  obtain⟨o,e,c,d⟩:=id st'
  exact⟨u,rfl,a4h (s:={ s with heap:=h' }) e c d (by decide) ⟨x,H,I1,ru,⟨rfl,fun ys hy=>by rw[I.list_inj hy hq];exact hx⟩,st',fun b hb=>(hf b hb).1⟩⟩
 done:=by
  intro X hP hw hK hc i pins s σ H E I hf st hg
  subst hP hw hK
  obtain⟨xs,hq,hx⟩:=hg
  obtain⟨its,rv,p,hz⟩:=I.list hq
  obtain⟨f0,f1,f2,f3,f4,f5⟩:=hf it (by simp)
  have hl:=rv.length
  exact wpAny_pyNext_list_end (I.ok.hd hc) st p.isList (by simp;omega) fun h' eb=>⟨rfl,I.turned (t':=s.toks) (fun b o hb e=>eb b o hb e) f0 f1 f3 f4 f5⟩
 self:=fun _ _ _ _ _ st h=>wpAny_pyIter_listiter st h
theorem a4i{P:Program}{w:World}{K:PySem.W.Frag}{tg:Expr}(it:Addr)(lo:Int)(n:Nat):Turn P w K tg (X4 lo n) [it] it (fun i h=>IsRangeIter h it (lo+(i:Nat)*1) ((n:Int)-(i:Nat)) 1) where
 mem:=by simp
 obj:=fun i h st b hb=>by
  have e:b=it:=by simpa using hb
  subst e
  exact⟨_,st,fun v z=>by
   have z':Data.fields _=Data.cell v:=z
   cases z'⟩
 keep:=fun i h h' st k=>k it (by simp) _ st
 item:=by
  intro X hP hw hK hc i pins s σ H E I hf st hg
  subst hP hw hK
  obtain⟨f0,f1,f2,f3,f4,f5⟩:=hf it (by simp)
  have W:=Walks.range (prog:=X.prog) (w:=X.w) (I.ok.hd hc) it lo 1 n
  refine W.item i s _ _ hg st fun v h' tk hv st' kk=>?_
  obtain⟨t,rfl⟩:=hv
  have I1:Inv X pins σ H { s with heap:=h',toks:=tk }:=I.turned (fun b o hb e=>kk b o (by simpa using hb) e) f0 f1 f3 f4 f5
  refine⟨_,rfl,a4h (s:={ s with heap:=h',toks:=tk }) (n := "range_iterator") st' rfl rfl (by decide) ⟨.int (lo+i),H,I1,⟨t,?_⟩,⟨rfl,rfl⟩,st',fun b hb=>(hf b hb).1⟩⟩
  rw[Int.mul_one]
 done:=by
  intro X hP hw hK hc i pins s σ H E I hf st hg
  subst hP hw hK
  obtain⟨f0,f1,f2,f3,f4,f5⟩:=hf it (by simp)
  exact wpAny_pyNext_range_end (I.ok.hd hc) st (by have:n≤i:=hg;omega) fun h' eb=>⟨rfl,I.turned (t':=s.toks) (fun b o hb e=>eb b o hb e) f0 f1 f3 f4 f5⟩
 self:=fun _ _ _ _ _ st h=>wpAny_pyIter_rangeiter st h
section
variable {X:Cx}{tg:Expr}
def a4j(K:W.Frag)(tl:TE):TI:=fun σ H R=>tl σ H fun x H1=>∃a,x=.ref a∧(∃xs,SqL K H1 a xs)∧R (Itl K a) H1
theorem a1s{l:Expr}{tl:TE}(hl:PE X l tl):PI X tg l (a4j X.K tl):=by
 intro pins s σ H R I h
 refine j4 (hl pins s σ H _ I h) fun v s1 ⟨x,H1,I1,r1,q1⟩=>?_
 obtain⟨a,e,⟨xs,hq⟩,q⟩:=q1
 subst e
 cases r1
 obtain⟨its,rv,p,hz⟩:=I1.list hq
 refine wpAny_pyIter_list p.isList ?_
 refine⟨s1.heap.objs.size,[s1.heap.objs.size],_,_,H1,rfl,I1.kept (t':=s1.toks) fun b o e=>Heap.get?_push_of_some _ e,a4_ a _,⟨_,Heap.get?_push_size _ rfl,rfl,rfl⟩,fun b hb=>?_,q⟩
 have e:b=s1.heap.objs.size:=by simpa using hb
 subst e
 exact I1.fpOk (Nat.le_refl _) (I1.hok.fresh (Nat.le_refl _))
theorem a2w{pins:List (Addr×Obj)}{σ:St}{H:Hp}{s:Shared}{R:It→Hp→Prop}{E:Value→Shared→Prop}{lo hi:Int}{t u v:Tok}{tk:Nat}(I:Inv X pins σ H s)(h1 : -(2 ^ 62)≤lo)(h2:lo<2 ^ 62)(h3 : -(2 ^ 62)≤hi)(h4:hi<2 ^ 62)
  (q:R (X4 lo (hi-lo).toNat) H):wpAny (model X.prog X.w) X.A (pyIter (.ref s.heap.objs.size)) (PIE X pins σ tg R) E { s with heap:=s.heap.push { cls:=.type "range",data:=.fields #[.int lo t,.int hi u,.int 1 v] },toks:=tk }:=by
 refine wpAny_pyIter_range (IsRange.new ..) (small_one h1 h2 h3 h4) ?_
 have I1:Inv X pins σ H { s with heap:=s.heap.push { cls:=.type "range",data:=.fields #[.int lo t,.int hi u,.int 1 v] },toks:=tk }:=I.kept fun b o e=>Heap.get?_push_of_some _ e
 refine⟨(s.heap.push { cls:=.type "range",data:=.fields #[.int lo t,.int hi u,.int 1 v] }).objs.size,[(s.heap.push { cls:=.type "range",data:=.fields #[.int lo t,.int hi u,.int 1 v] }).objs.size],_,_,H,rfl,
  I1.kept (t':=tk) fun b o e=>Heap.get?_push_of_some _ e,a4i _ lo (hi-lo).toNat,?_,fun b hb=>?_,q⟩
 ·have e1:lo+((0:Nat):Int)*1=lo:=by simp
  have e2:(((hi-lo).toNat:Nat):Int)-((0:Nat):Int)=Builtin.Range.rangeSize lo hi 1:=by rw[rangeSize_one];split<;>omega
  show IsRangeIter _ _ (lo+((0:Nat):Int)*1) ((((hi-lo).toNat:Nat):Int)-((0:Nat):Int)) 1
  rw[e1,e2]
  exact Heap.get?_push_size _ rfl
 ·have e:b=(s.heap.push { cls:=.type "range",data:=.fields #[.int lo t,.int hi u,.int 1 v] }).objs.size:=by simpa using hb
  subst e
  exact I1.fpOk (Nat.le_refl _) (I1.hok.fresh (Nat.le_refl _))
def a2l(ta:TA):TI:=fun σ H R=>ta σ H fun vs H1=>∃j:Int,vs=[.int j]∧-(2 ^ 62)≤j∧j<2 ^ 62∧R (X4 0 j.toNat) H1
def a7i(ta:TA):TI:=fun σ H R=>ta σ H fun vs H1=>∃i j:Int,vs=[.int i,.int j]∧(-(2 ^ 62)≤i∧i<2 ^ 62∧-(2 ^ 62)≤j∧j<2 ^ 62)∧R (X4 i (j-i).toNat) H1
theorem a1P{a:Expr}{ta:TA}{p pos:Pos}(hg:Gl X "range")(hm:X.mg "range" = none)(ha:PA X [a] ta)(hs:starEach [a] X.env=[(false,eval a X.env)]:=by rfl):PI X tg (.Call (.Name "range" p) [a] [] pos) (a2l ta):=by
 intro pins s σ H R I h
 refine Call_ (O0 I hg hm boot_range (PyProof.Rows.callWith_type1 (j4 (ha pos pins s σ H _ I h) fun us s1 ⟨vs,H1,I1,r1,q1⟩=>?_) hs rfl))
 obtain⟨j,e,q1,q2,q⟩:=q1
 subst e
 cases r1 with
 | cons r rr =>
  cases rr
  obtain⟨t,rfl⟩:=r
  exact call_range_1 (a2w I1 (by omega) (by omega) q1 q2 (by simpa using q))
theorem a1Q{a b:Expr}{ta:TA}{p pos:Pos}(hg:Gl X "range")(hm:X.mg "range" = none)(ha:PA X [a,b] ta)(hs:starEach [a,b] X.env=[(false,eval a X.env),(false,eval b X.env)]:=by rfl)(hs2:starEach [b] X.env=[(false,eval b X.env)]:=by rfl) :
  PI X tg (.Call (.Name "range" p) [a,b] [] pos) (a7i ta):=by
 intro pins s σ H R I h
 refine Call_ (O0 I hg hm boot_range (PyProof.Rows.callWith_type1 (j4 (ha pos pins s σ H _ I h) fun us s1 ⟨vs,H1,I1,r1,q1⟩=>?_) (by rw[hs,hs2]) (by rw[hs2];rfl)))
 obtain⟨i,j,e,⟨q1,q2,q3,q4⟩,q⟩:=q1
 subst e
 cases r1 with
 | cons r rr =>
  cases rr with
  | cons r' rr =>
   cases rr
   obtain⟨t,rfl⟩:=r
   obtain⟨t',rfl⟩:=r'
   exact call_range_2 (a2w I1 q1 q2 q3 q4 q)
def a0w(wi:TI)(g:TG)(tb:TS):TS:=fun D σ H=>wi σ H fun J H1=>∃W:Nat→Nat→St→Hp→Prop,(∃m,W 0 m σ H1)∧∀i m σ H,W i m σ H →
 (J.stop i H∧D.nx σ H)∨(J.go i H∧∃N:St→Hp→Prop,(∀σ' H',N σ' H'→∃m',m'<m∧W (i+1) m' σ' H')∧∀x H',J.yld i H x H'→g x σ H' fun σ2 H2=>tb { D with nx:=N,ct:=N,bk:=D.nx } σ2 H2)
def Y5(fp:List Addr)(h:Heap):List (Addr×Obj):=fp.filterMap fun b=>(h.get? b).map fun o=>(b,o)
theorem P0{fp:List Addr}{h:Heap}{b:Addr}{o:Obj}(hb:b∈fp)(e:h.get? b=some o):(b,o)∈Y5 fp h:=List.mem_filterMap.mpr ⟨b,hb,by rw[e];rfl⟩
theorem a5a{fp:List Addr}{h:Heap}{p:Addr×Obj}(hp:p∈Y5 fp h):p.1∈fp∧h.get? p.1=some p.2:=by
 obtain⟨b,hb,e⟩:=List.mem_filterMap.mp hp
 cases q:h.get? b with
 | none=>rw[q]at e;cases e
 | some o =>
  rw[q]at e
  have e':(b,o)=p:=Option.some.inj e
  subst e'
  exact⟨hb,q⟩
theorem Inv.pinned{pins:List (Addr×Obj)}{σ:St}{H:Hp}{s:Shared}{fp:List Addr}(I:Inv X pins σ H s)(hf:∀b∈fp,FpOk X pins H b)(ho:∀b∈fp,∃o,s.heap.get? b=some o∧∀v,o.data≠.cell v):Inv X (pins++Y5 fp s.heap) σ H s :=
 I.pins_of fun p hp=>(List.mem_append.mp hp).elim (fun z=>I.pin p (List.mem_append_right _ z)) fun z=>by
  obtain⟨hb,e⟩:=a5a z
  obtain⟨f0,f1,f2,_⟩:=hf p.1 hb
  obtain⟨o,e',d⟩:=ho p.1 hb
  rw[e]at e';cases e'
  exact⟨e,f0,f1,f2,d⟩
theorem Inv.unpinned{pins pl:List (Addr×Obj)}{σ:St}{H:Hp}{s:Shared}(I:Inv X (pins++pl) σ H s):Inv X pins σ H s:=I.pins_of fun p hp=>I.pin p (List.mem_append_right _ (List.mem_append_left _ hp))
theorem D9{iter:Expr}{body:List Stmt}{wi:TI}{g:TG}{tb:TS}{pos:Pos}(hp:PassesOwn (model X.prog X.w) X.A X.env X.xe)(hc:X.calm=true)(hi:PI X tg iter wi)(hg:PG X tg g)(hb:PSs X body tb)
  (hs:∀x,foldedSetIterable iter X.env x=pure x:=by intro _;rfl):PS X (.For tg iter body [] pos) (a0w wi g tb):=by
 intro pins s σ H D I h
 refine wpAny_For (j4 (hi pins s σ H _ I h) fun v s1 h1=>j4 h1 fun itv s2 h2=>?_) hs
 obtain⟨it,fp,tn,J,H2,e,I2,T,st2,f2,W,⟨m0,w0⟩,turn⟩:=h2
 subst e
 -- what stays true of the iterator's objects through the loop
 have stat:∀{H':Hp},(∀b∈fp,H' b=none)→∀b∈fp,FpOk X pins H' b:=fun hn b hb=>⟨hn b hb,(f2 b hb).2⟩
 refine codeAny_forLoop_any (fun n s'=>∃i σ' H',Inv X pins σ' H' s'∧tn i s'.heap∧(∀b∈fp,H' b=none)∧W i n σ' H') ?_ m0 ⟨0,σ,H2,I2,st2,fun b hb=>(f2 b hb).1,w0⟩
 rintro n s3 ⟨i,σ3,H3,I3,st3,fr3,w3⟩
 rcases turn i n σ3 H3 w3 with⟨stop,qn⟩ | ⟨go,N,hN,step⟩
 ·refine wpAny_passesOwn hp (j4 (T.done X rfl rfl rfl hc i pins s3 σ3 H3 X.xe I3 (stat fr3) st3 stop) fun r s4 ⟨hr,I4⟩=>?_)
  subst hr
  exact wpAny_execs_nil ⟨σ3,H3,I4,qn⟩
 ·refine wpAny_passesOwn hp (j4 (T.item X rfl rfl rfl hc i pins s3 σ3 H3 X.xe I3 (stat fr3) st3 go) fun r s4 ⟨u,hr,h4⟩=>?_)
  subst hr
  refine wpAny_passesOwn hp (j4 h4 fun _ s5 ⟨x,H5,I5,r5,y5,st5,fr5⟩=>?_)
  have I5':=I5.pinned (stat fr5) (T.obj _ _ st5)
  refine wpAny_passesOwn hp (j4 (hg _ s5 σ3 H5 x u _ I5' r5 (step x H5 y5)) fun _ s6 ⟨σ6,H6,I6,q6⟩=>?_)
  refine wpAny_passesOwn hp (j4 (hb _ s6 σ6 H6 _ I6 q6) fun f s7 q7=>?_)
  have again:∀{σ7:St} {H7:Hp},Inv X (pins++Y5 fp s5.heap) σ7 H7 s7→N σ7 H7→∃m,m<n∧∃i σ' H',Inv X pins σ' H' s7∧tn i s7.heap∧(∀b∈fp,H' b=none)∧W i m σ' H':=fun{σ7 H7} I7 n7=>by
   obtain⟨m',hm,w7⟩:=hN σ7 H7 n7
   refine⟨m',hm,i+1,σ7,H7,I7.unpinned,T.keep _ _ _ st5 fun b hb o e=>(I7.pin (b,o) (List.mem_append_right _ (List.mem_append_right _ (P0 hb e)))).1,fun b hb=>?_,w7⟩
   obtain⟨o,e,d⟩:=T.obj _ _ st5 b hb
   exact(I7.pin (b,o) (List.mem_append_right _ (List.mem_append_right _ (P0 hb e)))).2.1
  cases f with
  | next=>obtain⟨σ7,H7,I7,n7⟩:=q7;exact again I7 n7
  | cont=>obtain⟨σ7,H7,I7,n7⟩:=q7;exact again I7 n7
  | brk=>obtain⟨σ7,H7,I7,q7⟩:=q7;exact⟨σ7,H7,I7.unpinned,q7⟩
  | ret v=>obtain⟨x7,σ7,H7,I7,r7,q7⟩:=q7;exact⟨x7,σ7,H7,I7.unpinned,r7,q7⟩
end
theorem a53{K:PySem.W.Frag}{a:Addr}{xs:List V}{g:TG}{tb:TS}{D:Ends}{σ:St}{H:Hp}(Pv:Nat→St→Hp→Prop)(h0:Pv 0 σ H)(hl:∀i σ H,i≤xs.length→Pv i σ H→SqL K H a xs)
  (hs:∀i x σ H,xs[i]? = some x→Pv i σ H→g x σ H fun σ2 H2=>tb { D with nx:=Pv (i+1),ct:=Pv (i+1),bk:=D.nx } σ2 H2) (hd:∀σ H,Pv xs.length σ H→D.nx σ H) :
  ∃W:Nat→Nat→St→Hp→Prop,(∃m,W 0 m σ H)∧∀i m σ H,W i m σ H →
   ((Itl K a).stop i H∧D.nx σ H)∨((Itl K a).go i H∧∃N:St→Hp→Prop,(∀σ' H',N σ' H'→∃m',m'<m∧W (i+1) m' σ' H')∧∀x H',(Itl K a).yld i H x H'→g x σ H' fun σ2 H2=>tb { D with nx:=N,ct:=N,bk:=D.nx } σ2 H2):=by
 refine⟨fun i m σ H=>m=xs.length-i∧i≤xs.length∧Pv i σ H,⟨xs.length,by simp,Nat.zero_le _,h0⟩,?_⟩
 rintro i m σ H ⟨rfl,hi,p⟩
 have q:=hl i σ H hi p
 by_cases hlt:i<xs.length
 ·refine .inr ⟨⟨xs,xs[i],q,by simp[hlt]⟩,Pv (i+1),fun σ' H' p'=>⟨xs.length-(i+1),by omega,rfl,hlt,p'⟩,fun x H' y=>?_⟩
  obtain⟨e,y⟩:=y
  subst e
  exact hs i x σ _ (y xs q) p
 ·have e:i=xs.length:=by omega
  subst e
  exact .inl ⟨⟨xs,q,Nat.le_refl _⟩,hd σ H p⟩
theorem a1R{lo:Int}{n:Nat}{g:TG}{tb:TS}{D:Ends}{σ:St}{H:Hp}(Pv:Nat→St→Hp→Prop)(h0:Pv 0 σ H)
  (hs:∀i σ H,i<n→Pv i σ H→g (.int (lo+i)) σ H fun σ2 H2=>tb { D with nx:=Pv (i+1),ct:=Pv (i+1),bk:=D.nx } σ2 H2) (hd:∀σ H,Pv n σ H→D.nx σ H) :
  ∃W:Nat→Nat→St→Hp→Prop,(∃m,W 0 m σ H)∧∀i m σ H,W i m σ H →
   ((X4 lo n).stop i H∧D.nx σ H)∨((X4 lo n).go i H∧∃N:St→Hp→Prop,(∀σ' H',N σ' H'→∃m',m'<m∧W (i+1) m' σ' H')∧∀x H',(X4 lo n).yld i H x H'→g x σ H' fun σ2 H2=>tb { D with nx:=N,ct:=N,bk:=D.nx } σ2 H2):=by
 refine⟨fun i m σ H=>m=n-i∧i≤n∧Pv i σ H,⟨n,by simp,Nat.zero_le _,h0⟩,?_⟩
 rintro i m σ H ⟨rfl,hi,p⟩
 by_cases hlt:i<n
 ·refine .inr ⟨hlt,Pv (i+1),fun σ' H' p'=>⟨n-(i+1),by omega,rfl,hlt,p'⟩,fun x H' y=>?_⟩
  obtain⟨e,y⟩:=y
  subst e y
  exact hs i σ _ hlt p
 ·have e:i=n:=by omega
  subst e
  exact .inl ⟨Nat.le_refl _,hd σ H p⟩
abbrev R2:=V→V→Hp→VK→Prop
def OpR(X:Cx)(f:Value→Value→Sem Value)(r:R2):Prop :=
 ∀(pins:List (Addr×Obj)) (s:Shared) (σ:St) (H:Hp) (x y:V) (v u:Value) (Q:VK),Inv X pins σ H s→RelV x v→RelV y u→r x y H Q →
  wpAny (model X.prog X.w) X.A (f v u) (EP X pins σ Q) X.xe s
def CallR(X:Cx)(f:Value)(r:List V→Hp→VK→Prop):Prop :=
 ∀(pins:List (Addr×Obj)) (s:Shared) (σ:St) (H:Hp) (xs:List V) (us:List Value) (Q:VK),Inv X pins σ H s→Vals xs us→r xs H Q →
  wpAny (model X.prog X.w) X.A (call f us) (EP X pins σ Q) X.xe s
def tOp(r:R2)(ta tb:TE):TE:=fun σ H Q=>ta σ H fun x H1=>tb σ H1 fun y H2=>r x y H2 Q
def rI(C:Int→Int→Prop)(g:Int→Int→V):R2:=fun x y H Q=>∃i j,x=.int i∧y=.int j∧C i j∧Q (g i j) H
def Q0(g:Int→Int→V):R2:=fun x y H Q=>∃i j,x=.int i∧y=.int j∧Q (g i j) H
section
variable {X:Cx}{a b c:Expr}{ta tb tc:TE}{pos:Pos}
theorem a54(ha:PE X a ta)(hb:PE X b tb){pins:List (Addr×Obj)}{s:Shared}{σ:St}{H:Hp}{R:V→V→Hp→Prop}(I:Inv X pins σ H s)
  (h:ta σ H fun x H1=>tb σ H1 fun y H2=>R x y H2) {Q:Value→Shared→Prop} {f:Value→Value→Sem Value}
  (hf:∀v u s2 x y H2,Inv X pins σ H2 s2→RelV x v→RelV y u→R x y H2→wpAny (model X.prog X.w) X.A (f v u) Q X.xe s2) :
  wpAny (model X.prog X.w) X.A (eval a X.env) (fun v s₁=>wpAny (model X.prog X.w) X.A (eval b X.env) (fun u s₂=>wpAny (model X.prog X.w) X.A (f v u) Q X.xe s₂) X.xe s₁) X.xe s:=by
 refine j4 (ha pins s σ H _ I h) fun v s1 ⟨x,H1,I1,r1,q1⟩=>?_
 refine j4 (hb pins s1 σ H1 _ I1 q1) fun u s2 ⟨y,H2,I2,r2,q2⟩=>?_
 exact hf v u s2 x y H2 I2 r1 r2 q2
theorem d9{op:Operator}{r:R2}(ho:OpR X (binaryOp op) r)(ha:PE X a ta)(hb:PE X b tb):PE X (.BinOp a op b pos) (tOp r ta tb):=by
 intro pins s σ H Q I h
 exact wpAny_BinOp (a54 ha hb I h fun v u s2 x y H2 I2 rx ry q=>ho pins s2 σ H2 x y v u Q I2 rx ry q)
theorem opI{f:Value→Value→Sem Value}{C:Int→Int→Prop}{g:Int→Int→Int}
  (rule:∀(i j:Int) (t u:Tok) (s:Shared) (Q:Value→Shared→Prop) (E:Value→Shared→Prop),C i j→Q (.int (g i j) s.toks) { s with toks:=s.toks+1 }→wpAny (model X.prog X.w) X.A (f (.int i t) (.int j u)) Q E s) :
  OpR X f (rI C fun i j=>.int (g i j)):=by
 intro pins s σ H x y v u Q I rx ry h
 obtain⟨i,j,rfl,rfl,hc,q⟩:=h
 obtain⟨t,rfl⟩:=rx
 obtain⟨t',rfl⟩:=ry
 exact rule i j t t' s _ _ hc ⟨.int (g i j),H,I.tok _,⟨_,rfl⟩,q⟩
theorem a9v{f:Value→Value→Sem Value}{g:Int→Int→Int}
  (rule:∀(i j:Int) (t u:Tok) (s:Shared) (Q:Value→Shared→Prop) (E:Value→Shared→Prop),Q (.int (g i j) s.toks) { s with toks:=s.toks+1 }→wpAny (model X.prog X.w) X.A (f (.int i t) (.int j u)) Q E s) :
  OpR X f (Q0 fun i j=>.int (g i j)):=by
 intro pins s σ H x y v u Q I rx ry h
 obtain⟨i,j,rfl,rfl,q⟩:=h
 obtain⟨t,rfl⟩:=rx
 obtain⟨t',rfl⟩:=ry
 exact rule i j t t' s _ _ ⟨.int (g i j),H,I.tok _,⟨_,rfl⟩,q⟩
theorem a4k{f:Value→Value→Sem Value}{g:Int→Int→Bool}
  (rule:∀(i j:Int) (t u:Tok) (s:Shared) (Q:Value→Shared→Prop) (E:Value→Shared→Prop),Q (.bool (g i j)) s→wpAny (model X.prog X.w) X.A (f (.int i t) (.int j u)) Q E s) :
  OpR X f (Q0 fun i j=>.bl (g i j)):=by
 intro pins s σ H x y v u Q I rx ry h
 obtain⟨i,j,rfl,rfl,q⟩:=h
 obtain⟨t,rfl⟩:=rx
 obtain⟨t',rfl⟩:=ry
 exact rule i j t t' s _ _ ⟨.bl (g i j),H,I,rfl,q⟩
def a1t(i j:Int):Prop:=0≤j∧j≤1000000∧i.natAbs<2 ^ 64
def CMul(i j:Int):Prop:=(-(2 ^ 64)<i∧i<2 ^ 64)∨(-(2 ^ 64)<j∧j<2 ^ 64)
theorem CMul.ok{i j:Int}(h:CMul i j):IntMulOk i j:=by
 rcases h with⟨h1,h2⟩ | ⟨h1,h2⟩
 ·exact .of_left (intBits_le_64 h1 h2)
 ·exact .of_right (intBits_le_64 h1 h2)
theorem A4:OpR X (binaryOp .Add) (Q0 fun i j=>.int (i+j)):=a9v fun _ _ _ _ _ _ _ q=>add_int q
theorem z8:OpR X (binaryOp .Sub) (Q0 fun i j=>.int (i-j)):=a9v fun _ _ _ _ _ _ _ q=>sub_int q
theorem r8:OpR X (binaryOp .Mod) (rI (fun _ j=>0<j) fun i j=>.int (i%j)):=opI fun i j _ _ _ _ _ hc q=>by
 have h1:(0:Int)<j:=hc
 exact mod_int' (by omega) (by rw[Int.fmod_eq_emod_of_nonneg i (by omega)];exact q)
theorem a2x:OpR X (binaryOp .Pow) (rI a1t fun i j=>.int (i ^ j.toNat)):=opI fun _ _ _ _ _ _ _ hc q=>pow_int_small hc.1 hc.2.1 hc.2.2 q
end
def a2y:V→V→Bool
 | .non,.non=>true | .non,.int _=>true | .int _,.non=>true | .non,.bl _=>true | .bl _,.non=>true | .non,.str _=>true | .str _,.non=>true
 | .int _,.int _=>true | .bl _,.bl _=>true | .str _,.str _=>true | .byt _,.byt _=>true
 | .int _,.str _=>true | .str _,.int _=>true | .bl _,.str _=>true | .str _,.bl _=>true
 | _,_=>false
def rEq:R2:=fun x y H Q=>a2y x y=true∧Q (.bl (decide (x=y))) H
def rNe:R2:=fun x y H Q=>a2y x y=true∧Q (.bl (!decide (x=y))) H
theorem a3D{i j:Int}:decide (V.int i=V.int j)=(i == j):=by
 rw[Bool.eq_iff_iff]
 simp
theorem a5b{i j:Bool}:decide (V.bl i=V.bl j)=(i == j):=by
 rw[Bool.eq_iff_iff]
 simp
theorem a3E{i j:Str}:decide (V.str i=V.str j)=(i == j):=by
 rw[Bool.eq_iff_iff]
 simp
theorem a3F{i j:Array UInt8}:decide (V.byt i=V.byt j)=(i.toList == j.toList):=by
 rw[Bool.eq_iff_iff]
 cases i
 cases j
 simp
section
variable {X:Cx}{a b c:Expr}{ta tb tc:TE}{pos:Pos}
theorem j8{pins:List (Addr×Obj)}{σ:St}{H:Hp}{s:Shared}{Q:VK}{k k':Bool}(I:Inv X pins σ H s)(q:Q (.bl k) H)(e:k=k'):EP X pins σ Q (.bool k') s:=by
 subst e
 exact⟨.bl k,H,I,rfl,q⟩
theorem a0g:OpR X (compareOp .Eq) rEq:=by
 intro pins s σ H x y v u Q I rx ry h
 obtain⟨hs,q⟩:=h
 cases x with
 | non =>
  cases rx
  cases y with
  | non=>cases ry;exact PySem.EqNone.eq_none_none (j8 I q (by simp))
  | bl j=>cases ry;exact PySem.EqNone.eq_none_bool (j8 I q (by simp))
  | int j=>obtain⟨t',rfl⟩:=ry;exact PySem.EqNone.eq_none_int (j8 I q (by simp))
  | str j=>obtain⟨t',rfl⟩:=ry;exact PySem.EqNone.eq_none_str (j8 I q (by simp))
  | _=>exact absurd (show false=true from hs) Bool.false_ne_true
 | bl i =>
  cases rx
  cases y with
  | non=>cases ry;exact PySem.EqNone.eq_bool_none (j8 I q (by simp))
  | bl j=>cases ry;exact eq_bool (j8 I q a5b)
  | str j=>obtain⟨t',rfl⟩:=ry;exact PySem.EqMixed.eq_bool_str (j8 I q (by simp))
  | _=>exact absurd (show false=true from hs) Bool.false_ne_true
 | int i =>
  obtain⟨t,rfl⟩:=rx
  cases y with
  | non=>cases ry;exact PySem.EqNone.eq_int_none (j8 I q (by simp))
  | int j=>obtain⟨t',rfl⟩:=ry;exact eq_int (j8 I q a3D)
  | str j=>obtain⟨t',rfl⟩:=ry;exact PySem.EqMixed.eq_int_str (j8 I q (by simp))
  | _=>exact absurd (show false=true from hs) Bool.false_ne_true
 | str i =>
  obtain⟨t,rfl⟩:=rx
  cases y with
  | non=>cases ry;exact PySem.EqNone.eq_str_none (j8 I q (by simp))
  | bl j=>cases ry;exact PySem.EqMixed.eq_str_bool (j8 I q (by simp))
  | int j=>obtain⟨t',rfl⟩:=ry;exact PySem.EqMixed.eq_str_int (j8 I q (by simp))
  | str j=>obtain⟨t',rfl⟩:=ry;exact eq_str (j8 I q a3E)
  | _=>exact absurd (show false=true from hs) Bool.false_ne_true
 | byt i =>
  obtain⟨t,rfl⟩:=rx
  cases y with
  | byt j=>obtain⟨t',rfl⟩:=ry;exact W.eq_bytes (j8 I q a3F)
  | _=>exact absurd (show false=true from hs) Bool.false_ne_true
 | _=>cases y<;>exact absurd (show false=true from hs) Bool.false_ne_true
theorem a0Y:OpR X (compareOp .NotEq) rNe:=by
 intro pins s σ H x y v u Q I rx ry h
 obtain⟨hs,q⟩:=h
 cases x with
 | non =>
  cases rx
  cases y with
  | non=>cases ry;exact PySem.EqNone.ne_none_none (j8 I q (by simp))
  | bl j=>cases ry;exact PySem.EqNone.ne_none_bool (j8 I q (by simp))
  | int j=>obtain⟨t',rfl⟩:=ry;exact PySem.EqNone.ne_none_int (j8 I q (by simp))
  | str j=>obtain⟨t',rfl⟩:=ry;exact PySem.EqNone.ne_none_str (j8 I q (by simp))
  | _=>exact absurd (show false=true from hs) Bool.false_ne_true
 | bl i =>
  cases rx
  cases y with
  | non=>cases ry;exact PySem.EqNone.ne_bool_none (j8 I q (by simp))
  | bl j=>cases ry;exact ne_bool (j8 I q (congrArg not a5b))
  | str j=>obtain⟨t',rfl⟩:=ry;exact PySem.EqMixed.ne_bool_str (j8 I q (by simp))
  | _=>exact absurd (show false=true from hs) Bool.false_ne_true
 | int i =>
  obtain⟨t,rfl⟩:=rx
  cases y with
  | non=>cases ry;exact PySem.EqNone.ne_int_none (j8 I q (by simp))
  | int j=>obtain⟨t',rfl⟩:=ry;exact ne_int (j8 I q (congrArg not a3D))
  | str j=>obtain⟨t',rfl⟩:=ry;exact PySem.EqMixed.ne_int_str (j8 I q (by simp))
  | _=>exact absurd (show false=true from hs) Bool.false_ne_true
 | str i =>
  obtain⟨t,rfl⟩:=rx
  cases y with
  | non=>cases ry;exact PySem.EqNone.ne_str_none (j8 I q (by simp))
  | bl j=>cases ry;exact PySem.EqMixed.ne_str_bool (j8 I q (by simp))
  | int j=>obtain⟨t',rfl⟩:=ry;exact PySem.EqMixed.ne_str_int (j8 I q (by simp))
  | str j=>obtain⟨t',rfl⟩:=ry;exact ne_str (j8 I q (congrArg not a3E))
  | _=>exact absurd (show false=true from hs) Bool.false_ne_true
 | byt i =>
  obtain⟨t,rfl⟩:=rx
  cases y with
  | byt j=>obtain⟨t',rfl⟩:=ry;exact W.ne_bytes (j8 I q (congrArg not a3F))
  | _=>exact absurd (show false=true from hs) Bool.false_ne_true
 | _=>cases y<;>exact absurd (show false=true from hs) Bool.false_ne_true
theorem b0C:OpR X (compareOp .Lt) (Q0 fun i j=>.bl (decide (i<j))):=a4k fun _ _ _ _ _ _ _ q=>lt_int q
theorem V0:OpR X (compareOp .LtE) (Q0 fun i j=>.bl (decide (i≤j))):=a4k fun _ _ _ _ _ _ _ q=>le_int q
theorem a4l:OpR X (compareOp .Gt) (Q0 fun i j=>.bl (decide (j<i))):=a4k fun _ _ _ _ _ _ _ q=>gt_int q
theorem a4m:OpR X (compareOp .GtE) (Q0 fun i j=>.bl (decide (j≤i))):=a4k fun _ _ _ _ _ _ _ q=>ge_int q
theorem a7H:OpR X (compareOp .IsNot) (fun x y H Q=>y=.non∧Q (.bl (!decide (x=.non))) H):=by
 intro pins s σ H x y v u Q I rx ry h
 obtain⟨rfl,q⟩:=h
 cases ry
 refine isnot_none_gen (j8 I q ?_)
 cases x<;>first
  | (cases rx;rfl)
  | (obtain⟨t,rfl⟩:=rx;rfl)
theorem OpR.or{f:Value→Value→Sem Value}{r r':R2}(h:OpR X f r)(h':OpR X f r'):OpR X f (fun x y H Q=>r x y H Q∨r' x y H Q):=by
 intro pins s σ H x y v u Q I rx ry q
 rcases q with q | q
 ·exact h pins s σ H x y v u Q I rx ry q
 ·exact h' pins s σ H x y v u Q I rx ry q
theorem l6(b:Expr){op:CmpOp}(h:op≠.In:=by decide)(h2:op≠.NotIn:=by decide):behindInMarks op b=false:=by
 have e1:(op == CmpOp.In)=false:=by cases op<;>first | rfl | exact absurd rfl h
 have e2:(op == CmpOp.NotIn)=false:=by cases op<;>first | rfl | exact absurd rfl h2
 cases b<;>simp[behindInMarks,e1,e2]
theorem y6{op:CmpOp}{r:R2}(ho:OpR X (compareOp op) r)(ha:PE X a ta)(hb:PE X b tb)(hm:behindInMarks op b=false):PE X (.Compare a [op] [b] pos) (tOp r ta tb):=by
 intro pins s σ H Q I h
 exact wpAny_Compare1 (a54 ha hb I h fun v u s2 x y H2 I2 rx ry q=>ho pins s2 σ H2 x y v u Q I2 rx ry q) hm
def a7k(t:TE):TT:=fun σ H Q=>t σ H fun x H'=>∃k,x=.bl k∧Q k H'
theorem w8{op:CmpOp}{r:R2}(ho:OpR X (compareOp op) r)(ha:PE X a ta)(hb:PE X b tb)(hm:behindInMarks op b=false):PT X (.Compare a [op] [b] pos) (a7k (tOp r ta tb)):=by
 intro pins s σ H Q I h
 refine wpAny_isTrue_Compare1 (j4 (ha pins s σ H _ I h) fun v s1 ⟨x,H1,I1,r1,q1⟩=>j4 (hb pins s1 σ H1 _ I1 q1) fun u s2 ⟨y,H2,I2,r2,q2⟩ =>
  j4 (ho pins s2 σ H2 x y v u _ I2 r1 r2 q2) fun c s3 ⟨z,H3,I3,r3,k,e,q3⟩=>?_) hm
 subst e
 cases r3
 exact wpAny_truthy_bool ⟨H3,I3,q3⟩
theorem U0:(sizeLine:Nat)<2 ^ 63:=by rw[sizeLine_eq];decide
theorem a4n{x:V}{us:List Value}(r:Vals [x] us):∃u,us=[u]∧RelV x u:=by
 cases r with
 | cons r1 r2=>cases r2;exact⟨_,rfl,r1⟩
theorem b0D{x y:V}{us:List Value}(r:Vals [x,y] us):∃u w',us=[u,w']∧RelV x u∧RelV y w':=by
 cases r with
 | cons r1 r2 =>
  cases r2 with
  | cons r3 r4=>cases r4;exact⟨_,_,rfl,r1,r3⟩
end
structure ObjM(h:Heap)(x dx C:Addr)(mA:Str→Option Value):Prop where
 obj:h.get? x=some (W.instObj C dx)
 ns:h.Ns1 dx mA
 ne:dx≠x
theorem a5c{h:Heap}{dx:Addr}{mA:Str→Option Value}(n:h.Ns1 dx mA):∃od,h.get? dx=some od∧∀name,W.lookIn name od=some (mA name):=by
 obtain⟨o,es,ep,ho,hd,hk,_,hm⟩:=n
 refine⟨o,ho,fun name=>?_⟩
 have e:=hm name
 unfold nsFind findBy at e
 rw[← Array.find?_toList]at e
 unfold W.lookIn
 rw[hd]
 dsimp only
 split
 ·rename_i y q
  rw[q]at e
  exact congrArg some e
 ·rename_i q
  rw[q]at e
  have a:es.toList.any (·.refKey)=false:=by
   rw[List.any_eq_false]
   intro y hy
   obtain⟨z,t,hkey⟩:=hk y (Array.mem_toList_iff.mp hy)
   simp[DictEntry.refKey,hkey]
  have a':¬es.toList.any (·.refKey)=true:=by rw[a];exact Bool.false_ne_true
  rw[if_neg a']
  exact congrArg some e
theorem ObjM.look{h:Heap}{x dx C:Addr}{mA:Str→Option Value}(I:ObjM h x dx C mA):∃od,W.InstAt h x (W.instObj C dx) C (some od)∧∀name,W.lookIn name od=some (mA name) :=
 let ⟨od,ho,hl⟩:=a5c I.ns
 ⟨od,⟨I.obj,rfl,rfl,ho⟩,hl⟩
section
variable {P:Program}{w:World}{H H':Hp}{h h':Heap}{a C dx:Addr}{fs fs':List (Str×V)}
theorem a7I(hok:HOk P w H h)(e:H a=some (.ins C dx fs)):∃mA,ObjM h a dx C mA∧(∀f,RelO (fs.lookup f) (mA f))∧PySem.Within mA (fs.map (·.1))∧fs.length≤1000∧H dx=some (.own a):=by
 obtain⟨d,z,ne,ob,mA,n,r,q⟩:=(show ObjOk P w H h a (.ins C dx fs)from hok a _ e)
 exact⟨mA,⟨ob,n,ne⟩,r,q,z,d⟩
end
structure Cls(K:W.Frag)(C:Addr):Prop where
 pg:W.plainGet K C Str.empty=true
 hd:W.hasDictIn K C=true
 po:W.plainOver K C=true
 sa:W.findIn K (.ref C) "__setattr__" = some (some (.builtin "object.__setattr__"))
theorem Cls.get{K:W.Frag}{C:Addr}(c:Cls K C)(f:Str):W.plainGet K C f=true:=c.pg
section
variable {X:Cx}{pins:List (Addr×Obj)}{σ:St}{H:Hp}{s:Shared}{a C dx:Addr}{fs:List (Str×V)}{f:Str}{v:V}{A:Around}{E:Value→Shared→Prop}
theorem Inv.made(I:Inv X pins σ H s):Inv X pins σ (upd (upd H s.heap.objs.size (.own (s.heap.objs.size+1))) (s.heap.objs.size+1) (.ins C s.heap.objs.size []))
  { s with heap:=(s.heap.push W.emptyDict).push (W.instObj C s.heap.objs.size) }:=by
 have e1:(s.heap.push W.emptyDict).get? s.heap.objs.size=some W.emptyDict:=Heap.get?_push_size s.heap rfl
 have e2:((s.heap.push W.emptyDict).push (W.instObj C s.heap.objs.size)).get? (s.heap.objs.size+1)=some (W.instObj C s.heap.objs.size):=by
  have:=Heap.get?_push_size (s.heap.push W.emptyDict) (o:=W.instObj C s.heap.objs.size) rfl
  rwa [Heap.size_push]at this
 have e3:(s.heap.push W.emptyDict).Ns s.heap.objs.size (fun _=>none):=⟨W.emptyDict,#[],_,e1,rfl,(fun e he=>absurd he (by simp)),fun _=>rfl⟩
 have I1:=I.laid (a:=s.heap.objs.size) (o:=.own (s.heap.objs.size+1)) (h':=s.heap.push W.emptyDict) (t':=s.toks) (fun b u q=>Heap.get?_push_of_some _ q) (Nat.le_refl _) ⟨_,e1⟩
 refine I1.laid (a:=s.heap.objs.size+1) (o:=.ins C s.heap.objs.size []) (t':=s.toks) (fun b u q=>Heap.get?_push_of_some _ q) (Nat.le_of_eq (Heap.size_push _ _)) ?_
 have ne:s.heap.objs.size≠s.heap.objs.size+1:=Nat.ne_of_lt (Nat.lt_succ_self _)
 refine⟨by rw[c8 ne,i0],Nat.zero_le _,ne,e2,fun _=>none,(Heap.Ns1.of_empty e3).at fun o q=>Heap.get?_push_of_some _ q,fun _=>True.intro,fun y hy=>absurd rfl hy⟩
end
section
variable {X:Cx}{pins:List (Addr×Obj)}{σ:St}{H:Hp}{s:Shared}{A:Around}{E:Value→Shared→Prop}{Q:Value→Shared→Prop}{c:Value}{b:Bool}
inductive TyOf(K:W.Frag)(H:Hp):V→Value→Prop where
 | non:TyOf K H .non (.type "NoneType")
 | bl (x:Bool):TyOf K H (.bl x) (.type "bool")
 | int (i:Int):TyOf K H (.int i) (.type "int")
 | str (x:Str):TyOf K H (.str x) (.type "str")
 | flt (x:UInt64):TyOf K H (.flt x) (.type "float")
 | lst {a:Addr} {xs:List V} (e:H a=some (.lst xs)):TyOf K H (.ref a) (.type "list")
 | frz {a:Addr} {o:Obj} {xs:List V} (e:H a=some (.frz o (.lst xs))):TyOf K H (.ref a) (.type "list")
 | tup {a:Addr} {xs:List V} (e:H a=some (.tup xs)):TyOf K H (.ref a) (.type "tuple")
 | dK {a:Addr} {kvs:List (t6×V)} (e:H a=some (.dK kvs)):TyOf K H (.ref a) (.type "dict")
 | dT {a:Addr} {kvs:List (List t6×V)} (e:H a=some (.dT kvs)):TyOf K H (.ref a) (.type "dict")
 | ins {a C dx:Addr} {fs:List (Str×V)} (e:H a=some (.ins C dx fs)) (cl:Cls K C) (ha:W.findIn K (.ref C) "__class__" = some (some (.builtin "object.__class__")))
   (hn:W.specialIn K (.builtin "object.__class__") "__get__" = some (some (.builtin "getset_descriptor.__get__"))) (htk:W.takesIn K (.builtin "object.__class__")=some true)
   (hm:W.mroIn K C (.type "object")=some true):TyOf K H (.ref a) (.ref C)
end
structure Room(k:Nat)(A:Around):Prop where
 hd:A.handled=none
 dp:A.depth+3*k+5<recursionLimit
 un:A.units+16*k+200<cLine
theorem Room.mono{j k:Nat}{A:Around}(r:Room k A)(h:j≤k):Room j A:=⟨r.hd,by have:=r.dp;omega,by have:=r.un;omega⟩
theorem Room.deeper{k:Nat}{A:Around}(r:Room (k+1) A)(env:Env):Room k (A.deeper env) :=
 ⟨r.hd,by have:=r.dp;show A.depth+1+3*k+5<_;omega,by have:=r.un;show A.units+3+16*k+200<_;omega⟩
theorem Room.in1{k:Nat}{A:Around}(r:Room (k+1) A):Room k A.in1 :=
 ⟨r.hd,by have:=r.dp;show A.depth+3*k+5<_;omega,by have:=r.un;show A.units+1+16*k+200<_;omega⟩
theorem Room.depth{k:Nat}{A:Around}(r:Room k A):A.depth<recursionLimit:=by have:=r.dp;omega
theorem Room.units{k:Nat}{A:Around}(r:Room k A):A.units+64<cLine:=by have:=r.un;omega
def M3:TA:=fun _ H Q=>Q [] H
def B0(ta:TE)(tr:TA):TA:=fun σ H Q=>ta σ H fun x H1=>tr σ H1 fun xs H2=>Q (x::xs) H2
section
variable {X:Cx}{e:Expr}{es:List Expr}{te:TE}{t:TA}{pos:Pos}
theorem b9:PA X [] M3:=fun _ _ _ _ H Q I h=>Calls.spliced_nil ⟨[],H,I,.nil,h⟩
theorem a7(ha:PE X e te)(hr:PA X es t)(hs:starEach (e::es) X.env=(false,eval e X.env)::starEach es X.env:=by rfl):PA X (e::es) (B0 te t):=by
 intro pos pins s σ H Q I h
 rw[hs]
 show wpAny _ _ (spliced ((false,eval e X.env)::backTo pos (starEach es X.env))) _ _ s
 refine Calls.spliced_cons (j4 (ha pins s σ H _ I h) fun u s1 ⟨x,H1,I1,r1,q1⟩=>?_)
 exact j4 (hr pos pins s1 σ H1 _ I1 q1) fun us s2 ⟨xs,H2,I2,r2,q2⟩=>⟨x::xs,H2,I2,.cons r1 r2,q2⟩
def a9w(t:TA):TE:=fun σ H Q=>t σ H fun xs H1=>xs.length≤sizeLine∧∀p,H1 p=none→Q (.ref p) (upd H1 p (.tup xs))
def a9x(t:TA):TE:=fun σ H Q=>t σ H fun xs H1=>xs.length≤sizeLine∧∀p,H1 p=none→Q (.ref p) (upd H1 p (.lst xs))
theorem w4{x1}(h:PA X es t):PE X (.Tuple es x1 pos) (a9w t):=by
 intro pins s σ H Q I hq
 refine wpAny_Tuple_spliced (j4 (h pos pins s σ H _ I hq) fun us s1 ⟨xs,H1,I1,r,z,q⟩=>⟨by rw[← r.length];exact z,?_⟩)
 have hf:H1 s1.heap.objs.size=none:=I1.hok.fresh (Nat.le_refl _)
 refine⟨.ref s1.heap.objs.size,upd H1 s1.heap.objs.size (.tup xs),I1.laid (t':=s1.toks) (fun b u e=>Heap.get?_push_of_some _ e) (Nat.le_refl _) ?_,rfl,q _ hf⟩
 exact⟨z,us,r,⟨_,Heap.get?_push_size _ rfl,rfl,_,rfl⟩⟩
theorem B5(h:PA X es t):PE X (.List es pos) (a9x t):=by
 intro pins s σ H Q I hq
 refine wpAny_List_spliced (j4 (h pos pins s σ H _ I hq) fun us s1 ⟨xs,H1,I1,r,z,q⟩=>⟨by rw[← r.length];exact z,?_⟩)
 have hf:H1 s1.heap.objs.size=none:=I1.hok.fresh (Nat.le_refl _)
 refine⟨.ref s1.heap.objs.size,upd H1 s1.heap.objs.size (.lst xs),I1.laid (t':=s1.toks) (fun b u e=>Heap.get?_push_of_some _ e) (Nat.le_refl _) ?_,rfl,q _ hf⟩
 exact⟨z,us,0,r,Heap.get?_push_size _ rfl⟩
end
abbrev Sp:=List V→Hp→VK→XK→Prop
abbrev U1:=List Env→Hp→Shared→XK→Value→Shared→Prop
structure Env0(P:Program)(w:World)(K:W.Frag)(mg:Str→Option Value)(base:Heap)(A:Around)(outer:List Env)(s:Shared)(H:Hp):Prop where
 frames:A.frames=some outer
 mod:Mod K mg base
 bs:∀b o,base.get? b=some o→s.heap.get? b=some o∧H b=none
 bsz:base.objs.size≤s.heap.objs.size
 funs:s.heap.FunFrames base outer
 frf:∀b∈B3 outer,H b=none
 hok:HOk P w H s.heap
 bare:AllBare s.gens
def CE(outer:List Env)(P:Program)(w:World)(H:Hp)(s:Shared)(Q:VK)(u:Value)(s':Shared):Prop :=
 ∃v H',s'.os=s.os∧AllBare s'.gens∧Un (B3 outer) [] H H' s.heap s'.heap∧HOk P w H' s'.heap∧RelV v u∧Q v H'
def CR(CX:U1)(outer:List Env)(P:Program)(w:World)(H:Hp)(s:Shared)(Q:VK)(E:XK)(r:Result)(s':Shared):Prop :=
 match r with
 | .ok (.ret u)=>CE outer P w H s Q u s'
 | .ok _=>False
 | .error e=>CX outer H s E e s'
structure FnOk(P:Program)(w:World)(K:W.Frag)(mg:Str→Option Value)(base:Heap)(CX:U1)(k:Nat)(f:Addr)(fd:FuncData)(ps:List Str)(sp:Sp):Prop where
 len:∀vs H Q E,sp vs H Q E→vs.length=ps.length
 run:∀(A:Around) (outer:List Env) (s:Shared) (H:Hp) (args:Args) (us:List Value) (vs:List V) (Q:VK) (E:XK),Room k A→Env0 P w K mg base A outer s H→BindsTo s fd args (ps.zip us)→Vals vs us→sp vs H Q E →
  codeAny (model P w) A (.call (.ref f) args) (CR CX outer P w H s Q E) s
theorem FnOk.mono{P:Program}{w:World}{K:W.Frag}{mg:Str→Option Value}{base:Heap}{CX:U1}{j k:Nat}{f:Addr}{fd:FuncData}{ps:List Str}{sp:Sp}(F:FnOk P w K mg base CX j f fd ps sp)(h:j≤k) :
  FnOk P w K mg base CX k f fd ps sp:=⟨F.len,fun A outer s H args us vs Q E hr=>F.run A outer s H args us vs Q E (hr.mono h)⟩
theorem FnOk.imp{P:Program}{w:World}{K:W.Frag}{mg:Str→Option Value}{base:Heap}{CX:U1}{k:Nat}{f:Addr}{fd:FuncData}{ps:List Str}{sp sp':Sp}(F:FnOk P w K mg base CX k f fd ps sp)
  (h:∀vs H Q E,sp' vs H Q E→sp vs H Q E):FnOk P w K mg base CX k f fd ps sp' :=
 ⟨fun vs H Q E q=>F.len vs H Q E (h _ _ _ _ q),fun A outer s H args us vs Q E hr he hb hv hs=>F.run A outer s H args us vs Q E hr he hb hv (h _ _ _ _ hs)⟩
theorem Env0.in1{P:Program}{w:World}{K:W.Frag}{mg:Str→Option Value}{base:Heap}{A:Around}{outer:List Env}{s:Shared}{H:Hp}(e:Env0 P w K mg base A outer s H) :
  Env0 P w K mg base A.in1 outer s H:=⟨e.frames,e.mod,e.bs,e.bsz,e.funs,e.frf,e.hok,e.bare⟩
section
variable {X:Cx}{pins:List (Addr×Obj)}{σ:St}{H:Hp}{s s':Shared}
theorem Inv.env0(I:Inv X pins σ H s):Env0 X.prog X.w X.K X.mg X.base X.A X.stack s H :=
 ⟨I.ok.frames,I.ok.mod,I.bs,Nat.le_trans I.ok.bsz I.sz,I.stack,I.stkFree,I.hok,I.bare⟩
theorem Inv.after{Q:VK}{u:Value}(I:Inv X pins σ H s)(h:CE X.stack X.prog X.w H s Q u s'):EP X pins σ Q u s':=by
 obtain⟨v,H',os,bare,un,hok,r,q⟩:=h
 obtain⟨hh,g,d,t,os'⟩:=s'
 obtain rfl:os'=s.os:=os
 exact⟨v,H',I.call (h':=hh) (g':=g) (d':=d) (t':=t) (ch:=[]) un hok bare (fun b z=>absurd z (by simp)),r,q⟩
end
def V1(sp:Sp)(dvs:List V)(E:XK)(t:TA):TE:=fun σ H Q=>t σ H fun vs H1=>sp (vs++dvs) H1 Q E
def Binds(K:W.Frag)(fd:FuncData)(ps:List Str)(ds:List Value):Prop :=
 ∀(s:Shared) (us:List Value),K.In s.heap→(us++ds).length=ps.length→BindsTo s fd ⟨us,[]⟩ (ps.zip (us++ds))
theorem Binds.all{K:W.Frag}{fd:FuncData}{ps:List Str}(h:∀us:List Value,us.length=ps.length→bindArgs fd ⟨us,[]⟩=pure (ps.zip us)):Binds K fd ps []:=fun s us _ hl=>by
 rw[List.append_nil]at hl ⊢
 exact .of_eq (h us hl)
def Y6(CX:U1)(X:Cx)(E:XK):Prop:=∀(pins:List (Addr×Obj)) (σ:St) (H:Hp) (s:Shared) (e:Value) (s':Shared),Inv X pins σ H s→CX X.stack H s E e s'→X.xe e s'
section
variable {X:Cx}{CX:U1}{k:Nat}{f C:Addr}{fd:FuncData}{ps:List Str}{sp:Sp}{dvs:List V}{ds:List Value}{E:XK}{x m:Str}{p pos apos:Pos}{e o:Expr}{es:List Expr}{ta:TE}{t:TA}
theorem a9y{pins:List (Addr×Obj)}{σ:St}{H:Hp}{s:Shared}{Q:VK}{us:List Value}{vs:List V}(F:FnOk X.prog X.w X.K X.mg X.base CX k f fd ps sp)(hr:Room k X.A)(hb:Binds X.K fd ps ds)(hd:Vals dvs ds)(hx:Y6 CX X E)
  (I:Inv X pins σ H s) (r:Vals vs us) (h:sp (vs++dvs) H Q E):wpAny (model X.prog X.w) X.A (call (.ref f) us) (EP X pins σ Q) X.xe s:=by
 have r2:Vals (vs++dvs) (us++ds):=r.append hd
 have hl:(us++ds).length=ps.length:=by rw[← r2.length];exact F.len _ _ _ _ h
 refine wpAny_call (codeAny_mono (F.run X.A X.stack s H ⟨us,[]⟩ (us++ds) (vs++dvs) Q E hr I.env0 (hb s us I.kIn hl) r2 h) fun r s' hq=>?_)
 cases r with
 | error e=>exact hx pins σ H s e s' I hq
 | ok fl =>
  cases fl with
  | ret u=>exact I.after hq
  | next=>exact False.elim hq
  | brk=>exact False.elim hq
  | cont=>exact False.elim hq
theorem a7J(F:FnOk X.prog X.w X.K X.mg X.base CX k f fd ps sp)(hr:Room k X.A)(hg:Gl X x)(hm:X.mg x=some (.ref f))(hk:W.keepIn X.K (.ref f)=true)(hb:Binds X.K fd ps ds)(hd:Vals dvs ds)(hx:Y6 CX X E)
  (ha:PA X (e::es) t) (hdb:(x == ("__debug__" : Str))=false:=by decide) (he:starEach (e::es) X.env=(false,eval e X.env)::starEach es X.env:=by rfl) (hpl:(backTo pos (starEach es X.env)).any (·.1)=false:=by rfl) :
  PE X (.Call (.Name x p) (e::es) [] pos) (V1 sp dvs E t):=by
 intro pins s σ H Q I h
 refine wpAny_Call_Name_kw (a1q I hg hm ?_ hdb)
 refine W.callWith_K (h₀:=X.base) I.ok.mod.kin hk (j4 (ha pos pins s σ H _ I h) fun us s1 ⟨vs,H1,I1,r,q⟩=>⟨I1.kIn,?_⟩) he hpl
 exact a9y F hr hb hd hx I1 r q
end
structure FnScope(N P:List Str)(sc:Scope):Prop where
 kind:sc.kind=.function
 co:sc.isCoroutine=false
 gen:sc.isGenerator=false
 nd:N.Nodup
 pre:N.take P.length=P
 par:∀x∈P,sc.names.lookup x=some .local∨sc.names.lookup x=some .cell
 nofree:∀y∈sc.names,y.2≠.free
theorem a1T{kindOf:Str→Option NameKind}{x:Str}:∀{binds:List (Str×Value)} {m:Str→Option Value},(∀v,(x,v) ∉ binds)→bindL kindOf binds m x=m x
 | [],_,_=>rfl
 | (n,v)::r,m,h=>by
  unfold bindL
  rw[a1T fun w hw=>h w (List.mem_cons_of_mem _ hw)]
  split
  ·have:x≠n:=by rintro rfl;exact h v List.mem_cons_self
   simp[this]
  ·rfl
theorem a1U{kindOf:Str→Option NameKind}{x:Str}:∀{binds:List (Str×Value)} {m:Str→Option Value},(∀v,(x,v) ∉ binds)→bindC kindOf binds m x=m x
 | [],_,_=>rfl
 | (n,v)::r,m,h=>by
  unfold bindC
  rw[a1U fun w hw=>h w (List.mem_cons_of_mem _ hw)]
  split
  ·rfl
  ·have:x≠n:=by rintro rfl;exact h v List.mem_cons_self
   simp[this]
theorem Y7{kindOf:Str→Option NameKind}{x:Str}{v:Value}:∀{P:List Str} {vs:List Value} {i:Nat} {m:Str→Option Value},P.Nodup→P[i]? = some x→vs[i]? = some v→kindOf x=some .local →
  bindL kindOf (P.zip vs) m x=some v
 | [],_,_,_,_,h,_,_=>by simp at h
 | _::_,[],_,_,_,_,h,_=>by simp at h
 | p::P,w::vs,0,m,nd,h1,h2,hk=>by
  simp at h1 h2;subst h1;subst h2
  show bindL kindOf ((p,w)::P.zip vs) m p=_
  unfold bindL
  rw[a1T fun v hv=>(List.nodup_cons.mp nd).1 (List.of_mem_zip hv).1,if_pos hk]
  simp
 | p::P,w::vs,i+1,m,nd,h1,h2,hk=>by
  show bindL kindOf ((p,w)::P.zip vs) m x=_
  unfold bindL
  exact Y7 (i:=i) (List.nodup_cons.mp nd).2 (by simpa using h1) (by simpa using h2) hk
theorem Y8{kindOf:Str→Option NameKind}{x:Str}{v:Value}:∀{P:List Str} {vs:List Value} {i:Nat} {m:Str→Option Value},P.Nodup→P[i]? = some x→vs[i]? = some v→kindOf x≠some .local →
  bindC kindOf (P.zip vs) m x=some v
 | [],_,_,_,_,h,_,_=>by simp at h
 | _::_,[],_,_,_,_,h,_=>by simp at h
 | p::P,w::vs,0,m,nd,h1,h2,hk=>by
  simp at h1 h2;subst h1;subst h2
  show bindC kindOf ((p,w)::P.zip vs) m p=_
  unfold bindC
  rw[a1U fun v hv=>(List.nodup_cons.mp nd).1 (List.of_mem_zip hv).1,if_neg hk]
  simp
 | p::P,w::vs,i+1,m,nd,h1,h2,hk=>by
  show bindC kindOf ((p,w)::P.zip vs) m x=_
  unfold bindC
  exact Y8 (i:=i) (List.nodup_cons.mp nd).2 (by simpa using h1) (by simpa using h2) hk
def start(N:List Str)(vs:List V):St:=vs.map some++List.replicate (N.length-vs.length) none
def M4(CX:U1)(P:Program)(w:World)(K:W.Frag)(mg:Str→Option Value)(base:Heap)(N:List Str)(qual:Str)(scope:Scope)(f:Addr)(cd:Value)(A:Around)(outer:List Env)(s:Shared)(H:Hp)(E:XK):Cx where
 prog:=P
 w:=w
 K:=K
 mg:=mg
 base:=base
 A:=A.deeper (envOfC qual scope s.heap.objs.size f cd)
 N:=N
 s₀:=s
 H₀:=H
 env:=envOfC qual scope s.heap.objs.size f cd
 outer:=outer
 stack:=envOfC qual scope s.heap.objs.size f cd::outer
 ex:=[]
 calm:=true
 fn:=fun _=>true
 pn:=[]
 xe:=fun e s'=>wpAny (model P w) (A.deeper (envOfC qual scope s.heap.objs.size f cd)) (leaving (envOfC qual scope s.heap.objs.size f cd) e) (fun _ s''=>CX outer H s E e s'') (fun e' s''=>CX outer H s E e' s'') s'
theorem V2{sc:Scope}{n:Nat}{x:Str}(h:sc.names.lookup x=some .cell):∃c,(cellsFrom n sc.names []).lookup x=some c:=by
 have q:=W.cellsFrom_some sc.names n [] (.inl h)
 exact Option.isSome_iff_exists.mp q
theorem a5d{CX:U1}{P:Program}{w:World}{K:W.Frag}{mg:Str→Option Value}{base:Heap}{N ps:List Str}{qual:Str}{scope:Scope}{f:Addr}{cd:Value}{A:Around}{outer:List Env}{s s1:Shared}{H:Hp}{E:XK}{us:List Value}{vs:List V}
  (S:FnScope N ps scope) (hd:A.handled=none) (e0:Env0 P w K mg base A outer s H) (hl:vs.length=ps.length) (r:Vals vs us)
  (x:InCallC s s.heap.objs.size (bindL (envOfC qual scope s.heap.objs.size f cd).kindOf (ps.zip us) fun _=>none) (cellsFrom (s.heap.objs.size+1) scope.names []) (bindC (envOfC qual scope s.heap.objs.size f cd).kindOf (ps.zip us) fun _=>none) s1) :
  Inv (M4 CX P w K mg base N qual scope f cd A outer s H E) [] (start N vs) H s1:=by
 have hpl:ps.length≤N.length:=by have:=congrArg List.length S.pre;rw[List.length_take]at this;omega
 obtain⟨h1,tk,rfl,hk⟩:=x.done
 have noA:∀b:Addr,b ∉ (M4 CX P w K mg base N qual scope f cd A outer s H E).ex:=fun b z=>absurd (show b∈([]:List Addr)from z) (by simp)
 refine⟨⟨e0.mod,S.kind,rfl,rfl,Nat.le_refl _,fun y z c h1 h2=>?_,fun y hy=>?_,fun y c _ h=>?_,fun _=>hd,Around.frames_deeper e0.frames,.inr ⟨rfl,rfl⟩,fun b z=>absurd z (noA b),e0.bs,e0.bsz,fun b _ _=>noA b,fun b z=>absurd z (noA b),e0.funs,e0.frf⟩,
  rfl,e0.bare,Un.kept hk,⟨_,x.toInCall.ns,fun i y v h1 h2 h3=>?_⟩,fun y c h=>⟨_,x.cell y c h⟩,e0.hok.fresh (Nat.le_refl _),fun y c h=>?_,fun p hp=>absurd (show p∈([]:List (Addr×Obj))from hp) (by simp),e0.hok.kept hk,?_⟩
 ·exact name_of_addr x.apart (PySem.mem_of_lookup h1) (PySem.mem_of_lookup h2)
 ·have hy:scope.names.lookup y=some .cell∨scope.names.lookup y=some .free:=hy
  rcases hy with hy | hy
  ·exact V2 hy
  ·exact absurd rfl (S.nofree _ (PySem.mem_of_lookup hy))
 ·exact Nat.le_of_lt (x.above y c (PySem.mem_of_lookup h))
 ·have hi:i<vs.length:=by
   unfold start at h2
   by_cases hi:i<vs.length
   ·exact hi
   ·rw[List.getElem?_append_right (by simpa using hi)]at h2
    rw[List.getElem?_replicate]at h2
    split at h2<;>cases h2
  have ha:vs[i]? = some v:=by
   unfold start at h2
   rw[List.getElem?_append_left (by simpa using hi),List.getElem?_map]at h2
   cases e:vs[i]? with
   | none=>rw[e]at h2;cases h2
   | some a=>rw[e]at h2;cases h2;rfl
  obtain⟨u,hu,rv⟩:=r.get ha
  have hp:ps[i]? = some y:=by
   rw[← S.pre,List.getElem?_take_of_lt (by omega)];exact h1
  have ndP:ps.Nodup:=by rw[← S.pre];exact S.nd.sublist (List.take_sublist _ _)
  refine⟨u,rv,?_⟩
  rcases S.par y (List.mem_of_getElem? hp)with k | k
  ·exact .inl ⟨k,Y7 ndP hp hu k⟩
  ·obtain⟨c,e⟩:=V2 (n:=s.heap.objs.size+1) k
   refine .inr ⟨.inl k,c,e,?_⟩
   have q:=x.cell y c e
   rw[Y8 ndP hp hu (by show scope.names.lookup y≠_;rw[k];decide)]at q
   exact q
 ·exact e0.hok.fresh (Nat.le_of_lt (x.above y c (PySem.mem_of_lookup h)))
 ·unfold start
  show _=N.length
  rw[List.length_append,List.length_map,List.length_replicate]
  omega
theorem a4o{CX:U1}{P:Program}{w:World}{K:W.Frag}{mg:Str→Option Value}{base:Heap}{k:Nat}{f:Addr}{name qual:Str}{params:Arguments}{body:List Stmt}{scope:Scope}{dV kV doc pm cdv ct oc:Value}{an od:Option Addr}
  {osl:Array (Option Value)} {N ps:List Str} {sp:Sp} (lk:K.lookup f=some ⟨oc,od,.func (W.fnOf name qual params body scope dV kV doc pm an cdv ct),osl⟩) (hcd:W.codeIn K cdv qual=true) (S:FnScope N ps scope)
  (len:∀vs H Q E,sp vs H Q E→vs.length=ps.length)
  (hbody:∀(A:Around) (outer:List Env) (s:Shared) (H:Hp) (vs:List V) (Q:VK) (E:XK),Room k (A.deeper (envOfC qual scope s.heap.objs.size f cdv))→sp vs H Q E →
   ∃t,PSs (M4 CX P w K mg base N qual scope f cdv A outer s H E) body t∧t { nx:=fun _ H'=>Q .non H',rt:=Q } (start N vs) H) :
  FnOk P w K mg base CX (k+1) f (W.fnOf name qual params body scope dV kV doc pm an cdv ct) ps sp:=by
 refine⟨len,fun A outer s H args us vs Q E hr e0 hb r hsp=>?_⟩
 have hl:=len _ _ _ _ hsp
 have KX:K.In s.heap:=e0.mod.kin.keeps fun b o e=>(e0.bs b o e).1
 have lim:s.heap.NoLimit:=e0.mod.nolimit.keeps fun b o e=>(e0.bs b o e).1
 have hkind:∀y∈ps.zip us,scope.names.lookup y.1=some .local∨(scope.names.lookup y.1=some .cell∧((cellsFrom (s.heap.objs.size+1) scope.names []).lookup y.1).isSome=true):=fun⟨n,v⟩ hy=>by
  rcases S.par n (List.of_mem_zip hy).1 with q | q
  ·exact .inl q
  ·exact .inr ⟨q,W.cellsFrom_some _ _ _ (.inl q)⟩
 refine codeAny_call_function hr.depth (KX _ _ lk) rfl S.co S.gen rfl (W.codeRec_of KX hcd) (hb _ _ _ _ ?_)
 refine wpAny_newFunctionEnv_cells S.kind hkind fun env he s1 x=>?_
 subst he
 refine⟨lim.keeps x.toInCall.keep,codeAny_func ?_⟩
 obtain⟨t,ht,hq⟩:=hbody A outer s H vs Q E (hr.deeper _) hsp
 have I:Inv (M4 CX P w K mg base N qual scope f cdv A outer s H E) [] (start N vs) H s1:=a5d S hr.hd e0 hl r x
 refine wpAny_mono (ht [] s1 (start N vs) H _ I hq) (fun fl s' hs=>?_) fun e s' hs=>hs
 have fin:∀{σ':St} {H':Hp} {v:V} {u:Value},Inv (M4 CX P w K mg base N qual scope f cdv A outer s H E) [] σ' H' s'→RelV v u→Q v H'→CE outer P w H s Q u s' :=
  fun{σ' H' v u} J rv q=>⟨v,H',J.os,J.bare,J.base,J.hok,rv,q⟩
 cases fl with
 | ret u =>
  obtain⟨v,σ',H',J,rv,q⟩:=hs
  exact fin J rv q
 | next =>
  obtain⟨σ',H',J,q⟩:=hs
  exact fin (v:=V.non) (u:=Value.none) J rfl q
 | brk =>
  obtain⟨_,_,_,q⟩:=hs
  exact False.elim q
 | cont =>
  obtain⟨_,_,_,q⟩:=hs
  exact False.elim q
section
variable {X:Cx}{x:Str}{p pos:Pos}{e:Expr}{es:List Expr}{t:TA}{id T:String}{r:List V→Hp→VK→Prop}
def tCB(r:List V→Hp→VK→Prop)(t:TA):TE:=fun σ H Q=>t σ H fun vs H1=>r vs H1 Q
theorem x5(hc:CallR X (.builtin id) r)(hg:Gl X x)(hm:X.mg x=none)(hv:bootBuiltins x=some (.builtin id))(ha:PA X (e::es) t)(hn:x≠"__name__" := by decide)(hdb:(x == ("__debug__" : Str))=false:=by decide)
  (he:starEach (e::es) X.env=(false,eval e X.env)::starEach es X.env:=by rfl) (hpl:(backTo pos (starEach es X.env)).any (·.1)=false:=by rfl):PE X (.Call (.Name x p) (e::es) [] pos) (tCB r t):=by
 intro pins s σ H Q I h
 refine wpAny_Call_Name_kw (O0 I hg hm hv ?_ hn hdb)
 exact PyProof.Rows.callWith_builtin1 (j4 (ha pos pins s σ H _ I h) fun us s1 ⟨vs,H1,I1,r1,q1⟩=>hc pins s1 σ H1 vs us Q I1 r1 q1) he hpl
theorem a1V(hc:CallR X (.type T) r)(hg:Gl X x)(hm:X.mg x=none)(hv:bootBuiltins x=some (.type T))(ha:PA X (e::es) t)(hn:x≠"__name__" := by decide)(hdb:(x == ("__debug__" : Str))=false:=by decide)
  (he:starEach (e::es) X.env=(false,eval e X.env)::starEach es X.env:=by rfl) (hpl:(backTo pos (starEach es X.env)).any (·.1)=false:=by rfl):PE X (.Call (.Name x p) (e::es) [] pos) (tCB r t):=by
 intro pins s σ H Q I h
 refine wpAny_Call_Name_kw (O0 I hg hm hv ?_ hn hdb)
 exact PyProof.Rows.callWith_type1 (j4 (ha pos pins s σ H _ I h) fun us s1 ⟨vs,H1,I1,r1,q1⟩=>hc pins s1 σ H1 vs us Q I1 r1 q1) he hpl
end
end L2
namespace HT
open PySem PyProof.Rows
def lexLt:List Int→List Int→Bool
 | [],[]=>false
 | [],_::_=>true
 | _::_,[]=>false
 | x::xs,y::ys=>if x=y then lexLt xs ys else decide (x<y)
theorem lexLt_cons(x y:Int)(xs ys:List Int):lexLt (x::xs) (y::ys)=if x=y then lexLt xs ys else decide (x<y):=rfl
section
variable {prog:Program}{w:World}{A:Around}{E:Value→Shared→Prop}{s:Shared}
def sIx(n d:Nat):Option Int→Nat
 | none=>d
 | some v=>if v<0 then(v+(n:Int)).toNat else min v.toNat n
theorem sIx_nat(n d k:Nat):sIx n d (some (k:Int))=min k n:=by
 show(if(k:Int)<0 then((k:Int)+(n:Int)).toNat else min (k:Int).toNat n)=min k n
 rw[if_neg (by omega),Int.toNat_natCast]
end
end HT
namespace L2
open PySem PySem.Spec PyProof.Rows
abbrev TO:=St→Hp→(Option Int→Hp→Prop)→Prop
def PO(X:Cx)(e:Option Expr)(t:TO):Prop :=
 ∀(pins:List (Addr×Obj)) (s:Shared) (σ:St) (H:Hp) (Q:Option Int→Hp→Prop),Inv X pins σ H s→t σ H Q →
  wpAny (model X.prog X.w) X.A (evalPart e X.env) (fun u s'=>∃o H',Inv X pins σ H' s'∧IsPart u o∧Q o H') X.xe s
def a7l(t:TE):TO:=fun σ H Q=>t σ H fun x H1=>∃i,x=.int i∧Q (some i) H1
section
variable {X:Cx}{e:Expr}{te:TE}{lo hi:Option Expr}{tl th:TO}{pos p2:Pos}
theorem P7(h:PE X e te):PO X (some e) (a7l te):=by
 intro pins s σ H Q I hw
 rw[evalPart_some]
 refine j4 (h pins s σ H _ I hw) fun u s1 ⟨x,H1,I1,r1,q1⟩=>?_
 obtain⟨i,rfl,q⟩:=q1
 obtain⟨t,rfl⟩:=r1
 exact⟨some i,H1,I1,.int i t,q⟩
def SlR(X:Cx)(r:V→Option Int→Option Int→Hp→VK→Prop):Prop :=
 ∀(pins:List (Addr×Obj)) (s:Shared) (σ:St) (H:Hp) (x:V) (v vl vu:Value) (lo hi:Option Int) (sl:Addr) (Q:VK),Inv X pins σ H s→RelV x v→s.heap.IsSliceOf sl vl vu .none→IsPart vl lo→IsPart vu hi→r x lo hi H Q →
  ∃T id,typeLookup (.type T) "__getitem__" = pure (some (.builtin id))∧s.TypeIs v T∧wpAny (model X.prog X.w) X.A (getItem v (.ref sl)) (EP X pins σ Q) X.xe s
theorem SlR.or{r r':V→Option Int→Option Int→Hp→VK→Prop}(h:SlR X r)(h':SlR X r'):SlR X (fun x lo hi H Q=>r x lo hi H Q∨r' x lo hi H Q):=by
 intro pins s σ H x v vl vu lo hi sl Q I rx hs pl pu q
 rcases q with q | q
 ·exact h pins s σ H x v vl vu lo hi sl Q I rx hs pl pu q
 ·exact h' pins s σ H x v vl vu lo hi sl Q I rx hs pl pu q
def tSl(r:V→Option Int→Option Int→Hp→VK→Prop)(te:TE)(tl th:TO):TE:=fun σ H Q=>te σ H fun x H1=>tl σ H1 fun l H2=>th σ H2 fun u H3=>r x l u H3 Q
theorem a0x{r:V→Option Int→Option Int→Hp→VK→Prop}(hr:SlR X r)(he:PE X e te)(hl:PO X lo tl)(hu:PO X hi th):PE X (.Subscript e (.Slice lo hi none p2) pos) (tSl r te tl th):=by
 intro pins s σ H Q I h
 refine Subscript_ (j4 (he pins s σ H _ I h) fun v s1 ⟨x,H1,I1,r1,q1⟩=>?_)
 refine wpAny_Slice (j4 (hl pins s1 σ H1 _ I1 q1) fun vl s2 ⟨l,H2,I2,pl,q2⟩=>j4 (hu pins s2 σ H2 _ I2 q2) fun vu s3 ⟨u,H3,I3,pu,q3⟩=>?_)
 rw[evalPart_none]
 refine wpAny_pure ?_
 have I4:Inv X pins σ H3 { s3 with heap:=s3.heap.push { cls:=.type "slice",data:=.fields #[vl,vu,.none] } }:=I3.kept (t':=s3.toks) fun b ob q=>Heap.get?_push_of_some _ q
 obtain⟨T,id,hT,ht,hg⟩:=hr pins { s3 with heap:=s3.heap.push { cls:=.type "slice",data:=.fields #[vl,vu,.none] } } σ H3 x v vl vu l u s3.heap.objs.size Q I4 r1 (Heap.IsSliceOf.new ..) pl pu q3
 show wpAny (model X.prog X.w) X.A (subscriptTail e (.Slice lo hi none p2) v (.ref s3.heap.objs.size)) (EP X pins σ Q) X.xe { s3 with heap:=s3.heap.push { cls:=.type "slice",data:=.fields #[vl,vu,.none] } }
 exact tail_any (ops:=[.ref s3.heap.objs.size,v]) ht hT hg (by with_unfolding_all rfl)
def a1u(xs:List V)(lo hi:Option Int):List V:=(xs.drop (HT.sIx xs.length 0 lo)).take (HT.sIx xs.length xs.length hi-HT.sIx xs.length 0 lo)
theorem a3q(xs:List V)(lo hi:Option Int):(a1u xs lo hi).length≤xs.length:=by
 unfold a1u
 rw[List.length_take,List.length_drop]
 omega
end
def K4(n:Nat)(i:Int):Option Nat:=if 0≤i then(if i<n then some i.toNat else none)else if -(n:Int)≤i then some (i+n).toNat else none
def atI{α:Type}(xs:List α)(i:Int):Option α:=(K4 xs.length i).bind fun j=>xs[j]?
theorem a3H{n:Nat}{i:Int}{j:Nat}(h:K4 n i=some j):seqIndex? i n=some j∧j<n∧-(n:Int)≤i∧i<n:=by
 unfold K4 at h
 by_cases h0:0≤i
 ·rw[if_pos h0]at h
  by_cases h1:i<n
  ·rw[if_pos h1]at h
   have e:i.toNat=j:=Option.some.inj h
   exact⟨by rw[seqIndex_of h0 h1,e],by omega,by omega,h1⟩
  ·rw[if_neg h1]at h;cases h
 ·rw[if_neg h0]at h
  by_cases h1 : -(n:Int)≤i
  ·rw[if_pos h1]at h
   have e:(i+n).toNat=j:=Option.some.inj h
   exact⟨by rw[seqIndex_neg (by omega) h1,e],by omega,h1,by omega⟩
  ·rw[if_neg h1]at h;cases h
theorem a1v{α:Type}{xs:List α}{i:Int}{v:α}(h:atI xs i=some v):∃j,seqIndex? i xs.length=some j∧xs[j]? = some v∧j<xs.length∧-(xs.length:Int)≤i∧i<xs.length:=by
 unfold atI at h
 cases e:K4 xs.length i with
 | none=>rw[e]at h;cases h
 | some j =>
  rw[e]at h
  obtain⟨h1,h2,h3,h4⟩:=a3H e
  exact⟨j,h1,h,h2,h3,h4⟩
def a7K(b:Expr):Prop:=∀o i,subscripted b false o i=operate [o,i] (getItem o i)
def IxR(X:Cx)(r:R2):Prop :=
 ∀(value slice:Expr) (pins:List (Addr×Obj)) (s:Shared) (σ:St) (H:Hp) (x y:V) (v u:Value) (Q:VK),Inv X pins σ H s→RelV x v→RelV y u→r x y H Q →
  subscripted slice false v u=operate [v,u] (getItem v u)→wpAny (model X.prog X.w) X.A (subscriptTail value slice v u) (EP X pins σ Q) X.xe s
def MtR(X:Cx)(id:String)(r:V→List V→Hp→VK→Prop):Prop :=
 ∀(pins:List (Addr×Obj)) (s:Shared) (σ:St) (H:Hp) (x:V) (xs:List V) (v:Value) (us:List Value) (Q:VK),Inv X pins σ H s→RelV x v→Vals xs us→r x xs H Q →
  wpAny (model X.prog X.w) X.A (call (.builtin id) (v::us)) (EP X pins σ Q) X.xe s
section
variable {X:Cx}{a b:Expr}{ta tb:TE}{pos:Pos}
theorem IxR.or{r r':R2}(h:IxR X r)(h':IxR X r'):IxR X (fun x y H Q=>r x y H Q∨r' x y H Q):=by
 intro value slice pins s σ H x y v u Q I rx ry q hs
 rcases q with q | q
 ·exact h value slice pins s σ H x y v u Q I rx ry q hs
 ·exact h' value slice pins s σ H x y v u Q I rx ry q hs
theorem MtR.or{id:String}{r r':V→List V→Hp→VK→Prop}(h:MtR X id r)(h':MtR X id r'):MtR X id (fun x xs H Q=>r x xs H Q∨r' x xs H Q):=by
 intro pins s σ H x xs v us Q I rx rs q
 rcases q with q | q
 ·exact h pins s σ H x xs v us Q I rx rs q
 ·exact h' pins s σ H x xs v us Q I rx rs q
theorem i5{r:R2}(hr:IxR X r)(ha:PE X a ta)(hb:PE X b tb)(hs:a7K b):PE X (.Subscript a b pos) (tOp r ta tb):=by
 intro pins s σ H Q I h
 exact Subscript_ (a54 ha hb I h fun v u s2 x y H2 I2 rx ry q=>hr a b pins s2 σ H2 x y v u Q I2 rx ry q (hs _ _))
def a4p(K:W.Frag):R2:=fun x y H Q=>∃p xs i v,x=.ref p∧y=.int i∧SqL K H p xs∧atI xs i=some v∧Q v H
def a55(K:W.Frag):R2:=fun x y H Q=>∃p xs i v,x=.ref p∧y=.int i∧SqT K H p xs∧atI xs i=some v∧Q v H
def a9A:R2:=fun x y H Q=>∃z i c,x=.str z∧y=.int i∧z.length≤sizeLine∧atI z.cps.toList i=some c∧Q (.str ⟨#[c]⟩) H
theorem a7L:IxR X (a4p X.K):=by
 intro value slice pins s σ H x y v u Q I rx ry h hs
 obtain⟨p,xs,i,z,rfl,rfl,hq,he,q⟩:=h
 cases rx
 obtain⟨t,rfl⟩:=ry
 obtain⟨its,r,pl,hz⟩:=I.list hq
 obtain⟨j,h1,h2,h3,h4,h5⟩:=a1v he
 obtain⟨w,ew,rw'⟩:=r.get h2
 have hl:=r.length
 have hn:=U0
 have fin:EP X pins σ Q w s:=⟨z,H,I,rw',q⟩
 by_cases h0:0≤i
 ·have hj:i.toNat=j:=by
   rw[seqIndex_of h0 h5]at h1
   exact Option.some.inj h1
  exact item_listR pl.isList h0 (by omega) (by rw[hj];simpa using ew) fin hs
 ·have hj:(i+(its.toArray.size:Int)).toNat=j:=by
   rw[seqIndex_neg (by omega) h4]at h1
   rw[List.size_toArray,← hl]
   exact Option.some.inj h1
  exact subscriptTail_builtinR (x:=w) pl.isList.typeIs slot_list_getitem.lookup
   (wpAny_getItem_list_neg (Q:=fun r s'=>r=w∧EP X pins σ Q r s') pl.isList (by omega) (by rw[List.size_toArray]<;>omega) (by omega) (by rw[hj];simpa using ew) ⟨rfl,fin⟩) hs
theorem a9B:IxR X (a55 X.K):=by
 intro value slice pins s σ H x y v u Q I rx ry h hs
 obtain⟨p,xs,i,z,rfl,rfl,hq,he,q⟩:=h
 cases rx
 obtain⟨t,rfl⟩:=ry
 obtain⟨its,r,pl,hz⟩:=I.tuple hq
 obtain⟨j,h1,h2,h3,h4,h5⟩:=a1v he
 obtain⟨w,ew,rw'⟩:=r.get h2
 have hl:=r.length
 have hn:=U0
 have fin:EP X pins σ Q w s:=⟨z,H,I,rw',q⟩
 exact subscriptTail_builtinR (x:=w) pl.typeIs slot_tuple_getitem.lookup
  (getItem_tuple (j:=j) (Q:=fun r s'=>r=w∧EP X pins σ Q r s') pl (by omega) (by omega) (by rw[List.size_toArray,← hl];exact h1) (by simpa using ew) ⟨rfl,fin⟩) hs
theorem a5e:IxR X a9A:=by
 intro value slice pins s σ H x y v u Q I rx ry h hs
 obtain⟨z,i,c,rfl,rfl,hz,he,q⟩:=h
 obtain⟨t,rfl⟩:=rx
 obtain⟨t',rfl⟩:=ry
 obtain⟨j,h1,h2,h3,h4,h5⟩:=a1v he
 have hl:z.cps.toList.length=z.length:=by simp[Str.length]
 rw[hl]at h1 h4 h5
 have hn:=U0
 exact tail_any (typeIs_str s z t) slot_str_getitem.lookup (getItem_str (c:=c) (by
  have e1:decide (i < -(2 ^ 63:Int))=false:=decide_eq_false (by omega)
  have e2:decide (i≥2 ^ 63)=false:=decide_eq_false (by omega)
  rw[e1,e2,Bool.or_false]) (by rw[h1];simpa using h2) ⟨.str ⟨#[c]⟩,H,I.tok _,⟨_,rfl⟩,q⟩) hs
theorem a4q(its:List Value)(n j:Nat)(u:Value):Obj.mapSeq (·.setIfInBounds j u) { cls:=.type "list",data:=.seq its.toArray n }={ cls:=.type "list",data:=.seq (its.set j u).toArray n }:=by
 simp[Obj.mapSeq]
theorem Inv.lst{pins:List (Addr×Obj)}{σ:St}{H:Hp}{s:Shared}{p:Addr}{xs:List V}(I:Inv X pins σ H s)(h:H p=some (.lst xs)) :
  ∃(its:List Value) (n:Nat),Vals xs its∧s.heap.get? p=some { cls:=.type "list",data:=.seq its.toArray n }∧xs.length≤sizeLine:=by
 obtain⟨z,its,n,r,e⟩:=I.hok p _ h
 exact⟨its,n,r,e,z⟩
theorem Inv.lstUpd{pins:List (Addr×Obj)}{σ:St}{H:Hp}{s:Shared}{p:Addr}{xs ys:List V}{its its':List Value}{n n':Nat}{f:Obj→Obj}(I:Inv X pins σ H s)(h:H p=some (.lst xs))
  (ho:s.heap.get? p=some { cls:=.type "list",data:=.seq its.toArray n }) (hf:f { cls:=.type "list",data:=.seq its.toArray n }={ cls:=.type "list",data:=.seq its'.toArray n' }) (r:Vals ys its') (hz:ys.length≤sizeLine) (t:Nat) :
  Inv X pins σ (upd H p (.lst ys)) { s with heap:=s.heap.update p f,toks:=t }:=by
 have e:(s.heap.update p f).get? p=some { cls:=.type "list",data:=.seq its'.toArray n' }:=by
  rw[Heap.get?_update_self f ho (by rw[hf]<;>rfl),hf]
 refine I.write (x:=p) (e:=p) (by rw[h];trivial) (.inl rfl) (fun b u hb q=>(Heap.get?_update_other _ _ (Ne.symm hb)).trans q) ⟨_,e⟩ ?_
 exact⟨hz,its',n',r,e⟩
def a4r:V→V→V→Hp→(Hp→Prop)→Prop:=fun o i v H Q=>∃p xs k j,o=.ref p∧i=.int k∧H p=some (.lst xs)∧K4 xs.length k=some j∧Q (upd H p (.lst (xs.set j v)))
theorem a0y:a9r X a4r:=by
 intro pins s σ H o i v ov iv u Q I ro ri rv h
 obtain⟨p,xs,k,j,rfl,rfl,hp,hj,q⟩:=h
 cases ro
 obtain⟨t,rfl⟩:=ri
 obtain⟨its,n,r,ho,hz⟩:=I.lst hp
 obtain⟨h1,h2,h3,h4⟩:=a3H hj
 have hl:=r.length
 have hn:=U0
 have I':Inv X pins σ (upd H p (.lst (xs.set j v))) { s with heap:=s.heap.update p (Obj.mapSeq (·.setIfInBounds j u)) } :=
  I.lstUpd hp ho (a4q its n j u) (r.set rv j) (by rw[List.length_set];exact hz) s.toks
 by_cases h0:0≤k
 ·have hk:k.toNat=j:=by
   rw[seqIndex_of h0 h4]at h1
   exact Option.some.inj h1
  exact W.ki_setAt ho h0 (by omega) (by rw[List.size_toArray,← hl];exact h4) (by rw[hk];exact⟨_,I',q⟩)
 ·have hk:(k+(its.toArray.size:Int)).toNat=j:=by
   rw[seqIndex_neg (by omega) h3]at h1
   rw[List.size_toArray,← hl]
   exact Option.some.inj h1
  exact W.ki_setBack ho (by omega) (by rw[List.size_toArray,← hl];exact h3) (by omega) (by rw[hk];exact⟨_,I',q⟩)
theorem a2z(lo hi:Option Int)(n:Nat):(sliceBounds lo hi none n).1=((HT.sIx n 0 lo:Nat):Int)∧(sliceBounds lo hi none n).2.1=((HT.sIx n n hi:Nat):Int)∧(sliceBounds lo hi none n).2.2=1:=by
 refine⟨?_,?_,rfl⟩
 ·cases lo with
  | none=>simp[sliceBounds,HT.sIx]
  | some i =>
   simp only[sliceBounds,HT.sIx,Option.getD_none,show(1:Int) > 0 by decide,if_true]
   by_cases h:i<0
   ·simp only[h,if_true]<;>omega
   ·simp only[h,if_false]<;>omega
 ·cases hi with
  | none=>simp[sliceBounds,HT.sIx]
  | some i =>
   simp only[sliceBounds,HT.sIx,Option.getD_none,show(1:Int) > 0 by decide,if_true]
   by_cases h:i<0
   ·simp only[h,if_true]<;>omega
   ·simp only[h,if_false]<;>omega
theorem a2h(its:List Value)(lo hi:Option Int):slicePick its.toArray lo hi none=((its.drop (HT.sIx its.length 0 lo)).take (HT.sIx its.length its.length hi-HT.sIx its.length 0 lo)).toArray:=by
 obtain⟨h1,h2,h3⟩:=a2z lo hi its.toArray.size
 unfold slicePick
 rw[h1,h2,h3]
 simp only[sliceRange_one,pick_run,List.size_toArray]<;>rfl
def a56(K:W.Frag):V→Option Int→Option Int→Hp→VK→Prop:=fun x lo hi H Q=>∃a xs,x=.ref a∧SqL K H a xs∧∀p,H p=none→Q (.ref p) (upd H p (.lst (a1u xs lo hi)))
theorem a7M:SlR X (a56 X.K):=by
 intro pins s σ H x v vl vu lo hi sl Q I rx hs pl pu h
 obtain⟨a,xs,rfl,hx,q⟩:=h
 cases rx
 obtain⟨its,r,ht,hz⟩:=I.list hx
 have hlen:=r.length
 refine⟨"list",_,slot_list_getitem.lookup,ht.isList.typeIs,?_⟩
 refine wpAny_getItem_list_slice ht.isList hs pl pu .none (by simp) ?_ (by rw[List.size_toArray]<;>omega)
 rw[a2h,← hlen]
 refine⟨.ref s.heap.objs.size,_,I.laid (t':=s.toks) (o:=.lst (a1u xs lo hi)) (fun b ob q=>Heap.get?_push_of_some _ q) (Nat.le_refl _) ?_,rfl,q _ (I.hok.fresh (Nat.le_refl _))⟩
 exact⟨Nat.le_trans (a3q xs lo hi) hz,_,0,(r.drop (HT.sIx xs.length 0 lo)).take (HT.sIx xs.length xs.length hi-HT.sIx xs.length 0 lo),Heap.get?_push_size _ rfl⟩
def a2m:V→Bool
 | .non=>true
 | .bl _=>true
 | .int _=>true
 | .str _=>true
 | _=>false
def eqV:V→V→Bool
 | .non,.non=>true
 | .bl a,.bl b=>a == b
 | .bl a,.int b=>(if a then 1 else 0) == b
 | .int a,.bl b=>a == (if b then 1 else 0)
 | .int a,.int b=>a == b
 | .str a,.str b=>a == b
 | _,_=>false
theorem a9D{A:Around}{s:Shared}{y x:V}{u v:Value}(ry:RelV y u)(rx:RelV x v)(fy:a2m y=true)(fx:a2m x=true):SeqAt.EqAt A s u v (eqV y x):=by
 cases y with
 | non =>
  cases ry
  cases x with
  | non=>cases rx;exact SeqAt.EqAt.same _
  | bl b=>cases rx;exact SeqAt.EqAt.none_bool b
  | int b=>obtain⟨t,rfl⟩:=rx;exact SeqAt.EqAt.none_int b t
  | str b=>obtain⟨t,rfl⟩:=rx;exact SeqAt.EqAt.none_str b t
  | _=>exact absurd (show false=true from fx) Bool.false_ne_true
 | bl a =>
  cases ry
  cases x with
  | non=>cases rx;exact SeqAt.EqAt.bool_none a
  | bl b=>cases rx;exact SeqAt.EqAt.bool_bool a b
  | int b=>obtain⟨t,rfl⟩:=rx;exact SeqAt.EqAt.bool_int a b t
  | str b=>obtain⟨t,rfl⟩:=rx;exact SeqAt.EqAt.bool_str a b t
  | _=>exact absurd (show false=true from fx) Bool.false_ne_true
 | int a =>
  obtain⟨t',rfl⟩:=ry
  cases x with
  | non=>cases rx;exact SeqAt.EqAt.int_none a t'
  | bl b=>cases rx;exact SeqAt.EqAt.int_bool a t' b
  | int b=>obtain⟨t,rfl⟩:=rx;exact SeqAt.EqAt.int_int a t' b t
  | str b=>obtain⟨t,rfl⟩:=rx;exact SeqAt.EqAt.int_str a t' b t
  | _=>exact absurd (show false=true from fx) Bool.false_ne_true
 | str a =>
  obtain⟨t',rfl⟩:=ry
  cases x with
  | non=>cases rx;exact SeqAt.EqAt.str_none a t'
  | bl b=>cases rx;exact SeqAt.EqAt.str_bool a t' b
  | int b=>obtain⟨t,rfl⟩:=rx;exact SeqAt.EqAt.str_int a t' b t
  | str b=>obtain⟨t,rfl⟩:=rx;exact SeqAt.EqAt.str_str a t' b t
  | _=>exact absurd (show false=true from fx) Bool.false_ne_true
 | _=>exact absurd (show false=true from fy) Bool.false_ne_true
theorem a2A:CallR X (.builtin "len") (fun xs H Q=>∃p ys,xs=[.ref p]∧(SqL X.K H p ys∨SqT X.K H p ys)∧Q (.int ys.length) H):=by
 intro pins s σ H xs us Q I r h
 obtain⟨p,ys,rfl,hq,q⟩:=h
 obtain⟨u,rfl,rx⟩:=a4n r
 cases rx
 have hn:=U0
 rcases hq with hq | hq
 ·obtain⟨its,r',pl,hz⟩:=I.list hq
  have hlen:=r'.length
  exact Calls.call_len_list pl.isList (by simp only[List.size_toArray]<;>omega) ⟨.int ys.length,H,I.tok _,⟨s.toks+1,by rw[List.size_toArray,hlen]⟩,q⟩
 ·obtain⟨its,r',pl,hz⟩:=I.tuple hq
  have hlen:=r'.length
  exact len_tuple pl (by simp only[List.size_toArray]<;>omega) ⟨.int ys.length,H,I.tok _,⟨s.toks+1,by rw[List.size_toArray,hlen]⟩,q⟩
theorem Y9:CallR X (.builtin "len") (fun xs H Q=>∃z,xs=[.str z]∧z.length≤sizeLine∧Q (.int z.length) H):=by
 intro pins s σ H xs us Q I r h
 obtain⟨z,rfl,hz,q⟩:=h
 obtain⟨u,rfl,t,rfl⟩:=a4n r
 have hn:=U0
 exact len_str (by omega) ⟨.int z.length,H,I.tok _,⟨_,rfl⟩,q⟩
theorem CallR.or{f:Value}{r r':List V→Hp→VK→Prop}(h:CallR X f r)(h':CallR X f r'):CallR X f (fun xs H Q=>r xs H Q∨r' xs H Q):=by
 intro pins s σ H xs us Q I rs q
 rcases q with q | q
 ·exact h pins s σ H xs us Q I rs q
 ·exact h' pins s σ H xs us Q I rs q
theorem a2B:CallR X (.type "list") (fun xs H Q=>∃p ys,xs=[.ref p]∧(SqL X.K H p ys∨SqT X.K H p ys)∧∀l,H l=none→Q (.ref l) (upd H l (.lst ys))):=by
 intro pins s σ H xs us Q I r h
 obtain⟨p,ys,rfl,hq,q⟩:=h
 obtain⟨u,rfl,rx⟩:=a4n r
 cases rx
 have fin:∀(its:List Value),Vals ys its→ys.length≤sizeLine→∀(h':Heap) (c':Nat),(∀b o',s.heap.get? b=some o'→h'.get? b=some o') →
   h'.get? s.heap.objs.size=some { cls:=.type "list",dict:=none,data:=.seq its.toArray c',slots := #[] }→EP X pins σ Q (.ref s.heap.objs.size) { s with heap:=h' }:=fun its r' hz h' c' kp e =>
  ⟨.ref s.heap.objs.size,_,I.laid (t':=s.toks) kp (Nat.le_refl _) (show ObjOk X.prog X.w _ h' _ (.lst ys)from⟨hz,its,c',r',e⟩),rfl,q _ (I.hok.fresh (Nat.le_refl _))⟩
 rcases hq with hq | hq
 ·obtain⟨its,r',pl,hz⟩:=I.list hq
  have hlen:=r'.length
  obtain⟨o,ho,hc,n,hd⟩:=pl.isList
  exact call_list_seq p (.inl rfl) ho hc hd (fun h' c' kp e=>fin its r' hz h' c' kp e) (by simp only[List.size_toArray]<;>omega)
 ·obtain⟨its,r',pl,hz⟩:=I.tuple hq
  have hlen:=r'.length
  obtain⟨o,ho,hc,n,hd⟩:=pl
  exact call_list_seq p (.inr rfl) ho hc hd (fun h' c' kp e=>fin its r' hz h' c' kp e) (by simp only[List.size_toArray]<;>omega)
def tyV(K:W.Frag)(T:String)(x:V)(H:Hp):Prop:=match x with
 | .str _=>T = "str"
 | .int _=>T = "int"
 | .ref p=>(T = "list"∧∃xs,SqL K H p xs)∨(T = "tuple"∧∃o,K.lookup p=some o∧o.cls=.type "tuple"∧o.dict=none) ∨
   (T = "dict"∧((∃kvs,H p=some (.dK kvs))∨∃kvs,H p=some (.dT kvs)))∨(T = "set"∧∃S n,H p=some (.set S n))
 | _=>False
theorem a9F{pins:List (Addr×Obj)}{σ:St}{H:Hp}{s:Shared}{T:String}{x:V}{v:Value}(I:Inv X pins σ H s)(r:RelV x v)(ty:tyV X.K T x H) :
  s.TypeIs v T∧∀a,v=.ref a→∃ob,s.heap.get? a=some ob∧ob.dict=none:=by
 cases x with
 | str z =>
  obtain⟨t,rfl⟩:=r
  cases (show T = "str" from ty)
  exact⟨typeIs_str s z t,fun _ e=>nomatch e⟩
 | int i =>
  obtain⟨t,rfl⟩:=r
  cases (show T = "int" from ty)
  exact⟨typeIs_int s i t,fun _ e=>nomatch e⟩
 | ref p =>
  cases r
  rcases ty with⟨rfl,xs,hq⟩ | ⟨rfl,o,hk,hc,hd⟩ | ⟨rfl,hk⟩ | ⟨rfl,S,n,hk⟩
  ·obtain⟨its,_,pl,_⟩:=I.list hq
   refine⟨pl.isList.typeIs,fun a e=>?_⟩
   cases e
   obtain⟨o,n,e,c,hd,_⟩:=pl
   exact⟨o,e,hd⟩
  ·refine⟨⟨o,I.kIn p o hk,hc⟩,fun a e=>?_⟩
   cases e
   exact⟨o,I.kIn _ o hk,hd⟩
  ·have z:∃o,s.heap.get? p=some o∧o.ExactDict:=by
    rcases hk with⟨kvs,hk⟩ | ⟨kvs,hk⟩
    ·obtain⟨_,_,_,_,o,_,_,e,ex,_⟩:=I.hok p _ hk
     exact⟨o,e,ex⟩
    ·obtain⟨_,_,_,_,o,_,_,e,ex,_⟩:=I.hok p _ hk
     exact⟨o,e,ex⟩
   obtain⟨o,e,ex⟩:=z
   refine⟨⟨o,e,ex.1⟩,fun a e2=>?_⟩
   cases e2
   exact⟨o,e,ex.2.1⟩
  ·obtain⟨o,_,_,_,e,ex,_⟩:=I.hok p _ hk
   refine⟨⟨o,e,ex.1⟩,fun a e2=>?_⟩
   cases e2
   exact⟨o,e,ex.2.1⟩
 | _=>exact False.elim ty
def tBM(K:W.Frag)(T:String)(r:V→List V→Hp→VK→Prop)(to:TE)(t:TA):TE:=fun σ H Q=>to σ H fun x H1=>tyV K T x H1∧t σ H1 fun xs H2=>r x xs H2 Q
variable {o e:Expr}{es:List Expr}{to:TE}{t:TA}{name:Str}{apos cpos:Pos}{T id:String}{r:V→List V→Hp→VK→Prop}
theorem b0E(pa:PlainAttrs T)(slot:Slot T name id)(hty:typeOf (.builtin id)=pure (.type "method_descriptor"))(hm:MtR X id r)(ho:PE X o to)(ha:PA X (e::es) t)
  (hbase:attributeBase o name X.env (eval o X.env)=eval o X.env:=by rfl)
  (hfew:((backTo cpos (starEach (e::es) X.env)).all (fun x=>!x.1) && (backToKw cpos (keywordEach [] X.env)).all (fun x=>x.1.isSome)
   && decide ((e::es).length+([]:List Keyword).length+(if([]:List Keyword).isEmpty then 0 else 1)<30))=true:=by rfl)
  (hline:(apos.endLine == cpos.line)=true:=by rfl) (hs:starEach (e::es) X.env=(false,eval e X.env)::starEach es X.env:=by rfl) (hplain:(backTo cpos (starEach es X.env)).any (·.1)=false:=by rfl) :
  PE X (.Call (.Attribute o name apos) (e::es) [] cpos) (tBM X.K T r to t):=by
 intro pins s σ H Q I h
 refine wpAny_Call_method_late hbase hfew hline rfl (j4 (ho pins s σ H _ I h) fun v s1 ⟨x,H1,I1,r1,ty,q1⟩=>?_)
 obtain⟨h1,h2⟩:=a9F I1 r1 ty
 refine⟨T,id,pa,slot,hty,h1,h2,?_⟩
 have hA:=ha cpos pins s1 σ H1 _ I1 q1
 rw[hs]at hA ⊢
 refine Calls.callWith_builtin (by show(false || (backTo cpos (starEach es X.env)).any (·.1))=false;rw[hplain]<;>rfl) (Calls.evalArgs_plain ?_)
 exact j4 hA fun us s2 ⟨vs,H2,I2,r2,q2⟩=>hm pins s2 σ H2 x vs v us Q I2 r1 r2 q2
end
def MtM(X:Cx)(id:String)(r:V→List V→Hp→VK→Prop):Prop :=
 ∀(pins:List (Addr×Obj)) (s:Shared) (σ:St) (H:Hp) (x:V) (xs:List V) (v:Value) (us:List Value) (Q:VK),Inv X pins σ H s→RelV x v→Vals xs us→r x xs H Q →
  wpAny (model X.prog X.w) X.A (call (.builtin id) (v::us)) (EP X pins σ Q) X.xe s
theorem Vals.one:∀{x:V} {us:List Value},Vals [x] us→∃u,us=[u]∧RelV x u
 | _,_,.cons r .nil=>⟨_,rfl,r⟩
theorem Vals.two:∀{x y:V} {us:List Value},Vals [x,y] us→∃u v,us=[u,v]∧RelV x u∧RelV y v
 | _,_,_,.cons r (.cons q .nil)=>⟨_,_,rfl,r,q⟩
theorem Vals.zero:∀{us:List Value},Vals [] us→us=[]
 | _,.nil=>rfl
theorem Vals.reverse{xs:List V}{us:List Value}(h:Vals xs us):Vals xs.reverse us.reverse:=by
 induction h with
 | nil=>exact .nil
 | cons r t ih=>rw[List.reverse_cons,List.reverse_cons];exact Vals.append ih (.cons r .nil)
theorem Vals.rep{xs:List V}{us:List Value}(h:Vals xs us):∀k:Nat,Vals (List.replicate k xs).flatten (List.replicate k us).flatten
 | 0=>.nil
 | k+1=>by
  rw[List.replicate_succ,List.replicate_succ,List.flatten_cons,List.flatten_cons]
  exact Vals.append h (Vals.rep h k)
theorem a1W(its:List Value):∀(k:Nat) (acc:List Value),
  List.foldl (fun x1 x2=>x1++x2) acc.toArray (List.replicate k its.toArray)=(acc++(List.replicate k its).flatten).toArray
 | 0,acc=>by simp
 | k+1,acc=>by
  have e:acc.toArray++its.toArray=(acc++its).toArray:=by simp
  have e2:(acc++its)++(List.replicate k its).flatten=acc++(List.replicate (k+1) its).flatten:=by
   rw[List.replicate_succ,List.flatten_cons,List.append_assoc]
  rw[← e2,← a1W its k (acc++its),← e,List.replicate_succ,List.foldl_cons]
section
variable {X:Cx}{pins:List (Addr×Obj)}{σ:St}{H:Hp}{s:Shared}{l b:Addr}{xs ys zs:List V}
theorem Inv.lset{its its':List Value}{n:Nat}{f:Array Value→Array Value}{t':Nat}(I:Inv X pins σ H s)(hH:H l=some (.lst xs))
  (e:s.heap.get? l=some { cls:=.type "list",data:=.seq its.toArray n }) (hf:f its.toArray=its'.toArray) (hv:Vals ys its') (hz:ys.length≤sizeLine) :
  Inv X pins σ (upd H l (.lst ys)) { s with heap:=s.heap.update l (Obj.mapSeq f),toks:=t' }:=by
 have q:=PySem.IsL.update e f
 rw[hf]at q
 refine I.write (x:=l) (e:=l) (by rw[hH];exact trivial) (.inl rfl) (fun b' u hb hu=>(Heap.get?_update_other s.heap (Obj.mapSeq f) (Ne.symm hb)).trans hu) ⟨_,q⟩ ?_
 exact⟨hz,its',_,hv,q⟩
theorem Inv.lnew{its:List Value}{t':Nat}(I:Inv X pins σ H s)(hv:Vals ys its)(hz:ys.length≤sizeLine) :
  Inv X pins σ (upd H s.heap.objs.size (.lst ys)) { s with heap:=s.heap.push { cls:=.type "list",data:=.seq its.toArray },toks:=t' } :=
 I.laid (fun _ _ q=>Heap.get?_push_of_some _ q) (Nat.le_refl _) ⟨hz,its,0,hv,Heap.get?_push_size _ rfl⟩
theorem Inv.fresh(I:Inv X pins σ H s):H s.heap.objs.size=none:=I.hok.fresh (Nat.le_refl _)
theorem Inv.lstM(I:Inv X pins σ H s)(hH:H l=some (.lst xs)):xs.length≤sizeLine∧∃(its:List Value) (n:Nat),Vals xs its∧xs.length=its.length∧s.heap.get? l=some { cls:=.type "list",data:=.seq its.toArray n }:=by
 obtain⟨z,its,n,r,e⟩:=I.hok l _ hH
 exact⟨z,its,n,r,r.length,e⟩
theorem a57{n:Nat}(h:n≤sizeLine):Builtin.List.listTooLong n=false:=by
 unfold Builtin.List.listTooLong
 exact decide_eq_false (by omega)
end
section
variable {X:Cx}
def a3I:V→List V→Hp→VK→Prop:=fun x vs H Q=>∃l xs y,x=.ref l∧vs=[y]∧H l=some (.lst xs)∧xs.length<sizeLine∧Q .non (upd H l (.lst (xs++[y])))
theorem J7:MtM X "list.append" a3I:=by
 intro pins s σ H x vs v us Q I rx rv h
 obtain⟨l,xs,y,rfl,rfl,hH,hz,q⟩:=h
 cases rx
 obtain⟨u,rfl,ru⟩:=rv.one
 obtain⟨z,its,n,r,hl,e⟩:=I.lstM hH
 refine call_meets F.slot_list_append ⟨_,e,rfl⟩ F.entry_list_append (F.args_list_append_2 _ _) (PySem.list_append l its.toArray n u (by rw[List.size_toArray];omega)) ⟨e,?_⟩
 refine⟨.non,_,I.lset (its':=its++[u]) hH e (by simp) (r.append (.cons ru .nil)) ?_,rfl,q⟩
 rw[List.length_append,List.length_singleton]
 omega
def a9G:R2:=fun x y H Q=>∃l k xs,x=.ref l∧y=.int k∧H l=some (.lst xs)∧-(2 ^ 63)≤k∧k<2 ^ 63∧xs.length*k.toNat≤sizeLine ∧
 ∀p,H p=none→Q (.ref p) (upd H p (.lst (List.replicate k.toNat xs).flatten))
theorem a7N{α:Type}(xs:List α)(k:Nat):(List.replicate k xs).flatten.length=k*xs.length:=by
 induction k with
 | zero=>simp
 | succ k ih=>rw[List.replicate_succ,List.flatten_cons,List.length_append,ih,Nat.succ_mul,Nat.add_comm]
theorem a9H:OpR X (binaryOp .Mult) a9G:=by
 intro pins s σ H x y v u Q I rx ry h
 obtain⟨l,k,xs,rfl,rfl,hH,h1,h2,hz,q⟩:=h
 cases rx
 obtain⟨t,rfl⟩:=ry
 obtain⟨z,its,n,r,hl,e⟩:=I.lstM hH
 have hlen:its.toArray.size*k.toNat≤sizeLine:=by rw[List.size_toArray,← hl];exact hz
 have hcap:¬its.toArray.size*k.toNat > (2 ^ 63-1)/8:=by
  have:(sizeLine:Nat)≤(2 ^ 63-1)/8:=by decide
  omega
 have hfit:¬(!Builtin.List.listFitsIndex k)=true:=by
  rw[fitsIndex_both h1 h2]
  exact Bool.false_ne_true
 have hlong:¬Builtin.List.listTooLong (its.toArray.size*k.toNat)=true:=by
  rw[a57 hlen]
  exact Bool.false_ne_true
 have hnew:List.foldl (fun x1 x2=>x1++x2) #[] (List.replicate (if its.toArray.isEmpty=true then 0 else k.toNat) its.toArray)=(List.replicate k.toNat its).flatten.toArray:=by
  have f0:∀m:Nat,List.foldl (fun x1 x2=>x1++x2) #[] (List.replicate m its.toArray)=(List.replicate m its).flatten.toArray:=fun m=>by
   have:=a1W its m []
   rw[List.nil_append]at this
   exact this
  rw[f0]
  cases its with
  | nil=>simp
  | cons a r'=>rw[if_neg (by simp)]
 refine wpAny_binaryOp_repeat_ref (T := "list") (U := "int") (by decide) ⟨_,e,rfl⟩ (fun s'=>typeIs_int s' k t) noFill_list_mul F.fills_int_mul F.slot_int_rmul repeat_list F.slot_int_index.lookup
  (call_meets F.slot_int_rmul (typeIs_int s k t) F.entry_int_rmul (F.args_int_rmul_2 _ _) (int___rmul___int_list k t l its.toArray n)
   ⟨e,rfl,⟨_,e,rfl⟩,call_meets F.slot_list_mul ⟨_,e,rfl⟩ F.entry_list_mul (F.args_list_mul_2 _ _) (AutoListH.list___mul___list_int_3 l its.toArray n k t hfit hcap hlong) ⟨e,?_⟩⟩)
 rw[hnew]
 exact⟨.ref _,_,I.lnew (t':=s.toks) (r.rep k.toNat) (by rw[a7N,Nat.mul_comm];exact hz),rfl,q _ I.fresh⟩
end
end L2
namespace Att
open PySem PySem.W PySem.Calls PyProof.Rows
theorem a0Z{P:Params}{h:Heap}:∀(ns:List Int) (vs:List Value),WellAll P h vs (ns.map WData.int)→IntsAre vs ns:=by
 intro ns
 induction ns with
 | nil =>
  intro vs w
  rw[List.map_nil]at w
  cases w
  exact .nil
 | cons n ns ih =>
  intro vs w
  rw[List.map_cons]at w
  cases w with
  | cons a b =>
   cases a
   exact .cons _ _ (ih _ b)
theorem script_of{l:OpenLaw}{n:Nat}(hn:l.most=some n){P:Params}{h:Heap}{args:List WData}{vals:List Value}
  (hpre:l.row.toRowW.claim.pre args=true) (hwl:WellAll P h vals args) :
  ∃a vs ns,vals=[Value.ref a]∧args=[WData.list (ns.map WData.int)]∧h.get? a=some { cls:=.type "list",data:=.seq vs.toArray }∧IntsAre vs ns∧ns.length≤n:=by
 have hsh:WShape.hasAll [] args [.list .int]=true:=(pre_splitW hpre).1
 have hc:l.pre.holds [] { args:=args }=true:=(pre_splitW hpre).2
 obtain⟨d,r,rfl,h1,h2⟩:=hasAllW_cons hsh
 obtain rfl:=hasAllW_nil h2
 obtain⟨xs,rfl,h3⟩:=hasW_list h1
 obtain⟨ns,rfl⟩:=items_int h3
 have hlen:ns.length≤n:=by
  unfold OpenLaw.pre at hc
  have h4:(WTm.not (.lt (.lit (.int (n:Int))) (.len (.arg 0)))).holds [] { args:=[.list (ns.map .int)] }=true:=by
   have h4:=(holds_andW hc).1
   rw[hn]at h4
   exact h4
  have h5:=condW_of h4 (w_not (w_lt w_lit (w_len_list (w_arg rfl))))
  rw[List.length_map]at h5
  refine Nat.le_of_not_lt fun q=>?_
  have q':(n:Int)<((ns.length:Nat):Int):=by omega
  first
   | (rw[decide_eq_true q']at h5;exact absurd h5 (by decide))
   | (simp at h5;omega)
 cases hwl with
 | cons w1 w2 =>
  cases w2
  cases w1 with
  | list ho hall=>exact⟨_,_,ns,rfl,rfl,ho,a0Z ns _ hall,hlen⟩
theorem post_true(l:OpenLaw)(args:List WData):l.row.toRowW.claim.post args (.bool true) args=true :=
 postW_of (r:=l.row.toRowW) (X:=(true == true))
  (show WShape.has [] (.bool true) .bool=true by first | rfl | decide | simp[WShape.has,WShape.arms,WShape.armsAll])
  (show(WTm.eq .res (.lit (.bool true))).value [] { args:=args,res:=some (.bool true),after:=args }=some (.bool (true == true))from w_eq_bool (w_res rfl) w_lit) rfl
end Att
namespace L2
open PySem PySem.Spec PyProof.Rows
theorem a1X:∀{vs:List Value} {ns:List Int},IntsAre vs ns→Vals (ns.map V.int) vs
 | _,_,.nil=>.nil
 | _,_,.cons n t h=>.cons ⟨t,rfl⟩ (a1X h)
def a4s(H:Hp):Prop:=∀b,H b=none∨∃o xs,H b=some (.frz o (.lst xs))
theorem a58{P:Program}{w:World}{K:W.Frag}{mg mb:Str→Option Value}{CX:U1}{k:Nat}{fa a:Addr}{fd:FuncData}{x:Str}{sp:Sp}{s₁:Shared}{vs:List Value}{ns:List Int}
  (KX:K.In s₁.heap) (hns:s₁.heap.Ns mainGlobals mg) (hb:s₁.heap.Ns builtinsNs mb) (hbb:∀x:Str,x≠"__name__"→mb x=bootBuiltins x) (hlim:s₁.heap.NoLimit) (hg:s₁.gens = #[])
  (ha:s₁.heap.get? a=some { cls:=.type "list",data:=.seq vs.toArray }) (hi:IntsAre vs ns) (hl:ns.length≤sizeLine) (hr:Room k callerA)
  (F:∀base:Heap,K.In base→base.Ns mainGlobals mg→FnOk P w K mg base CX k fa fd [x] sp) (hbind:∀(s:Shared) (u:Value),BindsTo s fd ⟨[u],[]⟩ [(x,u)])
  (hsp:∀H:Hp,a4s H→SqL K H a (ns.map V.int)→sp [.ref a] H (fun v _=>v=.bl true) fun _ _ _=>False)
  (hCX:∀H e s',CX [] H s₁ (fun _ _ _=>False) e s'→False) :
  codeAny (model P w) callerA (.call (.ref fa) ⟨[.ref a],[]⟩) (fun r s'=>r=.ok (.ret (.bool true))∧OldK s₁.heap s'.heap∧s'.os=s₁.os∧AllBare s'.gens) s₁:=by
 have rv:=a1X hi
 have lenV:=hi.length
 -- from an abstract heap in which nothing but the script may be tracked
 have core:∀H:Hp,a4s H→SqL K H a (ns.map V.int)→HOk P w H s₁.heap→(∀b,H b≠none→b=a)→(H a≠none→K.lookup a=none) →
   codeAny (model P w) callerA (.call (.ref fa) ⟨[.ref a],[]⟩) (fun r s'=>r=.ok (.ret (.bool true))∧OldK s₁.heap s'.heap∧s'.os=s₁.os∧AllBare s'.gens) s₁:=by
  intro H hO hS hok hA hK
  have base_of:∀{b:Addr} {o:Obj},s₁.heap.get? b=some o→H b=none→(U8 s₁.heap H).get? b=some o:=fun e n=>a5Z e n
  have noA:∀{b:Addr} {o:Obj} {es:Array DictEntry} {ep:Nat},s₁.heap.get? b=some o→o.data=.dict es ep→H b=none:=fun{b o es ep} e d=>by
   cases q:H b with
   | none=>rfl
   | some u =>
    have e':b=a:=hA b (by rw[q];simp)
    subst e'
    rw[ha]at e;cases e
    have d':Data.seq vs.toArray _=Data.dict es ep:=d
    cases d'
  have nsK:∀{b:Addr} {m:Str→Option Value},s₁.heap.Ns b m→(U8 s₁.heap H).Ns b m:=fun{b m} ⟨o,es,ep,e,d,r⟩=>⟨o,es,ep,base_of e (noA e d),d,r⟩
  have hKb:K.In (U8 s₁.heap H):=fun b o e=>base_of (KX b o e) (by
   cases q:H b with
   | none=>rfl
   | some u =>
    have e':b=a:=hA b (by rw[q];simp)
    subst e'
    rw[hK (by rw[q];simp)]at e;cases e)
  have hM:Mod K mg (U8 s₁.heap H):=⟨hKb,nsK hns,⟨mb,nsK hb,hbb⟩,let ⟨mc,h1,h2⟩:=hlim; ⟨mc,nsK h1,h2⟩⟩
  have e0:Env0 P w K mg (U8 s₁.heap H) callerA [] s₁ H:=⟨rfl,hM,fun b o e=>a7E e,Nat.le_of_eq (a46 _ _),trivial,fun b hb=>absurd (show b∈([]:List Addr)from hb) (by simp),hok,.of_eq hg⟩
  refine codeAny_mono ((F _ hKb (nsK hns)).run callerA [] s₁ H ⟨[.ref a],[]⟩ [.ref a] [.ref a] _ _ hr e0 (hbind s₁ (.ref a)) (.cons rfl .nil) (hsp H hO hS)) fun r s' h=>?_
  cases r with
  | error e=>exact(hCX H e s' h).elim
  | ok fl =>
   cases fl with
   | next=>exact False.elim h
   | brk=>exact False.elim h
   | cont=>exact False.elim h
   | ret u =>
    obtain⟨v,H',os,bare,un,hok',r',q⟩:=h
    have q':v=.bl true:=q
    subst q'
    obtain rfl:u=Value.bool true:=r'
    refine⟨rfl,OldK.of_keep fun b o e=>?_,os,bare⟩
    cases q:H b with
    | none=>exact un.keep b o e q (by intro z;exact absurd (show b∈([]:List Addr)from z) (by simp)) (by simp)
    | some u =>
     rcases hO b with z | ⟨ob,xs,z⟩
     ·rw[q]at z;cases z
     ·have z2:=un.frzs b ob _ z
      obtain⟨e1,_⟩:=hok b _ z
      obtain⟨e2,_⟩:=hok' b _ z2
      rw[e]at e1;cases e1
      exact e2
 cases hk:K.lookup a with
 | some o =>
  -- the script is one of the module's own objects
  have e:=KX a o hk
  rw[ha]at e
  cases e
  refine core (fun _=>none) (fun _=>.inl rfl) (.inr ⟨_,vs.toArray,_,hk,rfl,rfl,rfl,by rw[List.size_toArray,lenV];exact hl,by simpa using rv⟩) (fun b u z=>by have z':(none:Option HO)=some u:=z;cases z') (fun b z=>absurd rfl z) fun z=>absurd rfl z
 | none =>
  refine core (fun b=>if b=a then some (.frz { cls:=.type "list",data:=.seq vs.toArray } (.lst (ns.map V.int)))else none) (fun b=>?_) (.inl (.inr ⟨{ cls:=.type "list",data:=.seq vs.toArray },if_pos rfl⟩)) (fun b u z=>?_) (fun b z=>?_) fun _=>hk
  ·by_cases hb:b=a
   ·exact .inr ⟨_,_,if_pos hb⟩
   ·exact .inl (if_neg hb)
  ·by_cases hb:b=a
   ·have z':=(if_pos hb).symm.trans z
    cases z'
    subst hb
    exact⟨ha,by rw[List.length_map];exact hl,vs,_,rv,ha⟩
   ·have z':=(if_neg hb).symm.trans z
    cases z'
  ·by_cases hb:b=a
   ·exact hb
   ·exact absurd (if_neg hb) z
def l7(s:Stmt):Arguments:=match s with
 | .FunctionDef _ a _ _ _ _ _ _ _ _=>a
 | _=>{ posonlyargs:=[],args:=[],vararg:=none,kwonlyargs:=[],kw_defaults:=[],kwarg:=none,defaults:=[] }
def j0(s:Stmt):List Stmt:=match s with
 | .FunctionDef _ _ b _ _ _ _ _ _ _=>b
 | _=>[]
def c5(s:Stmt):Scope:=match s with
 | .FunctionDef _ _ _ _ _ _ sc _ _ _=>sc
 | _=>{ kind:=.function,names:=[],isGenerator:=false,isCoroutine:=false }
abbrev CX0:U1:=fun _ _ _ _ _ _=>False
abbrev E0:XK:=fun _ _ _=>False
structure Fun(K:W.Frag)(x qual:Str)(st:Stmt)(f:Addr)(fd:FuncData):Prop where
 ex:∃(oc:Value) (od:Option Addr) (kV doc pm:Value) (an:Option Addr) (cdv ct:Value) (osl:Array (Option Value)),
  fd=W.fnOf x qual (l7 st) (j0 st) (c5 st) .none kV doc pm an cdv ct∧K.lookup f=some ⟨oc,od,.func fd,osl⟩∧W.codeIn K cdv qual=true
 kp:W.keepIn K (.ref f)=true
section
variable {P:Program}{w:World}{K:W.Frag}{mg:Str→Option Value}{base:Heap}
theorem Fun.ok{x qual:Str}{st:Stmt}{f:Addr}{fd:FuncData}{N ps:List Str}{k:Nat}{sp:Sp}(F:Fun K x qual st f fd)(S:FnScope N ps (c5 st))(len:∀vs H Q E,sp vs H Q E→vs.length=ps.length)
  (hbody:∀(cdv:Value) (A:Around) (outer:List Env) (s:Shared) (H:Hp) (vs:List V) (Q:VK) (E:XK),Room k (A.deeper (envOfC qual (c5 st) s.heap.objs.size f cdv))→sp vs H Q E →
   ∃t,PSs (M4 CX0 P w K mg base N qual (c5 st) f cdv A outer s H E).nox (j0 st) t∧t { nx:=fun _ H'=>Q .non H',rt:=Q } (start N vs) H):FnOk P w K mg base CX0 (k+1) f fd ps sp:=by
 obtain⟨oc,od,kV,doc,pm,an,cdv,ct,osl,rfl,lk,hcd⟩:=F.ex
 refine a4o lk hcd S len fun A outer s H vs Q E hr hsp=>?_
 obtain⟨t,h,q⟩:=hbody cdv A outer s H vs Q E hr hsp
 exact⟨t,h.nox,q⟩
theorem Fun.binds{x qual:Str}{st:Stmt}{f:Addr}{fd:FuncData}{ps:List Str}(F:Fun K x qual st f fd)
  (h:∀(kV doc pm:Value) (an:Option Addr) (cdv ct:Value) (us:List Value),us.length=ps.length→bindArgs (W.fnOf x qual (l7 st) (j0 st) (c5 st) .none kV doc pm an cdv ct) ⟨us,[]⟩=pure (ps.zip us)):Binds K fd ps []:=by
 obtain⟨oc,od,kV,doc,pm,an,cdv,ct,osl,rfl,lk,hcd⟩:=F.ex
 exact .all (h kV doc pm an cdv ct)
theorem x6{x qual:Str}{st:Stmt}{f:Addr}{oc:Value}{od an:Option Addr}{osl:Array (Option Value)}{kV doc pm cdv ct:Value}(l:K.lookup f=some ⟨oc,od,.func (W.fnOf x qual (l7 st) (j0 st) (c5 st) .none kV doc pm an cdv ct),osl⟩)
  (c:W.codeIn K cdv qual=true) (k:W.keepIn K (.ref f)=true):Fun K x qual st f (W.fnOf x qual (l7 st) (j0 st) (c5 st) .none kV doc pm an cdv ct):=⟨⟨oc,od,kV,doc,pm,an,cdv,ct,osl,rfl,l,c⟩,k⟩
end
section
variable {X:Cx}
theorem pv(i:Nat){x:Str}{pos:Pos}(hN:X.N[i]? = some x:=by rfl)(hv:Vis X.env.scope x:=by first | exact Or.inl rfl | exact Or.inr (Or.inl rfl) | exact Or.inr (Or.inr rfl))(hd:(x == ("__debug__" : Str))=false:=by decide)
  (hcd:(x == ("__classdict__" : Str))=false:=by decide):PE X (.Name x pos) (D7 i):=a9m hN hv hd hcd
end
def Same(H H':Hp):Prop:=∀b o,H b=some o→H' b=some o
theorem Same.refl(H:Hp):Same H H:=fun _ _ h=>h
theorem Same.trans{H H1 H2:Hp}(a:Same H H1)(b:Same H1 H2):Same H H2:=fun c o h=>b c o (a c o h)
theorem Same.free{H H':Hp}(e:Same H H'){l:Addr}(h:H' l=Option.none):H l=Option.none:=by
 cases q:H l with
 | none=>rfl
 | some o =>
  rw[e l o q]at h
  cases h
theorem Same.seq{K:W.Frag}{H H':Hp}{a:Addr}{xs:List V}(e:Same H H')(h:SqL K H a xs):SqL K H' a xs:=by
 rcases h with(h | ⟨o,h⟩) | h
 ·exact .inl (.inl (e _ _ h))
 ·exact .inl (.inr ⟨o,e _ _ h⟩)
 ·exact .inr h
end L2
set_option maxHeartbeats 4000000
namespace L2
open PySem PySem.Spec PyProof.Rows
theorem ObjOk.there{P:Program}{w:World}{H:Hp}{h:Heap}{a:Addr}{o:HO}(x:ObjOk P w H h a o):∃ob,h.get? a=some ob:=by
 cases o with
 | lst xs=>obtain⟨_,_,_,_,e⟩:=x;exact⟨_,e⟩
 | tup xs=>obtain⟨_,_,_,p⟩:=x;obtain⟨o,e,_⟩:=p;exact⟨_,e⟩
 | dK kvs=>obtain⟨_,_,_,_,o,_,_,e,_⟩:=x;exact⟨_,e⟩
 | dT kvs=>obtain⟨_,_,_,_,o,_,_,e,_⟩:=x;exact⟨_,e⟩
 | set S n=>obtain⟨o,_,_,_,e,_⟩:=x;exact⟨_,e⟩
 | ins C dx fs=>obtain⟨_,_,_,e,_⟩:=x;exact⟨_,e⟩
 | own y=>obtain⟨_,e⟩:=x;exact⟨_,e⟩
 | xd fs=>obtain⟨_,⟨_,_,_,e,_⟩,_⟩:=x;exact⟨_,e⟩
 | rng lo hi=>obtain⟨_,_,_,e⟩:=x;exact⟨_,e⟩
 | frz ob u=>obtain⟨e,_⟩:=x;exact⟨_,e⟩
 | tbl ps=>obtain⟨_,e,_⟩:=x;exact⟨_,e⟩
 | met f y=>exact⟨_,(show h.get? a=some _ from x)⟩
 | ext φ=>obtain⟨_,⟨_,e⟩,_⟩:=x;exact⟨_,e⟩
def Imp(X:Cx)(pins:List (Addr×Obj))(H:Hp)(b:Addr):Prop:=H b≠none∨(b ∉ X.ex∧∃o,X.s₀.heap.get? b=some o)∨∃p∈X.pn++pins,p.1=b
def a0z:Option Addr→Value
 | none=>.none
 | some n=>if n%2=0 then .ref (n/2)else .none
def a0A:Option Addr→Option Addr
 | none=>none
 | some n=>if n%2=0 then none else some (n/2)
def TrX(h B:Heap)(e:Addr)(cls:Value)(cx:Option Addr)(fl:Value):Prop :=
 ∃oe vs T oT ts,(h.get? e=some oe∧oe.cls=cls∧oe.data=.fields vs∧oe.dict=a0A cx)∧(vs[1]? = some (.ref T)∧vs[2]? = some (a0z cx))∧(B.get? T=none∧T≠e)∧h.get? T=some oT∧oT.data=.fields ts∧ts[3]? = some fl
theorem Obj.dict_mapF(o:Obj)(g:Array Value→Array Value):(Obj.mapFields g o).dict=o.dict:=by
 obtain⟨a,b,c,d⟩:=o
 cases c<;>rfl
theorem Q1(T:Addr):(Value.ref T != Value.none)=true:=by simp
inductive Ph where | new | fly | any
def XTr(B h:Heap)(a:Addr)(cls:Value)(cx:Option Addr):Ph→Prop
 | .new=>∃oe vs,h.get? a=some oe∧oe.cls=cls∧oe.data=.fields vs∧vs[1]? = some .none∧vs[2]? = some (a0z cx)∧oe.dict=a0A cx
 | .fly=>TrX h B a cls cx .none
 | .any=>∃fl,TrX h B a cls cx fl
theorem XTr.there{B h:Heap}{a:Addr}{cls:Value}{cx:Option Addr}{ph:Ph}(x:XTr B h a cls cx ph):∃oe vs,h.get? a=some oe∧oe.cls=cls∧oe.data=.fields vs∧vs[2]? = some (a0z cx)∧oe.dict=a0A cx:=by
 cases ph with
 | new=>obtain⟨oe,vs,h1,h2,h3,_,h4,h5⟩:=x;exact⟨oe,vs,h1,h2,h3,h4,h5⟩
 | fly=>obtain⟨oe,vs,_,_,_,⟨h1,h2,h3,h5⟩,⟨_,h4⟩,_⟩:=x;exact⟨oe,vs,h1,h2,h3,h4,h5⟩
 | any=>obtain⟨_,oe,vs,_,_,_,⟨h1,h2,h3,h5⟩,⟨_,h4⟩,_⟩:=x;exact⟨oe,vs,h1,h2,h3,h4,h5⟩
section
variable {M:Model}{A:Around}{E:Value→Shared→Prop}{s:Shared}
def a00(B:Heap)(l:List Env)(e:Addr)(cls:Value)(cx:Option Addr)(fl:Value)(h h':Heap):Prop:=B.StaysIn h'∧h'.FunFrames B l∧TrX h' B e cls cx fl∧h.UpToSlots h'
theorem a3J{B:Heap}{env:Env}{outer:List Env}{L e:Addr}{oe:Obj}{vs:Array Value}{head:Value}{cx:Option Addr}{nx:Bool}{Q:Unit→Shared→Prop}(fr:A.frames=some (env::outer))(ff:s.heap.FunFrames B (env::outer))(hf:env.frame=some L)
  (ge:s.heap.get? e=some oe) (st:B.StaysIn s.heap) (be:B.get? e=none) (de:oe.data=.fields vs) (z1:1<vs.size) (z2:vs[2]? = some (a0z cx)) (z6:oe.dict=a0A cx) (q:∀h',a00 B (env::outer) e oe.cls cx (rawInt L) s.heap h'→Q () { s with heap:=h' }) :
  wpAny M A (do let a ← frameOf env;let pl ← entryPlaceOf L nx;let b ← EntryCells.newEntry head a .none (rawInt L) .none pl;setField (.ref e) 1 b) Q E s:=by
 have nf:∀b o,s.heap.get? b=some o→(∀ws,o.data≠.fields ws)→b≠e:=fun b o gb nb zb=>by subst zb;rw[ge]at gb;cases gb;exact nb vs de
 have out:e ∉ (env::outer).filterMap (·.frame):=fun m=>by obtain⟨_,o,go,no⟩:=ff.mem m;exact nf e o go no rfl
 refine wpAny_bind (wpAny_frameOf_fun fr ff hf fun h1 only=>wpAny_bind (wpAny_entryPlaceOf fun pl place=>?_))
 unfold EntryCells.newEntry newFields
 refine wpAny_bind (wpAny_newObj_type ?_ (place.sizeOk5 _ _ _ _ _))
 have ge1:h1.get? e=some oe:=(only.2.1 e out).trans ge
 have st1:B.StaysIn h1:=fun b o gb=>(only.2.1 b fun m=>by have:=(ff.mem m).1;rw[this]at gb;cases gb).trans (st b o gb)
 have ne1:h1.objs.size≠e:=fun z=>absurd (Heap.lt_size ge1) (by rw[z];exact Nat.lt_irrefl _)
 refine wpAny_setField (Heap.get?_push_of_some _ ge1) de z1 (q _ ?_)
 have far:∀{ob:Obj} {g:Obj→Obj} {b:Addr} {o:Obj},b≠e→h1.get? b=some o→((h1.push ob).update e g).get? b=some o:=fun ne gb=>(Heap.get?_update_other _ _ (Ne.symm ne)).trans (Heap.get?_push_of_some _ gb)
 refine⟨fun b o gb=>far (fun z=>by rw[z,be]at gb;cases gb) (st1 b o gb),ff.of_keeps fun b o gb nb=>?_,?_,fun b o gb nb=>?_⟩
 ·obtain⟨sl,g⟩:=only.2.2 b o gb;exact⟨_,far (nf b o gb nb) g,rfl⟩
 ·have dd:=Obj.data_mapFields de (·.setIfInBounds 1 (Value.ref h1.objs.size))
  refine⟨_,_,h1.objs.size,_,_,⟨Heap.get?_update_self _ (Heap.get?_push_of_some _ ge1) (Obj.isFreed_of_fields dd),Obj.cls_mapFields _ _,dd,(Obj.dict_mapF _ _).trans z6⟩,⟨by simp[z1],by rw[Array.getElem?_setIfInBounds_ne (by decide)];exact z2⟩,⟨st1.fresh,ne1⟩,(Heap.get?_update_other _ _ (Ne.symm ne1)).trans (Heap.get?_push_size h1 rfl),rfl,?_⟩
  first | (simp;done) | (rcases place with rfl | ⟨_,_,_,_,_,_,_,rfl⟩<;>simp)
 ·obtain⟨sl,g⟩:=only.2.2 b o gb;exact⟨sl,far (nf b o gb nb) g⟩
theorem a4t{B:Heap}{env:Env}{outer:List Env}{L e:Addr}{oe:Obj}{vs:Array Value}{cx:Option Addr}{Q:Unit→Shared→Prop}(fr:A.frames=some (env::outer))(ff:s.heap.FunFrames B (env::outer))(hf:env.frame=some L)
  (ge:s.heap.get? e=some oe) (st:B.StaysIn s.heap) (be:B.get? e=none) (de:oe.data=.fields vs) (z1:vs[1]? = some .none) (z2:vs[2]? = some (a0z cx)) (z6:oe.dict=a0A cx) (q:∀h',a00 B (env::outer) e oe.cls cx (rawInt L) s.heap h'→Q () { s with heap:=h' }):wpAny M A (noteFrame (.ref e) env) Q E s:=by
 unfold noteFrame
 simp only[hf]
 refine wpAny_bind (wpAny_field ge de z1 ?_)
 rw[if_neg (by decide)]
 exact a3J fr ff hf ge st be de (Array.getElem?_eq_some_iff.mp z1).1 z2 z6 q
theorem a7O{B:Heap}{env:Env}{outer:List Env}{L e:Addr}{cls:Value}{cx:Option Addr}{Q:Unit→Shared→Prop}(fr:A.frames=some (env::outer))(ff:s.heap.FunFrames B (env::outer))(hf:env.frame=some L)
  {fl:Value} (t:TrX s.heap B e cls cx fl) (nl:¬(fl == rawInt L)=true) (st:B.StaysIn s.heap) (be:B.get? e=none) (q:∀h',a00 B (env::outer) e cls cx (rawInt L) s.heap h'→Q () { s with heap:=h' }):wpAny M A (noteFrame (.ref e) env) Q E s:=by
 obtain⟨oe,vs,T,oT,ts,⟨ge,rfl,de,z6⟩,⟨z1,z2⟩,⟨bT,nT⟩,gT,dT,z3⟩:=t
 unfold noteFrame
 simp only[hf]
 refine wpAny_bind (wpAny_field ge de z1 ?_)
 rw[if_pos (Q1 T)]
 refine wpAny_bind (wpAny_field gT dT z3 ?_)
 rw[if_neg nl]
 refine wpAny_bind (wpAny_setField gT dT (Array.getElem?_eq_some_iff.mp z3).1 ?_)
 have far:∀{g:Obj→Obj} b,b≠T→(s.heap.update T g).get? b=s.heap.get? b:=fun b ne=>Heap.get?_update_other _ _ (Ne.symm ne)
 have nf:∀b o,s.heap.get? b=some o→(∀ws,o.data≠.fields ws)→b≠T:=fun b o gb nb zb=>by subst zb;rw[gT]at gb;cases gb;exact nb ts dT
 refine a3J fr (ff.of_keeps fun b o gb nb=>⟨o,(far b (nf b o gb nb)).trans gb,rfl⟩) hf ((far e (Ne.symm nT)).trans ge) (fun b o gb=>(far b fun z=>by rw[z,bT]at gb;cases gb).trans (st b o gb)) be de (Array.getElem?_eq_some_iff.mp z1).1 z2 z6 fun h' x=>q h' ⟨x.1,x.2.1,x.2.2.1,fun b o gb nb=>?_⟩
 exact x.2.2.2 b o ((far b (nf b o gb nb)).trans gb) nb
theorem a4u{B:Heap}{env:Env}{L e:Addr}{cls:Value}{cx:Option Addr}{fl:Value}{Q:Unit→Shared→Prop}(hf:env.frame=some L)(t:TrX s.heap B e cls cx fl)(el:(fl == rawInt L)=true)(q:Q () s):wpAny M A (noteFrame (.ref e) env) Q E s:=by
 obtain⟨oe,vs,T,oT,ts,⟨ge,rfl,de,z6⟩,⟨z1,z2⟩,⟨bT,nT⟩,gT,dT,z3⟩:=t
 unfold noteFrame
 simp only[hf]
 refine wpAny_bind (wpAny_field ge de z1 ?_)
 rw[if_pos (Q1 T)]
 refine wpAny_bind (wpAny_field gT dT z3 ?_)
 rw[if_pos el]
 exact wpAny_pure q
theorem a2D{B:Heap}{l:List Env}{e:Addr}{cls fl:Value}{cx fr:Option Addr}{Q:Unit→Shared→Prop}(st:B.StaysIn s.heap)(ff:s.heap.FunFrames B l)(t:TrX s.heap B e cls cx fl)
  (q:∀h',a00 B l e cls cx (fr.elim Value.none fun f=>rawInt f) s.heap h'→Q () { s with heap:=h' }):wpAny M A (setFlight (.ref e) fr) Q E s:=by
 obtain⟨oe,vs,T,oT,ts,⟨ge,rfl,de,z6⟩,⟨z1,z2⟩,⟨bT,nT⟩,gT,dT,z3⟩:=t
 have z4:3<ts.size:=(Array.getElem?_eq_some_iff.mp z3).1
 have far:∀{g:Obj→Obj} b,b≠T→(s.heap.update T g).get? b=s.heap.get? b:=fun b ne=>Heap.get?_update_other _ _ (Ne.symm ne)
 have nf:∀b o,s.heap.get? b=some o→(∀ws,o.data≠.fields ws)→b≠T:=fun b o gb nb zb=>by subst zb;rw[gT]at gb;cases gb;exact nb ts dT
 unfold setFlight
 refine wpAny_bind (wpAny_field ge de z1 ?_)
 rw[if_pos (Q1 T)]
 refine wpAny_setField gT dT z4 (q _ ⟨fun b o gb=>(far b fun z=>by rw[z,bT]at gb;cases gb).trans (st b o gb),ff.of_keeps fun b o gb nb=>⟨o,(far b (nf b o gb nb)).trans gb,rfl⟩,?_,fun b o gb nb=>⟨o.slots,(far b (nf b o gb nb)).trans gb⟩⟩)
 have dd:=Obj.data_mapFields dT (·.setIfInBounds 3 (fr.elim Value.none fun f=>rawInt f))
 exact⟨oe,vs,T,_,_,⟨(far e (Ne.symm nT)).trans ge,rfl,de,z6⟩,⟨z1,z2⟩,⟨bT,nT⟩,Heap.get?_update_self _ gT (Obj.isFreed_of_fields dd),dd,by simp[z4]⟩
end
structure XAt(X:Cx)(pins:List (Addr×Obj))(H:Hp)(s:Shared)(a:Addr)(cls:Value)(cx:Option Addr)(B:Heap)(ph:Ph):Prop where
 free:H a=none
 stays:B.StaysIn s.heap
 fresh:B.get? a=none
 frames:s.heap.FunFrames B X.stack
 cov:∀b o,s.heap.get? b=some o→Imp X pins H b→b ∉ B3 X.stack→B.get? b=some o
 tr:XTr B s.heap a cls cx ph
section
variable {X:Cx}{pins:List (Addr×Obj)}{σ:St}{H:Hp}{s:Shared}{a:Addr}{cls:Value}{cx:Option Addr}{B h':Heap}{ph:Ph}
theorem Imp.there(I:Inv X pins σ H s){b:Addr}(i:Imp X pins H b):∃o,s.heap.get? b=some o:=by
 rcases i with i | ⟨hx,o,i⟩ | ⟨p,hp,e⟩
 ·cases q:H b with
  | none=>exact absurd q i
  | some u=>exact(I.hok b u q).there
 ·exact I.base.there b o i hx
 ·exact⟨p.2,by rw[← e];exact(I.pin p hp).1⟩
theorem Inv.exc(I:Inv X pins σ H s)(cov:∀b o,s.heap.get? b=some o→Imp X pins H b→b ∉ B3 X.stack→B.get? b=some o)(st:B.StaysIn h')(ups:s.heap.UpToSlots h') :
  Inv X pins σ H { s with heap:=h' }:=by
 have fr:∀b,b∈B3 X.stack→∀o,s.heap.get? b=some o→∃sl,h'.get? b=some { o with slots:=sl }:=fun b hb o e=>by
  obtain⟨_,o',e',d⟩:=I.stack.mem hb
  rw[e]at e';cases e'
  exact ups b o e d
 have nfr:∀b,b ∉ X.fs→b≠X.env.locals→b ∉ B3 X.stack:=fun b h1 h2 z=>(List.mem_cons.mp (I.stkSub b z)).elim h2 h1
 have neL:∀b o,X.s₀.heap.get? b=some o→b≠X.env.locals:=fun b o e=>Nat.ne_of_lt (Nat.lt_of_lt_of_le (Heap.lt_size e) I.ok.above)
 have cellK:∀c v,s.heap.IsCell c v→h'.IsCell c v:=fun c v ⟨o,ho,hd⟩=>by
  obtain⟨sl,q⟩:=ups c o ho (fun vs z=>by rw[hd]at z;cases z)
  exact⟨_,q,hd⟩
 refine⟨I.ok,I.os,I.bare,⟨fun b o e n hb hx=>?_,fun b o e n hb hx=>?_,I.base.free,fun b o e hx=>?_,I.base.tups,I.base.frzs,I.base.tbls⟩,?_,fun x c e=>?_,I.free,I.freeC,fun p hp=>?_,?_,I.len⟩
 ·exact st _ _ (cov b o (I.base.keep b o e n hb hx) (.inr (.inl ⟨hx,o,e⟩)) (nfr b hb (neL b o e)))
 ·obtain⟨sl,e1⟩:=I.base.slot b o e n hb hx
  have hb':b∈B3 X.stack:=by
   rcases I.ok.stk with q | ⟨q,hf⟩
   ·rw[q];exact hb
   ·rw[q];unfold B3;rw[List.filterMap_cons,hf];exact List.mem_cons_of_mem _ hb
  obtain⟨sl',e2⟩:=fr b hb' _ e1
  exact⟨sl',e2⟩
 ·obtain⟨o',e1⟩:=I.base.there b o e hx
  by_cases hb:b∈B3 X.stack
  ·obtain⟨sl,q⟩:=fr b hb _ e1
   exact⟨_,q⟩
  ·exact⟨o',st _ _ (cov b o' e1 (.inr (.inl ⟨hx,o,e⟩)) hb)⟩
 ·obtain⟨m,hn,hl⟩:=I.loc
  refine⟨m,ups.ns hn,fun i x v e1 e2 e3=>?_⟩
  obtain⟨u,r,l⟩:=hl i x v e1 e2 e3
  refine⟨u,r,?_⟩
  rcases l with l | ⟨k,c,e,z⟩
  ·exact .inl l
  ·exact .inr ⟨k,c,e,cellK c _ z⟩
 ·obtain⟨v,z⟩:=I.cell x c e
  exact⟨v,cellK c v z⟩
 ·obtain⟨e,n,ne,nf,d⟩:=I.pin p hp
  exact⟨st _ _ (cov p.1 p.2 e (.inr (.inr ⟨p,hp,rfl⟩)) (nfr p.1 nf ne)),n,ne,nf,d⟩
 ·intro b u e
  refine(I.hok b u e).stay (fun c v hc q=>?_) (fun _ q=>q) (fun _ _ q=>q) fun _ _ _ q=>q
  have hc':H c≠none:=by
   rcases hc with z | z
   ·rw[z,e];exact fun q=>nomatch q
   ·rw[z];exact fun q=>nomatch q
  exact st _ _ (cov c v q (.inl hc') fun z=>hc' (I.stkFree c z))
theorem XAt.cov'(x:XAt X pins H s a cls cx B ph)(I:Inv X pins σ H s)(st:B.StaysIn h'):∀b o,h'.get? b=some o→Imp X pins H b→b ∉ B3 X.stack→B.get? b=some o:=fun b o e i n=>by
 obtain⟨o1,e1⟩:=i.there I
 have q:=x.cov b o1 e1 i n
 have q2:=st _ _ q
 rw[e]at q2;cases q2
 exact q
variable {M:Model}{A:Around}{E:Value→Shared→Prop}{Q:Unit→Shared→Prop}
theorem a59{e:Value}{env env0:Env}(h:env0.frame=env.frame):noteFrame e env=noteFrame e env0:=by
 unfold noteFrame PySem.frameOf
 rw[h]
theorem a3K{env0:Env}{out0:List Env}{F:Addr}(hA:A.frames=some X.stack)(hs:X.stack=env0::out0)(h0:env0.frame=X.env.frame)(hf:X.env.frame=some F)(I:Inv X pins σ H s)(x:XAt X pins H s a cls cx B ph)
  (hQ:∀h',Inv X pins σ H { s with heap:=h' }→XAt X pins H { s with heap:=h' } a cls cx B .any→Q () { s with heap:=h' }):wpAny M A (noteFrame (.ref a) X.env) Q E s:=by
 have hfr:A.frames=some (env0::out0):=by rw[hA,hs]
 have hl:s.heap.FunFrames B (env0::out0):=by rw[← hs];exact x.frames
 rw[a59 h0]
 have hf:env0.frame=some F:=h0.trans hf
 have fin:∀{fl:Value} h',a00 B (env0::out0) a cls cx fl s.heap h'→Q () { s with heap:=h' }:=fun h' ⟨k1,k2,k3,k4⟩ =>
  hQ h' (I.exc x.cov k1 k4) ⟨x.free,k1,x.fresh,by rw[hs];exact k2,x.cov' I k1,_,k3⟩
 have on:∀fl,TrX s.heap B a cls cx fl→wpAny M A (noteFrame (.ref a) env0) Q E s:=fun fl t=>by
  by_cases z:(fl == rawInt F)=true
  ·exact a4u hf t z (hQ s.heap I ⟨x.free,x.stays,x.fresh,x.frames,x.cov,fl,t⟩)
  ·exact a7O hfr hl hf t z x.stays x.fresh fin
 cases ph with
 | new =>
  obtain⟨oe,vs,he,hc,hd,h1,h2,h6⟩:=x.tr
  refine a4t hfr hl hf he x.stays x.fresh hd h1 h2 h6 fun h' hN=>?_
  rw[hc]at hN
  exact fin h' hN
 | fly=>exact on _ x.tr
 | any=>obtain⟨fl,t⟩:=x.tr;exact on fl t
theorem a7P(I:Inv X pins σ H s)(x:XAt X pins H s a cls cx B ph)(hn:ph≠.new)
  (hQ:∀h',Inv X pins σ H { s with heap:=h' }→XAt X pins H { s with heap:=h' } a cls cx B .fly→Q () { s with heap:=h' }):wpAny M A (setFlight (.ref a) none) Q E s:=by
 have go:∀fl,TrX s.heap B a cls cx fl→wpAny M A (setFlight (.ref a) none) Q E s:=fun fl ht =>
  a2D x.stays x.frames ht fun h' ⟨k1,k2,k3,k4⟩=>hQ h' (I.exc x.cov k1 k4) ⟨x.free,k1,x.fresh,k2,x.cov' I k1,k3⟩
 cases ph with
 | new=>exact absurd rfl hn
 | fly=>exact go _ x.tr
 | any=>obtain⟨fl,t⟩:=x.tr;exact go fl t
end
def u9(P:Program)(w:World):U1:=fun outer H s E e s' =>
 ∃(a:Addr) (cls:Value) (cx:Option Addr) (H':Hp) (B:Heap),e=.ref a∧s'.os=s.os∧AllBare s'.gens∧Un (B3 outer) [] H H' s.heap s'.heap∧HOk P w H' s'.heap∧B.StaysIn s'.heap∧B.get? a=none∧s'.heap.FunFrames B outer ∧
  TrX s'.heap B a cls cx .none∧H' a=none∧(∀b o,s'.heap.get? b=some o→(H' b≠none∨∃o',s.heap.get? b=some o')→b ∉ B3 outer→B.get? b=some o)∧E cls cx H'
def XAcc(X:Cx)(E:XK):Prop:=∀(pins:List (Addr×Obj)) (σ:St) (H:Hp) (s:Shared) (a:Addr) (cls:Value) (cx:Option Addr) (B:Heap) (ph:Ph),Inv X pins σ H s→XAt X pins H s a cls cx B ph→E cls cx H→X.xe (.ref a) s
theorem D0{P:Program}{w:World}{K:W.Frag}{mg:Str→Option Value}{base:Heap}{N:List Str}{qual:Str}{scope:Scope}{f:Addr}{cd:Value}{A:Around}{outer:List Env}{s:Shared}{H:Hp}{E:XK} :
  XAcc (M4 (u9 P w) P w K mg base N qual scope f cd A outer s H E) E:=by
 intro pins σ H1 s1 a cls cx B ph I x e
 show wpAny (model P w) (A.deeper (envOfC qual scope s.heap.objs.size f cd)) (leaving (envOfC qual scope s.heap.objs.size f cd) (.ref a)) _ _ s1
 unfold leaving
 refine wpAny_bind (a3K (X:=M4 (u9 P w) P w K mg base N qual scope f cd A outer s H E) I.ok.frames rfl rfl rfl I x fun h1 I1 x1=>?_)
 refine a7P I1 x1 (fun z=>nomatch z) fun h2 I2 x2=>?_
 refine⟨a,cls,cx,H1,B,rfl,I2.os,I2.bare,I2.base,I2.hok,x2.stays,x2.fresh,x2.frames.2.2,x2.tr,x2.free,fun b o e1 i n=>?_,e⟩
 have nl:b≠(envOfC qual scope s.heap.objs.size f cd).locals:=fun z=>by
  rcases i with i | ⟨o',i⟩
  ·exact i (by rw[z];exact I2.free)
  ·have:=Heap.lt_size i
   rw[z]at this
   exact absurd this (Nat.lt_irrefl _)
 refine x2.cov b o e1 (i.elim .inl fun z=>.inr (.inl ⟨List.not_mem_nil,z⟩)) fun z=>?_
 rcases List.mem_cons.mp (I2.stkSub b z)with q | q
 ·exact nl q
 ·exact n q
theorem XAcc.passes{X:Cx}{E:XK}(acc:XAcc X E):Y6 (u9 X.prog X.w) X E:=by
 intro pins σ H s e s' I h
 obtain⟨a,cls,cx,H',B,rfl,os,bare,un,hok,st,fr,ff,tr,free,cov,hE⟩:=h
 have I':Inv X pins σ H' s':=I.call' (ch:=[]) os un hok bare (fun b z=>absurd z (by simp))
 refine acc pins σ H' s' a cls cx B .fly I' ⟨free,st,fr,ff,fun b o e i n=>cov b o e ?_ n,tr⟩ hE
 rcases i with i | ⟨hx,o',i⟩ | ⟨p,hp,q⟩
 ·exact .inl i
 ·exact .inr (I.base.there b o' i hx)
 ·exact .inr ⟨p.2,by rw[← q];exact(I.pin p hp).1⟩
end L2
namespace PySem.W
open PySem PySem.Spec PySem.Calls PyProof.Rows
structure ExcT(K:Frag)(C:Addr):Prop where
 ga:findIn K (.ref C) "__getattribute__" = some (some (.builtin "BaseException.__getattribute__"))
 gt:findIn K (.ref C) "__getattr__" = some none
 cl:findIn K (.ref C) "__class__" = some (some (.builtin "object.__class__"))
 mo:mroIn K C (.type "object")=some true
 sb:subIn K (.ref C) (.type "BaseException")=some true
section
variable {prog:Program}{w:World}{A:Around}{E:Value→Shared→Prop}{h:Heap}{g:Array GenState}{d:Drawn}{t:Nat}{os:OsState}{K:Frag}{x C:Addr}{o:Obj}{R:Result→Shared→Prop}
theorem a2i{tp:Value}(X:K.In h)(hx:h.get? x=some o)(hc:o.cls=.ref C)(hm:mroIn K C (.type "object")=some true)
  (q:R (.ok (.ret (.ref C))) ⟨h,g,d,t,os⟩):codeAny (model prog w) A (.call (.builtin "getset_descriptor.__get__") ⟨[.builtin "object.__class__",.ref x,tp],[]⟩) R ⟨h,g,d,t,os⟩:=by
 have L0:Looks (model prog w) h (typeOf (.ref x)) (.ref C):=hc▸(Looks.ld hx).andThen .now
 have L1:=looks_mroIn (M:=model prog w) X hm
 refine codeAny_call_builtin KF.slot_gs.plain KF.entry_gs (KF.slot_gs.check _ _ _ _ _ _ _ _ KF.type_class (KF.args_gs _ _ _) ?_)
 unfold Builtin.«getset_descriptor.__get__» Builtin.Getset_descriptor.descrGet
 rw[dga_obj]
 refine wpAny_bind (wpAny_pure ?_)
 unfold Builtin.Getset_descriptor.descrGetter Builtin.Getset_descriptor.descrCheckInstance Builtin.Getset_descriptor.descrNameAndClass isInstance
 simp only[KF.owner_class]
 repeat lk
 refine⟨Code.quiet_builtin _ (by decide +kernel),codeAny_builtin KF.entry_class ?_⟩
 unfold Builtin.«object.__class__» shownTypeOf
 repeat lk
 exact q
theorem a01{tk:Tok}{Q:Fin→Shared→Prop}(X:K.In h)(T:ExcT K C)(hx:h.get? x=some o)(hc:o.cls=.ref C)(q:Q (.done (.ret (.ref C))) ⟨h,g,d,t,os⟩) :
  wpAny (model prog w) A (Builtin.«object.__getattribute__» ⟨[.ref x,.str "__class__" tk],[]⟩) Q E ⟨h,g,d,t,os⟩:=by
 have L0:Looks (model prog w) h (typeOf (.ref x)) (.ref C):=hc▸(Looks.ld hx).andThen .now
 have L1:=looks_findIn (M:=model prog w) X T.cl
 have hT5:(⟨h,g,d,t,os⟩:Shared).TypeIs (.builtin "object.__class__") "getset_descriptor" := F.typeOf_object_class
 have f5:=F.typeOf_object_class
 have f6:=F.slot_gs_get.lookup
 have f7:=F.slot_gs_set.lookup
 repeat (any_goals (first | assumption | (with_reducible refine L0.at ?_) | (with_reducible refine wpAny_bind (L0.at ?_)) | (with_reducible refine L1.at ?_) | (with_reducible refine wpAny_bind (L1.at ?_)) | wp_step))
 refine a2i X hx hc T.mo ?_
 repeat (any_goals (first | assumption | wp_step))
theorem a2E{M:Model}{nameV:Value}{Q:Unit→Shared→Prop}(X:K.In h)(T:ExcT K C)(hx:h.get? x=some o)(hc:o.cls=.ref C)(hq:Q () ⟨h,g,d,t,os⟩):wpAny M A (checkBuiltinCall "BaseException.__getattribute__" ⟨[.ref x,nameV],[]⟩) Q E ⟨h,g,d,t,os⟩:=by
 have hk:builtinKind "BaseException.__getattribute__" = some .slot:=by decide +kernel
 have hsplit:splitId "BaseException.__getattribute__" = some ("BaseException","__getattribute__"):=by decide +kernel
 have L0:Looks M h (typeOf (.ref x)) (.ref C):=hc▸(Looks.ld hx).andThen .now
 have L1:=looks_subIn (M:=M) X T.sb
 have L2:Looks M h (isInstance (.ref x) (.type "BaseException")) true:=L0.andThen L1
 have ha:=F.args_bexc_ga (.ref x) nameV
 simp only[checkBuiltinCall,hk,hsplit]
 refine wpAny_bind (L2.at ?_)
 repeat (first | assumption | wp_step)
theorem a2F{tk:Tok}{Q:Value→Shared→Prop}(X:K.In h)(T:ExcT K C)(hx:h.get? x=some o)(hc:o.cls=.ref C)(hq:Q (.ref C) ⟨h,g,d,t,os⟩):wpAny (model prog w) A (getAttrBy (.ref x) (.str "__class__" tk) false) Q E ⟨h,g,d,t,os⟩:=by
 have L0:Looks (model prog w) h (typeOf (.ref x)) (.ref C):=hc▸(Looks.ld hx).andThen .now
 have L1:=looks_findIn (M:=model prog w) X T.ga
 have L2:=looks_findIn (M:=model prog w) X T.gt
 have f3:=F.attr_ValueError.ga.bind (.ref x)
 have hx2:(Value.builtin "BaseException.__getattribute__" == Value.builtin "object.__getattribute__")=false:=by decide +kernel
 have hx1:(onTheHeap (Value.ref C) && Value.builtin "BaseException.__getattribute__" == Value.builtin "object.__getattribute__")=false:=by rw[hx2];rfl
 repeat (any_goals (first | assumption | (with_reducible refine L0.at ?_) | (with_reducible refine wpAny_bind (L0.at ?_)) | (with_reducible refine L1.at ?_) | (with_reducible refine wpAny_bind (L1.at ?_)) | (with_reducible refine L2.at ?_) | (with_reducible refine wpAny_bind (L2.at ?_)) | wp_step))
 refine codeAny_call_builtin F.attr_ValueError.ga.plain F.entry_bexc_ga (a2E X T hx hc (a01 X T hx hc ?_))
 repeat (any_goals (first | assumption | wp_step))
theorem a1w{Q:Option Value→Shared→Prop}(X:K.In h)(T:ExcT K C)(hx:h.get? x=some o)(hc:o.cls=.ref C)(hq:Q (some (.ref C)) ⟨h,g,d,t+1,os⟩):wpAny (model prog w) A (getAttr? (.ref x) "__class__") Q E ⟨h,g,d,t,os⟩:=by
 unfold getAttr? getAttrBy?
 repeat (any_goals (first | assumption | with_reducible apply a2F X T hx hc | wp_step))
end
def a9I(x C:Addr)(h:Heap):Prop:=∃o vs,h.get? x=some o∧o.cls=.ref C∧o.data=.fields vs
theorem kitx_exc{K:Frag}{x C:Addr}(T:ExcT K C):KitX K (.ref x) (.ref C) (a9I x C) where
 ty:=fun _ _ _ ⟨_,_,hx,hc,_⟩=>hc▸(Looks.ld hx).andThen .now
 it:=fun M h X _=>by
  have hm:=T.mo
  unfold mroIn at hm
  obtain⟨cd,hcd⟩:∃cd,clsIn K C=some cd:=by
   cases q:clsIn K C with
   | none=>rw[q]at hm;cases hm
   | some cd=>exact⟨cd,rfl⟩
  unfold clsIn at hcd
  split at hcd
  ·rename_i c' d' cd' sl' ho
   intro A' Q' E' s' k q
   unfold isType loadHead
   exact wpAny_bind (wpAny_loadPart (k _ _ (X _ _ ho)) (wpAny_pure q))
  ·cases hcd
 ne:=fun h tp dd its n sl X htp=>by
  have hm:=T.mo
  unfold mroIn at hm
  obtain⟨cd,hcd⟩:∃cd,clsIn K C=some cd:=by
   cases q:clsIn K C with
   | none=>rw[q]at hm;cases hm
   | some cd=>exact⟨cd,rfl⟩
  refine Bool.eq_false_iff.mpr fun q=>?_
  have e:C=tp:=Value.ref.inj (beq_iff_eq.mp q)
  subst e
  unfold clsIn at hcd
  split at hcd
  ·rename_i c' d' cd' sl' ho
   have z:=(X _ _ ho).symm.trans htp
   cases z
  ·cases hcd
 ca:=fun{_ _ _ _ _ s} X ⟨_,_,hx,hc,_⟩ k=>by
  obtain⟨h,g,d,t,os⟩:=s
  exact a1w X T hx hc k
end PySem.W
namespace L2
open PySem PySem.Spec PyProof.Rows
abbrev TJ:=St→Hp→Str→(Str→Hp→Prop)→Prop
def a0B:List Value:=[.type "ValueError",.type "Exception",.type "BaseException",.type "object"]
theorem a7Q{K:W.Frag}{h₀:Heap}{C:Addr}(KX:K.In h₀)(q:W.excIn K C a0B "ValueError.__new__" = true) :
  ∃bm N nm q bs hdct sn sub ab col dd k0 k1 k2 k3 k5 mN,h₀.get? C=some (excClassObj nm q C N bs bm hdct sn sub ab col dd k0 k1 k2 k3 k5 "ValueError.__new__")∧h₀.Ns N mN∧mN "__init__" = none∧OwnTail h₀ a0B bm:=by
 unfold W.excIn at q
 split at q
 ·rename_i dd cd sl ho
  split at q
  ·rename_i C' bm k0 k1 k2 k3 n k5 hm hs
   simp only[Bool.and_eq_true,beq_iff_eq,Bool.not_eq_true']at q
   obtain⟨⟨⟨⟨⟨rfl,rfl⟩,hdel⟩,ht⟩,hok⟩,hni⟩:=q
   obtain⟨nm,bs,mro,ns,qn,hd,sn,sub,ab,col,del⟩:=cd
   dsimp only at hm hdel hok hni
   subst hm hdel
   have hsl:sl = #[k0,k1,k2,k3,some (.builtin "ValueError.__new__"),k5]:=by
    obtain⟨l⟩:=sl
    simp only at hs
    rw[hs]
   subst hsl
   exact⟨bm,ns,nm,qn,bs,hd,sn,sub,ab,col,dd,k0,k1,k2,k3,k5,_,KX _ _ ho,.of_isNs (W.isNs_of_in KX hok),W.nsMap_none_of_in KX hok hni,W.tail_of_in KX ht⟩
  ·cases q
 ·cases q
section
variable {X:Cx}{E:XK}
theorem XAt.first{pins:List (Addr×Obj)}{σ:St}{H:Hp}{s:Shared}{h':Heap}{a:Addr}{cls:Value}{cx:Option Addr}{oe:Obj}{vs:Array Value}(I:Inv X pins σ H s)(k:∀b o,s.heap.get? b=some o→h'.get? b=some o)
  (n:s.heap.get? a=none) (g:h'.get? a=some oe) (hc:oe.cls=cls) (hd:oe.data=.fields vs) (z1:vs[1]? = some .none) (z2:vs[2]? = some (a0z cx)) (z6:oe.dict=a0A cx) :
  Inv X pins σ H { s with heap:=h' }∧XAt X pins H { s with heap:=h' } a cls cx (W.hideAll s.heap (B3 X.stack)) .new:=by
 have I':Inv X pins σ H { s with heap:=h' }:=I.kept (t':=s.toks) k
 have fr:H a=none:=by
  cases q:H a with
  | none=>rfl
  | some u=>obtain⟨o,e⟩:=(I.hok a u q).there;rw[n]at e;cases e
 refine⟨I',fr,fun b o e=>k b o (W.of_hideAll _ e),?_,(W.funFrames_hide I.stack fun env he b hb=>List.mem_filterMap.mpr ⟨env,he,hb⟩).of_keeps fun b o e _=>⟨o,k b o e,rfl⟩,fun b o e i n=>?_,⟨oe,vs,g,hc,hd,z1,z2,z6⟩⟩
 ·cases q:(W.hideAll s.heap (B3 X.stack)).get? a with
  | none=>rfl
  | some o=>have:=W.of_hideAll _ q;rw[n]at this;cases this
 ·obtain⟨o1,e1⟩:=i.there I
  have e2:=k _ _ e1
  rw[e]at e2;cases e2
  exact W.hideAll_get _ e1 n
theorem XAt.made{pins:List (Addr×Obj)}{σ:St}{H:Hp}{s:Shared}{h':Heap}{a:Addr}{cls:Value}{vs:List Value}(I:Inv X pins σ H s)(m:Heap.MadeExcOf s.heap h' a cls vs) :
  Inv X pins σ H { s with heap:=h' }∧XAt X pins H { s with heap:=h' } a cls none (W.hideAll s.heap (B3 X.stack)) .new:=by
 obtain⟨t,he,_,_⟩:=m.there
 exact XAt.first I m.keeps m.new he rfl rfl rfl rfl rfl
def a5f(C:Addr)(E:XK)(ta:TA):TS:=fun _ σ H=>ta σ H fun vs H1=>vs.length≤sizeLine∧E (.ref C) none H1
theorem a2G{x:Str}{C:Addr}{e₀:Expr}{x4:List Expr}{np cpos pos:Pos}{ta:TA}(acc:XAcc X E)(q:W.excIn X.K C a0B "ValueError.__new__" = true)(hg:Gl X x)(hm:X.mg x=some (.ref C))(ha:PA X (e₀::x4) ta)
  (hc:X.calm=true:=by rfl) (hex:X.ex=[]:=by rfl)
  (he:starEach (e₀::x4) X.env=(false,eval e₀ X.env)::starEach x4 X.env:=by rfl) (hplain:(backTo cpos (starEach x4 X.env)).any (·.1)=false:=by rfl) (hd:(x == ("__debug__" : Str))=false:=by decide) :
  PS X (.Raise (some (.Call (.Name x np) (e₀::x4) [] cpos)) none pos) (a5f C E ta):=by
 intro pins s σ H D I h
 obtain⟨tl,N,nm,qn,bs,hdct,sn,sub,ab,col,dd,k0,k1,k2,k3,k5,mN,hC,hN,hni,T⟩:=a7Q I.mod.kin q
 have hp:=ha cpos pins s σ H _ I h
 rw[he]at hp
 refine wpAny_Raise_call_subT (C:=C) (nm:=nm) (q:=qn) (N:=N) (bs:=bs) (bm:=tl) (hdct:=hdct) (sn:=sn) (sub:=sub) (ab:=ab) (col:=col) (dd:=dd) (k0:=k0) (k1:=k1) (k2:=k2) (k3:=k3) (k5:=k5)
  PySem.F.excBase_ValueError (mN:=mN) (T.hasType PySem.F.excBase_ValueError.hasBase) (I.ok.hd hc) (by rw[he];show(false || (backTo cpos (starEach x4 X.env)).any (·.1))=false;rw[hplain];rfl) hni (a1q I hg hm ⟨rfl,?_⟩ hd)
 rw[he]
 refine Calls.evalArgs_plain (j4 hp fun us s2 ⟨vs,H2,I2,rv,z,hE⟩=>⟨rfl,by rw[← rv.length];exact z,I2.bk _ _ hC,hN.keeps I2.bk,T.keeps I2.bk,fun h' e m=>?_⟩)
 obtain⟨I3,x3⟩:=XAt.made I2 m
 exact acc pins σ H2 _ e _ none _ .new I3 x3 hE
end
def a0C(a:Addr)(cls:Value)(cx:Option Addr):HO:=.ext fun h=>∃o vs,h.get? a=some o∧o.cls=cls∧o.data=.fields vs∧vs[2]? = some (a0z cx)∧o.dict=a0A cx
section
variable {X:Cx}{pins:List (Addr×Obj)}{σ:St}{H:Hp}{s:Shared}{a:Addr}{cls:Value}{cx:Option Addr}{B:Heap}{ph:Ph}
theorem XAt.nofr(x:XAt X pins H s a cls cx B ph):a ∉ B3 X.stack:=fun z=>by
 obtain⟨oe,vs,e,_,d,_⟩:=x.tr.there
 obtain⟨_,o,e',d'⟩:=x.frames.mem z
 rw[e]at e';cases e'
 exact d' vs d
end
theorem u0{X:Cx}{P:Program}{w:World}:Y6 (u9 P w) X E0:=fun _ _ _ _ _ _ _ h=>by
 obtain⟨_,_,_,_,_,_,_,_,_,_,_,_,_,_,_,_,hE⟩:=h
 exact hE.elim
section
variable {P:Program}{w:World}{K:W.Frag}{mg:Str→Option Value}{base:Heap}
theorem Fun.okE{x qual:Str}{st:Stmt}{f:Addr}{fd:FuncData}{N ps:List Str}{k:Nat}{sp:Sp}(F:Fun K x qual st f fd)(S:FnScope N ps (c5 st))(len:∀vs H Q E,sp vs H Q E→vs.length=ps.length)
  (hbody:∀(cdv:Value) (A:Around) (outer:List Env) (s:Shared) (H:Hp) (vs:List V) (Q:VK) (E:XK),Room k (A.deeper (envOfC qual (c5 st) s.heap.objs.size f cdv))→sp vs H Q E →
   ∃t,PSs (M4 (u9 P w) P w K mg base N qual (c5 st) f cdv A outer s H E) (j0 st) t∧t { nx:=fun _ H'=>Q .non H',rt:=Q } (start N vs) H):FnOk P w K mg base (u9 P w) (k+1) f fd ps sp:=by
 obtain⟨oc,od,kV,doc,pm,an,cdv,ct,osl,rfl,lk,hcd⟩:=F.ex
 exact a4o lk hcd S len fun A outer s H vs Q E hr hsp=>hbody cdv A outer s H vs Q E hr hsp
structure FunD(K:W.Frag)(x qual:Str)(st:Stmt)(dT:Addr)(f:Addr)(fd:FuncData):Prop where
 ex:∃(oc:Value) (od:Option Addr) (kV doc pm:Value) (an:Option Addr) (cdv ct:Value) (osl:Array (Option Value)),
  fd=W.fnOf x qual (l7 st) (j0 st) (c5 st) (.ref dT) kV doc pm an cdv ct∧K.lookup f=some ⟨oc,od,.func fd,osl⟩∧W.codeIn K cdv qual=true
 kp:W.keepIn K (.ref f)=true
theorem FunD.okE{x qual:Str}{st:Stmt}{dT f:Addr}{fd:FuncData}{N ps:List Str}{k:Nat}{sp:Sp}(F:FunD K x qual st dT f fd)(S:FnScope N ps (c5 st))(len:∀vs H Q E,sp vs H Q E→vs.length=ps.length)
  (hbody:∀(cdv:Value) (A:Around) (outer:List Env) (s:Shared) (H:Hp) (vs:List V) (Q:VK) (E:XK),Room k (A.deeper (envOfC qual (c5 st) s.heap.objs.size f cdv))→sp vs H Q E →
   ∃t,PSs (M4 (u9 P w) P w K mg base N qual (c5 st) f cdv A outer s H E) (j0 st) t∧t { nx:=fun _ H'=>Q .non H',rt:=Q } (start N vs) H):FnOk P w K mg base (u9 P w) (k+1) f fd ps sp:=by
 obtain⟨oc,od,kV,doc,pm,an,cdv,ct,osl,rfl,lk,hcd⟩:=F.ex
 exact a4o lk hcd S len fun A outer s H vs Q E hr hsp=>hbody cdv A outer s H vs Q E hr hsp
theorem FunD.binds{x qual:Str}{st:Stmt}{dT f:Addr}{fd:FuncData}{ps:List Str}{ds:List Value}{items:List Value}{o:Obj}{nn:Nat}(F:FunD K x qual st dT f fd)(ho:K.lookup dT=some o)(hs:o.data=.seq items.toArray nn)
  (h:∀(kV doc pm:Value) (an:Option Addr) (cdv ct:Value) (us:List Value),(us++ds).length=ps.length→∃k:Option (Array Value)→Sem (List (Str×Value)),
   bindArgs (W.fnOf x qual (l7 st) (j0 st) (c5 st) (.ref dT) kV doc pm an cdv ct) ⟨us,[]⟩=seqItems? (.ref dT) >>= k∧k (some items.toArray)=pure (ps.zip (us++ds))):Binds K fd ps ds:=by
 obtain⟨oc,od,kV,doc,pm,an,cdv,ct,osl,rfl,lk,hcd⟩:=F.ex
 intro s us KX hl
 obtain⟨k,h1,h2⟩:=h kV doc pm an cdv ct us hl
 exact W.binds_K KX rfl ho hs h1 h2
end
structure RoomW(k:Nat)(A:Around):Prop where
 dp:A.depth+3*k+5<recursionLimit
 un:A.units+16*k+200<cLine
theorem Room.w{k:Nat}{A:Around}(r:Room k A)(h:Option Value):RoomW k (A.mark h):=⟨r.dp,r.un⟩
theorem RoomW.deeper{k:Nat}{A:Around}(r:RoomW (k+1) A)(env:Env):RoomW k (A.deeper env) :=
 ⟨by have:=r.dp;show A.depth+1+3*k+5<_;omega,by have:=r.un;show A.units+3+16*k+200<_;omega⟩
structure FnOkW(P:Program)(w:World)(K:W.Frag)(mg:Str→Option Value)(base:Heap)(k:Nat)(f:Addr)(fd:FuncData)(ps:List Str)(sp:Sp):Prop where
 len:∀vs H Q E,sp vs H Q E→vs.length=ps.length
 run:∀(A:Around) (outer:List Env) (s:Shared) (H:Hp) (args:Args) (us:List Value) (vs:List V) (Q:VK),RoomW k A→Env0 P w K mg base A outer s H→BindsTo s fd args (ps.zip us)→Vals vs us→sp vs H Q E0 →
  codeAny (model P w) A (.call (.ref f) args) (CR CX0 outer P w H s Q E0) s
abbrev a2n(P:Program)(w:World)(K:W.Frag)(mg:Str→Option Value)(base:Heap)(N:List Str)(qual:Str)(scope:Scope)(f:Addr)(cd:Value)(A:Around)(outer:List Env)(s:Shared)(H:Hp):Cx :=
 { M4 CX0 P w K mg base N qual scope f cd A outer s H E0 with calm:=false,xe:=fun _ _=>False }
theorem a4v{P:Program}{w:World}{K:W.Frag}{mg:Str→Option Value}{base:Heap}{N ps:List Str}{qual:Str}{scope:Scope}{f:Addr}{cd:Value}{A:Around}{outer:List Env}{s s1:Shared}{H:Hp}{us:List Value}{vs:List V}
  (S:FnScope N ps scope) (e0:Env0 P w K mg base A outer s H) (hl:vs.length=ps.length) (r:Vals vs us)
  (x:InCallC s s.heap.objs.size (bindL (envOfC qual scope s.heap.objs.size f cd).kindOf (ps.zip us) fun _=>none) (cellsFrom (s.heap.objs.size+1) scope.names []) (bindC (envOfC qual scope s.heap.objs.size f cd).kindOf (ps.zip us) fun _=>none) s1) :
  Inv (a2n P w K mg base N qual scope f cd A outer s H) [] (start N vs) H s1:=by
 have hpl:ps.length≤N.length:=by have:=congrArg List.length S.pre;rw[List.length_take]at this;omega
 obtain⟨h1,tk,rfl,hk⟩:=x.done
 have noA:∀b:Addr,b ∉ (a2n P w K mg base N qual scope f cd A outer s H).ex:=fun b z=>absurd (show b∈([]:List Addr)from z) (by simp)
 refine⟨⟨e0.mod,S.kind,rfl,rfl,Nat.le_refl _,fun y z c h1 h2=>?_,fun y hy=>?_,fun y c _ h=>?_,(fun z=>nomatch z),Around.frames_deeper e0.frames,.inr ⟨rfl,rfl⟩,fun b z=>absurd z (noA b),e0.bs,e0.bsz,fun b _ _=>noA b,fun b z=>absurd z (noA b),e0.funs,e0.frf⟩,
  rfl,e0.bare,Un.kept hk,⟨_,x.toInCall.ns,fun i y v h1 h2 h3=>?_⟩,fun y c h=>⟨_,x.cell y c h⟩,e0.hok.fresh (Nat.le_refl _),fun y c h=>?_,fun p hp=>absurd (show p∈([]:List (Addr×Obj))from hp) (by simp),e0.hok.kept hk,?_⟩
 ·exact name_of_addr x.apart (PySem.mem_of_lookup h1) (PySem.mem_of_lookup h2)
 ·have hy:scope.names.lookup y=some .cell∨scope.names.lookup y=some .free:=hy
  rcases hy with hy | hy
  ·exact V2 hy
  ·exact absurd rfl (S.nofree _ (PySem.mem_of_lookup hy))
 ·exact Nat.le_of_lt (x.above y c (PySem.mem_of_lookup h))
 ·have hi:i<vs.length:=by
   unfold start at h2
   by_cases hi:i<vs.length
   ·exact hi
   ·rw[List.getElem?_append_right (by simpa using hi)]at h2
    rw[List.getElem?_replicate]at h2
    split at h2<;>cases h2
  have ha:vs[i]? = some v:=by
   unfold start at h2
   rw[List.getElem?_append_left (by simpa using hi),List.getElem?_map]at h2
   cases e:vs[i]? with
   | none=>rw[e]at h2;cases h2
   | some a=>rw[e]at h2;cases h2;rfl
  obtain⟨u,hu,rv⟩:=r.get ha
  have hp:ps[i]? = some y:=by
   rw[← S.pre,List.getElem?_take_of_lt (by omega)];exact h1
  have ndP:ps.Nodup:=by rw[← S.pre];exact S.nd.sublist (List.take_sublist _ _)
  refine⟨u,rv,?_⟩
  rcases S.par y (List.mem_of_getElem? hp)with k | k
  ·exact .inl ⟨k,Y7 ndP hp hu k⟩
  ·obtain⟨c,e⟩:=V2 (n:=s.heap.objs.size+1) k
   refine .inr ⟨.inl k,c,e,?_⟩
   have q:=x.cell y c e
   rw[Y8 ndP hp hu (by show scope.names.lookup y≠_;rw[k];decide)]at q
   exact q
 ·exact e0.hok.fresh (Nat.le_of_lt (x.above y c (PySem.mem_of_lookup h)))
 ·unfold start
  show _=N.length
  rw[List.length_append,List.length_map,List.length_replicate]
  omega
section
variable {P:Program}{w:World}{K:W.Frag}{mg:Str→Option Value}{base:Heap}
theorem Fun.okW{x qual:Str}{st:Stmt}{f:Addr}{fd:FuncData}{N ps:List Str}{k:Nat}{sp:Sp}(F:Fun K x qual st f fd)(S:FnScope N ps (c5 st))(len:∀vs H Q E,sp vs H Q E→vs.length=ps.length)
  (hbody:∀(cdv:Value) (A:Around) (outer:List Env) (s:Shared) (H:Hp) (vs:List V) (Q:VK),RoomW k (A.deeper (envOfC qual (c5 st) s.heap.objs.size f cdv))→sp vs H Q E0 →
   ∃t,PSs (a2n P w K mg base N qual (c5 st) f cdv A outer s H) (j0 st) t∧t { nx:=fun _ H'=>Q .non H',rt:=Q } (start N vs) H):FnOkW P w K mg base (k+1) f fd ps sp:=by
 obtain⟨oc,od,kV,doc,pm,an,cdv,ct,osl,rfl,lk,hcd⟩:=F.ex
 refine⟨len,fun A outer s H args us vs Q hr e0 hb r hsp=>?_⟩
 have hl:=len _ _ _ _ hsp
 have KX:K.In s.heap:=e0.mod.kin.keeps fun b o e=>(e0.bs b o e).1
 have lim:s.heap.NoLimit:=e0.mod.nolimit.keeps fun b o e=>(e0.bs b o e).1
 have hkind:∀y∈ps.zip us,(c5 st).names.lookup y.1=some .local∨((c5 st).names.lookup y.1=some .cell∧((cellsFrom (s.heap.objs.size+1) (c5 st).names []).lookup y.1).isSome=true):=fun⟨n,v⟩ hy=>by
  rcases S.par n (List.of_mem_zip hy).1 with q | q
  ·exact .inl q
  ·exact .inr ⟨q,W.cellsFrom_some _ _ _ (.inl q)⟩
 refine codeAny_call_function (by have:=hr.dp;omega) (KX _ _ lk) rfl S.co S.gen rfl (W.codeRec_of KX hcd) (hb _ _ _ _ ?_)
 refine wpAny_newFunctionEnv_cells S.kind hkind fun env he s1 x=>?_
 subst he
 refine⟨lim.keeps x.toInCall.keep,codeAny_func ?_⟩
 obtain⟨t,ht,hq⟩:=hbody cdv A outer s H vs Q (hr.deeper _) hsp
 have I:=a4v S e0 hl r x
 refine wpAny_mono (ht [] s1 (start N vs) H _ I hq) (fun fl s' hs=>?_) fun e s' hs=>hs.elim
 have fin:∀{σ':St} {H':Hp} {v:V} {u:Value},Inv (a2n P w K mg base N qual (c5 st) f cdv A outer s H) [] σ' H' s'→RelV v u→Q v H'→CE outer P w H s Q u s' :=
  fun{σ' H' v u} J rv q=>⟨v,H',J.os,J.bare,J.base,J.hok,rv,q⟩
 cases fl with
 | ret u =>
  obtain⟨v,σ',H',J,rv,q⟩:=hs
  exact fin J rv q
 | next =>
  obtain⟨σ',H',J,q⟩:=hs
  exact fin (v:=V.non) (u:=Value.none) J rfl q
 | brk =>
  obtain⟨_,_,_,q⟩:=hs
  exact False.elim q
 | cont =>
  obtain⟨_,_,_,q⟩:=hs
  exact False.elim q
end
def a9J:V→Option Value
 | .ty n=>some (.type n)
 | .ref a=>some (.ref a)
 | _=>none
theorem a7R{y:V}{c u:Value}(e:a9J y=some c)(r:RelV y u):u=c:=by
 cases y with
 | ty n=>cases e;exact r
 | ref a=>cases e;exact r
 | _=>cases e
inductive TyX(K:W.Frag)(H:Hp):V→Value→Prop where
 | of {x:V} {t:Value} (h:TyOf K H x t):TyX K H x t
 | exc {a C:Addr} {cx:Option Addr} (h:H a=some (a0C a (.ref C) cx)) (T:W.ExcT K C):TyX K H (.ref a) (.ref C)
section
variable {X:Cx}{pins:List (Addr×Obj)}{σ:St}{H:Hp}{s:Shared}{A:Around}{E:Value→Shared→Prop}{Q:Value→Shared→Prop}
theorem TyX.kit{x:V}{u t:Value}(I:Inv X pins σ H s)(rx:RelV x u)(ty:TyX X.K H x t):∃Φ:Heap→Prop,W.KitX X.K u t Φ∧Φ s.heap∧u≠.builtin "__main__.__loader__#opaque" := by
 cases ty with
 | @exc a C cx h T =>
  cases (show u=Value.ref a from rx)
  obtain⟨⟨o,vs,h1,h2,h3,_⟩,_⟩:=(show ObjOk X.prog X.w H s.heap a (a0C a (.ref C) cx)from I.hok a _ h)
  exact⟨_,W.kitx_exc T,⟨o,vs,h1,h2,h3⟩,fun z=>nomatch z⟩
 | of h =>
 cases h with
 | non=>cases (show u=Value.none from rx);exact⟨_,W.kitx_none,True.intro,fun z=>nomatch z⟩
 | bl y=>cases (show u=Value.bool y from rx);exact⟨_,W.kitx_bool,True.intro,fun z=>nomatch z⟩
 | int i=>obtain⟨t,q⟩:=(show ∃t,u=Value.int i t from rx);cases q;exact⟨_,W.kitx_int,True.intro,fun z=>nomatch z⟩
 | str y=>obtain⟨t,q⟩:=(show ∃t,u=Value.str y t from rx);cases q;exact⟨_,W.kitx_str,True.intro,fun z=>nomatch z⟩
 | flt y=>obtain⟨t,q⟩:=(show ∃t,u=Value.float y t from rx);cases q;exact⟨_,W.kitx_float,True.intro,fun z=>nomatch z⟩
 | @lst a xs ea =>
  cases (show u=Value.ref a from rx)
  obtain⟨_,_,n,_,h1⟩:=(show ObjOk X.prog X.w H s.heap a (.lst xs)from I.hok a _ ea)
  exact⟨_,W.kitx_list,⟨_,h1,rfl⟩,fun z=>nomatch z⟩
 | @frz a ob xs ea =>
  cases (show u=Value.ref a from rx)
  obtain⟨_,_,_,n,_,h1⟩:=(show ObjOk X.prog X.w H s.heap a (.frz ob (.lst xs))from I.hok a _ ea)
  exact⟨_,W.kitx_list,⟨_,h1,rfl⟩,fun z=>nomatch z⟩
 | @tup a xs ea =>
  cases (show u=Value.ref a from rx)
  obtain⟨_,_,_,p⟩:=(show ObjOk X.prog X.w H s.heap a (.tup xs)from I.hok a _ ea)
  obtain⟨o,h1,h2,_⟩:=p
  exact⟨_,W.kitx_tuple,⟨o,h1,h2⟩,fun z=>nomatch z⟩
 | @dK a kvs ea =>
  cases (show u=Value.ref a from rx)
  obtain⟨_,_,vs,_,p⟩:=(show ObjOk X.prog X.w H s.heap a (.dK kvs)from I.hok a _ ea)
  obtain⟨o,es,ep,h1,h2,_⟩:=p
  exact⟨_,W.kitx_dict,⟨o,h1,h2.1⟩,fun z=>nomatch z⟩
 | @dT a kvs ea =>
  cases (show u=Value.ref a from rx)
  obtain⟨_,_,xs,_,o,es,ep,h1,h2,_⟩:=(show ObjOk X.prog X.w H s.heap a (.dT kvs)from I.hok a _ ea)
  exact⟨_,W.kitx_dict,⟨o,h1,h2.1⟩,fun z=>nomatch z⟩
 | @ins a C dx fs ea cl ha hn htk hm =>
  cases (show u=Value.ref a from rx)
  obtain⟨mA,O,_⟩:=a7I I.hok ea
  obtain⟨od,J,_⟩:=O.look
  exact⟨_,W.kitx_own (cl.get _) cl.hd ha hn htk hm,J,fun z=>nomatch z⟩
def a5_(K:W.Frag):List V→Hp→VK→Prop:=fun xs H Q=>∃x y t c b,xs=[x,y]∧a9J y=some c∧TyX K H x t∧W.kitOne K t c=some b∧Q (.bl b) H
theorem a6a:CallR X (.builtin "isinstance") (a5_ X.K):=by
 intro pins s σ H xs us Q I r h
 obtain⟨x,y,t,c,b,rfl,e1,e2,e3,q⟩:=h
 obtain⟨u,v,rfl,r1,r2⟩:=b0D r
 obtain rfl:=a7R e1 r2
 obtain⟨Φ,Z,p,n⟩:=e2.kit I r1
 exact W.kia_one Z I.kIn p e3 n fun tk=>⟨.bl b,H,I.tok _,rfl,q⟩
end
def a6b:List V→List V→Bool
 | [],[]=>true
 | x::xs,y::ys=>eqV x y && a6b xs ys
 | _,_=>false
section
variable {X:Cx}{pins:List (Addr×Obj)}{σ:St}{H:Hp}{s:Shared}
theorem A3:OpR X (binaryOp .Mult) (rI IntMulOk fun i j=>.int (i*j)):=opI fun _ _ _ _ _ _ _ hc q=>mul_int q hc
theorem I0:OpR X (binaryOp .FloorDiv) (rI (fun _ j=>0<j∧j.natAbs.log2<9000) fun i j=>.int (i/j)):=opI fun i j _ _ _ _ _ hc q=>by
 have h0:j≠0:=by have:=hc.1;omega
 refine floordiv_int h0 ?_ (.inl (PyProof.noPylong_of_log2 hc.2))
 rw[Int.fdiv_eq_ediv_of_nonneg _ (Int.le_of_lt hc.1)]
 exact q
end
open PySem.W PySem.Calls
theorem a3r{ns:List Int}(h:WData.layableAll [WData.list (ns.map WData.int)]=true):∀n∈ns,Builtin.Int.intBits n≤2 ^ 20:=fun n hn=>by
 have h1:(WData.list (ns.map WData.int)).layable=true:=layableW_arg h _ (List.mem_singleton.mpr rfl)
 have h2:=layableW_item h1 (WData.int n) (List.mem_map.mpr ⟨n,hn,rfl⟩)
 have h3:=(layableW_iff.mp h2).2.2
 simpa only[WData.weight,Builtin.Int.intBits]using h3
theorem walk_ofB{l:OpenLaw}{n k:Nat}{q:Program}{loose:List Str}{XP:(Str→Option Value)→Heap→Prop}{YP:World→Heap→Prop}{d:DefRec}{K:Params→Frag}{CX:World→U1}{sp:World→Sp}{x:Str}
  (hn:l.most=some n) (hn2:n≤sizeLine) (hdf:d.params.defaults=[]) (hr:Room k callerA)
  (hY:∀(w:World) (h:Heap),YP w h→(K w.params).In h)
  (F:∀(w:World) (mg:Str→Option Value) (fa:Addr) (h:Heap),(K w.params).In h→h.Ns mainGlobals mg→mg d.name=some (.ref fa) →
   ∃fd:FuncData,(∀(s:Shared) (u:Value),BindsTo s fd ⟨[u],[]⟩ [(x,u)]) ∧
    ∀base:Heap,(K w.params).In base→base.Ns mainGlobals mg→FnOk l.prog w (K w.params) mg base (CX w) k fa fd [x] (sp w))
  (hsp:∀(w:World) (H:Hp) (a:Addr) (ns:List Int),ns.length≤n→(∀m∈ns,Builtin.Int.intBits m≤2 ^ 20)→a4s H→SqL (K w.params) H a (ns.map V.int)→sp w [.ref a] H (fun v _=>v=.bl true) fun _ _ _=>False)
  (hCX:∀(w:World) (H:Hp) (s:Shared) (e:Value) (s':Shared),CX w [] H s (fun _ _ _=>False) e s'→False) :
  WalkO q loose XP YP l.row.toRowW d [] (fun f vs=>PySem.call f vs):=by
 intro w s₀ s₁ mg mb G Y fa o pm cd doc dV kV ho hd hcd hD hmg hg args vals as hpre hlay hrd hwl hlo
 obtain rfl:dV=.none:=Dflts.none hD hdf
 obtain rfl:kV=.none:=Dflts.noKw hD
 obtain⟨a,vs,ns,rfl,rfl,hobj,hints,hlen⟩:=Att.script_of hn hpre hwl
 have KX:=hY w _ Y
 obtain⟨fd,hb,hF⟩:=F w mg fa _ KX G.T.g hmg
 refine enter_call (codeAny_mono (a58 KX G.T.g G.T.b G.T.builtins G.T.nolimit hg hobj hints (Nat.le_trans hlen hn2) hr hF hb (fun H hO hS=>hsp w H a ns hlen (a3r hlay) hO hS) fun H e s'=>hCX w H s₁ e s') fun r s' hq=>?_)
 obtain⟨rfl,h2,h3,h4⟩:=hq
 exact⟨.inl ⟨.bool true,.bool true,[],rfl,fun _=>rfl,.bool true,Att.post_true l _,fun _=>⟨List.Pairwise.nil,fun _ hm=>(nomatch hm)⟩⟩,h2,h3,h4⟩
theorem b0F{P:Program}{w:World}{outer:List Env}(H:Hp)(s:Shared)(e:Value)(s':Shared)(h:u9 P w outer H s (fun _ _ _=>False) e s'):False:=by
 obtain⟨_,_,_,_,_,_,_,_,_,_,_,_,_,_,_,_,hE⟩:=h
 exact hE
structure Own(P:Program)(w:World)(K:W.Frag)(mg:Str→Option Value)(base:Heap)(k:Nat)(x:Str)(ps:List Str)(sp:Sp):Prop where
 ex:∃f fd,FnOk P w K mg base (u9 P w) k f fd ps sp∧Binds K fd ps []∧W.keepIn K (.ref f)=true∧mg x=some (.ref f)
structure OwnD(P:Program)(w:World)(K:W.Frag)(mg:Str→Option Value)(base:Heap)(k:Nat)(x:Str)(ps:List Str)(sp:Sp)(d:V):Prop where
 ex:∃f fd du,FnOk P w K mg base (u9 P w) k f fd ps sp∧Binds K fd ps []∧Binds K fd ps [du]∧RelV d du∧W.keepIn K (.ref f)=true∧mg x=some (.ref f)
section
variable {X:Cx}{k k':Nat}{ps:List Str}{sp:Sp}{x:Str}{p pos:Pos}{e:Expr}{es:List Expr}{t:TA}{E:XK}{d:V}
theorem l9(G:Own X.prog X.w X.K X.mg X.base k x ps sp)(hr:Room k' X.A)(hk:k≤k')(hx:Y6 (u9 X.prog X.w) X E)(ha:PA X (e::es) t)(hg:Gl X x:=by rfl)
  (hdb:(x == ("__debug__" : Str))=false:=by decide) (he:starEach (e::es) X.env=(false,eval e X.env)::starEach es X.env:=by rfl) (hpl:(backTo pos (starEach es X.env)).any (·.1)=false:=by rfl) :
  PE X (.Call (.Name x p) (e::es) [] pos) (V1 sp [] E t):=by
 obtain⟨f,fd,F,b,kp,m⟩:=G.ex
 exact a7J F (hr.mono hk) hg m kp b .nil hx ha hdb he hpl
end
theorem a9K:bootBuiltins "str" = some (.type "str"):=by decide +kernel
theorem a1x:bootBuiltins "list" = some (.type "list"):=by decide +kernel
theorem X5:bootBuiltins "isinstance" = some (.builtin "isinstance"):=by decide +kernel
theorem G4:bootBuiltins "len" = some (.builtin "len"):=by decide +kernel
theorem M5{H:Hp}{p:Addr}(h:H p=none)(o:HO):Same H (upd H p o):=fun b u q=>by rw[c8 (m8 q h)];exact q
def Scr(K:W.Frag)(H:Hp)(a:Addr)(xs:List V):Prop:=(∃o,H a=some (.frz o (.lst xs))) ∨
  ∃(o:Obj) (its:Array Value) (n:Nat),K.lookup a=some o∧o.cls=.type "list"∧o.dict=none∧o.data=.seq its n∧its.size≤sizeLine∧Vals xs its.toList
theorem Scr.seq{K:W.Frag}{H:Hp}{a:Addr}{xs:List V}(h:Scr K H a xs):SqL K H a xs:=h.elim (fun z=>.inl (.inr z)) .inr
theorem Scr.of{K:W.Frag}{H:Hp}{a:Addr}{xs:List V}(h:SqL K H a xs)(o:a4s H):Scr K H a xs:=by
 rcases h with(h | h) | h
 ·rcases o a with z | ⟨o,ys,z⟩
  ·rw[h]at z;cases z
  ·rw[h]at z;cases z
 ·exact .inl h
 ·exact .inr h
theorem Scr.same{K:W.Frag}{H H':Hp}{a:Addr}{xs:List V}(g:Same H H')(h:Scr K H a xs):Scr K H' a xs:=h.elim (fun⟨o,z⟩=>.inl ⟨o,g _ _ z⟩) .inr
theorem Scr.upd{K:W.Frag}{H:Hp}{a l:Addr}{xs ys:List V}{o:HO}(hl:H l=some (.lst ys))(h:Scr K H a xs):Scr K (L2.upd H l o) a xs:=h.elim (fun⟨ob,z⟩=>.inl ⟨ob,by rw[c8 (b0B z hl (by intro q;cases q))];exact z⟩) .inr
section
variable {prog:Program}{w:World}{A:Around}{R:Result→Shared→Prop}{s:Shared}
theorem a3s{elt target iter:Expr}{ifs:List Expr}{scope:Scope}{pos:Pos}{it acc:Value}{env:Env}{N:Value→Shared→Prop}(hN:N=notedBy (model prog w) A env fun e s'=>R (.error e) s')(I:Nat→Shared→Prop)
  (turn:∀n s,I n s→wpAny (model prog w) A (pyNext it) (fun r s₁=>match r with
   | none=>R (.ok .next) s₁
   | some v=>wpAny (model prog w) A (letOwnedTupleGo target it v) (fun _ s₁'=>wpAny (model prog w) A (assign target env v) (fun _ s₂ =>
     wpAny (model prog w) A (forIn ifs true fun c r=>if r=true then do let ok ← isTrue c env (eval c env);pure (ForInStep.yield ok)else pure (ForInStep.yield r)) (fun ok s₃ =>
      if ok=true then wpAny (model prog w) A (eval elt env) (fun x s₄ =>
       wpAny (model prog w) A (call (.builtin "list.append") [acc,x]) (fun _ s₅=>∃m,m<n∧I m s₅) N s₄) N s₃
      else ∃m,m<n∧I m s₃) N s₂) N s₁') N s₁) N s)
  (n:Nat) (h:I n s) :
  codeAny (model prog w) A (.compLoop (.ListComp elt [⟨target,iter,ifs,0⟩] scope pos) 0 it acc env) R s:=by
 subst hN
 refine codeAny_loop rfl I (fun k z q=>?_) n h
 show wpAny _ A ((compTurn (.ListComp elt [⟨target,iter,ifs,0⟩] scope pos) 0 it acc env).onRaise (fun ex=>do noteFrame ex env;theTreesLotGoes ex)) _ _ z
 refine wpAny_noted ?_
 rw[compTurn_list]
 refine wpAny_bind (wpAny_standAt (wpAny_bind (j4 (turn k z q) fun r z1 q1=>?_)))
 cases r with
 | none=>exact wpAny_pure q1
 | some v =>
  refine wpAny_bind (j4 q1 fun _ z2 q2=>?_)
  refine wpAny_bind (j4 q2 fun _ z3 q3=>?_)
  refine wpAny_bind (j4 q3 fun ok z4 q4=>?_)
  cases ok with
  | false=>exact wpAny_pure ⟨rfl,q4⟩
  | true=>exact wpAny_bind (wpAny_bind (j4 q4 fun x z5 q5=>wpAny_bind (j4 q5 fun _ z6 q6=>wpAny_pure (wpAny_pure ⟨rfl,q6⟩))))
end
def A1(cells:List (Str×Addr)):List (Str×NameKind)→List (Str×Addr)→List (Str×Addr)
 | [],acc=>acc
 | (n,k)::r,acc=>if k == .free then(match cells.lookup n with
   | some c=>A1 cells r ((n,c)::acc)
   | none=>A1 cells r acc)else A1 cells r acc
theorem S1{cells:List (Str×Addr)}{x:Str}{c:Addr}:∀{names:List (Str×NameKind)} {acc:List (Str×Addr)},(∀d,acc.lookup x=some d→cells.lookup x=some d)→(A1 cells names acc).lookup x=some c→cells.lookup x=some c
 | [],acc,h,e=>h c e
 | (n,k)::r,acc,h,e=>by
  unfold A1 at e
  split at e
  ·split at e
   ·rename_i c' hc'
    refine S1 (fun d q=>?_) e
    rw[List.lookup_cons]at q
    split at q
    ·rename_i hx
     have hx':x=n:=by simpa using hx
     cases q
     rw[hx'];exact hc'
    ·exact h d q
   ·exact S1 h e
  ·exact S1 h e
theorem N3{cells:List (Str×Addr)}{x:Str}:∀{names:List (Str×NameKind)} {acc:List (Str×Addr)},(∃d,acc.lookup x=some d)→∃d,(A1 cells names acc).lookup x=some d
 | [],acc,h=>h
 | (n,k)::r,acc,h=>by
  unfold A1
  split
  ·split
   ·refine N3 ?_
    rw[List.lookup_cons]
    split
    ·exact⟨_,rfl⟩
    ·exact h
   ·exact N3 h
  ·exact N3 h
theorem O1{cells:List (Str×Addr)}{x:Str}:∀{names:List (Str×NameKind)} {acc:List (Str×Addr)},(x,NameKind.free)∈names→(∃c,cells.lookup x=some c)→∃d,(A1 cells names acc).lookup x=some d
 | [],acc,h,_=>by simp at h
 | (n,k)::r,acc,h,hc=>by
  unfold A1
  rcases List.mem_cons.mp h with e | h
  ·cases e
   obtain⟨c,hc⟩:=hc
   rw[if_pos (by rfl),hc]
   exact N3 ⟨c,by simp[List.lookup_cons]⟩
  ·split
   ·split
    ·exact O1 h hc
    ·exact O1 h hc
   ·exact O1 h hc
theorem V3{env:Env}:∀(names:List (Str×NameKind)) (acc:List (Str×Addr)),(∀y∈names,y.2=.free→∃c,env.cells.lookup y.1=some c) →
  (forIn names acc fun(x:Str×NameKind) (cs:List (Str×Addr))=>if(x.2 == NameKind.free)=true then do let a ← cellOf env x.1;pure (ForInStep.yield ((x.1,a)::cs))else pure (ForInStep.yield cs):Sem (List (Str×Addr)))=pure (A1 env.cells names acc)
 | [],acc,_=>rfl
 | (n,k)::r,acc,h=>by
  rw[List.forIn_cons]
  unfold A1
  by_cases hk:(k == NameKind.free)=true
  ·obtain⟨c,hc⟩:=h (n,k) List.mem_cons_self (by simpa using hk)
   have e:cellOf env n=pure c:=by unfold cellOf;rw[hc]
   rw[if_pos hk,if_pos hk,hc,e]
   exact V3 r _ fun y hy=>h y (List.mem_cons_of_mem _ hy)
  ·rw[if_neg hk,if_neg hk]
   exact V3 r acc fun y hy=>h y (List.mem_cons_of_mem _ hy)
theorem T2{scope:Scope}{env:Env}(h:∀y∈scope.names,y.2=.free→∃c,env.cells.lookup y.1=some c):closureFor scope env=pure (A1 env.cells scope.names []):=by
 have:=V3 (env:=env) scope.names [] h
 unfold closureFor
 exact(congrArg (· >>= pure) this).trans (by first | rfl | simp)
theorem E5{env:Env}:∀{names:List (Str×NameKind)} {x:Str} {k':NameKind},
  (names.map fun(n,k)=>if(k == NameKind.free && env.scope.kind == .function && env.kindOf n == some .cell)then(n,NameKind.cell)else(n,k)).lookup x=some k' →
  ∃k,names.lookup x=some k∧(k'=k∨(k=.free∧k'=.cell))
 | [],_,_,h=>by simp at h
 | (n,k)::r,x,k',h=>by
  rw[List.map_cons]at h
  dsimp only at h
  by_cases hc:(k == NameKind.free && env.scope.kind == .function && env.kindOf n == some .cell)=true
  ·rw[if_pos hc,List.lookup_cons]at h
   rw[List.lookup_cons]
   split at h
   ·rename_i hx
    cases h
    have hk:k=.free:=by
     have:=(Bool.and_eq_true _ _▸(Bool.and_eq_true _ _▸hc).1).1
     simpa using this
    exact⟨k,rfl,.inr ⟨hk,rfl⟩⟩
   ·rename_i hx
    obtain⟨k2,q1,q2⟩:=E5 h
    exact⟨k2,q1,q2⟩
  ·rw[if_neg hc,List.lookup_cons]at h
   rw[List.lookup_cons]
   split at h
   ·rename_i hx
    cases h
    exact⟨k,rfl,.inl rfl⟩
   ·rename_i hx
    obtain⟨k2,q1,q2⟩:=E5 h
    exact⟨k2,q1,q2⟩
theorem D3{env:Env}:∀{names:List (Str×NameKind)} {x:Str},names.lookup x=some .free →
  (names.map fun(n,k)=>if(k == NameKind.free && env.scope.kind == .function && env.kindOf n == some .cell)then(n,NameKind.cell)else(n,k)).lookup x=some .cell ∨
  (names.map fun(n,k)=>if(k == NameKind.free && env.scope.kind == .function && env.kindOf n == some .cell)then(n,NameKind.cell)else(n,k)).lookup x=some .free
 | [],_,h=>by simp at h
 | (n,k)::r,x,h=>by
  rw[List.map_cons]
  dsimp only
  rw[List.lookup_cons]at h
  by_cases hc:(k == NameKind.free && env.scope.kind == .function && env.kindOf n == some .cell)=true
  ·rw[if_pos hc,List.lookup_cons]
   split at h
   ·rename_i hx
    left;rfl
   ·rename_i hx
    exact D3 (env:=env) h
  ·rw[if_neg hc,List.lookup_cons]
   split at h
   ·rename_i hx
    right;exact h
   ·rename_i hx
    exact D3 (env:=env) h
structure CompSc(Sc scope:Scope)(N Nc:List Str)(k:Nat)(js:List Nat):Prop where
 cell:∀y∈scope.names,y.2≠.cell
 kind:scope.kind=.function
 names:∀y∈scope.names,y.2=.local→scope.names.lookup y.1=some .local
 free:∀y∈scope.names,y.2=.free→Sc.names.lookup y.1=some .cell∨Sc.names.lookup y.1=some .free
 nd:Nc.Nodup
 len:Nc.length=k+js.length
 cap:(Nc.drop k).map some=js.map fun j=>N[j]?
 caps:∀x∈Nc.drop k,scope.names.lookup x=some .free
def l3(k:Nat)(js:List Nat)(σ:St):St:=List.replicate k none++js.map fun j=>(σ[j]?).getD none
theorem Q2{names:List (Str×NameKind)}{x:Str}{k:NameKind}(h:names.lookup x=some k):(x,k)∈names:=PySem.mem_of_lookup h
abbrev l4(X:Cx)(scope:Scope)(Nc:List Str)(C:Addr)(s3:Shared)(H3:Hp)(fp:List Addr)(xe:Value→Shared→Prop):Cx :=
 { X with N:=Nc,s₀:=s3,H₀:=H3,env:=compEnvC scope (A1 X.env.cells scope.names []) C X.env,outer:=X.stack,ex:=fp,fn:=fun _=>false,pn:=[],xe:=xe }
section
variable {X:Cx}{pins:List (Addr×Obj)}{σ:St}{H3:Hp}{s3:Shared}{scope:Scope}{Nc:List Str}{k:Nat}{js:List Nat}{fp:List Addr}{xe:Value→Shared→Prop}{h₁:Heap}{m₀:Str→Option Value}{tk:Nat}
theorem V4(I:Inv X pins σ H3 s3)(S:CompSc X.env.scope scope X.N Nc k js):∀y∈scope.names,y.2=.free→∃c,X.env.cells.lookup y.1=some c:=fun y hy hk=>I.ok.has y.1 (S.free y hy hk)
theorem J0{x:Str}{c:Addr}(e:(A1 X.env.cells scope.names []).lookup x=some c):X.env.cells.lookup x=some c:=S1 (fun d q=>by simp at q) e
theorem a6c(I:Inv X pins σ H3 s3)(S:CompSc X.env.scope scope X.N Nc k js)(hf:∀b∈fp,FpOk X pins H3 b)(hfo:∀b∈fp,b<s3.heap.objs.size)(hns:h₁.Ns s3.heap.objs.size m₀)(old:∀b o,s3.heap.get? b=some o→h₁.get? b=some o) :
  Inv (l4 X scope Nc s3.heap.objs.size s3 H3 fp xe) [] (l3 k js σ) H3 { s3 with heap:=h₁,toks:=tk }:=by
 have ok:=I.ok
 have hb0:∀b o,X.base.get? b=some o→b<X.s₀.heap.objs.size:=fun b o e=>Nat.lt_of_lt_of_le (Heap.lt_size e) ok.bsz
 refine⟨⟨ok.mod,S.kind,ok.glob,ok.blt,Nat.le_refl _,fun x y c h1 h2=>ok.inj x y c (J0 h1) (J0 h2),fun x hx=>?_,(fun x c z=>nomatch z),ok.hd,ok.frames,.inl rfl,fun b hb=>⟨Nat.ne_of_lt (hfo b hb),fun x c e=>(hf b hb).2.2.2.2.1 x c (J0 e)⟩,I.bs,Nat.le_trans ok.bsz I.sz,fun b o e hb=>?_,fun b hb z=>?_,I.stack,I.stkFree⟩,
  rfl,I.bare,Un.kept old,⟨m₀,hns,fun i x v e1 e2 e3=>?_⟩,fun x c e=>?_,I.hok.fresh (Nat.le_refl _),fun x c e=>I.freeC x c (J0 e),fun p hp=>absurd (show p∈([]:List (Addr×Obj))from hp) (by simp),I.hok.kept old,?_⟩
 ·have hx:(relabel scope X.env).names.lookup x=some .cell∨(relabel scope X.env).names.lookup x=some .free:=hx
  have hfree:scope.names.lookup x=some .free:=by
   rcases hx with hx | hx
   ·obtain⟨k2,q1,q2⟩:=E5 (env:=X.env) hx
    rcases q2 with q2 | ⟨q2,_⟩
    ·subst q2;exact absurd rfl (S.cell _ (Q2 q1))
    ·rw[q2]at q1;exact q1
   ·obtain⟨k2,q1,q2⟩:=E5 (env:=X.env) hx
    rcases q2 with q2 | ⟨q2,q3⟩
    ·subst q2;exact q1
    ·cases q3
  exact O1 (Q2 hfree) (ok.has x (S.free _ (Q2 hfree) rfl))
 ·rcases(hf b hb).2.2.2.1 with z | z
  ·exact ok.noex b o e z
  ·exact absurd (Nat.lt_of_lt_of_le (hb0 b o e) z) (Nat.lt_irrefl _)
 ·rcases List.mem_cons.mp (I.stkSub b z)with q | q
  ·exact(hf b hb).2.1 q
  ·exact(hf b hb).2.2.1 q
 ·have hlen:(List.replicate k (none:Option V)).length=k:=List.length_replicate
  by_cases hi:i<k
  ·unfold l3 at e2
   rw[List.getElem?_append_left (by omega),List.getElem?_replicate]at e2
   split at e2<;>cases e2
  ·unfold l3 at e2
   rw[List.getElem?_append_right (by omega),hlen,List.getElem?_map]at e2
   cases hj:js[i-k]? with
   | none=>rw[hj]at e2;cases e2
   | some j =>
    rw[hj]at e2
    have e2':(σ[j]?).getD none=some v:=Option.some.inj e2
    have hσ:σ[j]? = some (some v):=by
     cases q:σ[j]? with
     | none=>rw[q]at e2';cases e2'
     | some y=>rw[q]at e2';simp at e2';rw[e2']
    have hx:(Nc.drop k)[i-k]? = some x:=by rw[List.getElem?_drop];rw[show k+(i-k)=i by omega];exact e1
    have hNj:X.N[j]? = some x:=by
     have:=congrArg (fun l=>l[i-k]?) S.cap
     simp only[List.getElem?_map,hx,hj,Option.map_some]at this
     exact(Option.some.inj this).symm
    have hfr:scope.names.lookup x=some .free:=S.caps x (List.mem_of_getElem? hx)
    have hk:=S.free _ (Q2 hfr) rfl
    obtain⟨m,hn,hl⟩:=I.loc
    obtain⟨u,r,l⟩:=hl j x v hNj hσ (.inr hk)
    refine⟨u,r,.inr ⟨D3 hfr,?_⟩⟩
    rcases l with⟨l1,_⟩ | ⟨_,c,hc,hcell⟩
    ·have l1:X.env.scope.names.lookup x=some .local:=l1
     rcases hk with hk | hk
     ·rw[l1]at hk;cases hk
     ·rw[l1]at hk;cases hk
    ·obtain⟨d,hd⟩:=O1 (cells:=X.env.cells) (acc:=[]) (Q2 hfr) ⟨c,hc⟩
     have:=J0 hd
     rw[hc]at this;cases this
     obtain⟨o,ho,hdd⟩:=hcell
     exact⟨c,hd,⟨o,old _ _ ho,hdd⟩⟩
 ·obtain⟨v,o,ho,hd⟩:=I.cell x c (J0 e)
  exact⟨v,o,old _ _ ho,hd⟩
 ·unfold l3
  rw[List.length_append,List.length_replicate,List.length_map]
  exact S.len.symm
end
def PF(X:Cx)(ifs:List Expr)(t:TT):Prop :=
 ∀(pins:List (Addr×Obj)) (s:Shared) (σ:St) (H:Hp) (Q:Bool→Hp→Prop),Inv X pins σ H s→t σ H Q →
  wpAny (model X.prog X.w) X.A (forIn ifs true fun c r=>if r=true then do let ok ← isTrue c X.env (eval c X.env);pure (ForInStep.yield ok)else pure (ForInStep.yield r)) (TP X pins σ Q) X.xe s
def a0h:TT:=fun _ H Q=>Q true H
theorem a2H{X:Cx}:PF X [] a0h:=fun pins s σ H Q I h=>wpAny_tests_nil ⟨H,I,h⟩
def K5(J:It)(g:TG)(tf:TT)(te:TE)(k:Nat)(σ0:St)(D:Addr)(Fin:Hp→Prop)(H1:Hp):Prop :=
 ∃W:Nat→Nat→List V→Hp→Prop,(∃m,W 0 m [] (upd H1 D (.lst [])))∧∀i m ys H,W i m ys H →
  (J.stop i H∧Fin H)∨(J.go i H∧∃N:List V→Hp→Prop,(∀ys' H',N ys' H'→∃m',m'<m∧W (i+1) m' ys' H')∧∀x H',J.yld i H x H'→g x σ0 H' fun σ2 H2=>(σ2.drop k=σ0.drop k∧σ2.length=σ0.length)∧tf σ2 H2 fun b H3 =>
   if b=true then te σ2 H3 fun y H4=>H4 D=some (.lst ys)∧ys.length<sizeLine∧N (ys++[y]) (upd H4 D (.lst (ys++[y])))else N ys H3)
section
variable {X:Cx}{pins:List (Addr×Obj)}{σ:St}{H:Hp}{s:Shared}{elt tg iter:Expr}{ifs:List Expr}{scope:Scope}{pos:Pos}{Nc:List Str}{k:Nat}{js:List Nat}{g:TG}{tf:TT}{te:TE}
theorem V5{J:It}{fp:List Addr}{it:Addr}{tn:Nat→Heap→Prop}{E:Value→Shared→Prop}{RR:Value→Addr→Result→Shared→Prop}{Fin:Addr→Hp→Prop}(hc:X.calm=true)(S:CompSc X.env.scope scope X.N Nc k js)
  (hg:∀C s3 H3 fp xe,PG (l4 X scope Nc C s3 H3 fp xe) tg g) (hf:∀C s3 H3 fp xe,PF (l4 X scope Nc C s3 H3 fp xe) ifs tf)
  (he:∀C D H3,∃xe:Value→Shared→Prop,(∀e s',xe e s'→notedBy (model X.prog X.w) X.A (compEnvC scope (A1 X.env.cells scope.names []) C X.env) (fun e s'=>RR (.ref D) C (.error e) s') e s') ∧
   ∀s3,Inv X pins σ H3 s3→C=s3.heap.objs.size→(∀b∈fp,FpOk X pins H3 b)→PE (l4 X scope Nc C s3 H3 fp xe) elt te)
  (I2:Inv X pins σ H s) (T:Turn X.prog X.w X.K tg J fp it tn) (st2:tn 0 s.heap) (f2:∀b∈fp,FpOk X pins H b) (hR:∀D,H D=none→K5 J g tf te k (l3 k js σ) D (Fin D) H)
  (hRR:∀D C H' s' m',Inv X pins σ H' s'→s'.heap.Ns C m'→H' C=none→C≠X.env.locals→X.s₀.heap.objs.size≤C→(∀x c,X.env.cells.lookup x=some c→c≠C)→(∀p∈X.pn++pins,p.1≠C)→Fin D H'→RR (.ref D) C (.ok .next) s') :
  wpAny (model X.prog X.w) X.A (newList []) (fun acc s₃=>wpAny (model X.prog X.w) X.A (newFunctionEnv scope X.env.globals (A1 X.env.cells scope.names []) [] X.env.qual none .none (some X.env)) (fun cenv s₄ =>
   codeAny (model X.prog X.w) X.A (.compStart (.ListComp elt [⟨tg,iter,ifs,0⟩] scope pos) 0 (.ref it) acc { cenv with scope:=relabel scope X.env }) (RR acc cenv.locals) s₄) E s₃) E s:=by
 refine wpAny_newObj_type (wpAny_newFunctionEnv S.cell (by intro y hy;simp at hy) (fun h₁ hns₁ hsb₁=>?_) S.kind)
 dsimp only at hns₁ hsb₁ ⊢
 have I3:Inv X pins σ (upd H s.heap.objs.size (.lst [])) { s with heap:=s.heap.push { cls:=.type "list",data:=.seq ([]:List Value).toArray },toks:=s.toks }:=I2.lnew (its:=[]) .nil (Nat.zero_le _)
 have hDn:H s.heap.objs.size=none:=I2.fresh
 obtain⟨W,⟨m0,w0⟩,turn⟩:=hR _ hDn
 generalize hs3:({ s with heap:=s.heap.push { cls:=.type "list",data:=.seq ([]:List Value).toArray },toks:=s.toks }:Shared)=s3 at I3
 have e3:s3.heap=s.heap.push { cls:=.type "list",dict:=none,data:=.seq ([]:List Value).toArray }:=by rw[← hs3]
 rw[← e3]at hns₁ hsb₁ ⊢
 have fpo:∀b∈fp,b<s.heap.objs.size:=fun b hb=>by obtain⟨o,e,_⟩:=T.obj _ _ st2 b hb;exact Heap.lt_size e
 have sz3:s3.heap.objs.size=s.heap.objs.size+1:=by rw[e3,Heap.size_push]
 have fpo3:∀b∈fp,b<s3.heap.objs.size:=fun b hb=>by rw[sz3];exact Nat.lt_succ_of_lt (fpo b hb)
 have f3:∀b∈fp,FpOk X pins (upd H s.heap.objs.size (.lst [])) b:=fun b hb=>⟨by rw[c8 (Nat.ne_of_lt (fpo b hb))];exact(f2 b hb).1,(f2 b hb).2⟩
 have old:∀b o,s3.heap.get? b=some o→h₁.get? b=some o:=fun b o e=>hsb₁.extBut b o (Nat.ne_of_lt (Heap.lt_size e)) (Heap.get?_push_of_some _ e)
 have oldS:∀b o,s.heap.get? b=some o→h₁.get? b=some o:=fun b o e=>old b o (by rw[e3];exact Heap.get?_push_of_some _ e)
 obtain⟨xe,hxe,hel⟩:=he s3.heap.objs.size s.heap.objs.size (upd H s.heap.objs.size (.lst []))
 have hel:=hel s3 I3 rfl f3
 have I4:Inv (l4 X scope Nc s3.heap.objs.size s3 (upd H s.heap.objs.size (.lst [])) fp xe) [] (l3 k js σ) (upd H s.heap.objs.size (.lst [])) { s3 with heap:=h₁,toks:=s.toks+([]:List (Str×Value)).length } :=
  a6c I3 S f3 fpo3 hns₁ old
 have st4:tn 0 h₁:=T.keep _ _ _ st2 fun b hb o e=>oldS b o e
 have es3:({ s3 with heap:=h₁,toks:=s.toks+([]:List (Str×Value)).length }:Shared)={ s with heap:=h₁,toks:=s.toks+([]:List (Str×Value)).length }:=by rw[← hs3]
 rw[es3]at I4
 have ok:=I2.ok
 have lk:=I3.lt
 have hCL:s3.heap.objs.size≠X.env.locals:=Nat.ne_of_gt lk
 have stat:∀{H':Hp},(∀b∈fp,H' b=none)→∀b∈fp,FpOk (l4 X scope Nc s3.heap.objs.size s3 (upd H s.heap.objs.size (.lst [])) fp xe) [] H' b:=fun hn b hb =>
  ⟨hn b hb,Nat.ne_of_lt (fpo3 b hb),fun z=>(List.mem_cons.mp (I3.stkSub b z)).elim (fun q=>(f3 b hb).2.1 q) fun q=>(f3 b hb).2.2.1 q,.inl hb,fun x c e=>(f3 b hb).2.2.2.2.1 x c (J0 e),fun p hp=>absurd (show p∈([]:List (Addr×Obj))from hp) (by simp)⟩
 have loop:codeAny (model X.prog X.w) X.A (.compLoop (.ListComp elt [⟨tg,iter,ifs,0⟩] scope pos) 0 (.ref it) (.ref s.heap.objs.size) (compEnvC scope (A1 X.env.cells scope.names []) s3.heap.objs.size X.env))
    (RR (.ref s.heap.objs.size) s3.heap.objs.size) { s with heap:=h₁,toks:=s.toks+([]:List (Str×Value)).length }:=by
  refine a3s rfl (fun n s'=>∃i ys H',Inv (l4 X scope Nc s3.heap.objs.size s3 (upd H s.heap.objs.size (.lst [])) fp xe) [] (l3 k js σ) H' s'∧tn i s'.heap∧(∀b∈fp,H' b=none)∧W i n ys H') ?_ m0 ⟨0,[],_,I4,st4,fun b hb=>(f3 b hb).1,w0⟩
  rintro n s5 ⟨i,ys,H5,I5,st5,fr5,w5⟩
  rcases turn i n ys H5 w5 with⟨stop,fin⟩ | ⟨go,Nx,hNx,step⟩
  ·refine j4 (T.done (l4 X scope Nc s3.heap.objs.size s3 (upd H s.heap.objs.size (.lst [])) fp xe) rfl rfl rfl hc i [] s5 (l3 k js σ) H5 _ I5 (stat fr5) st5 stop) fun r s6 ⟨hr,I6⟩=>?_
   subst hr
   obtain⟨m6,hn6,_⟩:=I6.loc
   have J:Inv X pins σ H5 s6:=I3.call' (ch:=fp) (I6.os.trans rfl) I6.base I6.hok I6.bare fun b hb=>⟨(f3 b hb).2.2.2.1,(f3 b hb).2.1,(f3 b hb).2.2.2.2.1,(f3 b hb).2.2.2.2.2⟩
   refine hRR _ _ H5 s6 m6 J hn6 I6.free hCL (I3.sz) (fun x c e z=>?_) (fun p hp z=>?_) fin
   ·obtain⟨v,q⟩:=I3.cell x c e
    exact absurd q.lt (by rw[z];exact Nat.lt_irrefl _)
   ·exact absurd (Heap.lt_size (I3.pin p hp).1) (by rw[z];exact Nat.lt_irrefl _)
  ·refine j4 (T.item (l4 X scope Nc s3.heap.objs.size s3 (upd H s.heap.objs.size (.lst [])) fp xe) rfl rfl rfl hc i [] s5 (l3 k js σ) H5 _ I5 (stat fr5) st5 go) fun r s6 ⟨u,hr,h6⟩=>?_
   subst hr
   refine j4 h6 fun _ s7 ⟨x,H7,I7,r7,y7,st7,fr7⟩=>?_
   have I7':=I7.pinned (stat fr7) (T.obj _ _ st7)
   refine wpAny_mono (hg _ _ _ _ _ _ s7 _ H7 x u _ I7' r7 (step x H7 y7)) (fun _ s8 ⟨σ8,H8,I8,⟨d8,l8⟩,q8⟩=>?_) fun e s' z=>hxe e s' z
   refine wpAny_mono (hf _ _ _ _ _ _ s8 σ8 H8 _ I8 q8) (fun b s9 ⟨H9,I9,q9⟩=>?_) fun e s' z=>hxe e s' z
   have again:∀{H':Hp} {s':Shared} {ys':List V},Inv (l4 X scope Nc s3.heap.objs.size s3 (upd H s.heap.objs.size (.lst [])) fp xe) ([]++Y5 fp s7.heap) σ8 H' s'→Nx ys' H' →
     ∃m,m<n∧∃i ys H',Inv (l4 X scope Nc s3.heap.objs.size s3 (upd H s.heap.objs.size (.lst [])) fp xe) [] (l3 k js σ) H' s'∧tn i s'.heap∧(∀b∈fp,H' b=none)∧W i m ys H':=fun{H' s' ys'} I' hw=>by
    obtain⟨m',hm,w'⟩:=hNx _ _ hw
    refine⟨m',hm,i+1,ys',H',(I'.unpinned).weak l8.symm fun j v e=>?_,T.keep _ _ _ st7 fun b hb o e=>(I'.pin (b,o) (List.mem_append_right _ (List.mem_append_right _ (P0 hb e)))).1,fun b hb=>?_,w'⟩
    ·by_cases hj:j<k
     ·unfold l3 at e
      rw[List.getElem?_append_left (by rw[List.length_replicate];exact hj),List.getElem?_replicate]at e
      split at e<;>cases e
     ·have e':((l3 k js σ).drop k)[j-k]? = some (some v):=by rw[List.getElem?_drop,show k+(j-k)=j by omega];exact e
      rw[← d8,List.getElem?_drop,show k+(j-k)=j by omega]at e'
      exact e'
    ·obtain⟨o,e,d⟩:=T.obj _ _ st7 b hb
     exact(I'.pin (b,o) (List.mem_append_right _ (List.mem_append_right _ (P0 hb e)))).2.1
   cases b with
   | false =>
    rw[if_neg Bool.false_ne_true]at q9 ⊢
    exact again I9 q9
   | true =>
    rw[if_pos rfl]at q9 ⊢
    refine wpAny_mono (hel _ s9 σ8 H9 _ I9 q9) (fun v s10 ⟨y,H10,I10,r10,hD,hz,w'⟩=>?_) fun e s' z=>hxe e s' z
    refine wpAny_mono (J7 (X:=l4 X scope Nc s3.heap.objs.size s3 (upd H s.heap.objs.size (.lst [])) fp xe) _ s10 σ8 H10 (.ref s.heap.objs.size) [y] (.ref s.heap.objs.size) [v] (fun _ H'=>H'=upd H10 s.heap.objs.size (.lst (ys++[y]))) I10 rfl (.cons r10 .nil)
     ⟨_,ys,y,rfl,rfl,hD,hz,rfl⟩) (fun _ s11 ⟨_,H11,I11,_,q11⟩=>?_) fun e s' z=>hxe e s' z
    subst q11
    exact again I11 w'
 exact codeAny_compStart_list loop (T.self _ 0 _ _ _ st4 loop)
end
def a02(wi:TI)(g:TG)(tf:TT)(te:TE)(k:Nat)(js:List Nat):TE:=fun σ H Q=>wi σ H fun J H1=>∀D,H1 D=none→K5 J g tf te k (l3 k js σ) D (fun H'=>Q (.ref D) H') H1
def a2I(i:Nat)(wi:TI)(g:TG)(tf:TT)(te:TE)(k:Nat)(js:List Nat):TS:=fun N σ H=>wi σ H fun J H1=>∀D,H1 D=none→K5 J g tf te k (l3 k js σ) D (fun H'=>N.nx (σ.set i (some (.ref D))) H') H1
section
variable {X:Cx}{elt tg iter:Expr}{ifs:List Expr}{scope:Scope}{pos:Pos}{Nc:List Str}{k:Nat}{js:List Nat}{wi:TI}{g:TG}{tf:TT}{te:TE}
theorem a7S(hc:X.calm=true)(S:CompSc X.env.scope scope X.N Nc k js)(hi:PI X tg iter wi)(hg:∀C s3 H3 fp xe,PG (l4 X scope Nc C s3 H3 fp xe) tg g)(hf:∀C s3 H3 fp xe,PF (l4 X scope Nc C s3 H3 fp xe) ifs tf)
  (he:∀C s3 H3 fp xe,PE (l4 X scope Nc C s3 H3 fp xe) elt te) (hs:∀x,foldedSetIterable iter X.env x=pure x:=by intro _;rfl):PE X (.ListComp elt [⟨tg,iter,ifs,0⟩] scope pos) (a02 wi g tf te k js):=by
 intro pins s σ H Q I h
 rw[eval_ListComp]
 refine wpAny_comprehension_free (use:=none) rfl hs (T2 (V4 I S)) S.kind S.names (j4 (hi pins s σ H _ I h) fun v s1 h1=>j4 h1 fun itv s2 h2=>?_)
 obtain⟨it,fp,tn,J,H2,rfl,I2,T,st2,f2,hR⟩:=h2
 refine V5 (RR:=fun acc C=>compPost (model X.prog X.w) X.A X.xe none (EP X pins σ Q) acc C) (Fin:=fun D H'=>Q (.ref D) H') hc S hg hf (fun C D H3=>⟨fun _ _=>False,fun _ _ z=>z.elim,fun s3 _ _ _=>he _ _ _ _ _⟩) I2 T st2 f2 hR ?_
 intro D C H' s' m' I' hn hC hCL hsz hcl hpn q
 exact⟨m',hn,fun h' hs'=>⟨.ref D,H',I'.turned (t':=s'.toks) (fun b o hb e=>(hs'.2 b hb).trans e) hC hCL (.inr hsz) hcl hpn,rfl,q⟩⟩
theorem a4w{i:Nat}{y:Str}{py spos:Pos}(hc:X.calm=true)(S:CompSc X.env.scope scope X.N Nc k js)(hN:X.N.Nodup)(hy:X.N[i]? = some y)(hi:PI X tg iter wi)(hg:∀C s3 H3 fp xe,PG (l4 X scope Nc C s3 H3 fp xe) tg g)(hf:∀C s3 H3 fp xe,PF (l4 X scope Nc C s3 H3 fp xe) ifs tf)
  (he:∀C s3 H3 fp xe,PE (l4 X scope Nc C s3 H3 fp xe) elt te) (hl:X.env.scope.names.lookup y=some .local:=by rfl) (hs:∀x,foldedSetIterable iter X.env x=pure x:=by intro _;rfl)
  (hsw:swapsWith (.ListComp elt [⟨tg,iter,ifs,0⟩] scope pos) (some (.Name y py)) spos.line X.env=pure true:=by rfl):PS X (.Assign [.Name y py] (.ListComp elt [⟨tg,iter,ifs,0⟩] scope pos) spos) (a2I i wi g tf te k js):=by
 intro pins s σ H N I h
 rw[exec_Assign_Name_used _ _ _ _ hsw]
 refine wpAny_bind (wpAny_standAt (wpAny_bind ?_))
 show wpAny _ X.A (do let _ ← comprehension (.ListComp elt [⟨tg,iter,ifs,0⟩] scope pos) scope X.env _ (newList []) false (eval iter X.env) (some (assign (.Name y py) X.env))) _ _ s
 refine wpAny_bind (j4 (wpAny_comprehension_free (use:=some (assign (.Name y py) X.env)) (Q:=fun _ z=>SP X pins N .next z) rfl hs (T2 (V4 I S)) S.kind S.names
  (j4 (hi pins s σ H _ I h) fun v s1 h1=>j4 h1 fun itv s2 h2=>?_)) fun _ z hq=>wpAny_pure (wpAny_pure hq))
 obtain⟨it,fp,tn,J,H2,rfl,I2,T,st2,f2,hR⟩:=h2
 refine V5 (RR:=fun acc C=>compPost (model X.prog X.w) X.A X.xe (some (assign (.Name y py) X.env)) (fun _ z=>SP X pins N .next z) acc C) (Fin:=fun D H'=>N.nx (σ.set i (some (.ref D))) H') hc S hg hf
  (fun C D H3=>⟨fun _ _=>False,fun _ _ z=>z.elim,fun s3 _ _ _=>he _ _ _ _ _⟩) I2 T st2 f2 hR ?_
 intro D C H' s' m' I' hn hC hCL hsz hcl hpn q
 show wpAny _ X.A (assign (.Name y py) X.env (.ref D)) _ _ s'
 refine wpAny_assign_Name (a1N (v:=.ref D) I' hN hy (.inl hl) rfl (fun s'' I'' ⟨a,hsb,ha⟩=>?_) (.inr hl))
 have hCa:C≠a:=by
  rcases ha with ha | ha
  ·rw[ha];exact hCL
  ·exact fun z=>hcl y a ha z.symm
 exact⟨m',hn.sameBut hsb hCa,fun h' hs'=>⟨_,H',I''.turned (t':=s''.toks) (fun b o hb e=>(hs'.2 b hb).trans e) hC hCL (.inr hsz) hcl hpn,q⟩⟩
end
theorem a4x{lo:Int}{n:Nat}{g:TG}{tf:TT}{te:TE}{k:Nat}{σ0:St}{D:Addr}{Fin:Hp→Prop}{H1:Hp}(Pv:Nat→List V→Hp→Prop)(h0:Pv 0 [] (upd H1 D (.lst [])))
  (hs:∀i ys H,i<n→Pv i ys H→g (.int (lo+i)) σ0 H fun σ2 H2=>(σ2.drop k=σ0.drop k∧σ2.length=σ0.length)∧tf σ2 H2 fun b H3 =>
   if b=true then te σ2 H3 fun y H4=>H4 D=some (.lst ys)∧ys.length<sizeLine∧Pv (i+1) (ys++[y]) (upd H4 D (.lst (ys++[y])))else Pv (i+1) ys H3)
  (hd:∀ys H,Pv n ys H→Fin H):K5 (X4 lo n) g tf te k σ0 D Fin H1:=by
 refine⟨fun i m ys H=>m=n-i∧i≤n∧Pv i ys H,⟨n,by simp,Nat.zero_le _,h0⟩,?_⟩
 rintro i m ys H ⟨rfl,hi,p⟩
 by_cases hlt:i<n
 ·refine .inr ⟨hlt,Pv (i+1),fun ys' H' z=>⟨n-(i+1),by omega,rfl,hlt,z⟩,fun x H' y=>?_⟩
  obtain⟨e,y⟩:=y
  subst e y
  exact hs i ys _ hlt p
 ·have e:i=n:=by omega
  subst e
  exact .inl ⟨Nat.le_refl _,hd ys H p⟩
section
variable {X:Cx}{pins:List (Addr×Obj)}{σ:St}{H:Hp}{s:Shared}
theorem Inv.turnedL{h':Heap}{t':Nat}{ch:List Addr}{p:Addr}{o:HO}(I:Inv X pins σ H s)(k:∀b u,b ∉ ch→s.heap.get? b=some u→h'.get? b=some u)(hf:∀b∈ch,FpOk X pins H b)(hp:s.heap.objs.size≤p)(new:ObjOk X.prog X.w (upd H p o) h' p o) :
  Inv X pins σ (upd H p o) { s with heap:=h',toks:=t' }:=by
 have hn:=I.hok.fresh hp
 have nch:∀b u,H b=some u→b ∉ ch:=fun b u q z=>by rw[(hf b z).1]at q;cases q
 refine I.call (g':=s.gens) (d':=s.drawn) (ch:=ch) ⟨fun b u q _ _ hx=>k b u hx q,fun b u q _ _ hx=>⟨u.slots,k b u hx q⟩,fun b u q n _=>?_,fun b u q hx=>⟨u,k b u hx q⟩,fun b xs q=>?_,fun b u xs q=>?_,fun b ps q=>⟨#[],?_⟩⟩ (fun b u q=>?_) I.bare
  fun b hb=>⟨(hf b hb).2.2.2.1,(hf b hb).2.1,(hf b hb).2.2.2.2.1,(hf b hb).2.2.2.2.2⟩
 ·rw[c8 (Nat.ne_of_lt (Nat.lt_of_lt_of_le (Heap.lt_size q) hp))];exact n
 ·rw[c8 (m8 q hn)];exact q
 ·rw[c8 (m8 q hn)];exact q
 ·rw[c8 (m8 q hn),q];simp
 ·by_cases hb:b=p
  ·subst hb;rw[i0]at q;cases q;exact new
  ·rw[c8 hb]at q
   refine(I.hok b u q).stay (fun c v hc r=>k c v ?_ r) (fun c z=>?_) (fun c xs z=>?_) fun c ob u z=>?_
   ·rcases hc with hc | hc
    ·rw[hc];exact nch b u q
    ·exact nch c _ hc
   ·rw[c8 (m8 z hn)];exact z
   ·rw[c8 (m8 z hn)];exact z
   ·rw[c8 (m8 z hn)];exact z
theorem Inv.turnedN{h':Heap}{t':Nat}{ch:List Addr}(I:Inv X pins σ H s)(k:∀b u,b ∉ ch→s.heap.get? b=some u→h'.get? b=some u)(hf:∀b∈ch,FpOk X pins H b):Inv X pins σ H { s with heap:=h',toks:=t' }:=by
 have nch:∀b u,H b=some u→b ∉ ch:=fun b u q z=>by rw[(hf b z).1]at q;cases q
 refine I.call (g':=s.gens) (d':=s.drawn) (ch:=ch) ⟨fun b u q _ _ hx=>k b u hx q,fun b u q _ _ hx=>⟨u.slots,k b u hx q⟩,fun b u q n _=>n,fun b u q hx=>⟨u,k b u hx q⟩,fun b xs q=>q,fun b u xs q=>q,fun b ps q=>⟨#[],by rw[q];simp⟩⟩ (fun b u q=>?_) I.bare
  fun b hb=>⟨(hf b hb).2.2.2.1,(hf b hb).2.1,(hf b hb).2.2.2.2.1,(hf b hb).2.2.2.2.2⟩
 refine(I.hok b u q).stay (fun c v hc r=>k c v ?_ r) (fun c z=>z) (fun c xs z=>z) fun c ob u z=>z
 rcases hc with hc | hc
 ·rw[hc];exact nch b u q
 ·exact nch c _ hc
end
def Ite(K:W.Frag)(a:Addr):It :=
 ⟨fun i H=>∃xs x,SqL K H a xs∧xs[i]? = some x,fun i H v H'=>∃p x,v=.ref p∧H p=none∧H'=upd H p (.tup [.int i,x])∧∀xs,SqL K H a xs→xs[i]? = some x,fun i H=>∃xs,SqL K H a xs∧xs.length≤i⟩
theorem a5g{P:Program}{w:World}{K:W.Frag}{elts:List Expr}{x1}{tpos:Pos}(a it e:Addr)(hne:e≠it):Turn P w K (.Tuple elts x1 tpos) (Ite K a) [e,it] e (fun i h=>(∃old,IsEnum h e it i old)∧h.IsListIter it a i) where
 mem:=by simp
 obj:=fun i h ⟨⟨old,st⟩,it1⟩ b hb=>by
  rcases List.mem_cons.mp hb with q | hb
  ·subst q
   exact⟨_,st,fun v z=>nomatch (show Data.fields _=Data.cell v from z)⟩
  ·have q:b=it:=by simpa using hb
   subst q
   obtain⟨o,e1,c,d⟩:=it1
   exact⟨o,e1,fun v z=>by rw[d]at z;cases z⟩
 keep:=fun i h h' ⟨⟨old,st⟩,it1⟩ k=>⟨⟨old,k e (by simp) _ st⟩,it1.at fun o q=>k it (by simp) o q⟩
 item:=by
  intro X hP hw hK hc i pins s σ H E I hf st hg
  subst hP hw hK
  obtain⟨⟨old,st⟩,it1⟩:=st
  obtain⟨xs,x,hq,hx⟩:=hg
  obtain⟨its,rv,p,hz⟩:=I.list hq
  obtain⟨u,hu,ru⟩:=rv.get hx
  refine wpAny_pyNext_enum_item st it1 p.isList (x:=u) (by simpa using hu) hne fun h' q1 q2 q3 q4 q5=>⟨_,rfl,?_⟩
  refine wpAny_letOwnedTupleGo_enum (s:={ s with heap:=h',toks:=s.toks+1 }) q1 fun h2 r1 r2=>?_
  have ne1:s.heap.objs.size≠e:=Nat.ne_of_gt (Heap.lt_size st)
  have k2:∀b o,b ∉ [e,it]→s.heap.get? b=some o→h2.get? b=some o:=fun b o hb q=>by
   have hb1:b≠e:=fun z=>hb (by simp[z])
   have hb2:b≠it:=fun z=>hb (by simp[z])
   exact(r2.2 b hb1).trans (q5 b o hb1 hb2 q)
  have I1:Inv X pins σ (upd H s.heap.objs.size (.tup [.int i,x])) { s with heap:=h2,toks:=s.toks+1 }:=I.turnedL k2 hf (Nat.le_refl _)
   ⟨by show 2≤sizeLine;decide,[.int i s.toks,u],.cons ⟨_,rfl⟩ (.cons ru .nil),⟨_,(r2.2 _ ne1).trans q3,rfl,_,rfl⟩⟩
  refine⟨.ref s.heap.objs.size,_,I1,rfl,⟨_,x,rfl,I.fresh,rfl,fun ys hy=>by rw[I.list_inj hy hq];exact hx⟩,⟨⟨_,by rw[show((i+1:Nat):Int)=(i:Int)+1 by omega];exact r1⟩,?_⟩,fun b hb=>?_⟩
  ·exact q2.extBut r2.extBut (Ne.symm hne)
  ·obtain⟨o,e1,_⟩:∃o,s.heap.get? b=some o∧True:=by
    rcases List.mem_cons.mp hb with q | hb
    ·exact⟨_,by rw[q];exact st,trivial⟩
    ·have q:b=it:=by simpa using hb
     obtain⟨o,e1,_⟩:=it1
     exact⟨o,by rw[q];exact e1,trivial⟩
   rw[c8 (Nat.ne_of_lt (Heap.lt_size e1))]
   exact(hf b hb).1
 done:=by
  intro X hP hw hK hc i pins s σ H E I hf st hg
  subst hP hw hK
  obtain⟨⟨old,st⟩,it1⟩:=st
  obtain⟨xs,hq,hx⟩:=hg
  obtain⟨its,rv,p,hz⟩:=I.list hq
  have hl:=rv.length
  exact wpAny_pyNext_enum_end (I.ok.hd hc) st it1 p.isList (by simp;omega) fun h' eb=>⟨rfl,I.turnedN (t':=s.toks) (fun b o hb q=>eb b o (fun z=>hb (by simp[z])) q) hf⟩
 self:=fun _ _ _ _ _ st h=>wpAny_pyIter_enum st.1.choose_spec h
theorem a2J{K:PySem.W.Frag}{a:Addr}{xs:List V}{g:TG}{tb:TS}{D:Ends}{σ:St}{H:Hp}(Pv:Nat→St→Hp→Prop)(h0:Pv 0 σ H)(hl:∀i σ H,i≤xs.length→Pv i σ H→SqL K H a xs)
  (hs:∀i x σ H p,xs[i]? = some x→Pv i σ H→H p=none→g (.ref p) σ (upd H p (.tup [.int i,x])) fun σ2 H2=>tb { D with nx:=Pv (i+1),ct:=Pv (i+1),bk:=D.nx } σ2 H2) (hd:∀σ H,Pv xs.length σ H→D.nx σ H) :
  ∃W:Nat→Nat→St→Hp→Prop,(∃m,W 0 m σ H)∧∀i m σ H,W i m σ H →
   ((Ite K a).stop i H∧D.nx σ H)∨((Ite K a).go i H∧∃N:St→Hp→Prop,(∀σ' H',N σ' H'→∃m',m'<m∧W (i+1) m' σ' H')∧∀x H',(Ite K a).yld i H x H'→g x σ H' fun σ2 H2=>tb { D with nx:=N,ct:=N,bk:=D.nx } σ2 H2):=by
 refine⟨fun i m σ H=>m=xs.length-i∧i≤xs.length∧Pv i σ H,⟨xs.length,by simp,Nat.zero_le _,h0⟩,?_⟩
 rintro i m σ H ⟨rfl,hi,p⟩
 have q:=hl i σ H hi p
 by_cases hlt:i<xs.length
 ·refine .inr ⟨⟨xs,xs[i],q,by simp[hlt]⟩,Pv (i+1),fun σ' H' z=>⟨xs.length-(i+1),by omega,rfl,hlt,z⟩,fun v H' y=>?_⟩
  obtain⟨c,x,rfl,hc,rfl,y⟩:=y
  exact hs i x σ _ c (y xs q) p hc
 ·have e:i=xs.length:=by omega
  subst e
  exact .inl ⟨⟨xs,q,Nat.le_refl _⟩,hd σ H p⟩
theorem a2K:bootBuiltins "enumerate" = some (.type "enumerate"):=by decide +kernel
def a4y(K:W.Frag)(ta:TA):TI:=fun σ H R=>ta σ H fun vs H1=>∃a,vs=[.ref a]∧(∃xs,SqL K H1 a xs)∧R (Ite K a) H1
section
variable {X:Cx}
theorem U2{elts:List Expr}{x1}{tpos:Pos}{l:Expr}{ta:TA}{p pos:Pos}(hg:Gl X "enumerate")(hm:X.mg "enumerate" = none)(ha:PA X [l] ta)(hs:starEach [l] X.env=[(false,eval l X.env)]:=by rfl) :
  PI X (.Tuple elts x1 tpos) (.Call (.Name "enumerate" p) [l] [] pos) (a4y X.K ta):=by
 intro pins s σ H R I h
 refine Call_ (O0 I hg hm a2K (PyProof.Rows.callWith_type1 (j4 (ha pos pins s σ H _ I h) fun us s1 ⟨vs,H1,I1,r1,q1⟩=>?_) hs rfl))
 obtain⟨a,e,⟨xs,hq⟩,q⟩:=q1
 subst e
 obtain⟨u,rfl,ru⟩:=r1.one
 cases (show u=Value.ref a from ru)
 obtain⟨its,rv,pl,hz⟩:=I1.list hq
 refine call_enumerate_list pl.isList fun h' q1 q2 q3 q4=>?_
 have I2:Inv X pins σ H1 { s1 with heap:=h' }:=I1.kept (t':=s1.toks) q4
 refine wpAny_pyIter_enum (s:={ s1 with heap:=h' }) q1 ?_
 refine⟨s1.heap.objs.size+1,[s1.heap.objs.size+1,s1.heap.objs.size],_,_,H1,rfl,I2,a5g a s1.heap.objs.size _ (Nat.succ_ne_self _),⟨⟨_,q1⟩,q2⟩,fun b hb=>?_,q⟩
 have hb':s1.heap.objs.size≤b:=by
  rcases List.mem_cons.mp hb with z | z
  ·rw[z];exact Nat.le_succ _
  ·have z:b=s1.heap.objs.size:=by simpa using z
   rw[z];exact Nat.le_refl _
 exact I1.fpOk hb' (I1.hok.fresh hb')
end
section
variable {X:Cx}
theorem a4z{ys:List Str}:∀{us:List Value},Vals (ys.map V.str) us→StrsAre us ys:=by
 induction ys with
 | nil=>intro us r;rw[List.map_nil]at r;cases r;exact .nil
 | cons n ns ih =>
  intro us r
  rw[List.map_cons]at r
  cases r with
  | cons r1 r2 =>
   obtain⟨t,e⟩:=r1
   subst e
   exact .cons n t (ih r2)
theorem a7T:MtR X "str.join" (fun x vs H Q=>∃z a ys,x=.str z∧vs=[.ref a]∧SqL X.K H a (ys.map V.str)∧(ys.map (·.length)).sum+ys.length*z.length≤16777216∧Q (.str (Txt.join z ys)) H):=by
 intro pins s σ H x vs v us Q I rx rv h
 obtain⟨z,a,ys,rfl,rfl,hq,hp,q⟩:=h
 obtain⟨t,rfl⟩:=rx
 obtain⟨u,rfl,ru⟩:=rv.one
 cases (show u=Value.ref a from ru)
 obtain⟨its,r,pl,hz⟩:=I.list hq
 exact join_list pl.isList (by simpa using a4z r) hp fun t' k=>⟨.str (Txt.join z ys),H,I.tok _,⟨_,rfl⟩,q⟩
def Z0(x:Str)(n:Int):Str:=if n<1 then Str.empty else if(n == 1 || x.length == 0)=true then x else⟨(List.replicate n.toNat x.cps).foldl (· ++ ·) #[]⟩
theorem a6d{x:Str}{n:Int}(h:x.length*n.toNat≤16777216)(h2 : -1000000000≤n)(h3:n≤1000000000)(h4:x.length≤1000000000):(decide (n < -(2 ^ 63:Int)) || decide (n≥2 ^ 63))=false∧(¬n<1→(n == 1 || x.length == 0)=false→¬((x.length:Int) > (2 ^ 63-1)/n))∧(Builtin.Str.tooLong (x.length*n.toNat)=false):=by
 refine⟨by simp;omega,fun h1 _=>?_,?_⟩
 ·have:(x.length:Int)*n≤2 ^ 63-1:=by
   have e:((x.length*n.toNat:Nat):Int)=(x.length:Int)*n:=by rw[Int.natCast_mul,Int.toNat_of_nonneg (by omega)]
   have:((x.length*n.toNat:Nat):Int)≤16777216:=Int.ofNat_le.mpr h
   omega
  have:=Int.le_ediv_of_mul_le (by omega:0<n) this
  omega
 ·have e:(2:Nat) ^ 24=16777216:=by decide
  unfold Builtin.Str.tooLong sizeLine
  rw[decide_eq_false (by omega)]
theorem a6e{x:Str}{n:Int}(h:x.length*n.toNat≤16777216)(h1:¬n<1):(List.replicate n.toNat x.cps).foldl (· ++ ·) #[]=((List.replicate n.toNat x.cps.toList).flatten).toArray:=by
 have go:∀(k:Nat) (acc:List Nat),List.foldl (fun x1 x2=>x1++x2) acc.toArray (List.replicate k x.cps)=(acc++(List.replicate k x.cps.toList).flatten).toArray:=by
  intro k
  induction k with
  | zero=>intro acc;simp
  | succ k ih =>
   intro acc
   rw[List.replicate_succ,List.foldl_cons,List.replicate_succ,List.flatten_cons]
   have e:acc.toArray++x.cps=(acc++x.cps.toList).toArray:=by simp
   rw[e,ih,List.append_assoc]
 exact go n.toNat []
def a7n:R2:=fun x y H Q=>∃z n,x=.str z∧y=.int n∧z.length≤1000∧-1000000000≤n∧n≤10000∧Q (.str (Z0 z n)) H
theorem a4A:OpR X (binaryOp .Mult) a7n:=by
 intro pins s σ H x y v u Q I rx ry h
 obtain⟨z,n,rfl,rfl,h1,h2,h3,q⟩:=h
 obtain⟨t,rfl⟩:=rx
 obtain⟨t2,rfl⟩:=ry
 have hm:z.length*n.toNat≤10000000:=by
  have:z.length*n.toNat≤1000*10000:=Nat.mul_le_mul h1 (by omega)
  omega
 obtain⟨f1,f2,f3⟩:=a6d (x:=z) (n:=n) (by omega) (by omega) (by omega) (by omega)
 refine P.mul_str f1 f2 (fun _ _=>f3) ?_
 have fin:∀(t':Tok) (k:Nat),EP X pins σ Q (.str (Z0 z n) t') { s with toks:=k }:=fun t' k=>⟨.str (Z0 z n),H,I.tok _,⟨_,rfl⟩,q⟩
 unfold Z0 at fin
 by_cases c1:n<1
 ·rw[if_pos c1]
  simp only[if_pos c1]at fin
  exact⟨by decide,fin _ _⟩
 ·rw[if_neg c1]
  simp only[if_neg c1]at fin
  by_cases c2:(n == 1 || z.length == 0)=true
  ·rw[if_pos c2]
   simp only[if_pos c2]at fin
   exact fin _ s.toks
  ·rw[if_neg c2]
   simp only[if_neg c2]at fin
   refine⟨?_,fin _ _⟩
   show((List.replicate n.toNat z.cps).foldl (· ++ ·) #[]).size≤sizeLine
   rw[a6e (by omega) c1]
   have e:(2:Nat) ^ 24=16777216:=by decide
   have:(List.replicate n.toNat z.cps.toList).flatten.length=n.toNat*z.cps.toList.length:=by simp
   simp only[List.size_toArray,this]
   have e2:z.cps.toList.length=z.length:=by simp[Str.length]
   rw[e2,Nat.mul_comm]
   unfold sizeLine
   omega
end
section
variable {X:Cx}{K:W.Frag}
theorem A9(hK:X.K=K:=by rfl):IxR X (a4p K):=hK▸a7L
theorem h9(hK:X.K=K:=by rfl):IxR X (a55 K):=hK▸a9B
theorem a2L(hK:X.K=K:=by rfl):SlR X (a56 K):=hK▸a7M
def a3L(K:W.Frag):List V→Hp→VK→Prop:=fun xs H Q=>∃p ys,xs=[.ref p]∧(SqL K H p ys∨SqT K H p ys)∧Q (.int ys.length) H
theorem u6(hK:X.K=K:=by rfl):CallR X (.builtin "len") (a3L K):=hK▸a2A
def a3M(K:W.Frag):List V→Hp→VK→Prop:=fun xs H Q=>∃p ys,xs=[.ref p]∧(SqL K H p ys∨SqT K H p ys)∧∀l,H l=none→Q (.ref l) (upd H l (.lst ys))
theorem X6(hK:X.K=K:=by rfl):CallR X (.type "list") (a3M K):=hK▸a2B
theorem a1Z(hK:X.K=K:=by rfl):CallR X (.builtin "isinstance") (a5_ K):=hK▸a6a
def a7o(K:W.Frag):V→List V→Hp→VK→Prop:=fun x vs H Q=>∃z a ys,x=.str z∧vs=[.ref a]∧SqL K H a (ys.map V.str)∧(ys.map (·.length)).sum+ys.length*z.length≤16777216∧Q (.str (Txt.join z ys)) H
theorem a6f(hK:X.K=K:=by rfl):MtR X "str.join" (a7o K):=hK▸a7T
theorem y8{es:List Expr}{k:Nat}{t:Y4}{n:Nat}{pos:Pos}(hc:X.calm=true)(h:PGs X es t)(hK:X.K=K:=by rfl)(hn:(assignEach es X.env).length=n:=by rfl)(hst:(assignEach es X.env).findIdx? (·.1)=none:=by rfl) :
  PG X (.Tuple es k pos) (a4g K n t):=hK▸a9s hc h hn hst
variable {o e:Expr}{es:List Expr}{to:TE}{t:TA}{name:Str}{apos cpos:Pos}{T id:String}{r:V→List V→Hp→VK→Prop}
theorem G5(pa:PlainAttrs T)(slot:Slot T name id)(hty:typeOf (.builtin id)=pure (.type "method_descriptor"))(hm:MtR X id r)(ho:PE X o to)(ha:PA X (e::es) t)(hK:X.K=K:=by rfl)
  (hbase:attributeBase o name X.env (eval o X.env)=eval o X.env:=by rfl)
  (hfew:((backTo cpos (starEach (e::es) X.env)).all (fun x=>!x.1) && (backToKw cpos (keywordEach [] X.env)).all (fun x=>x.1.isSome)
   && decide ((e::es).length+([]:List Keyword).length+(if([]:List Keyword).isEmpty then 0 else 1)<30))=true:=by rfl)
  (hline:(apos.endLine == cpos.line)=true:=by rfl) (hs:starEach (e::es) X.env=(false,eval e X.env)::starEach es X.env:=by rfl) (hplain:(backTo cpos (starEach es X.env)).any (·.1)=false:=by rfl) :
  PE X (.Call (.Attribute o name apos) (e::es) [] cpos) (tBM K T r to t):=hK▸b0E pa slot hty hm ho ha hbase hfew hline hs hplain
end
section
variable {X:Cx}
def a9L:V→Option Int→Option Int→Hp→VK→Prop:=fun x lo hi H Q=>∃z,x=.str z∧z.length≤sizeLine∧Q (.str (Txt.slice z lo hi)) H
theorem a9M:SlR X a9L:=by
 intro pins s σ H x v vl vu lo hi sl Q I rx hs pl pu h
 obtain⟨z,rfl,hz,q⟩:=h
 obtain⟨t,rfl⟩:=rx
 refine⟨"str",_,F.slot_str_getitem.lookup,typeIs_str _ _ _,?_⟩
 cases pl with
 | none =>
  cases pu with
  | none=>exact wpAny_getItem_str_slice (l:=none) (u:=none) (st:=none) hs rfl (post_val_or_str ⟨Nat.le_trans (Txt.slice_le z _ _) hz,fun t' k=>⟨.str _,H,I.tok _,⟨_,rfl⟩,q⟩⟩)
  | int j uj=>exact wpAny_getItem_str_slice (l:=none) (u:=some (j,uj)) (st:=none) hs rfl (post_val_or_str ⟨Nat.le_trans (Txt.slice_le z _ _) hz,fun t' k=>⟨.str _,H,I.tok _,⟨_,rfl⟩,q⟩⟩)
 | int i ui =>
  cases pu with
  | none=>exact wpAny_getItem_str_slice (l:=some (i,ui)) (u:=none) (st:=none) hs rfl (post_val_or_str ⟨Nat.le_trans (Txt.slice_le z _ _) hz,fun t' k=>⟨.str _,H,I.tok _,⟨_,rfl⟩,q⟩⟩)
  | int j uj=>exact wpAny_getItem_str_slice (l:=some (i,ui)) (u:=some (j,uj)) (st:=none) hs rfl (post_val_or_str ⟨Nat.le_trans (Txt.slice_le z _ _) hz,fun t' k=>⟨.str _,H,I.tok _,⟨_,rfl⟩,q⟩⟩)
end
def signS(c:Nat):Str:=⟨#[c]⟩
theorem S2{X:Cx}{x:Str}{v:V}{pos:Pos}(hg:Gl X x)(hm:∃u,X.mg x=some u∧RelV v u)(hd:(x == ("__debug__" : Str))=false:=by decide):PE X (.Name x pos) (tC v):=by
 obtain⟨u,h1,h2⟩:=hm
 exact a7G hg h1 h2 hd
theorem a0s{h h' B B':Heap}:∀{l:List Env},h.FunFrames B l→(∀b∈B3 l,h'.get? b=h.get? b)→(∀b,B.get? b=none→B'.get? b=none)→h'.FunFrames B' l
 | [],_,_,_=>trivial
 | env::x4,⟨k,⟨L,o,f,b,g,n⟩,r⟩,hk,hb=>by
  refine⟨k,⟨L,o,f,hb L b,(hk L ?_).trans g,n⟩,a0s r (fun c hc=>hk c ?_) hb⟩
  ·exact List.mem_filterMap.mpr ⟨env,List.mem_cons_self,f⟩
  ·obtain⟨e,he,q⟩:=List.mem_filterMap.mp hc
   exact List.mem_filterMap.mpr ⟨e,List.mem_cons_of_mem _ he,q⟩
section
variable {X:Cx}{E:XK}{pins pins':List (Addr×Obj)}{σ σ':St}{H3 H':Hp}{s3 s':Shared}{scope:Scope}{Nc:List Str}{C a:Addr}{fp:List Addr}{xe:Value→Shared→Prop}{cls:Value}{cx:Option Addr}{B:Heap}
theorem a4B(acc:XAcc X E)(I3:Inv X pins σ H3 s3)(hC:C=s3.heap.objs.size)(hfp:∀b∈fp,FpOk X pins H3 b)(I:Inv (l4 X scope Nc C s3 H3 fp xe) pins' σ' H' s')(x:XAt (l4 X scope Nc C s3 H3 fp xe) pins' H' s' a cls cx B .any)(hE:E cls cx H') :
  ∃m,s'.heap.Ns C m∧∀h',Heap.SameBut C s'.heap h'→∀cenv:Env,cenv.locals=C→wpAny (model X.prog X.w) X.A (passOn "comprehension.variables-let-go" (.ref a) cenv:Sem Value) (fun _ _=>False) X.xe { s' with heap:=h' }:=by
 obtain⟨m,hn,_⟩:=id I.loc
 refine⟨m,hn,fun h' hs cenv _=>?_⟩
 have J:Inv X pins σ H' s':=I3.call' (ch:=fp) (I.os.trans rfl) I.base I.hok I.bare fun b hb=>⟨(hfp b hb).2.2.2.1,(hfp b hb).2.1,(hfp b hb).2.2.2.2.1,(hfp b hb).2.2.2.2.2⟩
 have lt3:∀b o,s3.heap.get? b=some o→b≠C:=fun b o g z=>absurd (Heap.lt_size g) (by rw[z,hC];exact Nat.lt_irrefl _)
 have hCL:C≠X.env.locals:=by rw[hC];exact Nat.ne_of_gt I3.lt
 have hsz:X.s₀.heap.objs.size≤C:=by rw[hC];exact I3.sz
 have hcl:∀y c,X.env.cells.lookup y=some c→c≠C:=fun y c e z=>by
  obtain⟨v,o,ho,_⟩:=I3.cell y c e
  exact lt3 c o ho z
 have hpn:∀p∈X.pn++pins,p.1≠C:=fun p hp z=>lt3 p.1 p.2 (I3.pin p hp).1 z
 have hC0:H' C=none:=I.free
 have J':Inv X pins σ H' { s' with heap:=h' }:=J.turned (t':=s'.toks) (fun b o hb e=>(hs.2 b hb).trans e) hC0 hCL (.inr hsz) hcl hpn
 have nC:∀b∈B3 X.stack,b≠C:=fun b hb=>by
  obtain⟨_,o,g,_⟩:=I3.stack.mem hb
  exact lt3 b o g
 obtain⟨fl,oe,vs,T,oT,ts,⟨ge,ec,de,z6⟩,⟨z1,z2⟩,⟨bT,nT⟩,gT,dT,z3⟩:=x.tr
 have nf:∀{b:Addr} {o:Obj} {ws:Array Value},s'.heap.get? b=some o→o.data=.fields ws→b≠C:=fun g d z=>by
  obtain⟨o,es,ep,ho,hd,_⟩:=id hn
  rw[z]at g
  have:s'.heap.get? C=some o:=ho
  rw[g]at this;cases this
  rw[d]at hd;cases hd
 have ge':=(hs.2 a (nf ge de)).trans ge
 have gT':=(hs.2 T (nf gT dT)).trans gT
 have hid:∀{b:Addr},B.get? b=none→(W.hideAll B [C]).get? b=none:=fun{b} q=>by
  cases w:(W.hideAll B [C]).get? b with
  | none=>rfl
  | some o=>rw[W.of_hideAll _ w]at q;cases q
 have st:(W.hideAll B [C]).StaysIn h':=fun b o e=>by
  have hb:b≠C:=fun z=>by rw[z,W.hideAll_none [C] (by simp)]at e;cases e
  exact(hs.2 b hb).trans (x.stays b o (W.of_hideAll _ e))
 have ff:h'.FunFrames (W.hideAll B [C]) X.stack:=a0s x.frames (fun b hb=>hs.2 b (nC b hb)) fun b q=>hid q
 have tr:TrX h' (W.hideAll B [C]) a cls cx fl:=⟨oe,vs,T,oT,ts,⟨ge',ec,de,z6⟩,⟨z1,z2⟩,⟨hid bT,nT⟩,gT',dT,z3⟩
 have xx:XAt X pins H' { s' with heap:=h' } a cls cx (W.hideAll B [C]) .any:=by
  refine⟨x.free,st,hid x.fresh,ff,fun b o e i n=>?_,fl,tr⟩
  have hb:b≠C:=by
   rcases i with i | ⟨_,o',i⟩ | ⟨p,hp,q⟩
   ·exact fun z=>i (by rw[z];exact hC0)
   ·exact Nat.ne_of_lt (Nat.lt_of_lt_of_le (Heap.lt_size i) hsz)
   ·rw[← q];exact hpn p hp
  refine W.hideAll_get _ (x.cov b o ((hs.2 b hb).symm.trans e) ?_ n) (by simpa using hb)
  by_cases hh:H' b=none
  ·refine .inr (.inl ⟨fun hf=>?_,?_⟩)
   ·obtain⟨_,_,_,f4,_,f6⟩:=hfp b hf
    rcases i with i | ⟨hx,o',i⟩ | ⟨p,hp,q⟩
    ·exact i hh
    ·rcases f4 with f4 | f4
     ·exact hx f4
     ·exact absurd (Nat.lt_of_lt_of_le (Heap.lt_size i) f4) (Nat.lt_irrefl _)
    ·exact f6 p hp q
   ·rcases i with i | ⟨hx,o',i⟩ | ⟨p,hp,q⟩
    ·exact absurd hh i
    ·exact I3.base.there b o' i hx
    ·exact⟨p.2,by rw[← q];exact(I3.pin p hp).1⟩
  ·exact .inl hh
 unfold PySem.passOn
 refine wpAny_bind (wpAny_field (s:={ s' with heap:=h' }) ge' de z1 ?_)
 rw[if_neg (by simp)]
 refine wpAny_bind (a2D (s:={ s' with heap:=h' }) st ff tr fun h2 k=>wpAny_throw ?_)
 exact acc pins σ H' _ a cls cx _ .any (J'.exc xx.cov k.1 k.2.2.2) ⟨xx.free,k.1,xx.fresh,k.2.1,xx.cov' J' k.1,_,k.2.2.1⟩ hE
end
def a2M(X:Cx)(scope:Scope)(Nc:List Str)(C:Addr)(H3:Hp)(fp:List Addr)(pins:List (Addr×Obj))(σ:St)(E:XK):Value→Shared→Prop:=fun e s' =>
 ∃s3 a cls cx H' B ph pins' σ',e=.ref a∧Inv X pins σ H3 s3∧C=s3.heap.objs.size∧(∀b∈fp,FpOk X pins H3 b)∧Inv (l4 X scope Nc C s3 H3 fp fun _ _=>False) pins' σ' H' s'∧XAt (l4 X scope Nc C s3 H3 fp fun _ _=>False) pins' H' s' a cls cx B ph∧E cls cx H'
section
variable {X:Cx}{E:XK}{elt tg iter:Expr}{ifs:List Expr}{scope:Scope}{pos:Pos}{Nc:List Str}{k:Nat}{js:List Nat}{wi:TI}{g:TG}{tf:TT}{te:TE}
theorem a6g{pins:List (Addr×Obj)}{σ:St}{H3:Hp}{s3:Shared}{C:Addr}{fp:List Addr}(I3:Inv X pins σ H3 s3)(hC:C=s3.heap.objs.size)(hfp:∀b∈fp,FpOk X pins H3 b):XAcc (l4 X scope Nc C s3 H3 fp (a2M X scope Nc C H3 fp pins σ E)) E :=
 fun pins' σ' H' s' a cls cx B ph I x hE=>⟨s3,a,cls,cx,H',B,ph,pins',σ',rfl,I3,hC,hfp,I.wish _,⟨x.free,x.stays,x.fresh,x.frames,x.cov,x.tr⟩,hE⟩
theorem a4C{pins:List (Addr×Obj)}{σ:St}{H3:Hp}{C F:Addr}{fp:List Addr}{env0:Env}{out0:List Env}{R:Value→Shared→Prop}(acc:XAcc X E)(hs0:X.stack=env0::out0)(h0:env0.frame=X.env.frame)(hF:X.env.frame=some F)
  (hR:∀a s',(∃m,s'.heap.Ns C m∧∀h',Heap.SameBut C s'.heap h'→∀cenv:Env,cenv.locals=C→wpAny (model X.prog X.w) X.A (passOn "comprehension.variables-let-go" (.ref a) cenv:Sem Value) (fun _ _=>False) X.xe { s' with heap:=h' })→R (.ref a) s') :
  ∀e s',a2M X scope Nc C H3 fp pins σ E e s'→notedBy (model X.prog X.w) X.A (compEnvC scope (A1 X.env.cells scope.names []) C X.env) R e s':=by
 rintro e s' ⟨s3,a,cls,cx,H',B,ph,pins',σ',rfl,I3,hC,hfp,I,x,hE⟩
 unfold notedBy
 exact a3K (X:=l4 X scope Nc C s3 H3 fp fun _ _=>False) I.ok.frames hs0 h0 hF I x fun h1 I1 x1=>hR a _ (a4B acc I3 hC hfp I1 x1 hE)
theorem a6h{env0:Env}{out0:List Env}{F:Addr}(acc:XAcc X E)(hc:X.calm=true)(S:CompSc X.env.scope scope X.N Nc k js)(hi:PI X tg iter wi)(hg:∀C s3 H3 fp xe,PG (l4 X scope Nc C s3 H3 fp xe) tg g)(hf:∀C s3 H3 fp xe,PF (l4 X scope Nc C s3 H3 fp xe) ifs tf)
  (he:∀C s3 H3 fp xe,XAcc (l4 X scope Nc C s3 H3 fp xe) E→PE (l4 X scope Nc C s3 H3 fp xe) elt te) (hs:∀x,foldedSetIterable iter X.env x=pure x:=by intro _;rfl)
  (hs0:X.stack=env0::out0:=by rfl) (h0:env0.frame=X.env.frame:=by rfl) (hF:X.env.frame=some F:=by rfl):PE X (.ListComp elt [⟨tg,iter,ifs,0⟩] scope pos) (a02 wi g tf te k js):=by
 intro pins s σ H Q I h
 rw[eval_ListComp]
 refine wpAny_comprehension_free (use:=none) rfl hs (T2 (V4 I S)) S.kind S.names (j4 (hi pins s σ H _ I h) fun v s1 h1=>j4 h1 fun itv s2 h2=>?_)
 obtain⟨it,fp,tn,J,H2,rfl,I2,T,st2,f2,hR⟩:=h2
 refine V5 (RR:=fun acc C=>compPost (model X.prog X.w) X.A X.xe none (EP X pins σ Q) acc C) (Fin:=fun D H'=>Q (.ref D) H') hc S hg hf
  (fun C D H3=>⟨a2M X scope Nc C H3 fp pins σ E,a4C acc hs0 h0 hF fun a s' z=>z,fun s3 I3 hC hfp=>he _ _ _ _ _ (a6g I3 hC hfp)⟩) I2 T st2 f2 hR ?_
 intro D C H' s' m' I' hn hC hCL hsz hcl hpn q
 exact⟨m',hn,fun h' hs'=>⟨.ref D,H',I'.turned (t':=s'.toks) (fun b o hb e=>(hs'.2 b hb).trans e) hC hCL (.inr hsz) hcl hpn,rfl,q⟩⟩
end
theorem a9N{X:Cx}{x:Str}{j:Nat}{pos:Pos}{es:List Expr}{t:TA}(hr:PA X es t):PA X (.Constant (.str x) j pos::es) (B0 (tC (.str x)) t):=a7 G2 hr
def Itz(K:W.Frag)(a b:Addr):It :=
 ⟨fun i H=>∃xs ys x y,SqL K H a xs∧SqL K H b ys∧xs[i]? = some x∧ys[i]? = some y,fun i H v H'=>∃p x y,v=.ref p∧H p=none∧H'=upd H p (.tup [x,y])∧(∀xs,SqL K H a xs→xs[i]? = some x)∧∀ys,SqL K H b ys→ys[i]? = some y,
  fun i H=>∃xs ys,SqL K H a xs∧SqL K H b ys∧(xs.length≤i∨ys.length≤i)⟩
theorem a6i{P:Program}{w:World}{K:W.Frag}{elts:List Expr}{x1}{tpos:Pos}(l1 l2 z TI TO i1 i2:Addr)(D:ZipApart z TI TO i1 i2 l1 l2):Turn P w K (.Tuple elts x1 tpos) (Itz K l1 l2) [z,TI,TO,i1,i2] z
  (fun i h=>IsZip h z TI TO .none∧IsPair h TI (.ref i1) (.ref i2)∧(∃a b,IsPair h TO a b)∧h.IsListIter i1 l1 i∧h.IsListIter i2 l2 i) where
 mem:=by simp
 obj:=fun i h ⟨hz,hTI,⟨a,b,hTO⟩,h1,h2⟩ c hc=>by
  simp only[List.mem_cons,List.not_mem_nil,or_false]at hc
  rcases hc with rfl | rfl | rfl | rfl | rfl
  ·exact⟨_,hz,fun v z=>nomatch (show Data.fields _=Data.cell v from z)⟩
  ·exact⟨_,hTI,fun v z=>nomatch (show Data.seq _ _=Data.cell v from z)⟩
  ·exact⟨_,hTO,fun v z=>nomatch (show Data.seq _ _=Data.cell v from z)⟩
  ·obtain⟨o,e1,c,d⟩:=h1;exact⟨o,e1,fun v z=>by rw[d]at z;cases z⟩
  ·obtain⟨o,e1,c,d⟩:=h2;exact⟨o,e1,fun v z=>by rw[d]at z;cases z⟩
 keep:=fun i h h' ⟨hz,hTI,⟨a,b,hTO⟩,h1,h2⟩ k=>⟨k z (by simp) _ hz,k TI (by simp) _ hTI,⟨a,b,k TO (by simp) _ hTO⟩,h1.at fun o q=>k i1 (by simp) o q,h2.at fun o q=>k i2 (by simp) o q⟩
 item:=by
  intro X hP hw hK hc i pins s σ H E I hf st hg
  subst hP hw hK
  obtain⟨hz,hTI,⟨a,b,hTO⟩,h1,h2⟩:=st
  obtain⟨xs,ys,x,y,hq,hq',hx,hy⟩:=hg
  obtain⟨its,rv,p,_⟩:=I.list hq
  obtain⟨u,hu,ru⟩:=rv.get hx
  obtain⟨its',rv',p',_⟩:=I.list hq'
  obtain⟨u',hu',ru'⟩:=rv'.get hy
  refine wpAny_pyNext_zip_item D hz hTI hTO h1 h2 p.isList p'.isList (x:=u) (y:=u') (by simpa using hu) (by simpa using hu') fun h' q1 q2 q3 q4 q5 q6 q7=>⟨_,rfl,?_⟩
  refine wpAny_letOwnedTupleGo_zip (s:={ s with heap:=h',toks:=s.toks }) q1 fun h3 r1 r2=>?_
  have nez:s.heap.objs.size≠z:=Nat.ne_of_gt (Heap.lt_size hz)
  have k2:∀c o,c ∉ [z,TI,TO,i1,i2]→s.heap.get? c=some o→h3.get? c=some o:=fun c o hb q =>
   (r2.2 c fun e=>hb (by simp[e])).trans (q7 c o (fun e=>hb (by simp[e])) (fun e=>hb (by simp[e])) (fun e=>hb (by simp[e])) (fun e=>hb (by simp[e])) q)
  have I1:Inv X pins σ (upd H s.heap.objs.size (.tup [x,y])) { s with heap:=h3,toks:=s.toks }:=I.turnedL k2 hf (Nat.le_refl _)
   ⟨by show 2≤sizeLine;decide,[u,u'],.cons ru (.cons ru' .nil),⟨_,(r2.2 _ nez).trans q5,rfl,_,rfl⟩⟩
  refine⟨.ref s.heap.objs.size,_,I1,rfl,⟨_,x,y,rfl,I.fresh,rfl,(fun zs hs=>by rw[I.list_inj hs hq];exact hx),fun zs hs=>by rw[I.list_inj hs hq'];exact hy⟩,
   ⟨r1,(r2.2 _ D.TIz).trans (q7 _ _ D.TIz D.TITO D.TIi1 D.TIi2 hTI),⟨_,_,(r2.2 _ D.TOz).trans q2⟩,q3.extBut r2.extBut D.i1z,q4.extBut r2.extBut D.i2z⟩,fun c hc=>?_⟩
  have:∃o,s.heap.get? c=some o:=by
   simp only[List.mem_cons,List.not_mem_nil,or_false]at hc
   rcases hc with rfl | rfl | rfl | rfl | rfl
   ·exact⟨_,hz⟩
   ·exact⟨_,hTI⟩
   ·exact⟨_,hTO⟩
   ·obtain⟨o,e1,_⟩:=h1;exact⟨o,e1⟩
   ·obtain⟨o,e1,_⟩:=h2;exact⟨o,e1⟩
  obtain⟨o,e1⟩:=this
  rw[c8 (Nat.ne_of_lt (Heap.lt_size e1))]
  exact(hf c hc).1
 done:=by
  intro X hP hw hK hc i pins s σ H E I hf st hg
  subst hP hw hK
  obtain⟨hz,hTI,⟨a,b,hTO⟩,h1,h2⟩:=st
  obtain⟨xs,ys,hq,hq',hx⟩:=hg
  obtain⟨its,rv,p,_⟩:=I.list hq
  obtain⟨its',rv',p',_⟩:=I.list hq'
  have hl:=rv.length
  have hl':=rv'.length
  refine wpAny_pyNext_zip_end (I.ok.hd hc) D hz hTI hTO h1 h2 p.isList p'.isList (hx.imp (fun h=>by simp;omega) fun h=>by simp;omega) fun h' eb=>⟨rfl,I.turnedN (t':=s.toks) (fun c o hb q=>?_) hf⟩
  exact eb c o (fun e=>hb (by simp[e])) (fun e=>hb (by simp[e])) (fun e=>hb (by simp[e])) (fun e=>hb (by simp[e])) q
 self:=fun _ _ _ _ _ st h=>wpAny_pyIter_zip st.1 h
theorem a6j{K:W.Frag}{a b:Addr}{xs ys:List V}{g:TG}{tf:TT}{te:TE}{k:Nat}{σ0:St}{D:Addr}{Fin:Hp→Prop}{H1:Hp}(Pv:Nat→List V→Hp→Prop)(h0:Pv 0 [] (upd H1 D (.lst [])))(hl:∀i zs H,Pv i zs H→SqL K H a xs∧SqL K H b ys)
  (hs:∀i x y zs H p,xs[i]? = some x→ys[i]? = some y→Pv i zs H→H p=none→g (.ref p) σ0 (upd H p (.tup [x,y])) fun σ2 H2=>(σ2.drop k=σ0.drop k∧σ2.length=σ0.length)∧tf σ2 H2 fun b H3 =>
   if b=true then te σ2 H3 fun y H4=>H4 D=some (.lst zs)∧zs.length<sizeLine∧Pv (i+1) (zs++[y]) (upd H4 D (.lst (zs++[y])))else Pv (i+1) zs H3)
  (hd:∀zs H,Pv (min xs.length ys.length) zs H→Fin H):K5 (Itz K a b) g tf te k σ0 D Fin H1:=by
 refine⟨fun i m zs H=>m=min xs.length ys.length-i∧i≤min xs.length ys.length∧Pv i zs H,⟨min xs.length ys.length,by simp,Nat.zero_le _,h0⟩,?_⟩
 rintro i m zs H ⟨rfl,hi,p⟩
 obtain⟨q,q'⟩:=hl i zs H p
 by_cases hlt:i<min xs.length ys.length
 ·have h1:i<xs.length:=by omega
  have h2:i<ys.length:=by omega
  refine .inr ⟨⟨xs,ys,xs[i],ys[i],q,q',by simp[h1],by simp[h2]⟩,Pv (i+1),fun ys' H' z=>⟨_,by omega,rfl,hlt,z⟩,fun v H' y=>?_⟩
  obtain⟨c,x,y',rfl,hc,rfl,e1,e2⟩:=y
  exact hs i x y' zs _ c (e1 xs q) (e2 ys q') p hc
 ·have e:i=min xs.length ys.length:=by omega
  subst e
  exact .inl ⟨⟨xs,ys,q,q',by omega⟩,hd zs H p⟩
theorem a9O:bootBuiltins "zip" = some (.type "zip"):=by decide +kernel
def a9P(K:W.Frag)(ta:TA):TI:=fun σ H R=>ta σ H fun vs H1=>∃a b,vs=[.ref a,.ref b]∧(∃xs,SqL K H1 a xs)∧(∃ys,SqL K H1 b ys)∧R (Itz K a b) H1
section
variable {X:Cx}
theorem a9Q{elts:List Expr}{x1}{tpos:Pos}{l l':Expr}{ta:TA}{p pos:Pos}(hg:Gl X "zip")(hm:X.mg "zip" = none)(ha:PA X [l,l'] ta)(hs:starEach [l,l'] X.env=(false,eval l X.env)::starEach [l'] X.env:=by rfl)(hpl:(backTo pos (starEach [l'] X.env)).any (·.1)=false:=by rfl) :
  PI X (.Tuple elts x1 tpos) (.Call (.Name "zip" p) [l,l'] [] pos) (a9P X.K ta):=by
 intro pins s σ H R I h
 refine Call_ (O0 I hg hm a9O (PyProof.Rows.callWith_type1 (j4 (ha pos pins s σ H _ I h) fun us s1 ⟨vs,H1,I1,r1,q1⟩=>?_) hs hpl))
 obtain⟨a,b,e,⟨xs,hq⟩,⟨ys,hq'⟩,q⟩:=q1
 subst e
 obtain⟨u,u',rfl,ru,ru'⟩:∃u u',us=[u,u']∧RelV (.ref a) u∧RelV (.ref b) u':=by
  cases r1 with
  | cons r t=>cases t with
   | cons r' t'=>cases t';exact⟨_,_,rfl,r,r'⟩
 cases (show u=Value.ref a from ru)
 cases (show u'=Value.ref b from ru')
 obtain⟨its,rv,pl,hz⟩:=I1.list hq
 obtain⟨its',rv',pl',hz'⟩:=I1.list hq'
 refine call_zip_2 pl.isList pl'.isList fun h' q1 q2 q3 q4 q5 q6 q7=>?_
 have I2:Inv X pins σ H1 { s1 with heap:=h' }:=I1.kept (t':=s1.toks) q7
 refine wpAny_pyIter_zip (s:={ s1 with heap:=h' }) q1 ?_
 have la:a<s1.heap.objs.size:=by obtain⟨o,n,e,_⟩:=pl;exact Heap.lt_size e
 have lb:b<s1.heap.objs.size:=by obtain⟨o,n,e,_⟩:=pl';exact Heap.lt_size e
 refine⟨s1.heap.objs.size+4,[s1.heap.objs.size+4,s1.heap.objs.size+2,s1.heap.objs.size+3,s1.heap.objs.size,s1.heap.objs.size+1],_,_,H1,rfl,I2,a6i a b (s1.heap.objs.size+4) (s1.heap.objs.size+2) (s1.heap.objs.size+3) s1.heap.objs.size (s1.heap.objs.size+1) ?_,⟨q1,q2,⟨_,_,q3⟩,q4,q5⟩,fun c hc=>?_,q⟩
 ·constructor<;> (simp only[Addr,ne_eq]at *;omega)
 ·have hb':s1.heap.objs.size≤c:=by
   simp only[List.mem_cons,List.not_mem_nil,or_false]at hc
   rcases hc with rfl | rfl | rfl | rfl | rfl<;> (simp only[Addr]at *;omega)
  exact I1.fpOk hb' (I1.hok.fresh hb')
end
section
variable {X:Cx}
def a3N:V→List V→Hp→VK→Prop:=fun x vs H Q=>∃(l:Addr) (xs:List V) (i:Int) (y:V),x=.ref l∧vs=[.int i,y]∧H l=some (.lst xs)∧0≤i∧i≤xs.length∧xs.length<sizeLine∧Q .non (upd H l (.lst (xs.take i.toNat++y::xs.drop i.toNat)))
theorem a10:∀{xs:List V} {us:List Value} (n:Nat),Vals xs us→Vals (xs.take n) (us.take n)
 | [],_,n,.nil=>by rw[List.take_nil,List.take_nil];exact .nil
 | _::_,_,0,.cons _ _=>.nil
 | _::_,_,n+1,.cons r t=>.cons r (a10 n t)
theorem a11:∀{xs:List V} {us:List Value} (n:Nat),Vals xs us→Vals (xs.drop n) (us.drop n)
 | [],_,n,.nil=>by rw[List.drop_nil,List.drop_nil];exact .nil
 | _::_,_,0,.cons r t=>.cons r t
 | _::_,_,n+1,.cons r t=>a11 n t
theorem Z1:MtM X "list.insert" a3N:=by
 intro pins s σ H x vs v us Q I rx rv h
 obtain⟨l,xs,i,y,rfl,rfl,hH,h0,h1,hz,q⟩:=h
 cases rx
 obtain⟨u1,u2,rfl,ru1,ru2⟩:=rv.two
 obtain⟨t1,rfl⟩:=ru1
 obtain⟨z,its,n,r,hl,e⟩:=I.lstM hH
 have hfit:¬(!Builtin.List.listFitsIndex i)=true:=by
  have:Builtin.List.listFitsIndex i=true:=by
   unfold Builtin.List.listFitsIndex
   unfold sizeLine at hz
   simp only[Bool.and_eq_true,decide_eq_true_eq]
   omega
  rw[this];decide
 refine call_meets F.slot_list_insert ⟨_,e,rfl⟩ F.entry_list_insert (F.args_list_insert_3 _ _ _) (AutoSeq1.list_insert_list_int_val_1 l its.toArray n i t1 u2 hfit (by rw[List.size_toArray];omega)) ⟨e,?_⟩
 refine⟨.non,_,I.lset (its':=its.take i.toNat++u2::its.drop i.toNat) hH e ?_ ((a10 _ r).append (.cons ru2 (a11 _ r))) ?_,rfl,q⟩
 ·have hm:(if i<0 then(i+((its.toArray.size:Nat):Int)).toNat else min i.toNat its.toArray.size)=i.toNat:=by
   rw[if_neg (by omega),List.size_toArray];omega
  show(its.toArray.extract 0 (if i<0 then(i+((its.toArray.size:Nat):Int)).toNat else min i.toNat its.toArray.size)).push u2++its.toArray.extract (if i<0 then(i+((its.toArray.size:Nat):Int)).toNat else min i.toNat its.toArray.size)=_
  rw[hm]
  apply Array.toList_inj.mp
  have hd:(its.toArray.extract i.toNat).toList=its.drop i.toNat:=by
   rw[Array.toList_extract,List.extract_eq_drop_take]
   show List.take (its.length-i.toNat) (List.drop i.toNat its)=_
   rw[List.take_of_length_le (by rw[List.length_drop];exact Nat.le_refl _)]
  rw[Array.toList_append,Array.toList_push,hd]
  have ht:(its.toArray.extract 0 i.toNat).toList=its.take i.toNat:=by
   rw[Array.toList_extract,List.extract_eq_drop_take];rfl
  rw[ht,List.append_assoc];rfl
 ·rw[List.length_append,List.length_cons,List.length_take,List.length_drop]
  omega
end
def Gd(n:Nat)(lt:Nat→Nat→Bool){α:Type}:KasT α→(α→Prop)→Prop
 | .ret a,P=>P a
 | .ask i j k,P=>i<n∧j<n∧Gd n lt (k (lt i j)) P
theorem Gd.mono{n:Nat}{lt:Nat→Nat→Bool}{α:Type}{P P':α→Prop}(h:∀a,P a→P' a):∀{t:KasT α},Gd n lt t P→Gd n lt t P'
 | .ret a,g=>h a g
 | .ask i j k,g=>⟨g.1,g.2.1,Gd.mono h g.2.2⟩
theorem Gd.bind{n:Nat}{lt:Nat→Nat→Bool}{α β:Type}{P:β→Prop}{f:α→KasT β}:∀{t:KasT α},Gd n lt t (fun a=>Gd n lt (f a) P)→Gd n lt (t.bind f) P
 | .ret a,g=>g
 | .ask i j k,g=>⟨g.1,g.2.1,Gd.bind (t:=k (lt i j)) g.2.2⟩
def ga(p:Array Nat)(k:Nat):Nat:=p.getD k 0
structure TPre(lt:Nat→Nat→Bool):Prop where
 irr:∀i,lt i i=false
 tr:∀i j k,lt j i=false→lt k j=false→lt k i=false
 asy:∀i j,lt i j=true→lt j i=false
section
variable {n:Nat}{lt:Nat→Nat→Bool}
def Pmn(n:Nat)(p:Array Nat):Prop:=p.toList.Perm (List.range n)
theorem Pmn.size{p:Array Nat}(h:Pmn n p):p.size=n:=by have:=h.length_eq;simpa using this
end
section
variable {prog:Program}{w:World}{A:Around}{E:Value→Shared→Prop}{s:Shared}{b fin:Bool}{Q:Bool→Shared→Prop}
theorem a0t:∀{vs ws:List Value} {ns ms:List Int} (i:Nat),IntsAre vs ns→IntsAre ws ms→fin=decide (ns.length<ms.length)→Q (HT.lexLt ns ms) s→KatLex prog w A true fin Q (vs.zip ws) i s
 | _,_,_,_,i,.nil,.nil,hf,h=>by rw[List.zip_nil_left];refine kat_nil ?_;rw[hf];exact h
 | _,_,_,_,i,.nil,.cons c u t,hf,h=>by
  rw[List.zip_nil_left];refine kat_nil ?_;rw[hf,decide_eq_true (by simp)];exact h
 | _,_,_,_,i,.cons a t r,.nil,hf,h=>by
  rw[List.zip_nil_right];refine kat_nil ?_;rw[hf,decide_eq_false (by simp)];exact h
 | _,_,_,_,i,.cons (ns:=ns) a t r,.cons (ns:=ms) c u r',hf,h=>by
  rw[List.zip_cons_cons]
  rw[HT.lexLt_cons]at h
  refine kat_cons (wpAny_eqBool_int (kat_go (fun e=>?_) fun e=>?_))
  ·rw[if_pos (by simpa using e)]at h
   exact kat_yes (a0t (i+1) r r' (by rw[hf];simp) h)
  ·rw[if_neg (by simpa using e)]at h
   refine kat_no ?_
   by_cases hi:i=0
   ·subst hi
    show wpAny _ _ (oneLt' true _ _) _ _ _
    exact oneLt_int h
   ·have e0:(true && i == 0)=false:=by simpa using hi
    rw[e0]
    exact kat_one _ _ (PyProof.Rows.lt_int h)
def TupKey(h:Heap)(v:Value)(k:List Int):Prop:=∃a o xs m,v=.ref a∧h.get? a=some o∧o.cls=.type "tuple"∧o.data=.seq xs m∧IntsAre xs.toList k∧k≠[]
theorem TupKey.keeps{h h':Heap}{v:Value}{k:List Int}(t:TupKey h v k)(kp:∀a o,h.get? a=some o→h'.get? a=some o):TupKey h' v k:=by
 obtain⟨a,o,xs,m,e,ho,r⟩:=t
 exact⟨a,o,xs,m,e,kp _ _ ho,r⟩
theorem TupKey.lt{v u:Value}{k l:List Int}{C:Bool→Shared→Prop}{E:Value→Shared→Prop}(t:TupKey s.heap v k)(t':TupKey s.heap u l)(h:C (HT.lexLt k l) s):wpAny (model prog w) A (keyLt' (tuples' true) v u) C E s:=by
 obtain⟨a,o,xs,m,rfl,ho,_,hd,hi,_⟩:=t
 obtain⟨a',o',xs',m',rfl,ho',_,hd',hi',_⟩:=t'
 have z1:xs.size=k.length:=by rw[← hi.length];simp
 have z2:xs'.size=l.length:=by rw[← hi'.length];simp
 exact kat_lt ho hd ho' hd' (a0t 0 hi hi' (by rw[z1,z2]) h)
def TKs(h:Heap):List Value→List (List Int)→Prop
 | [],[]=>True
 | v::vs,k::ks=>TupKey h v k∧TKs h vs ks
 | _,_=>False
theorem TKs.keeps{h h':Heap}(kp:∀a o,h.get? a=some o→h'.get? a=some o):∀{vs:List Value} {ks:List (List Int)},TKs h vs ks→TKs h' vs ks
 | [],[],_=>trivial
 | [],_::_,t=>t.elim
 | _::_,[],t=>t.elim
 | v::vs,k::ks,t=>⟨t.1.keeps kp,TKs.keeps kp t.2⟩
theorem TKs.len{h:Heap}:∀{vs:List Value} {ks:List (List Int)},TKs h vs ks→vs.length=ks.length
 | [],[],_=>rfl
 | [],_::_,t=>t.elim
 | _::_,[],t=>t.elim
 | v::vs,k::ks,t=>by simp[t.2.len]
theorem TKs.at{h:Heap}:∀{vs:List Value} {ks:List (List Int)} (i:Nat),TKs h vs ks→i<vs.length→TupKey h (vs.getD i Value.none) (ks.getD i [])
 | [],_,i,_,hi=>absurd hi (Nat.not_lt_zero _)
 | _::_,[],_,t,_=>t.elim
 | v::vs,k::ks,0,t,_=>t.1
 | v::vs,k::ks,i+1,t,hi=>TKs.at (vs:=vs) (ks:=ks) i t.2 (by simpa using hi)
end
theorem a3t:bootBuiltins "reversed" = some (.type "reversed"):=by decide +kernel
namespace F'
end F'
open PySem PySem.Spec PyProof.Rows PySem.W
section
variable {X:Cx}
def XAccAt(X:Cx)(σ:St)(E:XK):Prop:=∀(pins:List (Addr×Obj)) (H:Hp) (s:Shared) (a:Addr) (cls:Value) (cx:Option Addr) (B:Heap) (ph:Ph),Inv X pins σ H s→XAt X pins H s a cls cx B ph→E cls cx H→X.xe (.ref a) s
theorem XAccAt.passes{σ:St}{E:XK}(acc:XAccAt X σ E):∀(pins:List (Addr×Obj)) (H:Hp) (s:Shared) (e:Value) (s':Shared),Inv X pins σ H s→u9 X.prog X.w X.stack H s E e s'→X.xe e s':=by
 intro pins H s e s' I h
 obtain⟨a,cls,cx,H',B,rfl,os,bare,un,hok,st,fr,ff,tr,free,cov,hE⟩:=h
 have I':Inv X pins σ H' s':=I.call' (ch:=[]) os un hok bare (fun b z=>absurd z (by simp))
 refine acc pins H' s' a cls cx B .fly I' ⟨free,st,fr,ff,fun b o e i n=>cov b o e ?_ n,tr⟩ hE
 rcases i with i | ⟨hx,o',i⟩ | ⟨p,hp,q⟩
 ·exact .inl i
 ·exact .inr (I.base.there b o' i hx)
 ·exact .inr ⟨p.2,by rw[← q];exact(I.pin p hp).1⟩
end
def Itv(K:W.Frag)(a:Addr)(n:Nat):It :=
 ⟨fun i H=>i<n∧∃xs,SqL K H a xs∧xs.length=n,fun i H x H'=>H'=H∧∀xs,SqL K H a xs→xs[n-1-i]? = some x,fun i H=>n≤i∧∃xs,SqL K H a xs∧xs.length=n⟩
theorem a6k{P:Program}{w:World}{K:PySem.W.Frag}{tg:Expr}(a it:Addr)(n:Nat)(hne:a≠it):Turn P w K tg (Itv K a n) [it] it (fun i h=>i≤n∧h.IsRevIter it a ((n:Int)-1-(i:Int))) where
 mem:=by simp
 obj:=fun i h ⟨_,o,e1,c,d⟩ b hb=>by
  have q:b=it:=by simpa using hb
  subst q
  exact⟨o,e1,fun v z=>by rw[d]at z;cases z⟩
 keep:=fun i h h' ⟨l,st⟩ k=>⟨l,st.at fun o q=>k it (by simp) o q⟩
 item:=by
  intro X hP hw hK hc i pins s σ H E I hf hst hg
  subst hP hw hK
  obtain⟨f0,f1,f2,f3,f4,f5⟩:=hf it (by simp)
  obtain⟨hi,xs,hq,hn⟩:=hg
  obtain⟨its,rv,p,hz⟩:=I.list hq
  have hl:=rv.length
  have hsz:its.toArray.size=n:=by rw[List.size_toArray];omega
  have W:=Walks.listRev (prog:=X.prog) (w:=X.w) (I.ok.hd hc) it a hne its.toArray
  rw[hsz]at W
  refine W.item i s _ _ hi ⟨hst.1,hst.2,p.isList⟩ fun v h' tk hv st' kk=>?_
  have hj:n-1-i<xs.length:=by omega
  obtain⟨u,hu,ru⟩:=rv.get (List.getElem?_eq_getElem hj)
  have hv':its[n-1-i]? = some v:=by simpa using hv
  rw[hu]at hv'
  cases hv'
  have I1:Inv X pins σ H { s with heap:=h',toks:=tk }:=I.turned (fun b o hb e=>kk b o (by simpa using hb) e) f0 f1 f3 f4 f5
  obtain⟨l',⟨o,eo,ec,ed⟩,_⟩:=st'
  exact⟨_,rfl,a4h (s:={ s with heap:=h',toks:=tk }) (n := "list_reverseiterator") eo ec ed (by decide) ⟨xs[n-1-i],H,I1,ru,⟨rfl,fun ys hy=>by rw[I.list_inj hy hq];exact List.getElem?_eq_getElem hj⟩,⟨l',⟨o,eo,ec,ed⟩⟩,fun b hb=>(hf b hb).1⟩⟩
 done:=by
  intro X hP hw hK hc i pins s σ H E I hf hst hg
  subst hP hw hK
  obtain⟨f0,f1,f2,f3,f4,f5⟩:=hf it (by simp)
  obtain⟨hi,xs,hq,hn⟩:=hg
  obtain⟨its,rv,p,hz⟩:=I.list hq
  have hl:=rv.length
  have hsz:its.toArray.size=n:=by rw[List.size_toArray];omega
  have W:=Walks.listRev (prog:=X.prog) (w:=X.w) (I.ok.hd hc) it a hne its.toArray
  rw[hsz]at W
  have e:i=n:=by have:=hst.1;omega
  subst e
  exact W.done s _ _ ⟨hst.1,hst.2,p.isList⟩ fun h' tk kp=>⟨rfl,I.turned (fun b o hb e=>kp b o (by simpa using hb) e) f0 f1 f3 f4 f5⟩
 self:=fun A i s Q E st h=>by
  obtain⟨_,st⟩:=st
  exact wpAny_pyIter_revIter st h
def a9R(K:W.Frag)(ta:TA):TI:=fun σ H R=>ta σ H fun vs H1=>∃a xs,vs=[.ref a]∧SqL K H1 a xs∧R (Itv K a xs.length) H1
section
variable {X:Cx}{tg:Expr}
theorem a9S{l:Expr}{ta:TA}{p pos:Pos}(hg:Gl X "reversed")(hm:X.mg "reversed" = none)(ha:PA X [l] ta)(hs:starEach [l] X.env=[(false,eval l X.env)]:=by rfl) :
  PI X tg (.Call (.Name "reversed" p) [l] [] pos) (a9R X.K ta):=by
 intro pins s σ H R I h
 refine Call_ (O0 I hg hm a3t (PyProof.Rows.callWith_type1 (j4 (ha pos pins s σ H _ I h) fun us s1 ⟨vs,H1,I1,r1,q1⟩=>?_) hs rfl))
 obtain⟨a,xs,e,hq,q⟩:=q1
 subst e
 obtain⟨u,rfl,ru⟩:=r1.one
 cases (show u=Value.ref a from ru)
 obtain⟨its,rv,pl,hz⟩:=I1.list hq
 have la:a<s1.heap.objs.size:=by obtain⟨o,n,e,_⟩:=pl;exact Heap.lt_size e
 have hlen:=rv.length
 refine call_reversed_list pl.isList ?_
 have el:((its.toArray.size:Nat):Int)-1=(xs.length:Int)-1-((0:Nat):Int):=by simp;omega
 rw[el]
 have I2:Inv X pins σ H1 { s1 with heap:=s1.heap.push (revObj a ((xs.length:Int)-1-((0:Nat):Int))) }:=I1.kept (t':=s1.toks) fun b o e=>Heap.get?_push_of_some _ e
 have hit:(s1.heap.push (revObj a ((xs.length:Int)-1-((0:Nat):Int)))).IsRevIter s1.heap.objs.size a ((xs.length:Int)-1-((0:Nat):Int)):=⟨_,Heap.get?_push_size _ rfl,rfl,rfl⟩
 refine wpAny_pyIter_revIter (s:={ s1 with heap:=s1.heap.push (revObj a ((xs.length:Int)-1-((0:Nat):Int))) }) hit ?_
 refine⟨s1.heap.objs.size,[s1.heap.objs.size],_,_,H1,rfl,I2,a6k a s1.heap.objs.size xs.length (Nat.ne_of_lt la),⟨Nat.zero_le _,hit⟩,fun b hb=>?_,q⟩
 have z:b=s1.heap.objs.size:=by simpa using hb
 subst z
 exact I1.fpOk (Nat.le_refl _) (I1.hok.fresh (Nat.le_refl _))
end
section
variable {prog:Program}{w:World}{A:Around}{E:Value→Shared→Prop}{s:Shared}{fin:Bool}{Q:Bool→Shared→Prop}
theorem a03{rs rs':List Value}:∀{vs ws:List Value} {ns ms:List Int} (i:Nat),IntsAre vs ns→IntsAre ws ms→ns.length=ms.length→ns≠ms→Q (HT.lexLt ns ms) s→KatLex prog w A true fin Q ((vs++rs).zip (ws++rs')) i s
 | _,_,_,_,i,.nil,.nil,_,hn,_=>absurd rfl hn
 | _,_,_,_,i,.nil,.cons c u t,hf,_,_=>by simp at hf
 | _,_,_,_,i,.cons a t r,.nil,hf,_,_=>by simp at hf
 | _,_,_,_,i,.cons (ns:=ns) a t r,.cons (ns:=ms) c u r',hf,hn,h=>by
  rw[List.cons_append,List.cons_append,List.zip_cons_cons]
  rw[HT.lexLt_cons]at h
  refine kat_cons (wpAny_eqBool_int (kat_go (fun e=>?_) fun e=>?_))
  ·have e':a=c:=by simpa using e
   rw[if_pos e']at h
   exact kat_yes (a03 (i+1) r r' (by simpa using hf) (fun z=>hn (by rw[e',z])) h)
  ·rw[if_neg (by simpa using e)]at h
   refine kat_no ?_
   by_cases hi:i=0
   ·subst hi
    show wpAny _ _ (oneLt' true _ _) _ _ _
    exact oneLt_int h
   ·have e0:(true && i == 0)=false:=by simpa using hi
    rw[e0]
    exact kat_one _ _ (PyProof.Rows.lt_int h)
def TupPre(h:Heap)(v:Value)(k:List Int):Prop:=∃a o xs m vs rs,v=.ref a∧h.get? a=some o∧o.cls=.type "tuple"∧o.data=.seq xs m∧xs.toList=vs++rs∧IntsAre vs k∧k≠[]∧∀u∈xs.toList,(u == u)=true
theorem TupPre.keeps{h h':Heap}{v:Value}{k:List Int}(t:TupPre h v k)(kp:∀a o,h.get? a=some o→h'.get? a=some o):TupPre h' v k:=by
 obtain⟨a,o,xs,m,vs,rs,e,ho,r⟩:=t
 exact⟨a,o,xs,m,vs,rs,e,kp _ _ ho,r⟩
theorem TupPre.lt{v u:Value}{k l:List Int}{C:Bool→Shared→Prop}(t:TupPre s.heap v k)(t':TupPre s.heap u l)(hl:k.length=l.length)(hn:k≠l)(h:C (HT.lexLt k l) s):wpAny (model prog w) A (keyLt' (tuples' true) v u) C E s:=by
 obtain⟨a,o,xs,m,vs,rs,rfl,ho,_,hd,hx,hi,_⟩:=t
 obtain⟨a',o',xs',m',vs',rs',rfl,ho',_,hd',hx',hi',_⟩:=t'
 refine kat_lt ho hd ho' hd' ?_
 rw[hx,hx']
 exact a03 0 hi hi' hl hn h
def TPs(h:Heap):List Value→List (List Int)→Prop
 | [],[]=>True
 | v::vs,k::ks=>TupPre h v k∧TPs h vs ks
 | _,_=>False
theorem TPs.keeps{h h':Heap}(kp:∀a o,h.get? a=some o→h'.get? a=some o):∀{vs:List Value} {ks:List (List Int)},TPs h vs ks→TPs h' vs ks
 | [],[],_=>trivial
 | [],_::_,t=>t.elim
 | _::_,[],t=>t.elim
 | v::vs,k::ks,t=>⟨t.1.keeps kp,TPs.keeps kp t.2⟩
theorem TPs.at{h:Heap}:∀{vs:List Value} {ks:List (List Int)} (i:Nat),TPs h vs ks→i<vs.length→TupPre h (vs.getD i Value.none) (ks.getD i [])
 | [],_,i,_,hi=>absurd hi (Nat.not_lt_zero _)
 | _::_,[],_,t,_=>t.elim
 | v::vs,k::ks,0,t,_=>t.1
 | v::vs,k::ks,i+1,t,hi=>TPs.at (vs:=vs) (ks:=ks) i t.2 (by simpa using hi)
end
section
variable {X:Cx}{pins:List (Addr×Obj)}{σ:St}{H:Hp}{s:Shared}{A':Around}{E:Value→Shared→Prop}
theorem FpOk.to{H':Hp}{b:Addr}(f:FpOk X pins H b)(n:H' b=none):FpOk X pins H' b:=⟨n,f.2⟩
end
def TbAt(P:Addr)(q:Str)(H:Hp):Prop:=∃(qs:Array Value) (t:Tok),H P=some (.tbl qs)∧qs[0]? = some (Value.str q t)
theorem TbAt.now{P:Addr}{q:Str}{fs ex:List Addr}{H H':Hp}{h h':Heap}(t:TbAt P q H)(u:Un fs ex H H' h h'):TbAt P q H':=by
 obtain⟨qs,t,e,e2⟩:=t
 obtain⟨more,e3⟩:=u.tbls _ _ e
 refine⟨_,t,e3,?_⟩
 have h0:0<qs.size:=by
  by_cases z:0<qs.size
  ·exact z
  ·rw[Array.getElem?_eq_none (by omega)]at e2;cases e2
 rw[Array.getElem?_append_left h0];exact e2
def TbAll(TB:List (Addr×Str))(H:Hp):Prop:=∀P q,TB.lookup P=some q→TbAt P q H
theorem TbAll.now{TB:List (Addr×Str)}{fs ex:List Addr}{H H':Hp}{h h':Heap}(t:TbAll TB H)(u:Un fs ex H H' h h'):TbAll TB H':=fun P q e=>(t P q e).now u
end L2
namespace HT
open PySem PyProof.Rows
end HT
namespace L2
open PySem PySem.Spec PyProof.Rows
open PySem.W
def Rise(a:Array Nat):Prop:=a.toList.Pairwise (· < ·)
theorem Rise.lt{a:Array Nat}(h:Rise a){i j:Nat}(hij:i<j)(hj:j<a.size):a.getD i 0<a.getD j 0:=by
 have hi:i<a.size:=Nat.lt_trans hij hj
 have:=List.pairwise_iff_getElem.mp h i j (by simpa using hi) (by simpa using hj) hij
 simpa [Array.getD,hi,hj]using this
structure TbR(led:Bool)(t:SetTable):Prop where
 rise:Rise t.place
 dum:t.dummies = #[]
 led:t.led=led
def a9T(e:Int×Value):Int:=match e.2 with
 | .int k _=>k
 | _=>0
def IsI(e:Int×Value):Prop:=∃k t,e=(hashInt k,Value.int k t)
structure SetR(w:World)(h:Heap)(a:Addr)(L:List Int):Prop where
 ex:∃o es ep t,h.get? a=some o∧o.ExactSet∧o.data=.set es ep t∧(∀e∈es.toList,IsI e)∧(es.toList.map a9T).Nodup∧(∀k,k∈es.toList.map a9T↔k∈L)∧es.size<scanBound∧t.fits es.size=true∧TbR (!w.params.followText "set-order") t
section
variable {prog:Program}{w:World}{A:Around}{E:Value→Shared→Prop}{s:Shared}
theorem SetR.frame{h h':Heap}{a:Addr}{L:List Int}(S:SetR w h a L)(e:∀o,h.get? a=some o→h'.get? a=some o):SetR w h' a L:=by
 obtain⟨o,es,ep,t,ho,r⟩:=S.ex
 exact⟨o,es,ep,t,e o ho,r⟩
end
end L2
namespace HT
open PySem PyProof.Rows
inductive IB:List Value→List Value→List Int→List Int→Prop
 | nil:IB [] [] [] []
 | int (a:Int) (t:Tok) (c:Int) (u:Tok) {vs ws:List Value} {ns ms:List Int} (h:IB vs ws ns ms):IB (.int a t::vs) (.int c u::ws) (a::ns) (c::ms)
 | bl (p q:Bool) {vs ws:List Value} {ns ms:List Int} (h:IB vs ws ns ms):IB (.bool p::vs) (.bool q::ws) (b2i p::ns) (b2i q::ms)
theorem IB.len{vs ws:List Value}{ns ms:List Int}(h:IB vs ws ns ms):vs.length=ws.length:=by
 induction h with
 | nil=>rfl
 | int _ _ _ _ _ ih=>simp[ih]
 | bl _ _ _ ih=>simp[ih]
end HT
namespace L2
open PySem PySem.Spec PyProof.Rows
open PySem.W
section
variable {n:Nat}{lt:Nat→Nat→Bool}
def Prx(n:Nat)(p:Array Nat)(m:Nat):Prop:=(∀i,i<m→ga p i<m)∧∀i,m≤i→i<n→ga p i=i
theorem Prx.up{p:Array Nat}{m k:Nat}(h:Prx n p m)(hk:m≤k)(hn:k≤n):Prx n p k:=by
 refine⟨fun i hi=>?_,fun i h1 h2=>h.2 i (by omega) h2⟩
 by_cases z:i<m
 ·have:=h.1 i z;omega
 ·rw[h.2 i (by omega) (by omega)];exact hi
structure DR(n:Nat)(lt:Nat→Nat→Bool)(p:Array Nat)(k:Nat):Prop where
 pre:Prx n p k
 d1:∀i j,i<j→j<k→lt (ga p i) (ga p j)=false
 d2:∀i j,i<j→j<k→lt (ga p j) (ga p i)=false→ga p j<ga p i
structure DG(n:Nat)(lt:Nat→Nat→Bool)(p:Array Nat)(k q:Nat):Prop where
 pre:Prx n p (k-(q+1))
 d1:∀i j,i<j→j<k→lt (ga p i) (ga p j)=false
 d2:∀i j,i<j→j<k-(q+1)→lt (ga p j) (ga p i)=false→ga p j<ga p i
 d3:∀i,i<k-(q+1)→lt (ga p (k-1)) (ga p i)=true
 d4:∀i,k-(q+1)≤i→i<k→lt (ga p (k-1)) (ga p i)=false
theorem DR.snoc{p:Array Nat}{k:Nat}(T:TPre lt)(d:DR n lt p k)(h:∀i,i<k→lt (ga p k) (ga p i)=true)(hk:k<n):DG n lt p (k+1) 0:=by
 have e:k+1-(0+1)=k:=by omega
 refine⟨by rw[e];exact d.pre,fun i j hij hj=>?_,fun i j hij hj=>by rw[e]at hj;exact d.d2 i j hij hj,fun i hi=>by rw[e]at hi;rw[Nat.add_sub_cancel];exact h i hi,fun i h1 h2=>?_⟩
 ·by_cases z:j<k
  ·exact d.d1 i j hij z
  ·have e:j=k:=by omega
   subst e
   exact T.asy _ _ (h i hij)
 ·have e:i=k:=by omega
  subst e
  rw[Nat.add_sub_cancel];exact T.irr _
theorem DG.one{p:Array Nat}{k:Nat}(T:TPre lt)(d:DG n lt p k 0)(hk1:1≤k)(hk:k≤n):DR n lt p k:=by
 refine⟨d.pre.up (by omega) hk,d.d1,fun i j hij hj z=>?_⟩
 by_cases e:j=k-1
 ·subst e
  rw[d.d3 i (by omega)]at z
  cases z
 ·exact d.d2 i j hij (by omega) z
end
theorem SqL.ext{K:W.Frag}{H1 H2:Hp}{a:Addr}{xs:List V}(h:SqL K H1 a xs)(ex:∀a o,H1 a=some o→H2 a=some o):SqL K H2 a xs:=by
 rcases h with(h | ⟨o,h⟩) | h
 ·exact .inl (.inl (ex _ _ h))
 ·exact .inl (.inr ⟨o,ex _ _ h⟩)
 ·exact .inr h
def Srt(lt:Keyed→Keyed→Bool)(l:List Keyed):Prop:=l.Pairwise fun x y=>lt y x=false
section
variable {lt:Keyed→Keyed→Bool}{aL bL o ra rb u:List Keyed}{x y:Keyed}
theorem Srt.drop{l:List Keyed}(h:Srt lt l)(n:Nat):Srt lt (l.drop n):=List.Pairwise.sublist (List.drop_sublist n l) h
end
def SameG(st st':SortSt):Prop:=kindOf st'=kindOf st∧arrOf st'=arrOf st∧pendingOf st'=pendingOf st∧failedOf st'=failedOf st
theorem SameG.refl(st:SortSt):SameG st st:=⟨rfl,rfl,rfl,rfl⟩
theorem SameG.trans{a b c:SortSt}(h:SameG a b)(g:SameG b c):SameG a c:=⟨g.1.trans h.1,g.2.1.trans h.2.1,g.2.2.1.trans h.2.2.1,g.2.2.2.trans h.2.2.2⟩
section
variable {lt:Keyed→Keyed→Bool}{aL bL o ra rb u:List Keyed}{x y:Keyed}
theorem Srt.left{l m:List Keyed}(h:Srt lt (l++m)):Srt lt l:=(List.pairwise_append.mp h).1
end
section
variable {lt:Keyed→Keyed→Bool}{Dm:Keyed→Prop}{a b out:Array Keyed}{na nb:Nat}{x y:Keyed}
theorem Srt.take{l:List Keyed}(h:Srt lt l)(n:Nat):Srt lt (l.take n):=List.Pairwise.sublist (List.take_sublist n l) h
end
section
variable {prog:Program}{w:World}{A:Around}{E:Value→Shared→Prop}{s:Shared}{κ:SortKind}{lt:Keyed→Keyed→Bool}{Dm:Keyed→Prop}{st:SortSt}
theorem Srt.right{l m:List Keyed}(h:Srt lt (l++m)):Srt lt m:=(List.pairwise_append.mp h).2.1
end
def gk(p:Array Keyed)(k:Nat):Keyed:=p.getD k (Value.none,Value.none)
structure Rst(a0:Array Keyed)(lo hi:Nat)(a:Array Keyed):Prop where
 pm:a.Perm a0
 out:∀x,(x<lo∨hi≤x)→gk a x=gk a0 x
theorem Rst.refl(a:Array Keyed)(lo hi:Nat):Rst a lo hi a:=⟨.refl _,fun _ _=>rfl⟩
theorem Rst.size{a0 a:Array Keyed}{lo hi:Nat}(h:Rst a0 lo hi a):a.size=a0.size:=h.pm.size_eq
def PRun(lt:Keyed→Keyed→Bool):List (Nat×Nat×Nat)→List (List Keyed)→Nat→Prop
 | [],[],_=>True
 | p::ps,S::ss,o=>p.1=o∧p.2.1=S.length∧1≤S.length∧Srt lt S∧PRun lt ps ss (o+S.length)
 | _,_,_=>False
section
variable {lt:Keyed→Keyed→Bool}
theorem PRun.len:∀{pl:List (Nat×Nat×Nat)} {segs:List (List Keyed)} {o:Nat},PRun lt pl segs o→pl.length=segs.length∧pl.length≤segs.flatten.length
 | [],[],_,_=>⟨rfl,Nat.le_refl _⟩
 | p::ps,S::ss,o,h=>by
  obtain⟨_,_,h1,_,h2⟩:=h
  have:=PRun.len h2
  simp only[List.length_cons,List.flatten_cons,List.length_append]
  omega
 | [],_::_,_,h=>h.elim
 | _::_,[],_,h=>h.elim
theorem PRun.snoc:∀{pl:List (Nat×Nat×Nat)} {segs:List (List Keyed)} {o:Nat} {c:Nat×Nat×Nat} {S:List Keyed},PRun lt pl segs o→c.1=o+segs.flatten.length→c.2.1=S.length→1≤S.length→Srt lt S→PRun lt (pl++[c]) (segs++[S]) o
 | [],[],o,c,S,_,h1,h2,h3,h4=>⟨by simpa using h1,h2,h3,h4,trivial⟩
 | p::ps,U::ss,o,c,S,h,h1,h2,h3,h4=>by
  obtain⟨a1,a2,a3,a4,a5⟩:=h
  refine⟨a1,a2,a3,a4,PRun.snoc a5 ?_ h2 h3 h4⟩
  rw[h1];simp only[List.flatten_cons,List.length_append];omega
 | [],_::_,_,_,_,h,_,_,_,_=>h.elim
 | _::_,[],_,_,_,h,_,_,_,_=>h.elim
theorem PRun.split:∀{pl:List (Nat×Nat×Nat)} {segs:List (List Keyed)} {o i:Nat},PRun lt pl segs o→i+1<pl.length→∃p1 a b p2 s1 U V s2,pl=p1++a::b::p2∧p1.length=i∧segs=s1++U::V::s2∧a.1=o+s1.flatten.length∧a.2.1=U.length∧b.1=a.1+U.length∧b.2.1=V.length∧1≤U.length∧1≤V.length∧Srt lt U∧Srt lt V ∧
  ∀(W:List Keyed) (c:Nat×Nat×Nat),W.length=U.length+V.length→Srt lt W→c.1=a.1→c.2.1=W.length→PRun lt (p1++c::p2) (s1++W::s2) o
 | p::q::ps,S::S'::ss,o,0,h,_=>by
  obtain⟨a1,a2,a3,a4,b1,b2,b3,b4,b5⟩:=h
  refine⟨[],p,q,ps,[],S,S',ss,rfl,rfl,rfl,by simpa using a1,a2,by omega,b2,a3,b3,a4,b4,fun W c hW hs h1 h2=>⟨by rw[h1];exact a1,h2,by omega,hs,?_⟩⟩
  rw[hW,← Nat.add_assoc]
  exact b5
 | p::ps,S::ss,o,i+1,h,hi=>by
  obtain⟨a1,a2,a3,a4,a5⟩:=h
  obtain⟨p1,a,b,p2,s1,U,V,s2,e1,e2,e3,e4,e5,e6,e7,e8,e9,e10,e11,e12⟩:=PRun.split a5 (i:=i) (by rw[List.length_cons]at hi;omega)
  refine⟨p::p1,a,b,p2,S::s1,U,V,s2,by rw[e1];rfl,by rw[List.length_cons,e2],by rw[e3];rfl,by rw[e4];simp only[List.flatten_cons,List.length_append];omega,e5,e6,e7,e8,e9,e10,e11,fun W c hW hs h1 h2=>⟨a1,a2,a3,a4,e12 W c hW hs h1 h2⟩⟩
 | [p],[S],o,0,h,hi=>by simp at hi
 | [p],S::S'::ss,o,0,h,hi=>by simp at hi
 | p::q::ps,[S],o,0,h,_=>by obtain⟨_,_,_,_,h⟩:=h;exact h.elim
 | [],[],_,_,_,hi=>by simp at hi
 | [],_::_,_,_,h,_=>h.elim
 | _::_,[],_,_,h,_=>h.elim
end
structure SI(lt:Keyed→Keyed→Bool)(st0 st:SortSt)(lo:Nat)(x4:List Keyed):Prop where
 k:kindOf st=kindOf st0
 f:failedOf st=none
 pm:(arrOf st).Perm (arrOf st0)
 run:∃segs,(arrOf st).toList=segs.flatten++x4∧segs.flatten.length=lo∧PRun lt (pendingOf st).toList segs 0
section
variable {prog:Program}{w:World}{A:Around}{E:Value→Shared→Prop}{s:Shared}{κ:SortKind}{lt:Keyed→Keyed→Bool}{Dm:Keyed→Prop}{st0 st:SortSt}{lo n:Nat}{x4:List Keyed}
theorem SI.push{S:List Keyed}{pw:Nat}(I:SI lt st0 st lo (S++x4))(hn:S.length=n)(h1:1≤n)(hs:Srt lt S):SI lt st0 (setPending st ((pendingOf st).push (lo,n,pw))) (lo+n) x4:=by
 obtain⟨segs,e1,e2,pr⟩:=I.run
 refine⟨I.k,I.f,I.pm,segs++[S],by show(arrOf st).toList=_;rw[e1];simp,by simp only[List.flatten_append,List.flatten_cons,List.flatten_nil,List.length_append,List.length_nil];omega,?_⟩
 show PRun lt ((pendingOf st).push (lo,n,pw)).toList _ 0
 rw[Array.toList_push]
 exact pr.snoc (by show lo=_;omega) (by show n=_;omega) (by omega) hs
end
section
variable {κ:Type} [DecidableEq κ]
def O6(kvs:List (κ×V))(k:κ):Option V:=(kvs.find? fun kv=>decide (kv.1=k)).map (·.2)
def Z2(kvs:List (κ×V))(k:κ)(v:V):List (κ×V) :=
 if(kvs.any fun kv=>decide (kv.1=k))=true then kvs.map (fun kv=>if kv.1=k then(kv.1,v)else kv)else kvs++[(k,v)]
def a7r(kvs:List (κ×V))(k:κ):List (κ×V):=kvs.filter fun kv=>decide (kv.1≠k)
theorem a0D{p:κ×V}{r:List (κ×V)}{k:κ}(e:p.1=k):O6 (p::r) k=some p.2:=by simp[O6,List.find?_cons,e]
theorem a0E{p:κ×V}{r:List (κ×V)}{k:κ}(e:¬p.1=k):O6 (p::r) k=O6 r k:=by simp[O6,List.find?_cons,e]
theorem a2N(k:κ):∀kvs:List (κ×V),(kvs.any fun kv=>decide (kv.1=k))=(O6 kvs k).isSome
 | []=>rfl
 | p::r=>by
  rw[List.any_cons]
  by_cases e:p.1=k
  ·simp only[a0D e,decide_eq_true e,Bool.true_or,Option.isSome_some]
  ·rw[a0E e,decide_eq_false e,Bool.false_or];exact a2N k r
theorem RelO.isSome_eq{o:Option V}{u:Option Value}(r:RelO o u):o.isSome=u.isSome:=by
 cases o with
 | none=>cases u with
  | none=>rfl
  | some _=>exact(show False from r).elim
 | some _=>cases u with
  | none=>exact(show False from r).elim
  | some _=>rfl
theorem RelO.getD{o:Option V}{u:Option Value}{d:V}{d':Value}(r:RelO o u)(rd:RelV d d'):RelV (o.getD d) (u.getD d'):=by
 cases o with
 | none=>cases u with
  | none=>exact rd
  | some _=>exact(show False from r).elim
 | some _=>cases u with
  | none=>exact(show False from r).elim
  | some _=>exact r
theorem KV.val{kvs:List (κ×V)}{vs:List (κ×Value)}(r:KV kvs vs)(k:κ):RelO (O6 kvs k) (valueAt vs k):=by
 unfold KV at r
 induction r with
 | nil=>exact True.intro
 | @cons p q ps qs h t ih =>
  obtain⟨h1,h2⟩:=h
  by_cases e:p.1=k
  ·have e':q.1=k:=h1.symm.trans e
   have b:valueAt (q::qs) k=some q.2:=by simp[valueAt,List.find?_cons,e']
   rw[a0D e,b];exact h2
  ·have e':¬q.1=k:=fun z=>e (h1.trans z)
   have b:valueAt (q::qs) k=valueAt qs k:=by simp[valueAt,List.find?_cons,e']
   rw[a0E e,b];exact ih
theorem KV.any{kvs:List (κ×V)}{vs:List (κ×Value)}(r:KV kvs vs)(k:κ):(kvs.any fun kv=>decide (kv.1=k))=vs.any fun kv=>decide (kv.1=k):=by
 unfold KV at r
 induction r with
 | nil=>rfl
 | cons h t ih=>rw[List.any_cons,List.any_cons,ih,h.1]
theorem KV.repl{kvs:List (κ×V)}{vs:List (κ×Value)}(r:KV kvs vs)(k:κ){y:V}{u:Value}(ry:RelV y u) :
  KV (kvs.map fun kv=>if kv.1=k then(kv.1,y)else kv) (vs.map fun kv=>if kv.1=k then(kv.1,u)else kv):=by
 unfold KV at r ⊢
 induction r with
 | nil=>exact .nil
 | @cons p q ps qs h t ih =>
  rw[List.map_cons,List.map_cons]
  refine .cons ?_ ih
  obtain⟨h1,h2⟩:=h
  by_cases e:p.1=k
  ·rw[if_pos e,if_pos (h1.symm.trans e)];exact⟨h1,ry⟩
  ·rw[if_neg e,if_neg (fun z=>e (h1.trans z))];exact⟨h1,h2⟩
theorem KV.put{kvs:List (κ×V)}{vs:List (κ×Value)}(r:KV kvs vs)(k:κ){y:V}{u:Value}(ry:RelV y u):KV (Z2 kvs k y) (stored vs k u):=by
 unfold Z2 stored
 rw[r.any k]
 by_cases e:(vs.any fun kv=>decide (kv.1=k))=true
 ·rw[if_pos e,if_pos e];exact r.repl k ry
 ·rw[if_neg e,if_neg e];exact Paired.snoc r ⟨rfl,ry⟩
theorem KV.drop{kvs:List (κ×V)}{vs:List (κ×Value)}(r:KV kvs vs)(k:κ):KV (a7r kvs k) (without vs k):=by
 unfold KV at r ⊢
 unfold a7r without
 induction r with
 | nil=>exact .nil
 | @cons p q ps qs h t ih =>
  obtain⟨h1,h2⟩:=h
  rw[List.filter_cons,List.filter_cons]
  by_cases e:p.1=k
  ·have a:¬decide (p.1≠k)=true:=by simp[e]
   have b:¬decide (q.1≠k)=true:=by simp[h1.symm.trans e]
   rw[if_neg a,if_neg b];exact ih
  ·have e':¬q.1=k:=fun z=>e (h1.trans z)
   have a:decide (p.1≠k)=true:=by simp[e]
   have b:decide (q.1≠k)=true:=by simp[e']
   rw[if_pos a,if_pos b];exact .cons ⟨h1,h2⟩ ih
theorem KV.keys{kvs:List (κ×V)}{vs:List (κ×Value)}(r:KV kvs vs):kvs.map (·.1)=vs.map (·.1):=by
 unfold KV at r
 induction r with
 | nil=>rfl
 | cons h t ih=>rw[List.map_cons,List.map_cons,ih,h.1]
theorem KV.length{kvs:List (κ×V)}{vs:List (κ×Value)}(r:KV kvs vs):kvs.length=vs.length:=Paired.length r
end
abbrev KT(H:Hp):List (List t6×V)→List (List t6×Addr×Value)→Prop:=Paired fun p q=>p.1=q.1∧H q.2.1=some (.tup (p.1.map kV))∧RelV p.2 q.2.2
theorem KT.val{H:Hp}{kvs:List (List t6×V)}{xs:List (List t6×Addr×Value)}(r:KT H kvs xs)(k:List t6):RelO (O6 kvs k) ((atKey xs k).map (·.2)):=by
 induction r with
 | nil=>exact True.intro
 | @cons p q ps qs h t ih =>
  obtain⟨h1,_,h2⟩:=h
  by_cases e:p.1=k
  ·have e':q.1=k:=h1.symm.trans e
   have b:atKey (q::qs) k=some q.2:=by simp[atKey,List.find?_cons,e']
   rw[a0D e,b];exact h2
  ·have e':¬q.1=k:=fun z=>e (h1.trans z)
   have b:atKey (q::qs) k=atKey qs k:=by simp[atKey,List.find?_cons,e']
   rw[a0E e,b];exact ih
theorem KT.repl{H:Hp}{kvs:List (List t6×V)}{xs:List (List t6×Addr×Value)}(r:KT H kvs xs)(k:List t6){y:V}{u:Value}(ry:RelV y u) :
  KT H (kvs.map fun kv=>if kv.1=k then(kv.1,y)else kv) (xs.map (putAt k u)):=by
 induction r with
 | nil=>exact .nil
 | @cons p q ps qs h t ih =>
  rw[List.map_cons,List.map_cons]
  refine .cons ?_ ih
  obtain⟨h1,h2,h3⟩:=h
  unfold putAt
  by_cases e:p.1=k
  ·rw[if_pos e,if_pos (h1.symm.trans e)];exact⟨h1,h2,ry⟩
  ·rw[if_neg e,if_neg (fun z=>e (h1.trans z))];exact⟨h1,h2,h3⟩
theorem KT.put{H:Hp}{kvs:List (List t6×V)}{xs:List (List t6×Addr×Value)}(r:KT H kvs xs)(k:List t6){b:Addr}{y:V}{u:Value}(hb:H b=some (.tup (k.map kV)))(ry:RelV y u) :
  KT H (Z2 kvs k y) (storedH xs k b u):=by
 have e:(kvs.any fun kv=>decide (kv.1=k))=(atKey xs k).isSome:=by
  rw[a2N,(r.val k).isSome_eq,Option.isSome_map]
 unfold Z2 storedH
 rw[e]
 by_cases q:(atKey xs k).isSome=true
 ·rw[if_pos q,if_pos q];exact r.repl k ry
 ·rw[if_neg q,if_neg q];exact Paired.snoc r ⟨rfl,hb,ry⟩
theorem KT.keeps{H H':Hp}{kvs:List (List t6×V)}{xs:List (List t6×Addr×Value)}(r:KT H kvs xs)(ht:∀b ys,H b=some (.tup ys)→H' b=some (.tup ys)):KT H' kvs xs :=
 Paired.mapP r fun _ _ z=>⟨z.1,ht _ _ z.2.1,z.2.2⟩
def DGet(H:Hp)(a:Addr)(y:V)(r:Option V):Prop :=
 (∃kvs k,Rd H a (.dK kvs)∧y=kV k∧r=O6 kvs k)∨∃kvs k b,Rd H a (.dT kvs)∧y=.ref b∧H b=some (.tup (k.map kV))∧r=O6 kvs k
def DPut(H:Hp)(a:Addr)(y v:V)(H':Hp):Prop :=
 (∃kvs k,H a=some (.dK kvs)∧y=kV k∧kvs.length<sizeLine∧H'=upd H a (.dK (Z2 kvs k v))) ∨
 ∃kvs k b,H a=some (.dT kvs)∧y=.ref b∧H b=some (.tup (k.map kV))∧kvs.length<sizeLine∧H'=upd H a (.dT (Z2 kvs k v))
theorem DGet.k{H:Hp}{a:Addr}{kvs:List (t6×V)}{k:t6}(e:H a=some (.dK kvs)):DGet H a (kV k) (O6 kvs k):=.inl ⟨kvs,k,.inl e,rfl,rfl⟩
theorem DGet.t{H:Hp}{a b:Addr}{kvs:List (List t6×V)}{k:List t6}(e:H a=some (.dT kvs))(eb:H b=some (.tup (k.map kV))):DGet H a (.ref b) (O6 kvs k):=.inr ⟨kvs,k,b,.inl e,rfl,eb,rfl⟩
theorem DPut.k{H:Hp}{a:Addr}{kvs:List (t6×V)}{k:t6}{v:V}(e:H a=some (.dK kvs))(hl:kvs.length<sizeLine):DPut H a (kV k) v (upd H a (.dK (Z2 kvs k v))):=.inl ⟨kvs,k,e,rfl,hl,rfl⟩
theorem DPut.t{H:Hp}{a b:Addr}{kvs:List (List t6×V)}{k:List t6}{v:V}(e:H a=some (.dT kvs))(eb:H b=some (.tup (k.map kV)))(hl:kvs.length<sizeLine) :
  DPut H a (.ref b) v (upd H a (.dT (Z2 kvs k v))):=.inr ⟨kvs,k,b,e,rfl,eb,hl,rfl⟩
end L2
namespace PySem.W
open PySem PySem.Spec PySem.Calls PyProof.Rows
end PySem.W
namespace PySem.W
open PySem PySem.Spec PySem.Calls PyProof.Rows
end PySem.W
namespace L2
open PySem PySem.Spec PyProof.Rows
end L2
namespace PySem.W
open PySem PySem.Spec PySem.Calls PyProof.Rows
end PySem.W
namespace L2
open PySem PySem.Spec PyProof.Rows
open PySem.W
abbrev DK:=Sum (List t6) (List (List t6))
def dkO(ks:DK)(xs:List V):HO:=match ks with
 | .inl ks=>.dK (ks.zip xs)
 | .inr ks=>.dT (ks.zip xs)
def dkN:DK→Nat
 | .inl ks=>ks.length
 | .inr ks=>ks.length
theorem a3O{ks:DK}{xs ys:List V}:dkO ks xs≠.lst ys:=by cases ks<;>exact fun z=>nomatch z
inductive D where
 | non | bl (b:Bool) | int (i:Int) | str (x:Str) | ty (n:String) | cls (n:Str) | tup (ds:List D) | lst (ds:List D) | scr (ns:List Int) | exc (c:Str) | obj (c:Str) (ns:List Str) (ds:List D) | dic (ks:DK) (ds:List D) | exv (c f:Str) (d:D)
mutual
def Rp(K:W.Frag)(cl:Str→Addr)(F:Hp):D→V→Prop
 | .non,v=>v=.non
 | .bl b,v=>v=.bl b
 | .int i,v=>v=.int i
 | .str x,v=>v=.str x
 | .ty n,v=>v=.ty n
 | .cls n,v=>v=.ref (cl n)
 | .tup ds,v=>∃a xs,v=.ref a∧F a=some (.tup xs)∧Rps K cl F ds xs
 | .lst ds,v=>∃a xs,v=.ref a∧F a=some (.lst xs)∧Rps K cl F ds xs
 | .scr ns,v=>∃a,v=.ref a∧Scr K F a (ns.map V.int)
 | .exc c,v=>∃a cx,v=.ref a∧F a=some (a0C a (.ref (cl c)) cx)
 | .obj c ns ds,v=>∃a dx xs,v=.ref a∧F a=some (.ins (cl c) dx (ns.zip xs))∧ns.length=xs.length∧Rps K cl F ds xs
 | .dic ks ds,v=>∃a xs,v=.ref a∧F a=some (dkO ks xs)∧dkN ks=xs.length∧Rps K cl F ds xs
 | .exv c f d,v=>∃a dx y,v=.ref a∧F a=some (a0C a (.ref (cl c)) (some (2*dx+1)))∧F dx=some (.xd [(f,y)])∧Rp K cl F d y
def Rps(K:W.Frag)(cl:Str→Addr)(F:Hp):List D→List V→Prop
 | [],vs=>vs=[]
 | d::ds,vs=>∃v r,vs=v::r∧Rp K cl F d v∧Rps K cl F ds r
end
section
variable {K:W.Frag}{cl:Str→Addr}{F F' H H':Hp}
mutual
theorem Rp.mono(g:Same F F'):∀(d:D) (v:V),Rp K cl F d v→Rp K cl F' d v
 | .non,_,h=>by simpa only[Rp]using h
 | .bl _,_,h=>by simpa only[Rp]using h
 | .int _,_,h=>by simpa only[Rp]using h
 | .str _,_,h=>by simpa only[Rp]using h
 | .ty _,_,h=>by simpa only[Rp]using h
 | .cls _,_,h=>by simpa only[Rp]using h
 | .tup ds,v,h=>by
  simp only[Rp]at h ⊢
  obtain⟨a,xs,e,h1,h2⟩:=h
  exact⟨a,xs,e,g _ _ h1,Rps.mono g ds xs h2⟩
 | .lst ds,v,h=>by
  simp only[Rp]at h ⊢
  obtain⟨a,xs,e,h1,h2⟩:=h
  exact⟨a,xs,e,g _ _ h1,Rps.mono g ds xs h2⟩
 | .scr ns,v,h=>by
  simp only[Rp]at h ⊢
  obtain⟨a,e,h1⟩:=h
  exact⟨a,e,h1.same g⟩
 | .exc c,v,h=>by
  simp only[Rp]at h ⊢
  obtain⟨a,cx,e,h1⟩:=h
  exact⟨a,cx,e,g _ _ h1⟩
 | .obj c ns ds,v,h=>by
  simp only[Rp]at h ⊢
  obtain⟨a,dx,xs,e,h1,hl,h2⟩:=h
  exact⟨a,dx,xs,e,g _ _ h1,hl,Rps.mono g ds xs h2⟩
 | .dic ks ds,v,h=>by
  simp only[Rp]at h ⊢
  obtain⟨a,xs,e,h1,hl,h2⟩:=h
  exact⟨a,xs,e,g _ _ h1,hl,Rps.mono g ds xs h2⟩
 | .exv c f d,v,h=>by
  simp only[Rp]at h ⊢
  obtain⟨a,dx,y,e,h1,h2,h3⟩:=h
  exact⟨a,dx,y,e,g _ _ h1,g _ _ h2,Rp.mono g d y h3⟩
theorem Rps.mono(g:Same F F'):∀(ds:List D) (vs:List V),Rps K cl F ds vs→Rps K cl F' ds vs
 | [],_,h=>by simpa only[Rps]using h
 | d::ds,vs,h=>by
  simp only[Rps]at h ⊢
  obtain⟨v,r,e,h1,h2⟩:=h
  exact⟨v,r,e,Rp.mono g d v h1,Rps.mono g ds r h2⟩
end
theorem Rps.nil:Rps K cl F [] []:=by simp only[Rps]
theorem Rps.cons{d:D}{v:V}{ds:List D}{vs:List V}(h:Rp K cl F d v)(t:Rps K cl F ds vs):Rps K cl F (d::ds) (v::vs):=by simp only[Rps];exact⟨v,vs,rfl,h,t⟩
theorem Rps.inv{d:D}{ds:List D}{vs:List V}(h:Rps K cl F (d::ds) vs):∃v r,vs=v::r∧Rp K cl F d v∧Rps K cl F ds r:=by simpa only[Rps]using h
theorem Rps.inv0{vs:List V}(h:Rps K cl F [] vs):vs=[]:=by simpa only[Rps]using h
theorem Rps.length:∀{ds:List D} {vs:List V},Rps K cl F ds vs→ds.length=vs.length
 | [],vs,h=>by rw[h.inv0];rfl
 | d::ds,vs,h=>by obtain⟨v,r,rfl,_,t⟩:=h.inv;simp[t.length]
theorem Rps.get:∀{ds:List D} {vs:List V} {i:Nat} {d:D},Rps K cl F ds vs→ds[i]? = some d→∃v,vs[i]? = some v∧Rp K cl F d v
 | [],_,_,_,_,e=>by simp at e
 | d::ds,vs,0,x,h,e=>by
  obtain⟨v,r,rfl,h1,_⟩:=h.inv
  simp at e;subst e
  exact⟨v,rfl,h1⟩
 | d::ds,vs,i+1,x,h,e=>by
  obtain⟨v,r,rfl,_,t⟩:=h.inv
  obtain⟨u,h1,h2⟩:=t.get (i:=i) (d:=x) (by simpa using e)
  exact⟨u,by simpa using h1,h2⟩
theorem Rps.get'{ds:List D}{vs:List V}{i:Nat}{v:V}(h:Rps K cl F ds vs)(e:vs[i]? = some v):∃d,ds[i]? = some d∧Rp K cl F d v:=by
 have hi:i<ds.length:=by
  have:=(List.getElem?_eq_some_iff.mp e).1
  rw[h.length];exact this
 obtain⟨u,h1,h2⟩:=h.get (List.getElem?_eq_getElem hi)
 rw[e]at h1;cases h1
 exact⟨_,List.getElem?_eq_getElem hi,h2⟩
theorem Rps.append:∀{ds es:List D} {vs us:List V},Rps K cl F ds vs→Rps K cl F es us→Rps K cl F (ds++es) (vs++us)
 | [],_,_,_,h,t=>by rw[h.inv0];exact t
 | d::ds,_,_,_,h,t=>by obtain⟨v,r,rfl,h1,h2⟩:=h.inv;exact .cons h1 (h2.append t)
theorem Rps.one{d:D}{v:V}(h:Rp K cl F d v):Rps K cl F [d] [v]:=.cons h .nil
theorem Rps.set{d:D}{v:V}(r:Rp K cl F d v):∀{ds:List D} {vs:List V} (i:Nat),Rps K cl F ds vs→Rps K cl F (ds.set i d) (vs.set i v)
 | [],_,_,h=>by rw[h.inv0];exact .nil
 | _::_,_,0,h=>by obtain⟨_,_,rfl,_,h2⟩:=h.inv;exact .cons r h2
 | _::_,_,i+1,h=>by obtain⟨_,_,rfl,h1,h2⟩:=h.inv;exact .cons h1 (h2.set r i)
theorem Rps.drop:∀{ds:List D} {vs:List V} (n:Nat),Rps K cl F ds vs→Rps K cl F (ds.drop n) (vs.drop n)
 | _,_,0,h=>h
 | [],_,_+1,h=>by rw[h.inv0];exact .nil
 | _::_,_,n+1,h=>by obtain⟨_,_,rfl,_,h2⟩:=h.inv;exact h2.drop n
theorem Rps.take:∀{ds:List D} {vs:List V} (n:Nat),Rps K cl F ds vs→Rps K cl F (ds.take n) (vs.take n)
 | _,_,0,h=>.nil
 | [],_,_+1,h=>by rw[h.inv0];exact .nil
 | _::_,_,n+1,h=>by obtain⟨_,_,rfl,h1,h2⟩:=h.inv;exact .cons h1 (h2.take n)
theorem Rps.ints:∀{ns:List Int} {vs:List V},Rps K cl F (ns.map D.int) vs→vs=ns.map V.int
 | [],_,h=>h.inv0
 | n::ns,_,h=>by
  obtain⟨v,r,rfl,h1,h2⟩:=h.inv
  rw[h2.ints]
  simp only[Rp]at h1
  rw[h1];rfl
theorem Rps.ofInts:∀{ns:List Int},Rps K cl F (ns.map D.int) (ns.map V.int)
 | []=>.nil
 | _::_=>.cons (by simp only[Rp]) Rps.ofInts
theorem Rps.strs:∀{bs:List Str} {vs:List V},Rps K cl F (bs.map D.str) vs→vs=bs.map V.str
 | [],_,h=>h.inv0
 | n::ns,_,h=>by
  obtain⟨v,r,rfl,h1,h2⟩:=h.inv
  rw[h2.strs]
  simp only[Rp]at h1
  rw[h1];rfl
end
inductive Sl where | no | fz (d:D) | ow (ds:List D) | hd (ds:List D) | od (ks:DK) (ds:List D) | hk (ks:DK) (ds:List D)
abbrev DE:=List Sl
def Mu(env:DE)(i:Nat):Prop:=∃ds:List D,env[i]? = some (.ow ds)∨env[i]? = some (.hd ds)
def isO:Sl→Prop
 | .ow _=>True
 | .od _ _=>True
 | _=>False
def K6:Sl→DK→List D→Prop
 | .od ks ds,ks',ds'=>ks=ks'∧ds=ds'
 | .hk ks ds,ks',ds'=>ks=ks'∧ds=ds'
 | _,_,_=>False
def Ow(σ:St)(env:DE)(a:Addr):Prop:=∃(i:Nat) (s:Sl),isO s∧env[i]? = some s∧σ[i]? = some (some (V.ref a))
structure RelOd(K:W.Frag)(cl:Str→Addr)(σ:St)(H F:Hp)(env:DE):Prop where
 at_:∀(i:Nat) (s:Sl) (ks:DK) (ds:List D),env[i]? = some s→K6 s ks ds→∃a xs,σ[i]? = some (some (.ref a))∧H a=some (dkO ks xs)∧F a=none∧dkN ks=xs.length∧Rps K cl F ds xs
 inj:∀(i j:Nat) (s t:Sl) (ks ls:DK) (ds es:List D) (a:Addr),env[i]? = some s→K6 s ks ds→env[j]? = some t→K6 t ls es→σ[i]? = some (some (.ref a))→σ[j]? = some (some (.ref a))→i=j
structure Rel(K:W.Frag)(cl:Str→Addr)(σ:St)(H F:Hp)(env:DE):Prop where
 sub:Same F H
 len:σ.length=env.length
 fz:∀(i:Nat) (d:D),env[i]? = some (.fz d)→∃v,σ[i]? = some (some v)∧Rp K cl F d v
 mu:∀(i:Nat) (ds:List D),(env[i]? = some (.ow ds)∨env[i]? = some (.hd ds))→∃a xs,σ[i]? = some (some (.ref a))∧H a=some (.lst xs)∧F a=none∧Rps K cl F ds xs
 inj:∀(i j:Nat) (a:Addr),Mu env i→Mu env j→σ[i]? = some (some (.ref a))→σ[j]? = some (some (.ref a))→i=j
 od:RelOd K cl σ H F env
structure Frm(σ:St)(H F:Hp)(env:DE)(σ':St)(H' F':Hp)(env':DE):Prop where
 fz:Same F F'
 hid:∀a o,H a=some o→F a=none→¬Ow σ env a→H' a=some o∧F' a=none∧¬Ow σ' env' a
 keep:∀(i:Nat) (ds:List D),env[i]? = some (.hd ds)→env'[i]? = some (.hd ds)∧σ'[i]? = σ[i]?
 dom:∀a,H' a=none→H a=none
structure Gr(H F H' F':Hp):Prop where
 fz:Same F F'
 sub:Same F' H'
 hid:∀a o,H a=some o→F a=none→H' a=some o∧F' a=none
section
variable {K:W.Frag}{cl:Str→Addr}{σ σ' σ'':St}{H H' H'' F F' F'':Hp}{env env' env'':DE}
theorem RelOd.to(R:RelOd K cl σ H F env)(he:∀(i:Nat) (s:Sl) (ks:DK) (ds:List D),env'[i]? = some s→K6 s ks ds→∃t,env[i]? = some t∧K6 t ks ds∧σ'[i]? = σ[i]?)
  (hh:∀(i:Nat) (a:Addr) (ks:DK) (xs:List V),σ[i]? = some (some (.ref a))→H a=some (dkO ks xs)→F a=none→H' a=some (dkO ks xs)∧F' a=none) (sF:Same F F'):RelOd K cl σ' H' F' env' :=
 ⟨fun i s ks ds h d=>by
  obtain⟨t,h1,d1,e1⟩:=he i s ks ds h d
  obtain⟨a,xs,e,hH,hF,hn,r⟩:=R.at_ i t ks ds h1 d1
  obtain⟨h2,f2⟩:=hh i a ks xs e hH hF
  exact⟨a,xs,by rw[e1];exact e,h2,f2,hn,r.mono sF⟩,
  fun i j s t ks ls ds es a hi di hj dj ei ej=>by
  obtain⟨s1,h1,d1,e1⟩:=he i s ks ds hi di
  obtain⟨t1,h2,d2,e2⟩:=he j t ls es hj dj
  exact R.inj i j s1 t1 ks ls ds es a h1 d1 h2 d2 (by rw[← e1];exact ei) (by rw[← e2];exact ej)⟩
theorem RelOd.gr(R:RelOd K cl σ H F env)(g:Gr H F H' F'):RelOd K cl σ H' F' env:=R.to (fun i s ks ds h d=>⟨s,h,d,rfl⟩) (fun _ a ks xs _ h f=>g.hid a _ h f) g.fz
theorem RelOd.set{i:Nat}{s:Sl}{v:Option V}(R:RelOd K cl σ H F env)(n:∀ks ds,¬K6 s ks ds):RelOd K cl (σ.set i v) H F (env.set i s) :=
 R.to (fun j t ks ds h d=>by
  by_cases z:j=i
  ·subst z
   have hj:j<env.length:=by have:=(List.getElem?_eq_some_iff.mp h).1;rwa [List.length_set]at this
   rw[List.getElem?_set_self hj]at h;cases h;exact absurd d (n ks ds)
  ·rw[List.getElem?_set_ne (Ne.symm z)]at h
   exact⟨t,h,d,List.getElem?_set_ne (Ne.symm z)⟩) (fun _ a ks xs _ h f=>⟨h,f⟩) (Same.refl _)
theorem RelOd.setE{i:Nat}{s:Sl}(R:RelOd K cl σ H F env)(n:∀ks ds,¬K6 s ks ds):RelOd K cl σ H F (env.set i s) :=
 R.to (fun j t ks ds h d=>by
  by_cases z:j=i
  ·subst z
   have hj:j<env.length:=by have:=(List.getElem?_eq_some_iff.mp h).1;rwa [List.length_set]at this
   rw[List.getElem?_set_self hj]at h;cases h;exact absurd d (n ks ds)
  ·rw[List.getElem?_set_ne (Ne.symm z)]at h
   exact⟨t,h,d,rfl⟩) (fun _ a ks xs _ h f=>⟨h,f⟩) (Same.refl _)
theorem RelOd.lst(R:RelOd K cl σ H F env)(hh:∀(a:Addr) (o:HO),(∀xs,o≠.lst xs)→H a=some o→F a=none→H' a=some o∧F' a=none)(sF:Same F F'):RelOd K cl σ H' F' env :=
 R.to (fun i s ks ds h d=>⟨s,h,d,rfl⟩) (fun _ a ks xs _ h f=>hh a _ (fun _=>a3O) h f) sF
theorem RelOd.own(R:RelOd K cl σ H F env)(hh:∀(i:Nat) (s:Sl) (ks:DK) (ds:List D) (a:Addr) (xs:List V),env[i]? = some s→K6 s ks ds→σ[i]? = some (some (.ref a))→H a=some (dkO ks xs)→F a=none→H' a=some (dkO ks xs)∧F' a=none)(sF:Same F F'):RelOd K cl σ H' F' env :=
 ⟨fun i s ks ds h d=>by
  obtain⟨a,xs,e,hH,hF,hn,r⟩:=R.at_ i s ks ds h d
  obtain⟨h2,f2⟩:=hh i s ks ds a xs h d e hH hF
  exact⟨a,xs,e,h2,f2,hn,r.mono sF⟩,R.inj⟩
theorem RelOd.frzL{a:Addr}{xs:List V}{o:HO}(R:RelOd K cl σ H F env)(hH:H a=some (.lst xs))(hF:F a=none):RelOd K cl σ H (upd F a o) env :=
 R.lst (fun c u n h f=>⟨h,by rw[c8 (fun z=>by rw[z,hH]at h;exact n xs (Option.some.inj h).symm)];exact f⟩) (M5 hF _)
theorem RelOd.updL{a:Addr}{xs:List V}{o:HO}(R:RelOd K cl σ H F env)(hH:H a=some (.lst xs)):RelOd K cl σ (upd H a o) F env :=
 R.lst (fun c u n h f=>⟨by rw[c8 (fun z=>by rw[z,hH]at h;exact n xs (Option.some.inj h).symm)];exact h,f⟩) (Same.refl _)
theorem RelOd.newO{a:Addr}{o:HO}(R:RelOd K cl σ H F env)(hH:H a=none):RelOd K cl σ (upd H a o) F env :=
 R.lst (fun c u n h f=>⟨by rw[c8 (fun z=>by rw[z,hH]at h;cases h)];exact h,f⟩) (Same.refl _)
theorem RelOd.none(n:∀(i:Nat) (s:Sl) ks ds,env[i]? = some s→¬K6 s ks ds):RelOd K cl σ H F env:=⟨fun i s ks ds h d=>absurd d (n i s ks ds h),fun i j s t ks ls ds es a h d=>absurd d (n i s ks ds h)⟩
theorem a04{d:D}:∀ks ds,¬K6 (.fz d) ks ds:=fun _ _ h=>h
theorem V6{d:List D}:∀ks ds,¬K6 (.ow d) ks ds:=fun _ _ h=>h
theorem a05{d:List D}:∀ks ds,¬K6 (.hd d) ks ds:=fun _ _ h=>h
theorem a4D:∀ks ds,¬K6 .no ks ds:=fun _ _ h=>h
theorem Frm.refl:Frm σ H F env σ H F env:=⟨Same.refl _,fun _ _ h f o=>⟨h,f,o⟩,fun _ _ h=>⟨h,rfl⟩,fun _ h=>h⟩
theorem Frm.trans(a:Frm σ H F env σ' H' F' env')(b:Frm σ' H' F' env' σ'' H'' F'' env''):Frm σ H F env σ'' H'' F'' env'' :=
 ⟨a.fz.trans b.fz,fun x o h f w=>by obtain⟨h1,f1,w1⟩:=a.hid x o h f w;exact b.hid x o h1 f1 w1,
  fun i ds h=>by obtain⟨h1,e1⟩:=a.keep i ds h;obtain⟨h2,e2⟩:=b.keep i ds h1;exact⟨h2,e2.trans e1⟩,fun x h=>a.dom x (b.dom x h)⟩
theorem Gr.dom(g:Gr H F H' F')(a:Addr)(h:H' a=none):H a=none:=by
 cases e:H a with
 | none=>rfl
 | some o =>
  cases f:F a with
  | none=>rw[(g.hid a o e f).1]at h;cases h
  | some u=>rw[g.sub _ _ (g.fz _ _ f)]at h;cases h
theorem Rel.gr(R:Rel K cl σ H F env)(g:Gr H F H' F'):Rel K cl σ H' F' env :=
 ⟨g.sub,R.len,fun i d h=>by obtain⟨v,e,r⟩:=R.fz i d h;exact⟨v,e,r.mono g.fz⟩,
  fun i ds h=>by obtain⟨a,xs,e,hH,hF,r⟩:=R.mu i ds h;obtain⟨h1,f1⟩:=g.hid a _ hH hF;exact⟨a,xs,e,h1,f1,r.mono g.fz⟩,R.inj,R.od.gr g⟩
theorem Rel.frm(R:Rel K cl σ H F env)(g:Gr H F H' F'):Frm σ H F env σ H' F' env :=
 ⟨g.fz,fun a o h f w=>by obtain⟨h1,f1⟩:=g.hid a o h f;exact⟨h1,f1,w⟩,fun _ _ h=>⟨h,rfl⟩,g.dom⟩
theorem Gr.refl(s:Same F H):Gr H F H F:=⟨Same.refl _,s,fun _ _ h f=>⟨h,f⟩⟩
theorem Gr.trans(a:Gr H F H' F')(b:Gr H' F' H'' F''):Gr H F H'' F'':=⟨a.fz.trans b.fz,b.sub,fun x o h f=>by obtain⟨h1,f1⟩:=a.hid x o h f;exact b.hid x o h1 f1⟩
theorem Gr.new{p:Addr}{o:HO}(s:Same F H)(hp:H p=none):Gr H F (upd H p o) (upd F p o):=by
 have fp:F p=none:=s.free hp
 refine⟨M5 fp o,fun b u e=>?_,fun a u e f=>?_⟩
 ·by_cases z:b=p
  ·subst z;rw[i0]at e ⊢;exact e
  ·rw[c8 z]at e ⊢;exact s _ _ e
 ·have z:a≠p:=fun z=>by rw[z,hp]at e;cases e
  rw[c8 z,c8 z];exact⟨e,f⟩
theorem Rel.freeze{i:Nat}{ds:List D}(R:Rel K cl σ H F env)(h:env[i]? = some (.ow ds)):∃a F',σ[i]? = some (some (.ref a))∧Frm σ H F env σ H F' (env.set i (.fz (.lst ds)))∧Rel K cl σ H F' (env.set i (.fz (.lst ds)))∧Rp K cl F' (.lst ds) (.ref a):=by
 obtain⟨a,xs,e,hH,hF,r⟩:=R.mu i ds (.inl h)
 have hi:i<env.length:=(List.getElem?_eq_some_iff.mp h).1
 have sF:Same F (upd F a (.lst xs)):=M5 hF _
 have oth:∀j,j≠i→(env.set i (.fz (.lst ds)))[j]? = env[j]?:=fun j hj=>List.getElem?_set_ne (Ne.symm hj)
 have self:(env.set i (.fz (.lst ds)))[i]? = some (.fz (.lst ds)):=List.getElem?_set_self hi
 have mui:∀j,Mu (env.set i (.fz (.lst ds))) j→j≠i∧Mu env j:=fun j ⟨es,q⟩=>by
  by_cases z:j=i
  ·subst z;rw[self]at q;rcases q with q | q<;>cases q
  ·rw[oth j z]at q;exact⟨z,es,q⟩
 have rl:Rp K cl (upd F a (.lst xs)) (.lst ds) (.ref a):=by simp only[Rp];exact⟨a,xs,rfl,i0,r.mono sF⟩
 refine⟨a,upd F a (.lst xs),e,⟨sF,fun b o hb fb w=>?_,fun j es q=>?_,fun _ h=>h⟩,⟨fun b o q=>?_,by rw[List.length_set];exact R.len,fun j d q=>?_,fun j es q=>?_,fun j k b hj hk e1 e2=>R.inj j k b (mui j hj).2 (mui k hk).2 e1 e2,(R.od.lst (fun c u n h f=>⟨h,by rw[c8 (fun z=>by rw[z,hH]at h;exact n xs (Option.some.inj h).symm)];exact f⟩) sF).setE a04⟩,rl⟩
 ·have z:b≠a:=fun z=>w ⟨i,.ow ds,True.intro,h,by rw[z];exact e⟩
  refine⟨hb,by rw[c8 z];exact fb,fun⟨j,es,oo,q,e1⟩=>?_⟩
  by_cases y:j=i
  ·subst y;rw[self]at q;cases q;exact oo
  ·rw[oth j y]at q;exact w ⟨j,es,oo,q,e1⟩
 ·have z:j≠i:=fun z=>by subst z;rw[h]at q;cases q
  exact⟨by rw[oth j z];exact q,rfl⟩
 ·by_cases z:b=a
  ·subst z;rw[i0]at q;cases q;exact hH
  ·rw[c8 z]at q;exact R.sub _ _ q
 ·by_cases z:j=i
  ·subst z;rw[self]at q;cases q;exact⟨_,e,rl⟩
  ·rw[oth j z]at q;obtain⟨v,e1,r1⟩:=R.fz j d q;exact⟨v,e1,r1.mono sF⟩
 ·have z:j≠i:=(mui j ⟨es,q⟩).1
  rw[oth j z]at q
  obtain⟨b,ys,e1,h1,f1,r1⟩:=R.mu j es q
  have nb:b≠a:=fun y=>z (R.inj j i b ⟨es,q⟩ ⟨ds,.inl h⟩ e1 (by rw[y];exact e))
  exact⟨b,ys,e1,h1,by rw[c8 nb];exact f1,r1.mono sF⟩
theorem Rel.put{i:Nat}{d:D}{v:V}(R:Rel K cl σ H F env)(hi:i<env.length)(nh:∀ds,env[i]?≠some (.hd ds))(r:Rp K cl F d v):Rel K cl (σ.set i (some v)) H F (env.set i (.fz d)):=by
 refine⟨R.sub,by rw[List.length_set,List.length_set];exact R.len,fun j e q=>?_,fun j es q=>?_,fun j k b hj hk e1 e2=>?_,R.od.set a04⟩
 ·by_cases z:j=i
  ·subst z
   rw[List.getElem?_set_self hi]at q;cases q
   exact⟨v,List.getElem?_set_self (by rw[R.len];exact hi),r⟩
  ·rw[List.getElem?_set_ne (Ne.symm z)]at q
   obtain⟨u,e1,r1⟩:=R.fz j e q
   exact⟨u,by rw[List.getElem?_set_ne (Ne.symm z)];exact e1,r1⟩
 ·have z:j≠i:=fun z=>by
   subst z
   rw[List.getElem?_set_self hi]at q
   rcases q with q | q<;>cases q
  rw[List.getElem?_set_ne (Ne.symm z)]at q
  obtain⟨a,xs,e1,h1,f1,r1⟩:=R.mu j es q
  exact⟨a,xs,by rw[List.getElem?_set_ne (Ne.symm z)];exact e1,h1,f1,r1⟩
 ·have nz:∀j,Mu (env.set i (.fz d)) j→j≠i∧Mu env j:=fun j ⟨es,q⟩=>by
   by_cases z:j=i
   ·subst z
    rw[List.getElem?_set_self hi]at q
    rcases q with q | q<;>cases q
   ·rw[List.getElem?_set_ne (Ne.symm z)]at q;exact⟨z,es,q⟩
  obtain⟨zj,mj⟩:=nz j hj
  obtain⟨zk,mk⟩:=nz k hk
  rw[List.getElem?_set_ne (Ne.symm zj)]at e1
  rw[List.getElem?_set_ne (Ne.symm zk)]at e2
  exact R.inj j k b mj mk e1 e2
theorem Rel.putO{i:Nat}{ds:List D}{a:Addr}{xs:List V}(R:Rel K cl σ H F env)(hi:i<env.length)(hH:H a=some (.lst xs))(hF:F a=none)(na:∀j,Mu env j→σ[j]?≠some (some (.ref a)))(r:Rps K cl F ds xs):Rel K cl (σ.set i (some (.ref a))) H F (env.set i (.ow ds)):=by
 have his:i<σ.length:=by rw[R.len];exact hi
 have nz:∀j,j≠i→Mu (env.set i (.ow ds)) j→Mu env j:=fun j z ⟨es,q⟩=>by
  rw[List.getElem?_set_ne (Ne.symm z)]at q;exact⟨es,q⟩
 refine⟨R.sub,by rw[List.length_set,List.length_set];exact R.len,fun j e q=>?_,fun j es q=>?_,fun j k b hj hk e1 e2=>?_,R.od.set V6⟩
 ·have z:j≠i:=fun z=>by subst z;rw[List.getElem?_set_self hi]at q;cases q
  rw[List.getElem?_set_ne (Ne.symm z)]at q
  obtain⟨u,e1,r1⟩:=R.fz j e q
  exact⟨u,by rw[List.getElem?_set_ne (Ne.symm z)];exact e1,r1⟩
 ·by_cases z:j=i
  ·subst z
   rw[List.getElem?_set_self hi]at q
   rcases q with q | q
   ·cases q;exact⟨a,xs,List.getElem?_set_self his,hH,hF,r⟩
   ·cases q
  ·rw[List.getElem?_set_ne (Ne.symm z)]at q
   obtain⟨b,ys,e1,h1,f1,r1⟩:=R.mu j es q
   exact⟨b,ys,by rw[List.getElem?_set_ne (Ne.symm z)];exact e1,h1,f1,r1⟩
 ·by_cases zj:j=i
  ·by_cases zk:k=i
   ·rw[zj,zk]
   ·subst zj
    rw[List.getElem?_set_self his]at e1
    rw[List.getElem?_set_ne (Ne.symm zk)]at e2
    cases e1
    exact absurd e2 (na k (nz k zk hk))
  ·rw[List.getElem?_set_ne (Ne.symm zj)]at e1
   by_cases zk:k=i
   ·subst zk
    rw[List.getElem?_set_self his]at e2
    cases e2
    exact absurd e1 (na j (nz j zj hj))
   ·rw[List.getElem?_set_ne (Ne.symm zk)]at e2
    exact R.inj j k b (nz j zj hj) (nz k zk hk) e1 e2
theorem Frm.put{i:Nat}{d:D}{x:Option V}(nh:∀ds,env[i]?≠some (.hd ds)):Frm σ H F env (σ.set i x) H F (env.set i (.fz d)):=by
 refine⟨Same.refl _,fun a o h f w=>⟨h,f,fun⟨j,ds,oo,q,e⟩=>?_⟩,fun j ds q=>?_,fun _ h=>h⟩
 ·by_cases z:j=i
  ·subst z
   have hj:j<env.length:=by have:=(List.getElem?_eq_some_iff.mp q).1;rwa [List.length_set]at this
   rw[List.getElem?_set_self hj]at q
   cases q;exact oo
  ·rw[List.getElem?_set_ne (Ne.symm z)]at q e
   exact w ⟨j,ds,oo,q,e⟩
 ·have z:j≠i:=fun z=>by subst z;exact nh ds q
  rw[List.getElem?_set_ne (Ne.symm z),List.getElem?_set_ne (Ne.symm z)]
  exact⟨q,rfl⟩
theorem Frm.putO{i:Nat}{s0:Sl}{a:Addr}(f:Frm σ H F env σ' H' F' env')(ha:H a=none)(nh:∀ds,env'[i]?≠some (.hd ds)):Frm σ H F env (σ'.set i (some (.ref a))) H' F' (env'.set i s0):=by
 refine⟨f.fz,fun b o h g w=>?_,fun j ds q=>?_,f.dom⟩
 ·obtain⟨h1,f1,w1⟩:=f.hid b o h g w
  refine⟨h1,f1,fun⟨j,ds,oo,q,e⟩=>?_⟩
  by_cases z:j=i
  ·subst z
   have hj:j<σ'.length:=by have:=(List.getElem?_eq_some_iff.mp e).1;rwa [List.length_set]at this
   rw[List.getElem?_set_self hj]at e
   cases e
   rw[ha]at h;cases h
  ·rw[List.getElem?_set_ne (Ne.symm z)]at q e
   exact w1 ⟨j,ds,oo,q,e⟩
 ·obtain⟨q1,e1⟩:=f.keep j ds q
  have z:j≠i:=fun z=>by subst z;exact nh ds q1
  rw[List.getElem?_set_ne (Ne.symm z),List.getElem?_set_ne (Ne.symm z)]
  exact⟨q1,e1⟩
end
inductive XN where | p (c:Str) | v (c f:Str) (d:D)
instance:Coe Str XN:=⟨.p⟩
def XN.nm:XN→Str
 | .p c=>c
 | .v c _ _=>c
def XN.d:XN→D
 | .p c=>.exc c
 | .v c f d=>.exv c f d
def Xf(K:W.Frag)(cl:Str→Addr)(F:Hp):XN→Option Addr→Prop
 | .p _,cx=>cx=none
 | .v _ f d,cx=>∃dx y,cx=some (2*dx+1)∧F dx=some (.xd [(f,y)])∧Rp K cl F d y
inductive R(α:Type) where | ok (a:α) (e:DE) | ex (c:XN)
inductive RS where | nx (e:DE) | rt (d:D) | ro (ds:List D) | rz (dss:List (List D)) | rp (n:Int) (ds:List D) | bk (e:DE) | ct (e:DE) | ex (c:XN)
def bnd{α β:Type}(x:Option (R α))(k:α→DE→Option (R β)):Option (R β):=match x with
 | none=>none
 | some (.ok a e)=>k a e
 | some (.ex c)=>some (.ex c)
def B8{α:Type}(x:Option (R α))(k:α→DE→Option RS):Option RS:=match x with
 | none=>none
 | some (.ok a e)=>k a e
 | some (.ex c)=>some (.ex c)
def X7{α:Type}(x:Option α)(e:DE):Option (R α):=match x with
 | none=>none
 | some a=>some (.ok a e)
@[simp] theorem a2O{α β:Type}(a:α)(e:DE)(k:α→DE→Option (R β)):bnd (some (.ok a e)) k=k a e:=rfl
@[simp] theorem a9U{α β:Type}(c:XN)(k:α→DE→Option (R β)):bnd (some (.ex c)) k=some (.ex c):=rfl
@[simp] theorem a9V{α β:Type}(k:α→DE→Option (R β)):bnd (none:Option (R α)) k=none:=rfl
@[simp] theorem a2P{α:Type}(a:α)(e:DE)(k:α→DE→Option RS):B8 (some (.ok a e)) k=k a e:=rfl
@[simp] theorem a9W{α:Type}(c:XN)(k:α→DE→Option RS):B8 (some (.ex c)) k=some (.ex c):=rfl
@[simp] theorem a9X{α:Type}(k:α→DE→Option RS):B8 (none:Option (R α)) k=none:=rfl
@[simp] theorem V7{α:Type}(a:α)(e:DE):X7 (some a) e=some (.ok a e):=rfl
@[simp] theorem V8{α:Type}(e:DE):X7 (none:Option α) e=none:=rfl
structure FX(σ:St)(H F:Hp)(env:DE)(H' F':Hp):Prop where
 fz:Same F F'
 sub:Same F' H'
 hid:∀a o,H a=some o→F a=none→¬Ow σ env a→H' a=some o∧F' a=none
 dom:∀a,H' a=none→H a=none
section
variable {K:W.Frag}{cl:Str→Addr}{E:XK}{σ σ':St}{H H' H1 F F' F1:Hp}{env env' env1:DE}{α β γ δ:Type}
theorem Frm.fx{H2 F2:Hp}(a:Frm σ H F env σ' H1 F1 env1)(b:FX σ' H1 F1 env1 H2 F2):FX σ H F env H2 F2 :=
 ⟨a.fz.trans b.fz,b.sub,fun x o h f w=>by obtain⟨h1,f1,w1⟩:=a.hid x o h f w;exact b.hid x o h1 f1 w1,fun x h=>a.dom x (b.dom x h)⟩
theorem Frm.toFX(a:Frm σ H F env σ' H1 F1 env1)(s:Same F1 H1):FX σ H F env H1 F1:=⟨a.fz,s,fun x o h f w=>by obtain⟨h1,f1,_⟩:=a.hid x o h f w;exact⟨h1,f1⟩,a.dom⟩
abbrev Py(α β:Type):=α→St→Hp→Hp→Hp→DE→β→Prop
def PM(P:Py α β):Prop:=∀a σ H0 H1 H' F' e b,(∀x:Addr,H1 x=none→H0 x=none)→P a σ H1 H' F' e b→P a σ H0 H' F' e b
def Ct(K:W.Frag)(cl:Str→Addr)(E:XK)(P:Py α β)(r:Option (R α))(σ:St)(H F:Hp)(env:DE)(Q:β→Hp→Prop):Prop:=match r with
 | none=>False
 | some (.ok a e)=>∀b H' F',Frm σ H F env σ H' F' e→Rel K cl σ H' F' e→P a σ H H' F' e b→Q b H'
 | some (.ex c)=>∀H' F',FX σ H F env H' F'→∀cx,Xf K cl F' c cx→E (.ref (cl c.nm)) cx H'
def Rz(K:W.Frag)(cl:Str→Addr)(F' H':Hp)(nw:Addr→Prop)(dss:List (List D))(as:List Addr):Prop:=as.Nodup∧as.length=dss.length∧∀(k:Nat) (a:Addr) (ds:List D),as[k]? = some a→dss[k]? = some ds→∃xs,H' a=some (.lst xs)∧F' a=none∧nw a∧Rps K cl F' ds xs
theorem Rz.imp{nw nw':Addr→Prop}{dss:List (List D)}{as:List Addr}(h:Rz K cl F' H' nw dss as)(i:∀a xs,H' a=some (.lst xs)→F' a=none→nw a→nw' a):Rz K cl F' H' nw' dss as :=
 ⟨h.1,h.2.1,fun k a ds e1 e2=>by obtain⟨xs,h1,h2,h3,h4⟩:=h.2.2 k a ds e1 e2;exact⟨xs,h1,h2,i a xs h1 h2 h3,h4⟩⟩
def Cs(K:W.Frag)(cl:Str→Addr)(E:XK)(r:Option RS)(σ:St)(H F:Hp)(env:DE)(N:Ends):Prop:=match r with
 | none=>False
 | some (.nx e)=>∀σ' H' F',Frm σ H F env σ' H' F' e→Rel K cl σ' H' F' e→N.nx σ' H'
 | some (.bk e)=>∀σ' H' F',Frm σ H F env σ' H' F' e→Rel K cl σ' H' F' e→N.bk σ' H'
 | some (.ct e)=>∀σ' H' F',Frm σ H F env σ' H' F' e→Rel K cl σ' H' F' e→N.ct σ' H'
 | some (.rt d)=>∀v H' F',FX σ H F env H' F'→Rp K cl F' d v→N.rt v H'
 | some (.ro ds)=>∀a xs H' F',FX σ H F env H' F'→H' a=some (.lst xs)→F' a=none→(∀o,H a=some o→Ow σ env a)→Rps K cl F' ds xs→N.rt (.ref a) H'
 | some (.rz dss)=>∀p as H' F',FX σ H F env H' F'→H p=none→H' p=some (.tup (as.map V.ref))→F' p=none→Rz K cl F' H' (fun a=>∀o,H a=some o→Ow σ env a) dss as→N.rt (.ref p) H'
 | some (.rp n ds)=>∀p a xs H' F',FX σ H F env H' F'→H p=none→H' p=some (.tup [.int n,.ref a])→F' p=none→H' a=some (.lst xs)→F' a=none→(∀o,H a=some o→Ow σ env a)→Rps K cl F' ds xs→N.rt (.ref p) H'
 | some (.ex c)=>∀H' F',FX σ H F env H' F'→∀cx,Xf K cl F' c cx→E (.ref (cl c.nm)) cx H'
theorem Ct.mono{P:Py α β}{r:Option (R α)}{Q Q':β→Hp→Prop}(h:Ct K cl E P r σ H F env Q)(q:∀b H',Q b H'→Q' b H'):Ct K cl E P r σ H F env Q':=by
 unfold Ct at h ⊢
 split at h
 ·exact h
 ·exact fun b H' F' f R p=>q _ _ (h b H' F' f R p)
 ·exact h
theorem Ct.from{P2:Py γ δ}{r:Option (R γ)}{Q:δ→Hp→Prop}(f:Frm σ H F env σ H1 F1 env1)(pm:PM P2)(h:Ct K cl E P2 r σ H F env Q):Ct K cl E P2 r σ H1 F1 env1 Q:=by
 unfold Ct at h ⊢
 split at h
 ·exact h
 ·exact fun b H' F' f2 R2 p2=>h b H' F' (f.trans f2) R2 (pm _ _ _ _ _ _ _ _ f.dom p2)
 ·exact fun H' F' x=>h H' F' (f.fx x)
theorem Ct.bnd{P1:Py α β}{P2:Py γ δ}{r:Option (R α)}{k:α→DE→Option (R γ)}{Q:δ→Hp→Prop}(h:Ct K cl E P2 (bnd r k) σ H F env Q)(pm:PM P2) :
  Ct K cl E P1 r σ H F env fun b H1=>∃F1 env1 a,Same F F1∧Rel K cl σ H1 F1 env1∧P1 a σ H H1 F1 env1 b∧Ct K cl E P2 (k a env1) σ H1 F1 env1 Q:=by
 unfold Ct
 rcases r with _ | ⟨a,e⟩ | c
 ·exact h
 ·intro b H1 F1 f R p
  refine⟨F1,e,a,f.fz,R,p,?_⟩
  have h:Ct K cl E P2 (k a e) σ H F env Q:=h
  exact Ct.from f pm h
 ·exact h
theorem Cs.from{r:Option RS}{N:Ends}(f:Frm σ H F env σ' H1 F1 env1)(h:Cs K cl E r σ H F env N):Cs K cl E r σ' H1 F1 env1 N:=by
 unfold Cs at h ⊢
 split at h
 ·exact h
 ·exact fun σ' H' F' f2 R2=>h σ' H' F' (f.trans f2) R2
 ·exact fun σ' H' F' f2 R2=>h σ' H' F' (f.trans f2) R2
 ·exact fun σ' H' F' f2 R2=>h σ' H' F' (f.trans f2) R2
 ·exact fun v H' F' x p=>h v H' F' (f.fx x) p
 ·refine fun a xs H' F' x ha fa nw p=>h a xs H' F' (f.fx x) ha fa (fun o e=>?_) p
  refine Classical.byContradiction fun w=>?_
  cases q:F a with
  | none =>
   obtain⟨h1,f1,w1⟩:=f.hid a o e q w
   exact w1 (nw o h1)
  | some u=>rw[x.fz _ _ (f.fz _ _ q)]at fa;cases fa
 ·refine fun p as H' F' x hp ht fp rz=>h p as H' F' (f.fx x) (f.dom p hp) ht fp (rz.imp fun a xs ha fa nw o e=>?_)
  refine Classical.byContradiction fun w=>?_
  cases q:F a with
  | none =>
   obtain⟨h1,f1,w1⟩:=f.hid a o e q w
   exact w1 (nw o h1)
  | some u=>rw[x.fz _ _ (f.fz _ _ q)]at fa;cases fa
 ·refine fun p a xs H' F' x hp ht fp ha fa nw r=>h p a xs H' F' (f.fx x) (f.dom p hp) ht fp ha fa (fun o e=>?_) r
  refine Classical.byContradiction fun w=>?_
  cases q:F a with
  | none =>
   obtain⟨h1,f1,w1⟩:=f.hid a o e q w
   exact w1 (nw o h1)
  | some u=>rw[x.fz _ _ (f.fz _ _ q)]at fa;cases fa
 ·exact fun H' F' x=>h H' F' (f.fx x)
theorem Cs.bnd{P1:Py α β}{r:Option (R α)}{k:α→DE→Option RS}{N:Ends}(h:Cs K cl E (B8 r k) σ H F env N) :
  Ct K cl E P1 r σ H F env fun b H1=>∃F1 env1 a,Frm σ H F env σ H1 F1 env1∧Rel K cl σ H1 F1 env1∧P1 a σ H H1 F1 env1 b∧Cs K cl E (k a env1) σ H F env N:=by
 unfold Ct
 rcases r with _ | ⟨a,e⟩ | c
 ·exact h
 ·intro b H1 F1 f R p
  exact⟨F1,e,a,f,R,p,h⟩
 ·exact h
end
def PZ(K:W.Frag)(cl:Str→Addr):Py D V:=fun d _ _ _ F' _ v=>Rp K cl F' d v
def PAs(K:W.Frag)(cl:Str→Addr):Py (List D) (List V):=fun ds _ _ _ F' _ vs=>Rps K cl F' ds vs
def PB:Py Bool Bool:=fun b _ _ _ _ _ c=>c=b
def PI':Py (Option Int) (Option Int):=fun b _ _ _ _ _ c=>c=b
def PN(K:W.Frag)(cl:Str→Addr):Py (List D) V:=fun ds σ H H' F' e v=>∃a xs,v=.ref a∧H a=none∧H' a=some (.lst xs)∧F' a=none∧(∀j,Mu e j→σ[j]?≠some (some (.ref a)))∧Rps K cl F' ds xs
theorem F9{K cl}:PM (PZ K cl):=fun _ _ _ _ _ _ _ _ _ h=>h
theorem a9Y{K cl}:PM (PAs K cl):=fun _ _ _ _ _ _ _ _ _ h=>h
theorem a4E:PM PB:=fun _ _ _ _ _ _ _ _ _ h=>h
theorem b0_:PM PI':=fun _ _ _ _ _ _ _ _ _ h=>h
theorem a0F{K cl}:PM (PN K cl):=fun _ _ _ _ _ _ _ _ g ⟨a,xs,e,h,r⟩=>⟨a,xs,e,g a h,r⟩
abbrev ZF:=DE→Option (R D)
abbrev NF:=DE→Option (R (List D))
abbrev AF:=DE→Option (R (List D))
abbrev BF:=DE→Option (R Bool)
abbrev OF:=DE→Option (R (Option Int))
abbrev SF:=DE→Option RS
section
variable (K:W.Frag)(cl:Str→Addr)(E:XK)
def m3(t:TE)(f:ZF):Prop:=∀σ H Q env F,Rel K cl σ H F env→Ct K cl E (PZ K cl) (f env) σ H F env Q→t σ H Q
def X8(t:TE)(f:NF):Prop:=∀σ H Q env F,Rel K cl σ H F env→Ct K cl E (PN K cl) (f env) σ H F env Q→t σ H Q
def M0(t:TA)(f:AF):Prop:=∀σ H Q env F,Rel K cl σ H F env→Ct K cl E (PAs K cl) (f env) σ H F env Q→t σ H Q
def K7(t:TT)(f:BF):Prop:=∀σ H Q env F,Rel K cl σ H F env→Ct K cl E PB (f env) σ H F env Q→t σ H Q
def RfO(t:TO)(f:OF):Prop:=∀σ H Q env F,Rel K cl σ H F env→Ct K cl E PI' (f env) σ H F env Q→t σ H Q
def RfS(t:TS)(f:SF):Prop:=∀(N:Ends) σ H env F,Rel K cl σ H F env→Cs K cl E (f env) σ H F env N→t N σ H
end
def eC(d:D):ZF:=fun e=>some (.ok d e)
def eV(i:Nat):ZF:=fun e=>match e[i]? with
 | some (.fz d)=>some (.ok d e)
 | some (.ow ds)=>some (.ok (.lst ds) (e.set i (.fz (.lst ds))))
 | _=>none
def look(e:DE)(i:Nat):Option D:=match e[i]? with
 | some (.fz d)=>some d
 | some (.ow ds)=>some (.lst ds)
 | some (.hd ds)=>some (.lst ds)
 | _=>none
def Rb(K:W.Frag)(cl:Str→Addr)(F H:Hp)(d:D)(v:V):Prop:=Rp K cl F d v∨∃a xs ds,v=.ref a∧d=.lst ds∧H a=some (.lst xs)∧Rps K cl F ds xs
section
variable {K:W.Frag}{cl:Str→Addr}{E:XK}{σ:St}{H F:Hp}{env:DE}
theorem Rel.look{i:Nat}{d:D}(R:Rel K cl σ H F env)(h:look env i=some d):∃v,σ[i]? = some (some v)∧Rb K cl F H d v:=by
 unfold L2.look at h
 split at h
 ·rename_i q;cases h;obtain⟨v,e,r⟩:=R.fz i d q;exact⟨v,e,.inl r⟩
 ·rename_i ds q;cases h;obtain⟨a,xs,e,hH,_,r⟩:=R.mu i ds (.inl q);exact⟨_,e,.inr ⟨a,xs,ds,rfl,rfl,hH,r⟩⟩
 ·rename_i ds q;cases h;obtain⟨a,xs,e,hH,_,r⟩:=R.mu i ds (.inr q);exact⟨_,e,.inr ⟨a,xs,ds,rfl,rfl,hH,r⟩⟩
 ·cases h
theorem c7{v:V}{d:D}(h:∀F,Rp K cl F d v:=by intro F;simp only[Rp]):m3 K cl E (tC v) (eC d):=fun σ H Q env F R h'=>h' v H F Frm.refl R (h F)
theorem a8{i:Nat}:m3 K cl E (D7 i) (eV i):=by
 intro σ H Q env F R h
 unfold eV at h
 split at h
 ·rename_i d q
  obtain⟨v,e,r⟩:=R.fz i d q
  exact⟨v,e,h v H F Frm.refl R r⟩
 ·rename_i ds q
  obtain⟨a,F',e,fr,R',r⟩:=R.freeze q
  exact⟨_,e,h _ H F' fr R' r⟩
 ·exact h.elim
end
def OpOk(K:W.Frag)(cl:Str→Addr)(r:R2)(g:D→D→Option D):Prop:=∀x y d e z H F Q,Same F H→Rb K cl F H d x→Rb K cl F H e y→g d e=some z→(∀v H' F',Gr H F H' F'→Rp K cl F' z v→Q v H')→r x y H Q
def eB(g:D→D→Option D)(f k:ZF):ZF:=fun e=>bnd (f e) fun d e1=>bnd (k e1) fun d' e2=>X7 (g d d') e2
def F8(g:D→D→Option D)(i:Nat)(k:ZF):ZF:=fun e=>match look e i with
 | none=>none
 | some _=>bnd (k e) fun d' e2=>match look e2 i with
  | some d=>X7 (g d d') e2
  | none=>none
section
variable {K:W.Frag}{cl:Str→Addr}{E:XK}{r:R2}{g:D→D→Option D}{ta tb:TE}{f k:ZF}{i j:Nat}
theorem OpOk.fin{σ:St}{H F:Hp}{env:DE}{x y:V}{d e:D}{Q:VK}(ok:OpOk K cl r g)(R:Rel K cl σ H F env)(hx:Rb K cl F H d x)(hy:Rb K cl F H e y)(h:Ct K cl E (PZ K cl) (X7 (g d e) env) σ H F env Q):r x y H Q:=by
 cases hz:g d e with
 | none=>rw[hz]at h;exact h.elim
 | some z =>
  rw[hz]at h
  exact ok x y d e z H F Q R.sub hx hy hz fun v H' F' gr p=>h v H' F' (R.frm gr) (R.gr gr) p
theorem a9(ok:OpOk K cl r g)(ha:m3 K cl E ta f)(hb:m3 K cl E tb k):m3 K cl E (tOp r ta tb) (eB g f k):=by
 intro σ H Q env F R h
 refine ha σ H _ env F R ((Ct.bnd h F9).mono fun x H1 ⟨F1,e1,d,s1,R1,p1,h1⟩=>?_)
 refine hb σ H1 _ e1 F1 R1 ((Ct.bnd h1 F9).mono fun y H2 ⟨F2,e2,e,s2,R2,p2,h2⟩=>?_)
 exact ok.fin R2 (.inl (Rp.mono s2 _ _ p1)) (.inl p2) h2
theorem K8(ok:OpOk K cl r g)(hb:m3 K cl E tb k):m3 K cl E (tOp r (D7 i) tb) (F8 g i k):=by
 intro σ H Q env F R h
 unfold F8 at h
 cases q:look env i with
 | none=>rw[q]at h;exact h.elim
 | some d0 =>
  rw[q]at h
  obtain⟨x,e0,_⟩:=R.look q
  refine⟨x,e0,hb σ H _ env F R ((Ct.bnd h F9).mono fun y H2 ⟨F2,e2,e,s2,R2,p2,h2⟩=>?_)⟩
  cases q2:look e2 i with
  | none=>rw[q2]at h2;exact h2.elim
  | some d =>
   rw[q2]at h2
   obtain⟨x',e',rb⟩:=R2.look q2
   rw[e0]at e';cases e'
   exact ok.fin R2 rb (.inl p2) h2
end
section
variable {K:W.Frag}{cl:Str→Addr}{E:XK}
theorem Rb.int{F H:Hp}{i:Int}{v:V}(h:Rb K cl F H (.int i) v):v=.int i:=by
 rcases h with h | ⟨_,_,_,_,z,_⟩
 ·simpa only[Rp]using h
 ·cases z
theorem Rb.bl{F H:Hp}{i:Bool}{v:V}(h:Rb K cl F H (.bl i) v):v=.bl i:=by
 rcases h with h | ⟨_,_,_,_,z,_⟩
 ·simpa only[Rp]using h
 ·cases z
theorem Rb.str{F H:Hp}{i:Str}{v:V}(h:Rb K cl F H (.str i) v):v=.str i:=by
 rcases h with h | ⟨_,_,_,_,z,_⟩
 ·simpa only[Rp]using h
 ·cases z
theorem Rb.non{F H:Hp}{v:V}(h:Rb K cl F H .non v):v=.non:=by
 rcases h with h | ⟨_,_,_,_,z,_⟩
 ·simpa only[Rp]using h
 ·cases z
theorem Rb.lst{F H:Hp}{ds:List D}{v:V}(s:Same F H)(h:Rb K cl F H (.lst ds) v):∃a xs,v=.ref a∧H a=some (.lst xs)∧Rps K cl F ds xs:=by
 rcases h with h | ⟨a,xs,ds',e,z,h,r⟩
 ·simp only[Rp]at h
  obtain⟨a,xs,e,h,r⟩:=h
  exact⟨a,xs,e,s _ _ h,r⟩
 ·cases z;exact⟨a,xs,e,h,r⟩
theorem Rb.tup{F H:Hp}{ds:List D}{v:V}(s:Same F H)(h:Rb K cl F H (.tup ds) v):∃a xs,v=.ref a∧H a=some (.tup xs)∧Rps K cl F ds xs:=by
 rcases h with h | ⟨_,_,_,_,z,_⟩
 ·simp only[Rp]at h
  obtain⟨a,xs,e,h,r⟩:=h
  exact⟨a,xs,e,s _ _ h,r⟩
 ·cases z
theorem Rb.scr{F H:Hp}{ns:List Int}{v:V}(s:Same F H)(h:Rb K cl F H (.scr ns) v):∃a,v=.ref a∧Scr K H a (ns.map V.int):=by
 rcases h with h | ⟨_,_,_,_,z,_⟩
 ·simp only[Rp]at h
  obtain⟨a,e,h⟩:=h
  exact⟨a,e,h.same s⟩
 ·cases z
def gI(C:Int→Int→Prop) [∀i j,Decidable (C i j)] (g:Int→Int→D):D→D→Option D
 | .int i,.int j=>if C i j then some (g i j)else none
 | _,_=>none
def gI0(g:Int→Int→D):D→D→Option D
 | .int i,.int j=>some (g i j)
 | _,_=>none
theorem a4F{C:Int→Int→Prop} [∀i j,Decidable (C i j)] {g:Int→Int→V} {g':Int→Int→D} (hg:∀F i j,Rp K cl F (g' i j) (g i j)):OpOk K cl (rI C g) (gI C g'):=by
 intro x y d e z H F Q s hx hy h q
 unfold gI at h
 split at h
 ·rename_i i j
  split at h
  ·rename_i c;cases h
   exact⟨i,j,hx.int,hy.int,c,q _ H F (.refl s) (hg F i j)⟩
  ·cases h
 ·cases h
theorem a0i{g:Int→Int→V}{g':Int→Int→D}(hg:∀F i j,Rp K cl F (g' i j) (g i j)):OpOk K cl (Q0 g) (gI0 g'):=by
 intro x y d e z H F Q s hx hy h q
 unfold gI0 at h
 split at h
 ·rename_i i j
  cases h
  exact⟨i,j,hx.int,hy.int,q _ H F (.refl s) (hg F i j)⟩
 ·cases h
end
section
variable {K:W.Frag}{cl:Str→Addr}{E:XK}{σ:St}{H F:Hp}{env:DE}
theorem Rel.newN{p:Addr}{o:HO}(R:Rel K cl σ H F env)(hp:H p=none):Rel K cl σ (upd H p o) F env∧Frm σ H F env σ (upd H p o) F env:=by
 have fp:F p=none:=R.sub.free hp
 have ne:∀a u,H a=some u→a≠p:=fun a u h z=>by rw[z,hp]at h;cases h
 refine⟨⟨R.sub.trans (M5 hp _),R.len,R.fz,fun i ds h=>?_,R.inj,R.od.newO hp⟩,⟨Same.refl _,fun a u h f w=>?_,fun _ _ h=>⟨h,rfl⟩,fun a h=>?_⟩⟩
 ·obtain⟨a,xs,e,hH,hF,r⟩:=R.mu i ds h
  exact⟨a,xs,e,by rw[c8 (ne _ _ hH)];exact hH,hF,r⟩
 ·exact⟨by rw[c8 (ne _ _ h)];exact h,f,w⟩
 ·by_cases z:a=p
  ·rw[z];exact hp
  ·rw[c8 z]at h;exact h
theorem Ct.newN{p:Addr}{xs:List V}{ds:List D}{Q:VK}(R:Rel K cl σ H F env)(hp:H p=none)(r:Rps K cl F ds xs)(h:Ct K cl E (PN K cl) (some (.ok ds env)) σ H F env Q):Q (.ref p) (upd H p (.lst xs)):=by
 obtain⟨R',f⟩:=R.newN (o:=.lst xs) hp
 refine h _ _ F f R' ⟨p,xs,rfl,hp,i0,R.sub.free hp,fun j mj e=>?_,r⟩
 obtain⟨ds',q⟩:=mj
 obtain⟨a,ys,e1,hH,_⟩:=R.mu j ds' q
 rw[e]at e1;cases e1
 rw[hp]at hH;cases hH
def zN(f:NF):ZF:=fun e=>bnd (f e) fun ds e1=>some (.ok (.lst ds) e1)
theorem P3{t:TE}{f:NF}(h:X8 K cl E t f):m3 K cl E t (zN f):=by
 intro σ H Q env F R q
 refine h σ H Q env F R ?_
 unfold zN at q
 rcases hf:f env with _ | ⟨ds,e1⟩ | c
 ·rw[hf]at q;exact q
 ·rw[hf]at q
  rintro b H' F' fr R' ⟨a,xs,rfl,hn,hH,hF,nm,r⟩
  have sF:Same F' (upd F' a (.lst xs)):=M5 hF _
  refine q _ H' (upd F' a (.lst xs)) ⟨fr.fz.trans sF,fun b o hb fb w=>?_,fr.keep,fr.dom⟩ ⟨fun b o z=>?_,R'.len,fun i d z=>?_,fun i es z=>?_,R'.inj,R'.od.frzL hH hF⟩ (by show Rp K cl _ (.lst ds) _;simp only[Rp];exact⟨a,xs,rfl,i0,r.mono sF⟩)
  ·obtain⟨h1,f1,w1⟩:=fr.hid b o hb fb w
   have nb:b≠a:=fun z=>by rw[z,hn]at hb;cases hb
   exact⟨h1,by rw[c8 nb];exact f1,w1⟩
  ·by_cases y:b=a
   ·subst y;rw[i0]at z;cases z;exact hH
   ·rw[c8 y]at z;exact R'.sub _ _ z
  ·obtain⟨v,e,r1⟩:=R'.fz i d z
   exact⟨v,e,r1.mono sF⟩
  ·obtain⟨b,ys,e,h1,f1,r1⟩:=R'.mu i es z
   have nb:b≠a:=fun y=>nm i ⟨es,z⟩ (by rw[e,y])
   exact⟨b,ys,e,h1,by rw[c8 nb];exact f1,r1.mono sF⟩
 ·rw[hf]at q;exact q
def aN:AF:=fun e=>some (.ok [] e)
def aC(f:ZF)(k:AF):AF:=fun e=>bnd (f e) fun d e1=>bnd (k e1) fun ds e2=>some (.ok (d::ds) e2)
theorem g6:M0 K cl E M3 aN:=fun σ H Q env F R h=>h [] H F Frm.refl R .nil
theorem b6{te:TE}{ta:TA}{f:ZF}{k:AF}(hf:m3 K cl E te f)(hk:M0 K cl E ta k):M0 K cl E (B0 te ta) (aC f k):=by
 intro σ H Q env F R h
 refine hf σ H _ env F R ((Ct.bnd h a9Y).mono fun x H1 ⟨F1,e1,d,s1,R1,p1,h1⟩=>?_)
 refine hk σ H1 _ e1 F1 R1 ((Ct.bnd h1 a9Y).mono fun xs H2 ⟨F2,e2,ds,s2,R2,p2,h2⟩=>?_)
 exact h2 (x::xs) H2 F2 Frm.refl R2 (.cons (Rp.mono s2 _ _ p1) p2)
def eT(f:AF):ZF:=fun e=>bnd (f e) fun ds e1=>if ds.length≤sizeLine then some (.ok (.tup ds) e1)else none
def eL(f:AF):NF:=fun e=>bnd (f e) fun ds e1=>if ds.length≤sizeLine then some (.ok ds e1)else none
theorem E1{ta:TA}{f:AF}(hf:M0 K cl E ta f):m3 K cl E (a9w ta) (eT f):=by
 intro σ H Q env F R h
 refine hf σ H _ env F R ((Ct.bnd h F9).mono fun xs H1 ⟨F1,e1,ds,s1,R1,p1,h1⟩=>?_)
 have hl:ds.length=xs.length:=Rps.length p1
 split at h1
 ·rename_i z
  refine⟨by rw[← hl];exact z,fun p hp=>?_⟩
  have g:Gr H1 F1 (upd H1 p (.tup xs)) (upd F1 p (.tup xs)):=.new R1.sub hp
  exact h1 _ _ _ (R1.frm g) (R1.gr g) (by show Rp K cl _ (.tup ds) _;simp only[Rp];exact⟨p,xs,rfl,i0,Rps.mono g.fz _ _ p1⟩)
 ·exact h1.elim
theorem M6{ta:TA}{f:AF}(hf:M0 K cl E ta f):X8 K cl E (a9x ta) (eL f):=by
 intro σ H Q env F R h
 refine hf σ H _ env F R ((Ct.bnd h a0F).mono fun xs H1 ⟨F1,e1,ds,s1,R1,p1,h1⟩=>?_)
 have hl:ds.length=xs.length:=Rps.length p1
 split at h1
 ·rename_i z
  exact⟨by rw[← hl];exact z,fun p hp=>Ct.newN R1 hp p1 h1⟩
 ·exact h1.elim
def bZ(f:ZF):BF:=fun e=>bnd (f e) fun d e1=>match d with
 | .bl b=>some (.ok b e1)
 | _=>none
theorem D5{t:TE}{f:ZF}(hf:m3 K cl E t f):K7 K cl E (tB t) (bZ f):=by
 intro σ H Q env F R h
 refine hf σ H _ env F R ((Ct.bnd h a4E).mono fun x H1 ⟨F1,e1,d,s1,R1,p1,h1⟩=>?_)
 split at h1
 ·rename_i b
  have:x=.bl b:=by have:=(show Rp K cl F1 (.bl b) x from p1);simpa only[Rp]using this
  exact⟨b,this,h1 b H1 F1 Frm.refl R1 rfl⟩
 ·exact h1.elim
theorem D6{t:TE}{f:ZF}(hf:m3 K cl E t f):K7 K cl E (a7k t) (bZ f):=D5 hf
def x8(f:BF):BF:=fun e=>bnd (f e) fun b e1=>some (.ok (!b) e1)
def a0G(f k:BF):BF:=fun e=>bnd (f e) fun b e1=>if b=true then k e1 else some (.ok false e1)
def X9(f k:BF):BF:=fun e=>bnd (f e) fun b e1=>if b=true then some (.ok true e1)else k e1
theorem B6{t:TT}{f:BF}(hf:K7 K cl E t f):K7 K cl E (a9o t) (x8 f):=by
 intro σ H Q env F R h
 refine hf σ H _ env F R ((Ct.bnd h a4E).mono fun x H1 ⟨F1,e1,d,s1,R1,p1,h1⟩=>?_)
 cases (show x=d from p1)
 exact h1 _ H1 F1 Frm.refl R1 rfl
theorem a3P{t u:TT}{f k:BF}(hf:K7 K cl E t f)(hk:K7 K cl E u k):K7 K cl E (a9n t u) (a0G f k):=by
 intro σ H Q env F R h
 refine hf σ H _ env F R ((Ct.bnd h a4E).mono fun x H1 ⟨F1,e1,d,s1,R1,p1,h1⟩=>?_)
 cases (show x=d from p1)
 by_cases z:x=true
 ·rw[if_pos z]at h1 ⊢;exact hk σ H1 Q e1 F1 R1 h1
 ·rw[if_neg z]at h1 ⊢;exact h1 _ H1 F1 Frm.refl R1 rfl
theorem Z3{t u:TT}{f k:BF}(hf:K7 K cl E t f)(hk:K7 K cl E u k):K7 K cl E (tOr t u) (X9 f k):=by
 intro σ H Q env F R h
 refine hf σ H _ env F R ((Ct.bnd h a4E).mono fun x H1 ⟨F1,e1,d,s1,R1,p1,h1⟩=>?_)
 cases (show x=d from p1)
 by_cases z:x=true
 ·rw[if_pos z]at h1 ⊢;exact h1 _ H1 F1 Frm.refl R1 rfl
 ·rw[if_neg z]at h1 ⊢;exact hk σ H1 Q e1 F1 R1 h1
def a1y(f k:ZF):ZF:=fun e=>bnd (f e) fun d e1=>match d with
 | .bl b=>if b=true then k e1 else some (.ok (.bl false) e1)
 | _=>none
def eOr(f k:ZF):ZF:=fun e=>bnd (f e) fun d e1=>match d with
 | .bl b=>if b=true then some (.ok (.bl true) e1)else k e1
 | _=>none
theorem a06{t u:TE}{f k:ZF}(hf:m3 K cl E t f)(hk:m3 K cl E u k):m3 K cl E (a7g t u) (a1y f k):=by
 intro σ H Q env F R h
 refine hf σ H _ env F R ((Ct.bnd h F9).mono fun x H1 ⟨F1,e1,d,s1,R1,p1,h1⟩=>?_)
 split at h1
 ·rename_i b
  have:x=.bl b:=by have:=(show Rp K cl F1 (.bl b) x from p1);simpa only[Rp]using this
  refine⟨b,this,?_⟩
  by_cases z:b=true
  ·rw[if_pos z]at h1 ⊢;exact hk σ H1 Q e1 F1 R1 h1
  ·rw[if_neg z]at h1 ⊢;exact h1 _ H1 F1 Frm.refl R1 (by show Rp K cl F1 (.bl _) _;simp only[Rp])
 ·exact h1.elim
theorem a2o{t u:TE}{f k:ZF}(hf:m3 K cl E t f)(hk:m3 K cl E u k):m3 K cl E (a9p t u) (eOr f k):=by
 intro σ H Q env F R h
 refine hf σ H _ env F R ((Ct.bnd h F9).mono fun x H1 ⟨F1,e1,d,s1,R1,p1,h1⟩=>?_)
 split at h1
 ·rename_i b
  have:x=.bl b:=by have:=(show Rp K cl F1 (.bl b) x from p1);simpa only[Rp]using this
  refine⟨b,this,?_⟩
  by_cases z:b=true
  ·rw[if_pos z]at h1 ⊢;exact h1 _ H1 F1 Frm.refl R1 (by show Rp K cl F1 (.bl _) _;simp only[Rp])
  ·rw[if_neg z]at h1 ⊢;exact hk σ H1 Q e1 F1 R1 h1
 ·exact h1.elim
def a9Z(K:W.Frag)(cl:Str→Addr)(r:List V→Hp→VK→Prop)(g:List D→Option D):Prop:=∀xs ds z H F Q,Same F H→Rps K cl F ds xs→g ds=some z→(∀v H' F',Gr H F H' F'→Rp K cl F' z v→Q v H')→r xs H Q
def CbOk1(K:W.Frag)(cl:Str→Addr)(r:List V→Hp→VK→Prop)(g:D→Option D):Prop:=∀x d z H F Q,Same F H→Rb K cl F H d x→g d=some z→(∀v H' F',Gr H F H' F'→Rp K cl F' z v→Q v H')→r [x] H Q
def eCB(g:List D→Option D)(f:AF):ZF:=fun e=>bnd (f e) fun ds e1=>X7 (g ds) e1
def Q3(g:D→Option D)(i:Nat):ZF:=fun e=>match look e i with
 | some d=>X7 (g d) e
 | none=>none
theorem a7s{r:List V→Hp→VK→Prop}{g:List D→Option D}{t:TA}{f:AF}(ok:a9Z K cl r g)(hf:M0 K cl E t f):m3 K cl E (tCB r t) (eCB g f):=by
 intro σ H Q env F R h
 refine hf σ H _ env F R ((Ct.bnd h F9).mono fun x H1 ⟨F1,e1,d,s1,R1,p1,h1⟩=>?_)
 cases hz:g d with
 | none=>rw[hz]at h1;exact h1.elim
 | some z =>
  rw[hz]at h1
  exact ok x d z H1 F1 Q R1.sub p1 hz fun v H' F' gr p=>h1 v H' F' (R1.frm gr) (R1.gr gr) p
theorem S3{r:List V→Hp→VK→Prop}{g:D→Option D}{i:Nat}(ok:CbOk1 K cl r g):m3 K cl E (tCB r (B0 (D7 i) M3)) (Q3 g i):=by
 intro σ H Q env F R h
 unfold Q3 at h
 cases q:look env i with
 | none=>rw[q]at h;exact h.elim
 | some d =>
  rw[q]at h
  obtain⟨x,e,rb⟩:=R.look q
  refine⟨x,e,?_⟩
  cases hz:g d with
  | none=>simp only[hz,V8]at h;exact h.elim
  | some z =>
   simp only[hz,V7]at h
   exact ok x d z H F Q R.sub rb hz fun v H' F' gr p=>h v H' F' (R.frm gr) (R.gr gr) p
def g1(g:D→Option D):List D→Option D
 | [d]=>g d
 | _=>none
theorem CbOk1.cb{r:List V→Hp→VK→Prop}{g:D→Option D}(ok:CbOk1 K cl r g):a9Z K cl r (g1 g):=by
 intro xs ds z H F Q s hx h q
 unfold g1 at h
 split at h
 ·obtain⟨v,r,rfl,h1,h2⟩:=hx.inv
  rw[h2.inv0]
  exact ok v _ z H F Q s (.inl h1) h q
 ·cases h
def a90(K:W.Frag)(cl:Str→Addr)(r:List V→Hp→VK→Prop)(g:D→Option (List D)):Prop:=∀x d zs H F Q,Same F H→Rb K cl F H d x→g d=some zs→(∀p xs,H p=none→Rps K cl F zs xs→Q (.ref p) (upd H p (.lst xs)))→r [x] H Q
def nCV(g:D→Option (List D))(i:Nat):NF:=fun e=>match look e i with
 | some d=>X7 (g d) e
 | none=>none
theorem a5i{r:List V→Hp→VK→Prop}{g:D→Option (List D)}{i:Nat}(ok:a90 K cl r g):X8 K cl E (tCB r (B0 (D7 i) M3)) (nCV g i):=by
 intro σ H Q env F R h
 unfold nCV at h
 cases q:look env i with
 | none=>rw[q]at h;exact h.elim
 | some d =>
  rw[q]at h
  obtain⟨x,e,rb⟩:=R.look q
  refine⟨x,e,?_⟩
  cases hz:g d with
  | none=>simp only[hz,V8]at h;exact h.elim
  | some z =>
   simp only[hz,V7]at h
   exact ok x d z H F Q R.sub rb hz fun p xs hp r=>Ct.newN R hp r h
def a91(K:W.Frag)(cl:Str→Addr)(r:R2)(g:D→D→Option (List D)):Prop:=∀x y d e zs H F Q,Same F H→Rb K cl F H d x→Rb K cl F H e y→g d e=some zs→(∀p xs,H p=none→Rps K cl F zs xs→Q (.ref p) (upd H p (.lst xs)))→r x y H Q
def nB(g:D→D→Option (List D))(f k:ZF):NF:=fun e=>bnd (f e) fun d e1=>bnd (k e1) fun d' e2=>X7 (g d d') e2
theorem b0G{r:R2}{g:D→D→Option (List D)}{ta tb:TE}{f k:ZF}(ok:a91 K cl r g)(ha:m3 K cl E ta f)(hb:m3 K cl E tb k):X8 K cl E (tOp r ta tb) (nB g f k):=by
 intro σ H Q env F R h
 refine ha σ H _ env F R ((Ct.bnd h a0F).mono fun x H1 ⟨F1,e1,d,s1,R1,p1,h1⟩=>?_)
 refine hb σ H1 _ e1 F1 R1 ((Ct.bnd h1 a0F).mono fun y H2 ⟨F2,e2,e,s2,R2,p2,h2⟩=>?_)
 cases hz:g d e with
 | none=>rw[hz]at h2;exact h2.elim
 | some z =>
  rw[hz]at h2
  exact ok x y d e z H2 F2 Q R2.sub (.inl (Rp.mono s2 _ _ p1)) (.inl p2) hz fun p xs hp r=>Ct.newN R2 hp r h2
end
section
variable {K:W.Frag}{cl:Str→Addr}{E:XK}{σ:St}{H F:Hp}{env:DE}
instance decMul(i j:Int):Decidable (IntMulOk i j):=by unfold IntMulOk;infer_instance
instance decPow(i j:Int):Decidable (a1t i j):=by unfold a1t;infer_instance
abbrev v5:=gI0 fun i j=>.int (i+j)
abbrev k6:=gI0 fun i j=>.int (i-j)
abbrev n0:=gI IntMulOk fun i j=>.int (i*j)
abbrev G0:=gI (fun _ j=>0<j∧j.natAbs.log2<9000) fun i j=>.int (i/j)
abbrev k9:=gI (fun _ j=>0<j) fun i j=>.int (i%j)
abbrev Q4:=gI a1t fun i j=>.int (i ^ j.toNat)
abbrev gLt:=gI0 fun i j=>.bl (decide (i<j))
abbrev gLe:=gI0 fun i j=>.bl (decide (i≤j))
abbrev gGt:=gI0 fun i j=>.bl (decide (j<i))
abbrev gGe:=gI0 fun i j=>.bl (decide (j≤i))
theorem A5:OpOk K cl (Q0 fun i j=>.int (i+j)) v5:=a0i fun F i j=>by simp only[Rp]
theorem z9:OpOk K cl (Q0 fun i j=>.int (i-j)) k6:=a0i fun F i j=>by simp only[Rp]
theorem C8:OpOk K cl (rI IntMulOk fun i j=>.int (i*j)) n0:=a4F fun F i j=>by simp only[Rp]
theorem Q5:OpOk K cl (rI (fun _ j=>0<j∧j.natAbs.log2<9000) fun i j=>.int (i/j)) G0:=a4F fun F i j=>by simp only[Rp]
theorem r9:OpOk K cl (rI (fun _ j=>0<j) fun i j=>.int (i%j)) k9:=a4F fun F i j=>by simp only[Rp]
theorem a2S:OpOk K cl (rI a1t fun i j=>.int (i ^ j.toNat)) Q4:=a4F fun F i j=>by simp only[Rp]
theorem b0H:OpOk K cl (Q0 fun i j=>.bl (decide (i<j))) gLt:=a0i fun F i j=>by simp only[Rp]
theorem V9:OpOk K cl (Q0 fun i j=>.bl (decide (i≤j))) gLe:=a0i fun F i j=>by simp only[Rp]
theorem a4G:OpOk K cl (Q0 fun i j=>.bl (decide (j<i))) gGt:=a0i fun F i j=>by simp only[Rp]
theorem a4H:OpOk K cl (Q0 fun i j=>.bl (decide (j≤i))) gGe:=a0i fun F i j=>by simp only[Rp]
def toV:D→Option V
 | .non=>some .non
 | .bl b=>some (.bl b)
 | .int i=>some (.int i)
 | .str x=>some (.str x)
 | _=>none
theorem Rb.toV{d:D}{v u:V}(h:Rb K cl F H d v)(e:toV d=some u):v=u:=by
 cases d with
 | non=>cases e;exact h.non
 | bl b=>cases e;exact h.bl
 | int i=>cases e;exact h.int
 | str x=>cases e;exact h.str
 | _=>cases e
def y3(neg:Bool)(d e:D):Option D:=match toV d,toV e with
 | some x,some y=>if a2y x y=true then some (.bl (if neg then !decide (x=y)else decide (x=y)))else none
 | _,_=>none
theorem a0j:OpOk K cl rEq (y3 false):=by
 intro x y d e z H F Q s hx hy h q
 unfold y3 at h
 split at h
 ·rename_i u w hu hw
  split at h
  ·rename_i c;cases h
   rw[hx.toV hu,hy.toV hw]
   exact⟨c,q _ H F (.refl s) (by simp only[Rp];rfl)⟩
  ·cases h
 ·cases h
theorem a08:OpOk K cl rNe (y3 true):=by
 intro x y d e z H F Q s hx hy h q
 unfold y3 at h
 split at h
 ·rename_i u w hu hw
  split at h
  ·rename_i c;cases h
   rw[hx.toV hu,hy.toV hw]
   exact⟨c,q _ H F (.refl s) (by simp only[Rp];rfl)⟩
  ·cases h
 ·cases h
@[simp] theorem a7U(neg:Bool)(a b:Int):y3 neg (.int a) (.int b)=some (.bl (if neg then !decide (a=b)else decide (a=b))):=by
 unfold y3 toV
 simp only[a2y,if_true,V.int.injEq]
def Z4(neg:Bool)(d e:D):Option D:=match d,e with
 | .non,.non=>some (.bl (!neg))
 | _,.non=>some (.bl neg)
 | _,_=>none
theorem Rb.notNon{d:D}{v:V}(h:Rb K cl F H d v)(n:d≠.non):v≠.non:=by
 rcases h with h | ⟨_,_,_,rfl,_⟩
 ·cases d<;>simp only[Rp]at h
  ·exact absurd rfl n
  all_goals first | (rw[h];intro z;cases z) | (obtain⟨_,_,rfl,_⟩:=h;intro z;cases z) | (obtain⟨_,rfl,_⟩:=h;intro z;cases z) | (obtain⟨_,_,_,rfl,_⟩:=h;intro z;cases z)
 ·intro z;cases z
theorem a7V:OpOk K cl (fun x y H Q=>y=.non∧Q (.bl (!decide (x=.non))) H) (Z4 true):=by
 intro x y d e z H F Q s hx hy h q
 unfold Z4 at h
 split at h
 ·cases h;rw[hx.non];exact⟨hy.non,q _ H F (.refl s) (by simp[Rp])⟩
 ·rename_i n;cases h
  exact⟨hy.non,q _ H F (.refl s) (by simp only[Rp];rw[decide_eq_false (hx.notNon n)];rfl)⟩
 ·cases h
theorem Rps.atI{ds:List D}{xs:List V}{i:Int}{d:D}(h:Rps K cl F ds xs)(e:atI ds i=some d):∃v,L2.atI xs i=some v∧Rp K cl F d v:=by
 unfold L2.atI at e ⊢
 rw[← h.length]
 cases q:K4 ds.length i with
 | none=>rw[q]at e;cases e
 | some j=>rw[q]at e;exact h.get e
def A2(d e:D):Option D:=match d,e with
 | .lst ds,.int i=>atI ds i
 | .scr ns,.int i=>(atI ns i).map .int
 | _,_=>none
def g7(d e:D):Option D:=match d,e with
 | .tup ds,.int i=>atI ds i
 | _,_=>none
theorem a7W{α β:Type}(f:α→β)(xs:List α)(i:Int):atI (xs.map f) i=(atI xs i).map f:=by
 unfold L2.atI
 rw[List.length_map]
 cases K4 xs.length i with
 | none=>rfl
 | some j=>simp
theorem K9:OpOk K cl (a4p K) A2:=by
 intro x y d e z H F Q s hx hy h q
 unfold A2 at h
 split at h
 ·obtain⟨a,xs,rfl,hH,r⟩:=hx.lst s
  obtain⟨v,e,p⟩:=r.atI h
  exact⟨a,xs,_,v,rfl,hy.int,.of hH,e,q v H F (.refl s) p⟩
 ·rename_i ns i
  obtain⟨a,rfl,hS⟩:=hx.scr s
  cases hz:atI ns i with
  | none=>rw[hz]at h;cases h
  | some n =>
   rw[hz]at h;cases h
   exact⟨a,_,_,.int n,rfl,hy.int,hS.seq,by rw[a7W,hz];rfl,q _ H F (.refl s) (by simp only[Rp])⟩
 ·cases h
theorem i6:OpOk K cl (a55 K) g7:=by
 intro x y d e z H F Q s hx hy h q
 unfold g7 at h
 split at h
 ·obtain⟨a,xs,rfl,hH,r⟩:=hx.tup s
  obtain⟨v,e,p⟩:=r.atI h
  exact⟨a,xs,_,v,rfl,hy.int,.of hH,e,q v H F (.refl s) p⟩
 ·cases h
def Q6:D→D→Bool
 | .non,.non=>true
 | .bl a,.bl b=>a == b
 | .bl a,.int b=>(if a then 1 else 0) == b
 | .int a,.bl b=>a == (if b then 1 else 0)
 | .int a,.int b=>a == b
 | .str a,.str b=>a == b
 | _,_=>false
def a4I:List D→List D→Bool
 | [],[]=>true
 | x::xs,y::ys=>Q6 x y && a4I xs ys
 | _,_=>false
def j5:D→Bool
 | .non=>true
 | .bl _=>true
 | .int _=>true
 | .str _=>true
 | _=>false
theorem Rp.flat{d:D}{v:V}(h:Rp K cl F d v)(f:j5 d=true):toV d=some v∧a2m v=true:=by
 cases d<;>simp only[Rp]at h<;>first | (subst h;exact⟨rfl,rfl⟩) | cases f
theorem Rps.flat:∀{ds:List D} {vs:List V},Rps K cl F ds vs→ds.all j5=true→vs.all a2m=true
 | [],_,h,_=>by rw[h.inv0];rfl
 | d::ds,_,h,f=>by
  obtain⟨v,r,rfl,h1,h2⟩:=h.inv
  rw[List.all_cons,Bool.and_eq_true]at f
  rw[List.all_cons,(h1.flat f.1).2,h2.flat f.2];rfl
theorem Rp.eq{d e:D}{v u:V}(h:Rp K cl F d v)(g:Rp K cl F e u)(fd:j5 d=true)(fe:j5 e=true):eqV v u=Q6 d e:=by
 have h1:=(h.flat fd).1
 have h2:=(g.flat fe).1
 cases d<;>cases e<;>first | (cases h1;cases h2;rfl) | (cases fd;done) | (cases fe;done)
theorem Rps.eq:∀{ds es:List D} {vs us:List V},Rps K cl F ds vs→Rps K cl F es us→ds.all j5=true→es.all j5=true→a6b vs us=a4I ds es
 | [],[],_,_,h,g,_,_=>by rw[h.inv0,g.inv0];rfl
 | [],_::_,_,_,h,g,_,_=>by rw[h.inv0];obtain⟨_,_,rfl,_,_⟩:=g.inv;rfl
 | _::_,[],_,_,h,g,_,_=>by rw[g.inv0];obtain⟨_,_,rfl,_,_⟩:=h.inv;rfl
 | d::ds,e::es,_,_,h,g,fd,fe=>by
  obtain⟨v,r,rfl,h1,h2⟩:=h.inv
  obtain⟨u,r',rfl,g1,g2⟩:=g.inv
  rw[List.all_cons,Bool.and_eq_true]at fd fe
  unfold a6b a4I
  rw[h1.eq g1 fd.1 fe.1,h2.eq g2 fd.2 fe.2]
theorem Rps.rep{ds:List D}{xs:List V}(h:Rps K cl F ds xs):∀n:Nat,Rps K cl F (List.replicate n ds).flatten (List.replicate n xs).flatten
 | 0=>.nil
 | n+1=>by rw[List.replicate_succ,List.replicate_succ,List.flatten_cons,List.flatten_cons];exact h.append (h.rep n)
def a0H(d e:D):Option (List D):=match d,e with
 | .lst ds,.int k=>if -(2 ^ 63)≤k∧k<2 ^ 63∧ds.length*k.toNat≤sizeLine then some (List.replicate k.toNat ds).flatten else none
 | _,_=>none
theorem a93:a91 K cl a9G a0H:=by
 intro x y d e zs H F Q s hx hy h q
 unfold a0H at h
 split at h
 ·split at h
  ·rename_i ds k c;cases h
   obtain⟨a,xs,rfl,hH,r⟩:=hx.lst s
   exact⟨a,k,xs,rfl,hy.int,hH,c.1,c.2.1,by rw[← r.length];exact c.2.2,fun p hp=>q p _ hp (r.rep _)⟩
  ·cases h
 ·cases h
def J1:D→Option D
 | .lst ds=>some (.int ds.length)
 | .tup ds=>some (.int ds.length)
 | .scr ns=>some (.int ns.length)
 | _=>none
theorem O2:CbOk1 K cl (a3L K) J1:=by
 intro x d z H F Q s hx h q
 unfold J1 at h
 split at h
 ·cases h
  obtain⟨a,xs,rfl,hH,r⟩:=hx.lst s
  exact⟨a,xs,rfl,.inl (.of hH),q _ H F (.refl s) (by simp only[Rp];rw[r.length])⟩
 ·cases h
  obtain⟨a,xs,rfl,hH,r⟩:=hx.tup s
  exact⟨a,xs,rfl,.inr (.of hH),q _ H F (.refl s) (by simp only[Rp];rw[r.length])⟩
 ·cases h
  obtain⟨a,rfl,hS⟩:=hx.scr s
  exact⟨a,_,rfl,.inl hS.seq,q _ H F (.refl s) (by simp only[Rp];rw[List.length_map])⟩
 ·cases h
def N4:D→Option D
 | .str z=>if z.length≤sizeLine then some (.int z.length)else none
 | _=>none
theorem a3R:CbOk1 K cl (fun xs H Q=>∃z,xs=[.str z]∧z.length≤sizeLine∧Q (.int z.length) H) N4:=by
 intro x d z H F Q s hx h q
 unfold N4 at h
 split at h
 ·split at h
  ·rename_i y c;cases h;rw[hx.str];exact⟨y,rfl,c,q _ H F (.refl s) (by simp only[Rp])⟩
  ·cases h
 ·cases h
def W0:D→Option (List D)
 | .lst ds=>some ds
 | .tup ds=>some ds
 | .scr ns=>some (ns.map .int)
 | _=>none
theorem a3S:a90 K cl (a3M K) W0:=by
 intro x d zs H F Q s hx h q
 unfold W0 at h
 split at h
 ·cases h
  obtain⟨a,xs,rfl,hH,r⟩:=hx.lst s
  exact⟨a,xs,rfl,.inl (.of hH),fun p hp=>q p _ hp r⟩
 ·cases h
  obtain⟨a,xs,rfl,hH,r⟩:=hx.tup s
  exact⟨a,xs,rfl,.inr (.of hH),fun p hp=>q p _ hp r⟩
 ·cases h
  obtain⟨a,rfl,hS⟩:=hx.scr s
  exact⟨a,_,rfl,.inl hS.seq,fun p hp=>q p _ hp Rps.ofInts⟩
 ·cases h
end
inductive R1 where | ret (d:D) | own (ds:List D) | owz (dss:List (List D)) | owp (n:Int) (ds:List D) | ex (c:XN)
def j3(K:W.Frag)(cl:Str→Addr)(g:List D→Option R1):Sp:=fun vs H Q E=>∃ds F,Same F H∧Rps K cl F ds vs∧match g ds with
 | none=>False
 | some (.ret d)=>∀v H' F',Gr H F H' F'→Rp K cl F' d v→Q v H'
 | some (.own es)=>∀a xs H' F',Gr H F H' F'→H a=none→H' a=some (.lst xs)→F' a=none→Rps K cl F' es xs→Q (.ref a) H'
 | some (.owz dss)=>∀p as H' F',Gr H F H' F'→H p=none→H' p=some (.tup (as.map V.ref))→F' p=none→Rz K cl F' H' (fun a=>H a=none) dss as→Q (.ref p) H'
 | some (.owp n es)=>∀p a xs H' F',Gr H F H' F'→H p=none→H' p=some (.tup [.int n,.ref a])→F' p=none→H a=none→H' a=some (.lst xs)→F' a=none→Rps K cl F' es xs→Q (.ref p) H'
 | some (.ex c)=>∀H' F',Gr H F H' F'→∀cx,Xf K cl F' c cx→E (.ref (cl c.nm)) cx H'
def toZ(r:Option R1)(e:DE):Option (R D):=match r with
 | none=>none
 | some (.ret d)=>some (.ok d e)
 | some (.own ds)=>some (.ok (.lst ds) e)
 | some (.owz _)=>none
 | some (.owp _ _)=>none
 | some (.ex c)=>some (.ex c)
def a0I(r:Option R1)(e:DE):Option (R D):=match r with
 | some (.ret d)=>some (.ok d e)
 | some (.own ds)=>some (.ok (.lst ds) e)
 | _=>none
def E6(g:List D→Option R1)(f:AF):ZF:=fun e=>bnd (f e) fun ds e1=>toZ (g ds) e1
def i9(g:List D→Option R1)(f:AF):ZF:=fun e=>bnd (f e) fun ds e1=>a0I (g ds) e1
def put(i:Nat)(s:Sl)(e:DE):Option RS:=match e[i]? with
 | none=>none
 | some (.hd _)=>none
 | some _=>some (.nx (e.set i s))
def a09(i:Nat)(r:Option R1)(e:DE):Option RS:=match r with
 | none=>none
 | some (.ret d)=>put i (.fz d) e
 | some (.own ds)=>put i (.ow ds) e
 | some (.owz _)=>none
 | some (.owp _ _)=>none
 | some (.ex c)=>some (.ex c)
def a0_(i:Nat)(r:Option R1)(e:DE):Option RS:=match r with
 | some (.ret d)=>put i (.fz d) e
 | some (.own ds)=>put i (.ow ds) e
 | _=>none
def a2p(r:Option R1):Option RS:=match r with
 | none=>none
 | some (.ret d)=>some (.rt d)
 | some (.own ds)=>some (.ro ds)
 | some (.owz dss)=>some (.rz dss)
 | some (.owp n ds)=>some (.rp n ds)
 | some (.ex c)=>some (.ex c)
def a1a(r:Option R1):Option RS:=match r with
 | some (.ret d)=>some (.rt d)
 | some (.own ds)=>some (.ro ds)
 | _=>none
def v3:SF:=fun e=>some (.nx e)
def c6(f k:SF):SF:=fun e=>match f e with
 | some (.nx e1)=>k e1
 | r=>r
def j9(i:Nat)(f:ZF):SF:=fun e=>B8 (f e) fun d e1=>put i (.fz d) e1
def C1(i:Nat)(f:NF):SF:=fun e=>B8 (f e) fun ds e1=>put i (.ow ds) e1
def P4(i:Nat)(g:List D→Option R1)(f:AF):SF:=fun e=>B8 (f e) fun ds e1=>a09 i (g ds) e1
def a1b(i:Nat)(g:List D→Option R1)(f:AF):SF:=fun e=>B8 (f e) fun ds e1=>a0_ i (g ds) e1
def n4(f:ZF):SF:=fun e=>B8 (f e) fun d _=>some (.rt d)
def W1(f:NF):SF:=fun e=>B8 (f e) fun ds _=>some (.ro ds)
def U3(g:List D→Option R1)(f:AF):SF:=fun e=>B8 (f e) fun ds _=>a1a (g ds)
def W2(i:Nat):SF:=fun e=>match e[i]? with
 | some (.fz d)=>some (.rt d)
 | some (.ow ds)=>some (.ro ds)
 | _=>none
def u3(c:BF)(f k:SF):SF:=fun e=>B8 (c e) fun b e1=>if b=true then f e1 else k e1
def Z5(c:Str)(f:AF):SF:=fun e=>B8 (f e) fun ds _=>if ds.length≤sizeLine then some (.ex (.p c))else none
def L3(i:Nat)(f:ZF):SF:=fun e=>match look e i with
 | some (.lst _)=>B8 (f e) fun d e1=>match e1[i]? with
  | some (.ow ds)=>if ds.length<sizeLine then some (.nx (e1.set i (.ow (ds++[d]))))else none
  | _=>none
 | _=>none
def a1z(i:Nat)(k:ZF)(f:ZF):SF:=fun e=>B8 (f e) fun d e1=>match look e1 i with
 | none=>none
 | some _=>B8 (k e1) fun j e2=>match e2[i]?,j with
  | some (.ow ds),.int j=>match K4 ds.length j with
   | some n=>some (.nx (e2.set i (.ow (ds.set n d))))
   | none=>none
  | _,_=>none
section
variable {K:W.Frag}{cl:Str→Addr}{E:XK}{σ:St}{H F:Hp}{env:DE}
theorem Gr.fx{H' F':Hp}(g:Gr H F H' F'):FX σ H F env H' F':=⟨g.fz,g.sub,fun a o h f _=>g.hid a o h f,g.dom⟩
theorem a5k{g:List D→Option R1}{ds:List D}{vs:List V}{Q:VK}(R:Rel K cl σ H F env)(p:Rps K cl F ds vs)(h:Ct K cl E (PZ K cl) (toZ (g ds) env) σ H F env Q):j3 K cl g (vs++[]) H Q E:=by
 rw[List.append_nil]
 refine⟨ds,F,R.sub,p,?_⟩
 unfold toZ at h
 split at h
 ·exact h.elim
 ·exact fun v H' F' gr r=>h v H' F' (R.frm gr) (R.gr gr) r
 ·rename_i es _
  intro a xs H' F' gr ha hH hF r
  have sF:Same F' (upd F' a (.lst xs)):=M5 hF _
  have gr':Gr H F H' (upd F' a (.lst xs)):=by
   refine⟨gr.fz.trans sF,fun b o z=>?_,fun b o hb fb=>?_⟩
   ·by_cases y:b=a
    ·subst y;rw[i0]at z;cases z;exact hH
    ·rw[c8 y]at z;exact gr.sub _ _ z
   ·obtain⟨h1,f1⟩:=gr.hid b o hb fb
    have nb:b≠a:=fun z=>by rw[z,ha]at hb;cases hb
    exact⟨h1,by rw[c8 nb];exact f1⟩
  exact h _ H' _ (R.frm gr') (R.gr gr') (by show Rp K cl _ (.lst es) _;simp only[Rp];exact⟨a,xs,rfl,i0,r.mono sF⟩)
 ·exact h.elim
 ·exact h.elim
 ·exact fun H' F' gr=>h H' F' gr.fx
theorem a7X{r:Option R1}{e:DE}{P:Py D V}{Q:VK}(h:Ct K cl E P (a0I r e) σ H F env Q):toZ r e=a0I r e∧∀c,r≠some (.ex c):=by
 unfold a0I at h
 split at h
 ·exact⟨rfl,fun c z=>by cases z⟩
 ·exact⟨rfl,fun c z=>by cases z⟩
 ·exact h.elim
theorem U4{g:List D→Option R1}{t:TA}{f:AF}(hf:M0 K cl E t f):m3 K cl E (V1 (j3 K cl g) [] E t) (E6 g f):=by
 intro σ H Q env F R h
 refine hf σ H _ env F R ((Ct.bnd h F9).mono fun vs H1 ⟨F1,e1,ds,s1,R1,p1,h1⟩=>a5k R1 p1 h1)
theorem r0{g:List D→Option R1}{t:TA}{f:AF}(hf:M0 K cl E t f):m3 K cl E (V1 (j3 K cl g) [] E0 t) (i9 g f):=by
 intro σ H Q env F R h
 refine hf σ H _ env F R ((Ct.bnd h F9).mono fun vs H1 ⟨F1,e1,ds,s1,R1,p1,h1⟩=>?_)
 refine a5k R1 p1 ?_
 obtain⟨z,n⟩:=a7X h1
 rw[z]
 unfold Ct at h1 ⊢
 split at h1
 ·exact h1
 ·exact h1
 ·rename_i c q
  exact absurd q (by unfold a0I;split<;>intro y<;>cases y)
theorem x9:RfS K cl E a7h v3:=fun N σ H env F R h=>h σ H F Frm.refl R
theorem c9{t u:TS}{f k:SF}(hf:RfS K cl E t f)(hk:RfS K cl E u k):RfS K cl E (a1r t u) (c6 f k):=by
 intro N σ H env F R h
 refine hf _ σ H env F R ?_
 unfold c6 at h
 split at h
 ·rename_i e1 q
  rw[q]
  intro σ' H' F' fr R'
  exact hk N σ' H' e1 F' R' (h.from fr)
 ·rename_i n
  unfold Cs at h ⊢
  split at h
  ·exact h
  ·rename_i e q;exact absurd q (n e)
  all_goals exact h
theorem Z6{i:Nat}{s:Sl}{e:DE}{N:Ends}{σ0:St}{H0 F0:Hp}{env0:DE}(h:Cs K cl E (put i s e) σ0 H0 F0 env0 N):i<e.length∧(∀ds,e[i]?≠some (.hd ds))∧Cs K cl E (some (.nx (e.set i s))) σ0 H0 F0 env0 N:=by
 unfold put at h
 split at h
 ·exact h.elim
 ·exact h.elim
 ·rename_i z n q
  exact⟨(List.getElem?_eq_some_iff.mp q).1,fun ds y=>by rw[q]at y;cases y;exact n ds rfl,h⟩
theorem m9{i:Nat}{t:TE}{f:ZF}(hf:m3 K cl E t f):RfS K cl E (T1 t (K3 i)) (j9 i f):=by
 intro N σ H env F R h
 refine hf σ H _ env F R ((Cs.bnd h).mono fun x H1 ⟨F1,e1,d,fr,R1,p1,h1⟩=>?_)
 obtain⟨hi,nh,h2⟩:=Z6 h1
 exact h2 _ H1 F1 (fr.trans (Frm.put nh)) (R1.put hi nh p1)
theorem M7{i:Nat}{t:TE}{f:NF}(hf:X8 K cl E t f):RfS K cl E (T1 t (K3 i)) (C1 i f):=by
 intro N σ H env F R h
 refine hf σ H _ env F R ((Cs.bnd h).mono fun x H1 ⟨F1,e1,ds,fr,R1,p1,h1⟩=>?_)
 obtain⟨a,xs,rfl,hn,hH,hF,nm,r⟩:=p1
 obtain⟨hi,nh,h2⟩:=Z6 h1
 exact h2 _ H1 F1 (fr.putO hn nh) (R1.putO hi hH hF nm r)
theorem n9{t:TE}{f:ZF}(hf:m3 K cl E t f):RfS K cl E (a2u t) (n4 f):=by
 intro N σ H env F R h
 exact hf σ H _ env F R ((Cs.bnd h).mono fun x H1 ⟨F1,e1,d,fr,R1,p1,h1⟩=>h1 x H1 F1 (fr.toFX R1.sub) p1)
theorem a1A{t:TE}{f:NF}(hf:X8 K cl E t f):RfS K cl E (a2u t) (W1 f):=by
 intro N σ H env F R h
 refine hf σ H _ env F R ((Cs.bnd h).mono fun x H1 ⟨F1,e1,ds,fr,R1,p1,h1⟩=>?_)
 obtain⟨a,xs,rfl,hn,hH,hF,nm,r⟩:=p1
 exact h1 a xs H1 F1 (fr.toFX R1.sub) hH hF (fun o e=>by rw[hn]at e;cases e) r
theorem a3T{i:Nat}:RfS K cl E (a2u (D7 i)) (W2 i):=by
 intro N σ H env F R h
 unfold W2 at h
 split at h
 ·rename_i d q
  obtain⟨v,e,r⟩:=R.fz i d q
  exact⟨v,e,h v H F (Frm.refl.toFX R.sub) r⟩
 ·rename_i ds q
  obtain⟨a,xs,e,hH,hF,r⟩:=R.mu i ds (.inl q)
  exact⟨_,e,h a xs H F (Frm.refl.toFX R.sub) hH hF (fun o _=>⟨i,.ow ds,True.intro,q,e⟩) r⟩
 ·exact h.elim
theorem t7{c:TT}{t u:TS}{b:BF}{f k:SF}(hc:K7 K cl E c b)(hf:RfS K cl E t f)(hk:RfS K cl E u k):RfS K cl E (a9q c t u) (u3 b f k):=by
 intro N σ H env F R h
 refine hc σ H _ env F R ((Cs.bnd h).mono fun x H1 ⟨F1,e1,d,fr,R1,p1,h1⟩=>?_)
 cases (show x=d from p1)
 by_cases z:x=true
 ·rw[if_pos z]at h1 ⊢;exact hf N σ H1 e1 F1 R1 (h1.from fr)
 ·rw[if_neg z]at h1 ⊢;exact hk N σ H1 e1 F1 R1 (h1.from fr)
theorem a2T{c:Str}{t:TA}{f:AF}(hf:M0 K cl E t f):RfS K cl E (a5f (cl c) E t) (Z5 c f):=by
 intro N σ H env F R h
 refine hf σ H _ env F R ((Cs.bnd h).mono fun xs H1 ⟨F1,e1,ds,fr,R1,p1,h1⟩=>?_)
 have hl:ds.length=xs.length:=Rps.length p1
 split at h1
 ·rename_i z
  exact⟨by rw[← hl];exact z,h1 H1 F1 (fr.toFX R1.sub) none rfl⟩
 ·exact h1.elim
theorem a1B{i:Nat}{g:List D→Option R1}{t:TA}{f:AF}(hf:M0 K cl E t f):RfS K cl E (T1 (V1 (j3 K cl g) [] E t) (K3 i)) (P4 i g f):=by
 intro N σ H env F R h
 refine hf σ H _ env F R ((Cs.bnd h).mono fun vs H1 ⟨F1,e1,ds,fr,R1,p1,h1⟩=>?_)
 show j3 K cl g (vs++[]) H1 _ E
 rw[List.append_nil]
 refine⟨ds,F1,R1.sub,p1,?_⟩
 unfold a09 at h1
 split at h1
 ·exact h1.elim
 ·obtain⟨hi,nh,h2⟩:=Z6 h1
  exact fun v H' F' gr r=>h2 _ H' F' ((fr.trans (R1.frm gr)).trans (Frm.put nh)) ((R1.gr gr).put hi nh r)
 ·obtain⟨hi,nh,h2⟩:=Z6 h1
  intro a xs H' F' gr ha hH hF r
  refine h2 _ H' F' ((fr.trans (R1.frm gr)).putO (fr.dom a ha) nh) ((R1.gr gr).putO hi hH hF (fun j mj e=>?_) r)
  obtain⟨es,q⟩:=mj
  obtain⟨b,ys,e',hb,_⟩:=R1.mu j es q
  rw[e]at e';cases e'
  rw[ha]at hb;cases hb
 ·exact h1.elim
 ·exact h1.elim
 ·exact fun H' F' gr=>h1 H' F' (fr.fx gr.fx)
theorem a6l{i:Nat}{g:List D→Option R1}{t:TA}{f:AF}(hf:M0 K cl E t f):RfS K cl E (T1 (V1 (j3 K cl g) [] E0 t) (K3 i)) (a1b i g f):=by
 intro N σ H env F R h
 refine hf σ H _ env F R ((Cs.bnd h).mono fun vs H1 ⟨F1,e1,ds,fr,R1,p1,h1⟩=>?_)
 show j3 K cl g (vs++[]) H1 _ E0
 rw[List.append_nil]
 refine⟨ds,F1,R1.sub,p1,?_⟩
 unfold a0_ at h1
 split at h1
 ·rename_i q;rw[q]
  obtain⟨hi,nh,h2⟩:=Z6 h1
  exact fun v H' F' gr r=>h2 _ H' F' ((fr.trans (R1.frm gr)).trans (Frm.put nh)) ((R1.gr gr).put hi nh r)
 ·rename_i q;rw[q]
  obtain⟨hi,nh,h2⟩:=Z6 h1
  intro a xs H' F' gr ha hH hF r
  refine h2 _ H' F' ((fr.trans (R1.frm gr)).putO (fr.dom a ha) nh) ((R1.gr gr).putO hi hH hF (fun j mj e=>?_) r)
  obtain⟨es,q⟩:=mj
  obtain⟨b,ys,e',hb,_⟩:=R1.mu j es q
  rw[e]at e';cases e'
  rw[ha]at hb;cases hb
 ·exact h1.elim
theorem a2U{g:List D→Option R1}{t:TA}{f:AF}(hf:M0 K cl E t f):RfS K cl E (a2u (V1 (j3 K cl g) [] E0 t)) (U3 g f):=by
 intro N σ H env F R h
 refine hf σ H _ env F R ((Cs.bnd h).mono fun vs H1 ⟨F1,e1,ds,fr,R1,p1,h1⟩=>?_)
 show j3 K cl g (vs++[]) H1 _ E0
 rw[List.append_nil]
 refine⟨ds,F1,R1.sub,p1,?_⟩
 unfold a1a at h1
 split at h1
 ·rename_i q;rw[q]
  exact fun v H' F' gr r=>h1 v H' F' (fr.fx gr.fx) r
 ·rename_i q;rw[q]
  exact fun a xs H' F' gr ha hH hF r=>h1 a xs H' F' (fr.fx gr.fx) hH hF (fun o e=>by rw[fr.dom a ha]at e;cases e) r
 ·exact h1.elim
theorem Rel.change{i:Nat}{ds es:List D}{a:Addr}{ys:List V}(R:Rel K cl σ H F env)(h:env[i]? = some (.ow ds))(e:σ[i]? = some (some (.ref a)))(r:Rps K cl F es ys) :
  Rel K cl σ (upd H a (.lst ys)) F (env.set i (.ow es))∧Frm σ H F env σ (upd H a (.lst ys)) F (env.set i (.ow es)):=by
 obtain⟨a',xs,e',hH,hF,_⟩:=R.mu i ds (.inl h)
 rw[e]at e';cases e'
 have hi:i<env.length:=(List.getElem?_eq_some_iff.mp h).1
 have self:(env.set i (.ow es))[i]? = some (.ow es):=List.getElem?_set_self hi
 have oth:∀j,j≠i→(env.set i (.ow es))[j]? = env[j]?:=fun j hj=>List.getElem?_set_ne (Ne.symm hj)
 have mui:∀j,Mu (env.set i (.ow es)) j→Mu env j:=fun j ⟨fs,q⟩=>by
  by_cases z:j=i
  ·subst z;exact⟨ds,.inl h⟩
  ·rw[oth j z]at q;exact⟨fs,q⟩
 refine⟨⟨fun b o q=>?_,by rw[List.length_set];exact R.len,fun j d q=>?_,fun j fs q=>?_,fun j k b hj hk=>R.inj j k b (mui j hj) (mui k hk),(R.od.updL hH).setE V6⟩,⟨Same.refl _,fun b o hb fb w=>?_,fun j fs q=>?_,fun b q=>?_⟩⟩
 ·have z:b≠a:=fun z=>by rw[z,hF]at q;cases q
  rw[c8 z];exact R.sub _ _ q
 ·have z:j≠i:=fun z=>by subst z;rw[self]at q;cases q
  rw[oth j z]at q;exact R.fz j d q
 ·by_cases z:j=i
  ·subst z
   rw[self]at q
   rcases q with q | q
   ·cases q;exact⟨a,ys,e,i0,hF,r⟩
   ·cases q
  ·rw[oth j z]at q
   obtain⟨b,zs,e1,h1,f1,r1⟩:=R.mu j fs q
   have nb:b≠a:=fun y=>z (R.inj j i b ⟨fs,q⟩ ⟨ds,.inl h⟩ e1 (by rw[y];exact e))
   exact⟨b,zs,e1,by rw[c8 nb];exact h1,f1,r1⟩
 ·have z:b≠a:=fun z=>w ⟨i,.ow ds,True.intro,h,by rw[z];exact e⟩
  refine⟨by rw[c8 z];exact hb,fb,fun⟨j,fs,oo,q,e1⟩=>?_⟩
  by_cases y:j=i
  ·subst y;rw[e]at e1;cases e1;exact z rfl
  ·rw[oth j y]at q;exact w ⟨j,fs,oo,q,e1⟩
 ·have z:j≠i:=fun z=>by subst z;rw[h]at q;cases q
  exact⟨by rw[oth j z];exact q,rfl⟩
 ·by_cases z:b=a
  ·rw[z,i0]at q;cases q
  ·rw[c8 z]at q;exact q
theorem Z7{i:Nat}{t:TE}{f:ZF}(hf:m3 K cl E t f):RfS K cl E (a4f (tBM K "list" a3I (D7 i) (B0 t M3))) (L3 i f):=by
 intro N σ H env F R h
 unfold L3 at h
 split at h
 ·rename_i ds0 q
  obtain⟨x,e0,rb⟩:=R.look q
  obtain⟨a0,xs0,rfl,hH0,_⟩:=rb.lst R.sub
  refine⟨_,e0,.inl ⟨rfl,xs0,.of hH0⟩,?_⟩
  ·refine hf σ H _ env F R ((Cs.bnd h).mono fun y H1 ⟨F1,e1,d,fr,R1,p1,h1⟩=>?_)
   split at h1
   ·rename_i ds q1
    split at h1
    ·rename_i c
     obtain⟨a,xs,e,hH,hF,r⟩:=R1.mu i ds (.inl q1)
     rw[e0]at e;cases e
     obtain⟨R2,f2⟩:=R1.change q1 e0 (r.append (.one p1))
     exact⟨_,xs,y,rfl,rfl,hH,by rw[← r.length];exact c,h1 σ _ F1 (fr.trans f2) R2⟩
    ·exact h1.elim
   ·exact h1.elim
 ·exact h.elim
theorem a5l{i:Nat}{t u:TE}{f k:ZF}(hf:m3 K cl E t f)(hk:m3 K cl E u k):RfS K cl E (T1 t (a52 (D7 i) u a4r)) (a1z i k f):=by
 intro N σ H env F R h
 refine hf σ H _ env F R ((Cs.bnd h).mono fun x H1 ⟨F1,e1,d,fr,R1,p1,h1⟩=>?_)
 cases q:look e1 i with
 | none=>simp only[q]at h1;exact h1.elim
 | some d0 =>
  simp only[q]at h1
  obtain⟨o,e0,_⟩:=R1.look q
  refine⟨o,e0,hk σ H1 _ e1 F1 R1 ((Cs.bnd (h1.from fr)).mono fun y H2 ⟨F2,e2,j,fr2,R2,p2,h2⟩=>?_)⟩
  split at h2
  ·rename_i _ _ ds j q2
   split at h2
   ·rename_i n hn
    obtain⟨a,xs,e,hH,hF,r⟩:=R2.mu i ds (.inl q2)
    rw[e0]at e;cases e
    obtain⟨R3,f3⟩:=R2.change q2 e0 (r.set (Rp.mono fr2.fz _ _ p1) n)
    have hy:y=.int j:=by have:=(show Rp K cl F2 (.int j) y from p2);simpa only[Rp]using this
    exact⟨a,xs,j,n,rfl,hy,hH,by rw[← r.length];exact hn,h2 σ _ F2 (fr2.trans f3) R3⟩
   ·exact h2.elim
  ·exact h2.elim
end
abbrev GF:=D→DE→Option DE
def b8(i:Nat):GF:=fun d e=>match e[i]? with
 | none=>none
 | some (.hd _)=>none
 | some _=>some (e.set i (.fz d))
def W3:List GF→List D→DE→Option DE
 | [],[],e=>some e
 | b::bs,d::ds,e=>match b d e with
  | none=>none
  | some e1=>W3 bs ds e1
 | _,_,_=>none
def m4(bs:List GF):GF:=fun d e=>match d with
 | .tup ds=>W3 bs ds e
 | _=>none
section
variable (K:W.Frag)(cl:Str→Addr)
def E2(k:Nat)(g:TG)(b:GF):Prop:=∀v σ H Q d env env' F,Rel K cl σ H F env→Rp K cl F d v→b d env=some env'→(∀σ',σ'.drop k=σ.drop k→σ'.length=σ.length→Frm σ H F env σ' H F env'→Rel K cl σ' H F env'→Q σ' H)→g v σ H Q
def a4J(k:Nat)(t:Y4)(bs:List GF):Prop:=∀vs σ H Q ds env env' F,Rel K cl σ H F env→Rps K cl F ds vs→W3 bs ds env=some env'→(∀σ',σ'.drop k=σ.drop k→σ'.length=σ.length→Frm σ H F env σ' H F env'→Rel K cl σ' H F env'→Q σ' H)→t vs σ H Q
end
section
variable {K:W.Frag}{cl:Str→Addr}{E:XK}{σ:St}{H F:Hp}{env:DE}{k:Nat}
theorem a6m{α:Type}{l:List α}{i k:Nat}{x:α}(h:i<k):(l.set i x).drop k=l.drop k:=by
 apply List.ext_getElem?
 intro j
 rw[List.getElem?_drop,List.getElem?_drop,List.getElem?_set_ne (by omega)]
theorem f9{i:Nat}(hi:i<k):E2 K cl k (K3 i) (b8 i):=by
 intro v σ H Q d env env' F R p h q
 unfold b8 at h
 split at h
 ·cases h
 ·cases h
 ·rename_i z n e
  cases h
  have nh:∀ds,env[i]?≠some (.hd ds):=fun ds y=>by rw[e]at y;cases y;exact n ds rfl
  exact q _ (a6m hi) List.length_set (Frm.put nh) (R.put (List.getElem?_eq_some_iff.mp e).1 nh p)
theorem y9:a4J K cl k a51 []:=by
 intro vs σ H Q ds env env' F R p h q
 cases ds with
 | nil=>cases h;exact⟨p.inv0,q σ rfl rfl Frm.refl R⟩
 | cons _ _=>cases h
theorem h8{t:TG}{u:Y4}{b:GF}{bs:List GF}(h1:E2 K cl k t b)(h2:a4J K cl k u bs):a4J K cl k (a2k t u) (b::bs):=by
 intro vs σ H Q ds env env' F R p h q
 cases ds with
 | nil=>cases h
 | cons d ds =>
  obtain⟨v,r,rfl,p1,p2⟩:=p.inv
  unfold W3 at h
  split at h
  ·cases h
  ·rename_i e1 hb
   refine⟨v,r,rfl,h1 v σ H _ d env e1 F R p1 hb fun σ1 d1 l1 f1 R1=>?_⟩
   exact h2 r σ1 H _ ds e1 env' F R1 p2 h fun σ2 d2 l2 f2 R2=>q σ2 (d2.trans d1) (l2.trans l1) (f1.trans f2) R2
theorem a16:∀{bs:List GF} {ds:List D} {e e':DE},W3 bs ds e=some e'→ds.length=bs.length
 | [],[],_,_,_=>rfl
 | [],_::_,_,_,h=>by cases h
 | _::_,[],_,_,h=>by cases h
 | b::bs,d::ds,e,e',h=>by
  unfold W3 at h
  split at h
  ·cases h
  ·simp[a16 h]
theorem z0{t:Y4}{bs:List GF}{n:Nat}(h:a4J K cl k t bs)(hn:bs.length=n):E2 K cl k (a4g K n t) (m4 bs):=by
 intro v σ H Q d env env' F R p e q
 unfold m4 at e
 split at e
 ·rename_i ds
  simp only[Rp]at p
  obtain⟨a,xs,rfl,hF,r⟩:=p
  exact⟨a,xs,rfl,.of (R.sub _ _ hF),by rw[← r.length,a16 e,hn],h xs σ H Q ds env env' F R r e q⟩
 ·cases e
def O7(f:ZF)(b:GF):SF:=fun e=>B8 (f e) fun d e1=>match b d e1 with
 | none=>none
 | some e2=>some (.nx e2)
theorem Q7{t:TE}{g:TG}{f:ZF}{b:GF}(hf:m3 K cl E t f)(hg:E2 K cl k g b):RfS K cl E (T1 t g) (O7 f b):=by
 intro N σ H env F R h
 refine hf σ H _ env F R ((Cs.bnd h).mono fun x H1 ⟨F1,e1,d,fr,R1,p1,h1⟩=>?_)
 split at h1
 ·exact h1.elim
 ·rename_i e2 hb
  exact hg x σ H1 _ d e1 e2 F1 R1 p1 hb fun σ' _ _ f2 R2=>h1 σ' H1 F1 (fr.trans f2) R2
def m7(b:GF)(body:SF):List D→DE→Option RS
 | [],e=>some (.nx e)
 | d::ds,e=>match b d e with
  | none=>none
  | some e1=>match body e1 with
   | some (.nx e2)=>m7 b body ds e2
   | some (.ct e2)=>m7 b body ds e2
   | some (.bk e2)=>some (.nx e2)
   | r=>r
theorem a0J{b:GF}{body:SF}{g:TG}{tb:TS}{d:D}{x:V}{ds:List D}{e1:DE}{N:Ends}{σ1:St}{H1 F1:Hp}{Pv:St→Hp→Prop}(hb:RfS K cl E tb body)(hg:E2 K cl k g b)
  (f1:Frm σ H F env σ1 H1 F1 e1) (R1:Rel K cl σ1 H1 F1 e1) (p:Rp K cl F1 d x) (h:Cs K cl E (m7 b body (d::ds) e1) σ H F env N)
  (hP:∀σ' H' F' e',Frm σ H F env σ' H' F' e'→Rel K cl σ' H' F' e'→Cs K cl E (m7 b body ds e') σ H F env N→Pv σ' H') :
  g x σ1 H1 fun σ2 H2=>tb { N with nx:=Pv,ct:=Pv,bk:=N.nx } σ2 H2:=by
 unfold m7 at h
 split at h
 ·exact h.elim
 ·rename_i e2 hbd
  refine hg x σ1 H1 _ d e1 e2 F1 R1 p hbd fun σ2 _ _ f2 R2=>?_
  refine hb _ σ2 H1 e2 F1 R2 ?_
  split at h
  ·rename_i e3 q;rw[q]
   exact fun σ' H' F' f3 R3=>hP σ' H' F' e3 ((f1.trans f2).trans f3) R3 h
  ·rename_i e3 q;rw[q]
   exact fun σ' H' F' f3 R3=>hP σ' H' F' e3 ((f1.trans f2).trans f3) R3 h
  ·rename_i e3 q;rw[q]
   exact fun σ' H' F' f3 R3=>h σ' H' F' ((f1.trans f2).trans f3) R3
  ·rename_i n1 n2 n3
   have h2:=h.from (f1.trans f2)
   unfold Cs at h2 ⊢
   split at h2
   ·exact h2
   ·rename_i e q;exact absurd q (n1 e)
   ·rename_i e q;exact absurd q (n3 e)
   ·rename_i e q;exact absurd q (n2 e)
   ·exact h2
   ·exact h2
   ·exact h2
   ·exact h2
   ·exact h2
theorem J8{α:Type}{l:List α}{i:Nat}{x:α}(h:l[i]? = some x):l.drop i=x::l.drop (i+1):=by
 obtain⟨hi,e⟩:=List.getElem?_eq_some_iff.mp h
 rw[← e];exact List.drop_eq_getElem_cons hi
theorem a4K{b:GF}{body:SF}{g:TG}{tb:TS}{ds:List D}{xs:List V}{a:Addr}{N:Ends}(hb:RfS K cl E tb body)(hg:E2 K cl k g b)(R:Rel K cl σ H F env)
  (hl:∀σ' H' F' e',Frm σ H F env σ' H' F' e'→Rel K cl σ' H' F' e'→SqL K H' a xs) (r:Rps K cl F ds xs) (h:Cs K cl E (m7 b body ds env) σ H F env N) :
  ∃W:Nat→Nat→St→Hp→Prop,(∃m,W 0 m σ H)∧∀i m σ H,W i m σ H →
   ((Itl K a).stop i H∧N.nx σ H)∨((Itl K a).go i H∧∃M:St→Hp→Prop,(∀σ' H',M σ' H'→∃m',m'<m∧W (i+1) m' σ' H')∧∀x H',(Itl K a).yld i H x H'→g x σ H' fun σ2 H2=>tb { N with nx:=M,ct:=M,bk:=N.nx } σ2 H2):=by
 refine a53 (xs:=xs) (fun i σ' H'=>∃F' e',Frm σ H F env σ' H' F' e'∧Rel K cl σ' H' F' e'∧Cs K cl E (m7 b body (ds.drop i) e') σ H F env N) ⟨F,env,Frm.refl,R,h⟩ (fun i σ' H' _ ⟨F',e',f,R',_⟩=>hl σ' H' F' e' f R') (fun i x σ' H' hx ⟨F',e',f,R',h'⟩=>?_) (fun σ' H' ⟨F',e',f,R',h'⟩=>?_)
 ·obtain⟨d,hd,p⟩:=r.get' hx
  rw[J8 hd]at h'
  exact a0J hb hg f R' (Rp.mono f.fz _ _ p) h' fun σ2 H2 F2 e2 f2 R2 h2=>⟨F2,e2,f2,R2,h2⟩
 ·rw[← r.length,List.drop_length]at h'
  exact h' σ' H' F' f R'
def seqL:D→Option (List D)
 | .lst ds=>some ds
 | .scr ns=>some (ns.map .int)
 | _=>none
theorem Rp.seqL{d:D}{ds:List D}{v:V}(p:Rp K cl F d v)(s:L2.seqL d=some ds):∃a xs,v=.ref a∧Rps K cl F ds xs∧∀H',Same F H'→SqL K H' a xs:=by
 unfold L2.seqL at s
 split at s
 ·cases s;simp only[Rp]at p
  obtain⟨a,xs,e,h,r⟩:=p
  exact⟨a,xs,e,r,fun H' g=>.of (g _ _ h)⟩
 ·cases s;simp only[Rp]at p
  obtain⟨a,e,h⟩:=p
  exact⟨a,_,e,Rps.ofInts,fun H' g=>(h.same g).seq⟩
 ·cases s
def a0K(f:ZF)(b:GF)(body:SF):SF:=fun e=>B8 (f e) fun d e1=>match seqL d with
 | none=>none
 | some ds=>m7 b body ds e1
theorem a94{t:TE}{g:TG}{tb:TS}{f:ZF}{b:GF}{body:SF}(hf:m3 K cl E t f)(hg:E2 K cl k g b)(hb:RfS K cl E tb body):RfS K cl E (a0w (a4j K t) g tb) (a0K f b body):=by
 intro N σ H env F R h
 refine hf σ H _ env F R ((Cs.bnd h).mono fun x H1 ⟨F1,e1,d,fr,R1,p1,h1⟩=>?_)
 split at h1
 ·exact h1.elim
 ·rename_i ds hs
  obtain⟨a,xs,rfl,r,hl⟩:=Rp.seqL p1 hs
  exact⟨a,rfl,⟨xs,hl H1 R1.sub⟩,a4K hb hg R1 (fun σ' H' F' e' f2 R2=>hl H' (f2.fz.trans R2.sub)) r (h1.from fr)⟩
def A0(lo:Int)(n:Nat):List D:=(List.range n).map fun(i:Nat)=>.int (lo+(i:Int))
theorem Z8{lo:Int}{n i:Nat}(h:i<n):(A0 lo n).drop i=.int (lo+i)::(A0 lo n).drop (i+1):=J8 (by unfold A0;rw[List.getElem?_map,List.getElem?_range h];rfl)
theorem Q8{lo:Int}{n:Nat}:(A0 lo n).length=n:=by unfold A0;rw[List.length_map,List.length_range]
theorem b1a{b:GF}{body:SF}{g:TG}{tb:TS}{lo:Int}{n:Nat}{N:Ends}(hb:RfS K cl E tb body)(hg:E2 K cl k g b)(R:Rel K cl σ H F env)(h:Cs K cl E (m7 b body (A0 lo n) env) σ H F env N) :
  ∃W:Nat→Nat→St→Hp→Prop,(∃m,W 0 m σ H)∧∀i m σ H,W i m σ H →
   ((X4 lo n).stop i H∧N.nx σ H)∨((X4 lo n).go i H∧∃M:St→Hp→Prop,(∀σ' H',M σ' H'→∃m',m'<m∧W (i+1) m' σ' H')∧∀x H',(X4 lo n).yld i H x H'→g x σ H' fun σ2 H2=>tb { N with nx:=M,ct:=M,bk:=N.nx } σ2 H2):=by
 refine a1R (fun i σ' H'=>∃F' e',Frm σ H F env σ' H' F' e'∧Rel K cl σ' H' F' e'∧Cs K cl E (m7 b body ((A0 lo n).drop i) e') σ H F env N) ⟨F,env,Frm.refl,R,h⟩ (fun i σ' H' hx ⟨F',e',f,R',h'⟩=>?_) (fun σ' H' ⟨F',e',f,R',h'⟩=>?_)
 ·rw[Z8 hx]at h'
  exact a0J hb hg f R' (by simp only[Rp]) h' fun σ2 H2 F2 e2 f2 R2 h2=>⟨F2,e2,f2,R2,h2⟩
 ·rw[show(A0 lo n).drop n=[]from List.drop_eq_nil_of_le (by rw[Q8];exact Nat.le_refl _)]at h'
  exact h' σ' H' F' f R'
def Z9(ds:List D):Option (Int×Nat):=match ds with
 | [.int j]=>if -(2 ^ 62)≤j∧j<2 ^ 62 then some (0,j.toNat)else none
 | _=>none
def a1C(ds:List D):Option (Int×Nat):=match ds with
 | [.int i,.int j]=>if -(2 ^ 62)≤i∧i<2 ^ 62∧-(2 ^ 62)≤j∧j<2 ^ 62 then some (i,(j-i).toNat)else none
 | _=>none
theorem a3U{ds:List D}{vs:List V}{lo:Int}{n:Nat}(h:Z9 ds=some (lo,n))(p:Rps K cl F ds vs):∃j:Int,vs=[.int j]∧-(2 ^ 62)≤j∧j<2 ^ 62∧lo=0∧n=j.toNat:=by
 unfold Z9 at h
 split at h
 ·rename_i j
  split at h
  ·rename_i c;cases h
   exact⟨j,(Rps.ints (ns:=[j]) p),c.1,c.2,rfl,rfl⟩
  ·cases h
 ·cases h
theorem a7Y{ds:List D}{vs:List V}{lo:Int}{n:Nat}(h:a1C ds=some (lo,n))(p:Rps K cl F ds vs):∃i j:Int,vs=[.int i,.int j]∧(-(2 ^ 62)≤i∧i<2 ^ 62∧-(2 ^ 62)≤j∧j<2 ^ 62)∧lo=i∧n=(j-i).toNat:=by
 unfold a1C at h
 split at h
 ·rename_i i j
  split at h
  ·rename_i c;cases h
   exact⟨_,j,(Rps.ints (ns:=[_,j]) p),c,rfl,rfl⟩
  ·cases h
 ·cases h
def a1c(rg:List D→Option (Int×Nat))(f:AF)(b:GF)(body:SF):SF:=fun e=>B8 (f e) fun ds e1=>match rg ds with
 | none=>none
 | some (lo,n)=>m7 b body (A0 lo n) e1
theorem a6n{t:TA}{g:TG}{tb:TS}{f:AF}{b:GF}{body:SF}(hf:M0 K cl E t f)(hg:E2 K cl k g b)(hb:RfS K cl E tb body):RfS K cl E (a0w (a2l t) g tb) (a1c Z9 f b body):=by
 intro N σ H env F R h
 refine hf σ H _ env F R ((Cs.bnd h).mono fun x H1 ⟨F1,e1,ds,fr,R1,p1,h1⟩=>?_)
 split at h1
 ·exact h1.elim
 ·rename_i lo n hs
  obtain⟨j,e,c1,c2,rfl,rfl⟩:=a3U hs p1
  exact⟨j,e,c1,c2,b1a hb hg R1 (h1.from fr)⟩
end
section
variable {K:W.Frag}{cl:Str→Addr}{E:XK}{σ:St}{H F:Hp}{env:DE}{k:Nat}
def unhide(i:Nat)(ds:List D)(r:Option RS):Option RS:=match r with
 | some (.nx e)=>some (.nx (e.set i (.ow ds)))
 | some (.bk _)=>none
 | some (.ct _)=>none
 | r=>r
theorem Rel.hide{i:Nat}{ds:List D}(R:Rel K cl σ H F env)(h:env[i]? = some (.ow ds)):Rel K cl σ H F (env.set i (.hd ds)):=by
 have hi:i<env.length:=(List.getElem?_eq_some_iff.mp h).1
 have self:(env.set i (.hd ds))[i]? = some (.hd ds):=List.getElem?_set_self hi
 have oth:∀j,j≠i→(env.set i (.hd ds))[j]? = env[j]?:=fun j hj=>List.getElem?_set_ne (Ne.symm hj)
 have mui:∀(j:Nat) (fs:List D),(env.set i (.hd ds))[j]? = some (.ow fs)∨(env.set i (.hd ds))[j]? = some (.hd fs)→env[j]? = some (.ow fs)∨env[j]? = some (.hd fs):=fun j fs q=>by
  by_cases z:j=i
  ·subst z;rw[self]at q;rcases q with q | q<;>cases q;exact .inl h
  ·rw[oth j z]at q;exact q
 refine⟨R.sub,by rw[List.length_set];exact R.len,fun j d q=>?_,fun j fs q=>R.mu j fs (mui j fs q),fun j l b ⟨fs,q⟩ ⟨gs,q'⟩=>R.inj j l b ⟨fs,mui j fs q⟩ ⟨gs,mui l gs q'⟩,R.od.setE a05⟩
 have z:j≠i:=fun z=>by subst z;rw[self]at q;cases q
 rw[oth j z]at q;exact R.fz j d q
theorem Ow.hide{i:Nat}{ds:List D}{a:Addr}(w:Ow σ (env.set i (.hd ds)) a):Ow σ env a:=by
 obtain⟨j,fs,oo,q,e⟩:=w
 by_cases z:j=i
 ·subst z
  have hj:j<env.length:=by have:=(List.getElem?_eq_some_iff.mp q).1;rwa [List.length_set]at this
  rw[List.getElem?_set_self hj]at q;cases q;exact oo.elim
 ·rw[List.getElem?_set_ne (Ne.symm z)]at q;exact⟨j,fs,oo,q,e⟩
theorem Rel.unhide{i:Nat}{ds:List D}(R:Rel K cl σ H F env)(h:env[i]? = some (.hd ds)):Rel K cl σ H F (env.set i (.ow ds)):=by
 have hi:i<env.length:=(List.getElem?_eq_some_iff.mp h).1
 have self:(env.set i (.ow ds))[i]? = some (.ow ds):=List.getElem?_set_self hi
 have oth:∀j,j≠i→(env.set i (.ow ds))[j]? = env[j]?:=fun j hj=>List.getElem?_set_ne (Ne.symm hj)
 have mui:∀(j:Nat) (fs:List D),(env.set i (.ow ds))[j]? = some (.ow fs)∨(env.set i (.ow ds))[j]? = some (.hd fs)→env[j]? = some (.ow fs)∨env[j]? = some (.hd fs):=fun j fs q=>by
  by_cases z:j=i
  ·subst z;rw[self]at q;rcases q with q | q<;>cases q;exact .inr h
  ·rw[oth j z]at q;exact q
 refine⟨R.sub,by rw[List.length_set];exact R.len,fun j d q=>?_,fun j fs q=>R.mu j fs (mui j fs q),fun j l b ⟨fs,q⟩ ⟨gs,q'⟩=>R.inj j l b ⟨fs,mui j fs q⟩ ⟨gs,mui l gs q'⟩,R.od.setE V6⟩
 have z:j≠i:=fun z=>by subst z;rw[self]at q;cases q
 rw[oth j z]at q;exact R.fz j d q
theorem Cs.hide{i:Nat}{ds:List D}{r:Option RS}{N:Ends}(R:Rel K cl σ H F env)(h:env[i]? = some (.ow ds))(c:Cs K cl E (unhide i ds r) σ H F env N):Cs K cl E r σ H F (env.set i (.hd ds)) N:=by
 have hi:i<env.length:=(List.getElem?_eq_some_iff.mp h).1
 have self:(env.set i (.hd ds))[i]? = some (.hd ds):=List.getElem?_set_self hi
 have fx:∀{H' F'},FX σ H F (env.set i (.hd ds)) H' F'→FX σ H F env H' F':=fun x=>⟨x.fz,x.sub,fun a o h f w=>x.hid a o h f fun y=>w y.hide,x.dom⟩
 rcases r with _ | r
 ·exact c
 cases r with
 | nx e =>
  intro σ' H' F' f R'
  obtain⟨q,eσ⟩:=f.keep i ds self
  refine c σ' H' F' ⟨f.fz,fun a o ha fa w=>?_,fun j fs q'=>?_,f.dom⟩ (R'.unhide q)
  ·obtain⟨h1,f1,w1⟩:=f.hid a o ha fa fun y=>w y.hide
   refine⟨h1,f1,fun⟨j,fs,oo,q2,e2⟩=>?_⟩
   by_cases z:j=i
   ·subst z
    rw[eσ]at e2
    exact w ⟨j,.ow ds,True.intro,h,e2⟩
   ·rw[List.getElem?_set_ne (Ne.symm z)]at q2
    exact w1 ⟨j,fs,oo,q2,e2⟩
  ·have z:j≠i:=fun z=>by subst z;rw[h]at q';cases q'
   obtain⟨q2,e2⟩:=f.keep j fs (by rw[List.getElem?_set_ne (Ne.symm z)];exact q')
   exact⟨by rw[List.getElem?_set_ne (Ne.symm z)];exact q2,e2⟩
 | bk e=>exact c.elim
 | ct e=>exact c.elim
 | rt d=>exact fun v H' F' x p=>c v H' F' (fx x) p
 | ro es=>exact fun a xs H' F' x ha fa nw p=>c a xs H' F' (fx x) ha fa (fun o e=>(nw o e).hide) p
 | rp n es=>exact fun p a xs H' F' x hp ht fp ha fa nw r=>c p a xs H' F' (fx x) hp ht fp ha fa (fun o e=>(nw o e).hide) r
 | rz dss=>exact fun p as H' F' x hp ht fp rz=>c p as H' F' (fx x) hp ht fp (rz.imp fun a xs ha fa nw o e=>(nw o e).hide)
 | ex n=>exact fun H' F' x=>c H' F' (fx x)
def a0k(i:Nat)(b:GF)(body:SF):SF:=fun e=>match e[i]? with
 | some (.fz d)=>(match seqL d with
  | none=>none
  | some ds=>m7 b body ds e)
 | some (.ow ds)=>unhide i ds (m7 b body ds (e.set i (.hd ds)))
 | some (.hd ds)=>m7 b body ds e
 | _=>none
theorem Rel.hid_stays{i:Nat}{ds:List D}(R:Rel K cl σ H F env)(h:env[i]? = some (.hd ds)):∃a xs,σ[i]? = some (some (.ref a))∧Rps K cl F ds xs∧H a=some (.lst xs)∧∀σ' H' F' e',Frm σ H F env σ' H' F' e'→H' a=some (.lst xs):=by
 obtain⟨a,xs,e,hH,hF,r⟩:=R.mu i ds (.inr h)
 refine⟨a,xs,e,r,hH,fun σ' H' F' e' f=>(f.hid a _ hH hF fun⟨j,fs,oo,q,e'⟩=>?_).1⟩
 cases fs with
 | ow fs =>
  have z:i=j:=R.inj i j a ⟨ds,.inr h⟩ ⟨fs,.inl q⟩ e e'
  subst z;rw[h]at q;cases q
 | od ks fs =>
  obtain⟨a',xs',e2,h2,_⟩:=R.od.at_ j _ ks fs q ⟨rfl,rfl⟩
  rw[e']at e2;cases e2
  rw[hH]at h2
  exact a3O (Option.some.inj h2).symm
 | no=>exact oo
 | fz _=>exact oo
 | hd _=>exact oo
 | hk _ _=>exact oo
theorem a3V{i:Nat}{g:TG}{tb:TS}{b:GF}{body:SF}(hg:E2 K cl k g b)(hb:RfS K cl E tb body):RfS K cl E (a0w (a4j K (D7 i)) g tb) (a0k i b body):=by
 intro N σ H env F R h
 unfold a0k at h
 split at h
 ·rename_i d q
  split at h
  ·exact h.elim
  ·rename_i ds hs
   obtain⟨v,e,p⟩:=R.fz i d q
   obtain⟨a,xs,rfl,r,hl⟩:=Rp.seqL p hs
   exact⟨_,e,a,rfl,⟨xs,hl H R.sub⟩,a4K hb hg R (fun σ' H' F' e' f2 R2=>hl H' (f2.fz.trans R2.sub)) r h⟩
 ·rename_i ds q
  have hi:i<env.length:=(List.getElem?_eq_some_iff.mp q).1
  have R':=R.hide q
  obtain⟨a,xs,e,r,hH,st⟩:=R'.hid_stays (i:=i) (ds:=ds) (List.getElem?_set_self hi)
  exact⟨_,e,a,rfl,⟨xs,.of hH⟩,a4K hb hg R' (fun σ' H' F' e' f2 R2=>.of (st σ' H' F' e' f2)) r (h.hide R q)⟩
 ·rename_i ds q
  obtain⟨a,xs,e,r,hH,st⟩:=R.hid_stays q
  exact⟨_,e,a,rfl,⟨xs,.of hH⟩,a4K hb hg R (fun σ' H' F' e' f2 R2=>.of (st σ' H' F' e' f2)) r h⟩
 ·exact h.elim
def G6(n:Nat):List D→List D
 | []=>[]
 | d::ds=>.tup [.int n,d]::G6 (n+1) ds
theorem a1D:∀{ds:List D} {n i:Nat} {d:D},ds[i]? = some d→(G6 n ds)[i]? = some (.tup [.int (n+i:Nat),d])
 | [],_,_,_,h=>by simp at h
 | _::_,n,0,_,h=>by simp at h;subst h;rfl
 | _::ds,n,i+1,d,h=>by
  have:=a1D (ds:=ds) (n:=n+1) (i:=i) (d:=d) (by simpa using h)
  show(G6 (n+1) ds)[i]? = _
  rw[this,show n+1+i=n+(i+1) by omega]
theorem a1E:∀{ds:List D} {n:Nat},(G6 n ds).length=ds.length
 | [],_=>rfl
 | _::ds,n=>by show(G6 (n+1) ds).length+1=ds.length+1;rw[a1E]
theorem a6o{b:GF}{body:SF}{g:TG}{tb:TS}{ds:List D}{xs:List V}{a:Addr}{N:Ends}(hb:RfS K cl E tb body)(hg:E2 K cl k g b)(R:Rel K cl σ H F env)
  (hl:∀σ' H' F' e',Frm σ H F env σ' H' F' e'→Rel K cl σ' H' F' e'→SqL K H' a xs) (r:Rps K cl F ds xs) (h:Cs K cl E (m7 b body (G6 0 ds) env) σ H F env N) :
  ∃W:Nat→Nat→St→Hp→Prop,(∃m,W 0 m σ H)∧∀i m σ H,W i m σ H →
   ((Ite K a).stop i H∧N.nx σ H)∨((Ite K a).go i H∧∃M:St→Hp→Prop,(∀σ' H',M σ' H'→∃m',m'<m∧W (i+1) m' σ' H')∧∀x H',(Ite K a).yld i H x H'→g x σ H' fun σ2 H2=>tb { N with nx:=M,ct:=M,bk:=N.nx } σ2 H2):=by
 refine a2J (xs:=xs) (fun i σ' H'=>∃F' e',Frm σ H F env σ' H' F' e'∧Rel K cl σ' H' F' e'∧Cs K cl E (m7 b body ((G6 0 ds).drop i) e') σ H F env N) ⟨F,env,Frm.refl,R,h⟩ (fun i σ' H' _ ⟨F',e',f,R',_⟩=>hl σ' H' F' e' f R') (fun i x σ' H' p hx ⟨F',e',f,R',h'⟩ hp=>?_) (fun σ' H' ⟨F',e',f,R',h'⟩=>?_)
 ·obtain⟨d,hd,pd⟩:=r.get' hx
  rw[J8 (a1D hd),Nat.zero_add]at h'
  have gr:Gr H' F' (upd H' p (.tup [.int i,x])) (upd F' p (.tup [.int i,x])):=.new R'.sub hp
  refine a0J hb hg (f.trans (R'.frm gr)) (R'.gr gr) ?_ h' fun σ2 H2 F2 e2 f2 R2 h2=>⟨F2,e2,f2,R2,h2⟩
  simp only[Rp]
  exact⟨p,_,rfl,i0,.cons (by simp only[Rp]) (.one (Rp.mono (f.fz.trans gr.fz) _ _ pd))⟩
 ·rw[← r.length,List.drop_eq_nil_of_le (by rw[a1E];exact Nat.le_refl _)]at h'
  exact h' σ' H' F' f R'
def C9(i:Nat)(b:GF)(body:SF):SF:=fun e=>match e[i]? with
 | some (.fz d)=>(match seqL d with
  | none=>none
  | some ds=>m7 b body (G6 0 ds) e)
 | some (.ow ds)=>unhide i ds (m7 b body (G6 0 ds) (e.set i (.hd ds)))
 | some (.hd ds)=>m7 b body (G6 0 ds) e
 | _=>none
theorem W4{i:Nat}{g:TG}{tb:TS}{b:GF}{body:SF}(hg:E2 K cl k g b)(hb:RfS K cl E tb body):RfS K cl E (a0w (a4y K (B0 (D7 i) M3)) g tb) (C9 i b body):=by
 intro N σ H env F R h
 unfold C9 at h
 split at h
 ·rename_i d q
  split at h
  ·exact h.elim
  ·rename_i ds hs
   obtain⟨v,e,p⟩:=R.fz i d q
   obtain⟨a,xs,rfl,r,hl⟩:=Rp.seqL p hs
   exact⟨_,e,a,rfl,⟨xs,hl H R.sub⟩,a6o hb hg R (fun σ' H' F' e' f2 R2=>hl H' (f2.fz.trans R2.sub)) r h⟩
 ·rename_i ds q
  have hi:i<env.length:=(List.getElem?_eq_some_iff.mp q).1
  have R':=R.hide q
  obtain⟨a,xs,e,r,hH,st⟩:=R'.hid_stays (i:=i) (ds:=ds) (List.getElem?_set_self hi)
  exact⟨_,e,a,rfl,⟨xs,.of hH⟩,a6o hb hg R' (fun σ' H' F' e' f2 R2=>.of (st σ' H' F' e' f2)) r (h.hide R q)⟩
 ·rename_i ds q
  obtain⟨a,xs,e,r,hH,st⟩:=R.hid_stays q
  exact⟨_,e,a,rfl,⟨xs,.of hH⟩,a6o hb hg R (fun σ' H' F' e' f2 R2=>.of (st σ' H' F' e' f2)) r h⟩
 ·exact h.elim
def a1F(e:DE):Bool:=e.all fun s=>match s with
 | .hd _=>false
 | _=>true
def a95(n i:Nat)(exm:Str→Bool)(body suite:SF):SF:=fun e=>match body e with
 | some (.ex (.v _ _ _))=>none
 | some (.ex (.p c))=>if(exm c && a1F e)=true then(match suite ((List.replicate n Sl.no).set i (.fz (.exc c)))with
   | some (.nx e2)=>put i .no e2
   | some (.rt d)=>some (.rt d)
   | some (.ro ds)=>some (.ro ds)
   | _=>none)else none
 | r=>r
theorem Rel.drop{i:Nat}(R:Rel K cl σ H F env)(nh:∀ds,env[i]?≠some (.hd ds)):Rel K cl (σ.set i none) H F (env.set i .no)∧Frm σ H F env (σ.set i none) H F (env.set i .no):=by
 have key:∀(j:Nat) (s:Sl),(env.set i .no)[j]? = some s→s≠.no→j≠i∧env[j]? = some s:=fun j s q ns=>by
  by_cases z:j=i
  ·subst z
   have hj:j<env.length:=by have:=(List.getElem?_eq_some_iff.mp q).1;rwa [List.length_set]at this
   rw[List.getElem?_set_self hj]at q;cases q;exact absurd rfl ns
  ·rw[List.getElem?_set_ne (Ne.symm z)]at q;exact⟨z,q⟩
 have muk:∀j,Mu (env.set i .no) j→j≠i∧Mu env j:=fun j ⟨ds,q⟩=>by
  rcases q with q | q
  ·obtain⟨z,q⟩:=key j _ q (fun z=>by cases z);exact⟨z,ds,.inl q⟩
  ·obtain⟨z,q⟩:=key j _ q (fun z=>by cases z);exact⟨z,ds,.inr q⟩
 refine⟨⟨R.sub,by rw[List.length_set,List.length_set];exact R.len,fun j d q=>?_,fun j ds q=>?_,fun j l b hj hl e1 e2=>?_,R.od.set a4D⟩,⟨Same.refl _,fun a o h f w=>⟨h,f,fun⟨j,ds,oo,q,e⟩=>?_⟩,fun j ds q=>?_,fun _ h=>h⟩⟩
 ·obtain⟨z,q⟩:=key j _ q (fun z=>by cases z)
  obtain⟨v,e,p⟩:=R.fz j d q
  exact⟨v,by rw[List.getElem?_set_ne (Ne.symm z)];exact e,p⟩
 ·have:j≠i∧(env[j]? = some (.ow ds)∨env[j]? = some (.hd ds)):=by
   rcases q with q | q
   ·obtain⟨z,q⟩:=key j _ q (fun z=>by cases z);exact⟨z,.inl q⟩
   ·obtain⟨z,q⟩:=key j _ q (fun z=>by cases z);exact⟨z,.inr q⟩
  obtain⟨z,q⟩:=this
  obtain⟨a,xs,e,r⟩:=R.mu j ds q
  exact⟨a,xs,by rw[List.getElem?_set_ne (Ne.symm z)];exact e,r⟩
 ·obtain⟨zj,mj⟩:=muk j hj
  obtain⟨zl,ml⟩:=muk l hl
  rw[List.getElem?_set_ne (Ne.symm zj)]at e1
  rw[List.getElem?_set_ne (Ne.symm zl)]at e2
  exact R.inj j l b mj ml e1 e2
 ·obtain⟨z,q⟩:=key j _ q (fun z=>by subst z;exact oo)
  rw[List.getElem?_set_ne (Ne.symm z)]at e
  exact w ⟨j,ds,oo,q,e⟩
 ·have z:j≠i:=fun z=>by subst z;exact nh ds q
  rw[List.getElem?_set_ne (Ne.symm z),List.getElem?_set_ne (Ne.symm z)]
  exact⟨q,rfl⟩
end
section
variable {K:W.Frag}{cl:Str→Addr}{E:XK}{σ:St}{H F:Hp}{env:DE}{k:Nat}
def Q9:Option Sl→Sl
 | some (.fz d)=>.fz d
 | some (.ow ds)=>.hd ds
 | some (.hd ds)=>.hd ds
 | some (.od ks ds)=>.hk ks ds
 | some (.hk ks ds)=>.hk ks ds
 | _=>.no
def l5(k:Nat)(js:List Nat)(e:DE):DE:=List.replicate k .no++js.map fun j=>Q9 e[j]?
def t5(b:GF)(c:BF)(el:ZF)(ec:DE)(eo:DE):List D→List D→Option (R (List D))
 | [],acc=>some (.ok acc eo)
 | d::ds,acc=>match b d ec with
  | none=>none
  | some e1=>bnd (c e1) fun t e2=>if t=true then bnd (el e2) fun y _=>if acc.length<sizeLine then t5 b c el ec eo ds (acc++[y])else none
   else t5 b c el ec eo ds acc
theorem O3{js:List Nat}{e:DE}{i:Nat}{s:Sl}(h:(l5 k js e)[i]? = some s)(n:s≠.no):k≤i∧∃j,js[i-k]? = some j∧Q9 e[j]? = s:=by
 unfold l5 at h
 by_cases z:i<k
 ·rw[List.getElem?_append_left (by rw[List.length_replicate];exact z),List.getElem?_replicate,if_pos z]at h
  cases h;exact absurd rfl n
 ·rw[List.getElem?_append_right (by rw[List.length_replicate];omega),List.length_replicate,List.getElem?_map]at h
  cases q:js[i-k]? with
  | none=>rw[q]at h;cases h
  | some j=>rw[q]at h;cases h;exact⟨by omega,j,rfl,rfl⟩
theorem C2{js:List Nat}{i j:Nat}{v:V}(hk:k≤i)(hj:js[i-k]? = some j)(h:σ[j]? = some (some v)):(l3 k js σ)[i]? = some (some v):=by
 unfold l3
 rw[List.getElem?_append_right (by rw[List.length_replicate];exact hk),List.length_replicate,List.getElem?_map,hj]
 simp[h]
theorem RelOd.comp{js:List Nat}(R:RelOd K cl σ H F env)(nd:js.Nodup):RelOd K cl (l3 k js σ) H F (l5 k js env):=by
 have cap:∀{j:Nat} {s:Sl} {ks:DK} {ds:List D},Q9 env[j]? = s→K6 s ks ds→∃t,env[j]? = some t∧K6 t ks ds:=fun{j s ks ds} h d=>by
  unfold Q9 at h
  split at h<;>subst h
  ·exact d.elim
  ·exact d.elim
  ·exact d.elim
  ·rename_i q;exact⟨_,q,d⟩
  ·rename_i q;exact⟨_,q,d⟩
  ·exact d.elim
 have get:∀(i:Nat) (s:Sl) (ks:DK) (ds:List D),(l5 k js env)[i]? = some s→K6 s ks ds→k≤i∧∃j t,js[i-k]? = some j∧env[j]? = some t∧K6 t ks ds:=fun i s ks ds h d=>by
  obtain⟨hk,j,hj,c⟩:=O3 h (fun z=>by subst z;exact d)
  obtain⟨t,q,dt⟩:=cap c d
  exact⟨hk,j,t,hj,q,dt⟩
 refine⟨fun i s ks ds h d=>?_,fun i l s t ks ls ds es b hi di hl dl ei el=>?_⟩
 ·obtain⟨hk,j,t,hj,q,dt⟩:=get i s ks ds h d
  obtain⟨a,xs,e,r⟩:=R.at_ j t ks ds q dt
  exact⟨a,xs,C2 hk hj e,r⟩
 ·obtain⟨hk,j,s',hj,q,dt⟩:=get i s ks ds hi di
  obtain⟨hk',m,t',hm,q',dt'⟩:=get l t ls es hl dl
  obtain⟨a,xs,e,_⟩:=R.at_ j s' ks ds q dt
  obtain⟨a',xs',e',_⟩:=R.at_ m t' ls es q' dt'
  have h1:=C2 (k:=k) hk hj e
  have h2:=C2 (k:=k) hk' hm e'
  rw[ei]at h1;cases h1
  rw[el]at h2;cases h2
  have jm:j=m:=R.inj j m s' t' ks ls ds es b q dt q' dt' e e'
  subst jm
  obtain⟨hi',ej⟩:=List.getElem?_eq_some_iff.mp hj
  obtain⟨hl',em⟩:=List.getElem?_eq_some_iff.mp hm
  have:i-k=l-k:=(List.getElem_inj nd).mp (ej.trans em.symm)
  omega
theorem Rel.comp{js:List Nat}(R:Rel K cl σ H F env)(nd:js.Nodup):Rel K cl (l3 k js σ) H F (l5 k js env):=by
 have cap:∀{j:Nat} {ds:List D},Q9 env[j]? = .hd ds→env[j]? = some (.ow ds)∨env[j]? = some (.hd ds):=fun{j ds} h=>by
  unfold Q9 at h
  split at h
  ·cases h
  ·rename_i q;cases h;exact .inl q
  ·rename_i q;cases h;exact .inr q
  ·cases h
  ·cases h
  ·cases h
 have noow:∀{j:Nat} {ds:List D},Q9 env[j]?≠.ow ds:=fun{j ds} h=>by
  unfold Q9 at h
  split at h<;>cases h
 have mu':∀(i:Nat) (ds:List D),((l5 k js env)[i]? = some (.ow ds)∨(l5 k js env)[i]? = some (.hd ds))→k≤i∧∃j,js[i-k]? = some j∧(env[j]? = some (.ow ds)∨env[j]? = some (.hd ds)):=fun i ds q=>by
  rcases q with q | q
  ·obtain⟨hk,j,hj,c⟩:=O3 q (fun z=>by cases z);exact absurd c noow
  ·obtain⟨hk,j,hj,c⟩:=O3 q (fun z=>by cases z);exact⟨hk,j,hj,cap c⟩
 refine⟨R.sub,?_,fun i d q=>?_,fun i ds q=>?_,fun i l b ⟨ds,q⟩ ⟨es,q'⟩ e1 e2=>?_,R.od.comp nd⟩
 ·unfold l3 l5
  rw[List.length_append,List.length_append,List.length_replicate,List.length_replicate,List.length_map,List.length_map]
 ·obtain⟨hk,j,hj,c⟩:=O3 q (fun z=>by cases z)
  have:env[j]? = some (.fz d):=by
   unfold Q9 at c
   split at c
   ·rename_i q;cases c;exact q
   all_goals cases c
  obtain⟨v,e,p⟩:=R.fz j d this
  exact⟨v,C2 hk hj e,p⟩
 ·obtain⟨hk,j,hj,c⟩:=mu' i ds q
  obtain⟨a,xs,e,r⟩:=R.mu j ds c
  exact⟨a,xs,C2 hk hj e,r⟩
 ·obtain⟨hk,j,hj,c⟩:=mu' i ds q
  obtain⟨hl,m,hm,c'⟩:=mu' l es q'
  obtain⟨a,xs,e,_⟩:=R.mu j ds c
  obtain⟨a',xs',e',_⟩:=R.mu m es c'
  have h1:=C2 (k:=k) hk hj e
  have h2:=C2 (k:=k) hl hm e'
  rw[e1]at h1;cases h1
  rw[e2]at h2;cases h2
  have jm:j=m:=R.inj j m b ⟨ds,c⟩ ⟨es,c'⟩ e e'
  subst jm
  obtain⟨hi',ei⟩:=List.getElem?_eq_some_iff.mp hj
  obtain⟨hl',el⟩:=List.getElem?_eq_some_iff.mp hm
  have:i-k=l-k:=(List.getElem_inj nd).mp (ei.trans el.symm)
  omega
def NoOw(e:DE):Prop:=∀(i:Nat) (s:Sl),isO s→e[i]?≠some s
theorem a17{js:List Nat}{e:DE}:NoOw (l5 k js e):=fun i s oo q=>by
 obtain⟨hk,j,hj,c⟩:=O3 q (fun z=>by subst z;exact oo)
 unfold Q9 at c
 split at c<;>subst c<;>exact oo
theorem NoOw.not{e:DE}(n:NoOw e){σ:St}{a:Addr}:¬Ow σ e a:=fun⟨i,ds,oo,q,_⟩=>n i ds oo q
theorem Frm.gr{σ':St}{H' F':Hp}{env':DE}(f:Frm σ H F env σ' H' F' env')(n:NoOw env)(s:Same F' H'):Gr H F H' F':=⟨f.fz,s,fun a o h g=>by obtain⟨h1,f1,_⟩:=f.hid a o h g n.not;exact⟨h1,f1⟩⟩
theorem FX.gr{H' F':Hp}(f:FX σ H F env H' F')(n:NoOw env):Gr H F H' F':=⟨f.fz,f.sub,fun a o h g=>f.hid a o h g n.not⟩
structure Grow(K:W.Frag)(cl:Str→Addr)(σ:St)(H0 F0:Hp)(env:DE)(B:Addr)(acc:List D)(ys:List V)(H F:Hp):Prop where
 rel:Rel K cl σ H F env
 frm:Frm σ H0 F0 env σ H F env
 new:H0 B=none
 at_:H B=some (.lst ys)
 un:F B=none
 far:∀j,Mu env j→σ[j]?≠some (some (.ref B))
 rps:Rps K cl F acc ys
 stay:∀a o,H0 a=some o→F0 a=none→H a=some o∧F a=none
theorem Grow.start{B:Addr}(R:Rel K cl σ H F env)(hB:H B=none):Grow K cl σ H F env B [] [] (upd H B (.lst [])) F:=by
 obtain⟨R',f⟩:=R.newN (o:=.lst []) hB
 refine⟨R',f,hB,i0,R.sub.free hB,fun j ⟨ds,q⟩ e=>?_,.nil,fun a o h f=>⟨by rw[c8 (fun z=>by rw[z,hB]at h;cases h)];exact h,f⟩⟩
 obtain⟨a,ys,e1,hH,_⟩:=R.mu j ds q
 rw[e]at e1;cases e1
 rw[hB]at hH;cases hH
theorem Grow.gr{B:Addr}{acc:List D}{ys:List V}{H0 F0 H' F':Hp}(g:Grow K cl σ H0 F0 env B acc ys H F)(r:Gr H F H' F'):Grow K cl σ H0 F0 env B acc ys H' F' :=
 ⟨g.rel.gr r,g.frm.trans (g.rel.frm r),g.new,(r.hid B _ g.at_ g.un).1,(r.hid B _ g.at_ g.un).2,g.far,g.rps.mono r.fz,fun a o h f=>by obtain⟨h1,f1⟩:=g.stay a o h f;exact r.hid a o h1 f1⟩
theorem Grow.push{B:Addr}{acc:List D}{ys:List V}{H0 F0:Hp}{d:D}{y:V}(g:Grow K cl σ H0 F0 env B acc ys H F)(p:Rp K cl F d y):Grow K cl σ H0 F0 env B (acc++[d]) (ys++[y]) (upd H B (.lst (ys++[y]))) F:=by
 have ne:∀a o,F a=some o→a≠B:=fun a o h z=>by rw[z,g.un]at h;cases h
 refine⟨⟨fun a o h=>by rw[c8 (ne a o h)];exact g.rel.sub _ _ h,g.rel.len,g.rel.fz,fun j ds q=>?_,g.rel.inj,g.rel.od.updL g.at_⟩,⟨g.frm.fz,fun a o h f w=>?_,g.frm.keep,fun a h=>?_⟩,g.new,i0,g.un,g.far,g.rps.append (.one p),fun a o h f=>by rw[c8 (fun z=>by rw[z,g.new]at h;cases h)];exact g.stay a o h f⟩
 ·obtain⟨a,xs,e,hH,r⟩:=g.rel.mu j ds q
  have z:a≠B:=fun z=>g.far j ⟨ds,q⟩ (by rw[e,z])
  exact⟨a,xs,e,by rw[c8 z];exact hH,r⟩
 ·have z:a≠B:=fun z=>by rw[z,g.new]at h;cases h
  rw[c8 z];exact g.frm.hid a o h f w
 ·by_cases z:a=B
  ·rw[z,i0]at h;cases h
  ·rw[c8 z]at h;exact g.frm.dom a h
theorem a18{b:GF}{c:BF}{el:ZF}{g:TG}{tf:TT}{te:TE}{js:List Nat}{B:Addr}{d:D}{x:V}{ds acc:List D}{ys:List V}{H0 F0:Hp}{Q:VK}{Pv:List V→Hp→Prop}(nd:js.Nodup)
  (hg:E2 K cl k g b) (hc:K7 K cl E tf c) (he:m3 K cl E te el) (gw:Grow K cl σ H0 F0 env B acc ys H F) (p:Rp K cl F d x)
  (h:Ct K cl E (PN K cl) (t5 b c el (l5 k js env) env (d::ds) acc) σ H0 F0 env Q)
  (hP:∀acc' ys' H' F',Grow K cl σ H0 F0 env B acc' ys' H' F'→Ct K cl E (PN K cl) (t5 b c el (l5 k js env) env ds acc') σ H0 F0 env Q→Pv ys' H') :
  g x (l3 k js σ) H fun σ2 H2=>(σ2.drop k=(l3 k js σ).drop k∧σ2.length=(l3 k js σ).length)∧tf σ2 H2 fun t H3 =>
   if t=true then te σ2 H3 fun y H4=>H4 B=some (.lst ys)∧ys.length<sizeLine∧Pv (ys++[y]) (upd H4 B (.lst (ys++[y])))else Pv ys H3:=by
 unfold t5 at h
 have Rc:Rel K cl (l3 k js σ) H F (l5 k js env):=gw.rel.comp nd
 split at h
 ·exact h.elim
 ·rename_i e1 hb
  refine hg x _ H _ d _ e1 F Rc p hb fun σ2 d2 l2 f2 R2=>⟨⟨d2,l2⟩,?_⟩
  have n1:NoOw (l5 k js env):=a17
  -- ways out by an exception
  have exc:∀{H' F':Hp} {σ':St} {e':DE} {H'' F'':Hp} {n:XN},Frm (l3 k js σ) H F (l5 k js env) σ' H' F' e'→FX σ' H' F' e' H'' F''→(∀H' F',FX σ H0 F0 env H' F'→∀cx,Xf K cl F' n cx→E (.ref (cl n.nm)) cx H')→∀cx,Xf K cl F'' n cx→E (.ref (cl n.nm)) cx H'':=fun{H' F' σ' e' H'' F'' n} f fx q=>by
   have gr:Gr H F H'' F'':=(f.fx fx).gr n1
   exact q _ _ (gw.frm.fx gr.fx)
  refine hc σ2 H _ e1 F R2 ?_
  cases hce:c e1 with
  | none=>rw[hce]at h;exact h.elim
  | some rc =>
   rw[hce]at h
   cases rc with
   | ex n=>exact fun H' F' fx=>exc f2 fx h
   | ok t e2 =>
    intro t' H3 F3 f3 R3 ht
    have ht:t'=t:=ht
    subst ht
    have h:Ct K cl E (PN K cl) (if t'=true then bnd (el e2) fun y _=>if acc.length<sizeLine then t5 b c el (l5 k js env) env ds (acc++[y])else none else t5 b c el (l5 k js env) env ds acc) σ H0 F0 env Q:=h
    have gr3:Gr H F H3 F3:=(f2.trans f3).gr n1 R3.sub
    by_cases z:t'=true
    ·rw[if_pos z]at h ⊢
     refine he σ2 H3 _ e2 F3 R3 ?_
     cases hel:el e2 with
     | none=>rw[hel]at h;exact h.elim
     | some re =>
      rw[hel]at h
      cases re with
      | ex n=>exact fun H' F' fx=>exc (f2.trans f3) fx h
      | ok y e3 =>
       intro v H4 F4 f4 R4 hv
       have h:Ct K cl E (PN K cl) (if acc.length<sizeLine then t5 b c el (l5 k js env) env ds (acc++[y])else none) σ H0 F0 env Q:=h
       split at h
       ·rename_i hlen
        have gr4:Gr H F H4 F4:=((f2.trans f3).trans f4).gr n1 R4.sub
        have gw4:=gw.gr gr4
        exact⟨gw4.at_,by rw[← gw4.rps.length];exact hlen,hP _ _ _ _ (gw4.push hv) h⟩
       ·exact h.elim
    ·rw[if_neg z]at h ⊢
     exact hP _ _ _ _ (gw.gr gr3) h
theorem a2V{b:GF}{c:BF}{el:ZF}{js:List Nat}{B:Addr}{acc:List D}{ys:List V}{H0 F0:Hp}{Q:VK}(gw:Grow K cl σ H0 F0 env B acc ys H F)(h:Ct K cl E (PN K cl) (t5 b c el (l5 k js env) env [] acc) σ H0 F0 env Q):Q (.ref B) H :=
 h _ H F gw.frm gw.rel ⟨B,ys,rfl,gw.new,gw.at_,gw.un,gw.far,gw.rps⟩
def P5:BF:=fun e=>some (.ok true e)
theorem a2W:K7 K cl E a0h P5:=fun σ H Q env F R h=>h true H F Frm.refl R rfl
end
def fD(n m:Nat)(body:SF)(ds:List D):Option R1:=if ds.length=m then(match body (ds.map .fz++List.replicate (n-ds.length) .no)with
 | some (.nx _)=>some (.ret .non)
 | some (.rt d)=>some (.ret d)
 | some (.ro es)=>some (.own es)
 | some (.rz dss)=>some (.owz dss)
 | some (.rp n es)=>some (.owp n es)
 | some (.ex c)=>some (.ex c)
 | _=>none)else none
section
variable {P:Program}{w:World}{K:W.Frag}{mg:Str→Option Value}{base:Heap}{cl:Str→Addr}
theorem a5m{N:List Str}{vs:List V}{ds:List D}{H F:Hp}(s:Same F H)(p:Rps K cl F ds vs):Rel K cl (start N vs) H F (ds.map .fz++List.replicate (N.length-ds.length) .no)∧NoOw (ds.map .fz++List.replicate (N.length-ds.length) .no):=by
 have key:∀(i:Nat) (t:Sl),(ds.map Sl.fz++List.replicate (N.length-ds.length) .no)[i]? = some t→t≠.no→∃d,ds[i]? = some d∧t=.fz d:=fun i t q n=>by
  by_cases z:i<ds.length
  ·rw[List.getElem?_append_left (by rw[List.length_map];exact z),List.getElem?_map]at q
   cases hd:ds[i]? with
   | none=>rw[hd]at q;cases q
   | some d=>rw[hd]at q;cases q;exact⟨d,rfl,rfl⟩
  ·rw[List.getElem?_append_right (by rw[List.length_map];omega),List.getElem?_replicate]at q
   split at q
   ·cases q;exact absurd rfl n
   ·cases q
 have no:NoOw (ds.map .fz++List.replicate (N.length-ds.length) .no):=fun i es oo q=>by
  obtain⟨d,_,z⟩:=key i _ q (fun z=>by subst z;exact oo)
  subst z;exact oo
 refine⟨⟨s,?_,fun i d q=>?_,fun i es q=>?_,fun i j b ⟨es,q⟩ _ _ _=>?_,.none fun j s ks ds q d=>by obtain⟨_,_,rfl⟩:=key j s q (fun z=>by subst z;exact d);exact d⟩,no⟩
 ·unfold start
  rw[List.length_append,List.length_append,List.length_map,List.length_map,List.length_replicate,List.length_replicate,p.length]
 ·obtain⟨d',hd,z⟩:=key i _ q (fun z=>by cases z)
  cases z
  obtain⟨v,hv,r⟩:=p.get hd
  refine⟨v,?_,r⟩
  unfold start
  rw[List.getElem?_append_left (by rw[List.length_map];exact(List.getElem?_eq_some_iff.mp hv).1),List.getElem?_map,hv];rfl
 ·rcases q with q | q
  ·obtain⟨d,_,z⟩:=key i _ q (fun z=>by cases z);cases z
  ·obtain⟨d,_,z⟩:=key i _ q (fun z=>by cases z);cases z
 ·rcases q with q | q
  ·obtain⟨d,_,z⟩:=key i _ q (fun z=>by cases z);cases z
  ·obtain⟨d,_,z⟩:=key i _ q (fun z=>by cases z);cases z
theorem a3W{n m:Nat}{body:SF}{vs:List V}{H:Hp}{Q:VK}{E:XK}(h:j3 K cl (fD n m body) vs H Q E):vs.length=m:=by
 obtain⟨ds,F,s,p,h⟩:=h
 unfold fD at h
 by_cases z:ds.length=m
 ·rw[← p.length];exact z
 ·rw[if_neg z]at h;exact h.elim
theorem a1d{N:List Str}{m:Nat}{body:SF}{t:TS}{vs:List V}{H:Hp}{Q:VK}{E:XK}(hb:RfS K cl E t body)(h:j3 K cl (fD N.length m body) vs H Q E):t { nx:=fun _ H'=>Q .non H',rt:=Q } (start N vs) H:=by
 obtain⟨ds,F,s,p,h⟩:=h
 obtain⟨R,no⟩:=a5m (N:=N) s p
 refine hb _ _ H _ F R ?_
 unfold fD at h
 by_cases z:ds.length=m
 ·rw[if_pos z]at h
  cases r:body (ds.map .fz++List.replicate (N.length-ds.length) .no)with
  | none=>rw[r]at h;exact h.elim
  | some rs =>
   rw[r]at h
   cases rs with
   | nx e=>exact fun σ' H' F' f R'=>h .non H' F' (f.gr no R'.sub) (by simp only[Rp])
   | rt d=>exact fun v H' F' x q=>h v H' F' (x.gr no) q
   | ro es =>
    refine fun a xs H' F' x ha fa nw q=>h a xs H' F' (x.gr no) ?_ ha fa q
    cases e:H a with
    | none=>rfl
    | some o=>exact absurd (nw o e) no.not
   | rz dss =>
    refine fun p as H' F' x hp ht fp rz=>h p as H' F' (x.gr no) hp ht fp (rz.imp fun a xs ha fa nw=>?_)
    cases e:H a with
    | none=>rfl
    | some o=>exact absurd (nw o e) no.not
   | rp n es =>
    refine fun p a xs H' F' x hp ht fp ha fa nw q=>h p a xs H' F' (x.gr no) hp ht fp ?_ ha fa q
    cases e:H a with
    | none=>rfl
    | some o=>exact absurd (nw o e) no.not
   | bk e=>exact h.elim
   | ct e=>exact h.elim
   | ex c=>exact fun H' F' x=>h H' F' (x.gr no)
 ·rw[if_neg z]at h;exact h.elim
theorem Fun.okD{x qual:Str}{st:Stmt}{f:Addr}{fd:FuncData}{N ps:List Str}{k:Nat}{body:SF}(F:Fun K x qual st f fd)(S:FnScope N ps (c5 st))
  (hbody:∀(cdv:Value) (A:Around) (outer:List Env) (s:Shared) (H:Hp) (E:XK),Room k (A.deeper (envOfC qual (c5 st) s.heap.objs.size f cdv)) →
   ∃t,PSs (M4 (u9 P w) P w K mg base N qual (c5 st) f cdv A outer s H E) (j0 st) t∧RfS K cl E t body):FnOk P w K mg base (u9 P w) (k+1) f fd ps (j3 K cl (fD N.length ps.length body)) :=
 F.okE S (fun vs H Q E h=>a3W h) fun cdv A outer s H vs Q E hr h=>by
  obtain⟨t,h1,h2⟩:=hbody cdv A outer s H E hr
  exact⟨t,h1,a1d h2 h⟩
theorem FunD.okD{x qual:Str}{st:Stmt}{dT f:Addr}{fd:FuncData}{N ps:List Str}{k:Nat}{body:SF}(F:FunD K x qual st dT f fd)(S:FnScope N ps (c5 st))
  (hbody:∀(cdv:Value) (A:Around) (outer:List Env) (s:Shared) (H:Hp) (E:XK),Room k (A.deeper (envOfC qual (c5 st) s.heap.objs.size f cdv)) →
   ∃t,PSs (M4 (u9 P w) P w K mg base N qual (c5 st) f cdv A outer s H E) (j0 st) t∧RfS K cl E t body):FnOk P w K mg base (u9 P w) (k+1) f fd ps (j3 K cl (fD N.length ps.length body)) :=
 F.okE S (fun vs H Q E h=>a3W h) fun cdv A outer s H vs Q E hr h=>by
  obtain⟨t,h1,h2⟩:=hbody cdv A outer s H E hr
  exact⟨t,h1,a1d h2 h⟩
theorem a7Z{g:List D→Option R1}{vs:List V}{H:Hp}{Q:VK}{E:XK}{a:Addr}{ns:List Int}(e:vs=[.ref a])(h:Scr K H a (ns.map V.int))(q:∀H',Q (.bl true) H')(m:g [.scr ns]=some (.ret (.bl true))):j3 K cl g vs H Q E:=by
 refine⟨[.scr ns],H,Same.refl _,?_,?_⟩
 ·rw[e];exact .one (by simp only[Rp];exact⟨a,rfl,h⟩)
 ·rw[m]
  intro v H' F' _ p
  have p:Rp K cl F' (.bl true) v:=p
  simp only[Rp]at p
  rw[p];exact q H'
def tyN:D→Option String
 | .non=>some "NoneType"
 | .bl _=>some "bool"
 | .int _=>some "int"
 | .str _=>some "str"
 | .lst _=>some "list"
 | .tup _=>some "tuple"
 | _=>none
theorem a70{K:W.Frag}(t n:String)(ht:t∈["NoneType","bool","int","str","list","tuple"])(hn:n∈["bool","int","str","list","tuple"]):W.kitOne K (.type t) (.type n)=some (t == n || (t == "bool" && n == "int")):=by
 simp only[List.mem_cons,List.not_mem_nil,or_false]at ht hn
 rcases ht with rfl | rfl | rfl | rfl | rfl | rfl<;>rcases hn with rfl | rfl | rfl | rfl | rfl<;>first | rfl | with_unfolding_all rfl
def b1t:List D→Option D
 | [d,.ty n]=>match tyN d with
  | some t=>if n∈["bool","int","str","list","tuple"]then some (.bl (t == n || (t == "bool" && n == "int")))else none
  | none=>none
 | _=>none
theorem a71{d:D}{t:String}(h:tyN d=some t):t∈["NoneType","bool","int","str","list","tuple"]:=by
 cases d<;>cases h<;>decide
theorem a96{F H:Hp}{d:D}{t:String}{v:V}(s:Same F H)(p:Rp K cl F d v)(h:tyN d=some t):TyX K H v (.type t):=by
 cases d<;>cases h<;>simp only[Rp]at p
 ·subst p;exact .of .non
 ·subst p;exact .of (.bl _)
 ·subst p;exact .of (.int _)
 ·subst p;exact .of (.str _)
 ·obtain⟨a,xs,rfl,h,_⟩:=p;exact .of (.tup (s _ _ h))
 ·obtain⟨a,xs,rfl,h,_⟩:=p;exact .of (.lst (s _ _ h))
def a2q(n:String)(d:D):Option D:=match tyN d with
 | some t=>if n∈["bool","int","str","list","tuple"]then some (.bl (t == n || (t == "bool" && n == "int")))else none
 | none=>none
def W5(i:Nat)(n:String):ZF:=fun e=>match look e i with
 | some d=>X7 (a2q n d) e
 | none=>none
theorem a3X{E:XK}{i:Nat}{n:String}{t:TE}(ht:t=tC (.ty n):=by rfl):m3 K cl E (tCB (a5_ K) (B0 (D7 i) (B0 t M3))) (W5 i n):=by
 subst ht
 intro σ H Q env F R h
 unfold W5 at h
 cases q:look env i with
 | none=>rw[q]at h;exact h.elim
 | some d =>
  rw[q]at h
  obtain⟨x,e,rb⟩:=R.look q
  refine⟨x,e,?_⟩
  cases hz:a2q n d with
  | none=>simp only[hz,V8]at h;exact h.elim
  | some z =>
   simp only[hz,V7]at h
   unfold a2q at hz
   split at hz
   ·rename_i t ht
    split at hz
    ·rename_i hn;cases hz
     refine⟨x,_,_,_,_,rfl,rfl,?_,a70 t n (a71 ht) hn,h _ H F Frm.refl R (by show Rp K cl F (.bl _) _;simp only[Rp])⟩
     rcases rb with p | ⟨a,xs,ds,rfl,rfl,hH,_⟩
     ·exact a96 R.sub p ht
     ·cases ht;exact .of (.lst hH)
    ·cases hz
   ·cases hz
end
section
variable {α β:Type}
def M8(r:Option RS)(k:SF):Option RS:=match r with
 | some (.nx e)=>k e
 | r=>r
theorem a72{f k:SF}{e:DE}:c6 f k e=M8 (f e) k:=rfl
theorem a1G{e:DE}{k:SF}:M8 (some (.nx e)) k=k e:=rfl
theorem a73{d:D}{k:SF}:M8 (some (.rt d)) k=some (.rt d):=rfl
theorem a74{d:List D}{k:SF}:M8 (some (.ro d)) k=some (.ro d):=rfl
theorem a75{d:XN}{k:SF}:M8 (some (.ex d)) k=some (.ex d):=rfl
theorem a76{e:DE}{k:SF}:M8 (some (.bk e)) k=some (.bk e):=rfl
theorem a77{e:DE}{k:SF}:M8 (some (.ct e)) k=some (.ct e):=rfl
theorem a78{k:SF}:M8 none k=none:=rfl
theorem a6p{c:Prop} [Decidable c] {a b:Option RS} {k:SF}:M8 (if c then a else b) k=if c then M8 a k else M8 b k:=by split<;>rfl
theorem a79{c:Prop} [Decidable c] {a b:Option (R α)} {k:α→DE→Option (R β)}:bnd (if c then a else b) k=if c then bnd a k else bnd b k:=by split<;>rfl
theorem a7_{c:Prop} [Decidable c] {a b:Option (R α)} {k:α→DE→Option RS}:B8 (if c then a else b) k=if c then B8 a k else B8 b k:=by split<;>rfl
theorem a8a{d:D}{e:DE}:toZ (some (.ret d)) e=some (.ok d e):=rfl
theorem a8b{d:List D}{e:DE}:toZ (some (.own d)) e=some (.ok (.lst d) e):=rfl
theorem a97{d:XN}{e:DE}:toZ (some (.ex d)) e=some (.ex d):=rfl
theorem a6q{d:D}{e:DE}:a0I (some (.ret d)) e=some (.ok d e):=rfl
theorem a6r{d:List D}{e:DE}:a0I (some (.own d)) e=some (.ok (.lst d) e):=rfl
theorem a5o{i:Nat}{d:D}{e:DE}:a09 i (some (.ret d)) e=put i (.fz d) e:=rfl
theorem a5p{i:Nat}{d:List D}{e:DE}:a09 i (some (.own d)) e=put i (.ow d) e:=rfl
theorem a6s{i:Nat}{d:XN}{e:DE}:a09 i (some (.ex d)) e=some (.ex d):=rfl
theorem a4L{i:Nat}{d:D}{e:DE}:a0_ i (some (.ret d)) e=put i (.fz d) e:=rfl
theorem a4M{i:Nat}{d:List D}{e:DE}:a0_ i (some (.own d)) e=put i (.ow d) e:=rfl
theorem a5q{d:D}:a2p (some (.ret d))=some (.rt d):=rfl
theorem a5r{d:List D}:a2p (some (.own d))=some (.ro d):=rfl
theorem a6t{d:XN}:a2p (some (.ex d))=some (.ex d):=rfl
theorem a4N{d:D}:a1a (some (.ret d))=some (.rt d):=rfl
theorem a4O{d:List D}:a1a (some (.own d))=some (.ro d):=rfl
def T5(r:Option RS):Option R1:=match r with
 | some (.nx _)=>some (.ret .non)
 | some (.rt d)=>some (.ret d)
 | some (.ro es)=>some (.own es)
 | some (.rz dss)=>some (.owz dss)
 | some (.rp n es)=>some (.owp n es)
 | some (.ex c)=>some (.ex c)
 | _=>none
theorem b0I{n m:Nat}{body:SF}{ds:List D}(h:ds.length=m):fD n m body ds=T5 (body (ds.map .fz++List.replicate (n-m) .no)):=by
 unfold fD;rw[if_pos h,h];rfl
theorem a8c{e:DE}:T5 (some (.nx e))=some (.ret .non):=rfl
theorem a1H{d:D}:T5 (some (.rt d))=some (.ret d):=rfl
theorem a8d{d:List (List D)}:T5 (some (.rz d))=some (.owz d):=rfl
theorem a8e{d:List (List D)}{k:SF}:M8 (some (.rz d)) k=some (.rz d):=rfl
theorem a5s{d:List (List D)}:a2p (some (.owz d))=some (.rz d):=rfl
theorem a8f{d:List D}:T5 (some (.ro d))=some (.own d):=rfl
theorem a8g{d:XN}:T5 (some (.ex d))=some (.ex d):=rfl
theorem a6u{c:Prop} [Decidable c] {a b:Option RS}:T5 (if c then a else b)=if c then T5 a else T5 b:=by split<;>rfl
def R0(r:Option RS)(k:SF):Option RS:=match r with
 | some (.nx e)=>k e
 | some (.ct e)=>k e
 | some (.bk e)=>some (.nx e)
 | r=>r
theorem a8h{e:DE}{k:SF}:R0 (some (.nx e)) k=k e:=rfl
theorem a8i{e:DE}{k:SF}:R0 (some (.ct e)) k=k e:=rfl
theorem a8j{e:DE}{k:SF}:R0 (some (.bk e)) k=some (.nx e):=rfl
theorem a8k{d:D}{k:SF}:R0 (some (.rt d)) k=some (.rt d):=rfl
theorem a8l{d:List (List D)}{k:SF}:R0 (some (.rz d)) k=some (.rz d):=rfl
theorem a8m{d:List D}{k:SF}:R0 (some (.ro d)) k=some (.ro d):=rfl
theorem a8n{d:XN}{k:SF}:R0 (some (.ex d)) k=some (.ex d):=rfl
theorem a6v{b:GF}{body:SF}{e:DE}:m7 b body [] e=some (.nx e):=rfl
def O8(x:Option DE)(k:SF):Option RS:=match x with
 | none=>none
 | some e=>k e
theorem a0a{b:GF}{body:SF}{d:D}{ds:List D}{e:DE}:m7 b body (d::ds) e=O8 (b d e) fun e1=>R0 (body e1) (m7 b body ds):=by
 rw[m7];cases b d e<;>rfl
theorem A6{e:DE}{k:SF}:O8 (some e) k=k e:=rfl
def a2X(n i:Nat)(exm:Str→Bool)(suite:SF)(e:DE)(r:Option RS):Option RS:=match r with
 | some (.ex (.v _ _ _))=>none
 | some (.ex (.p c))=>if(exm c && a1F e)=true then(match suite ((List.replicate n Sl.no).set i (.fz (.exc c)))with
   | some (.nx e2)=>put i .no e2
   | some (.rt d)=>some (.rt d)
   | some (.ro ds)=>some (.ro ds)
   | _=>none)else none
 | r=>r
theorem a5t{n i:Nat}{exm:Str→Bool}{body suite:SF}{e:DE}:a95 n i exm body suite e=a2X n i exm suite e (body e):=rfl
def a4P(i:Nat)(r:Option RS):Option RS:=match r with
 | some (.nx e2)=>put i .no e2
 | some (.rt d)=>some (.rt d)
 | some (.ro ds)=>some (.ro ds)
 | _=>none
theorem a8o{i:Nat}{e:DE}:a4P i (some (.nx e))=put i .no e:=rfl
theorem a8p{i:Nat}{d:D}:a4P i (some (.rt d))=some (.rt d):=rfl
theorem a8q{i:Nat}{d:List D}:a4P i (some (.ro d))=some (.ro d):=rfl
theorem a8r{n i:Nat}{exm:Str→Bool}{suite:SF}{e:DE}{c:Str}:a2X n i exm suite e (some (.ex (.p c)))=if(exm c && a1F e)=true then a4P i (suite ((List.replicate n Sl.no).set i (.fz (.exc c))))else none:=rfl
theorem a8s{n i:Nat}{exm:Str→Bool}{suite:SF}{e:DE}{d:D}:a2X n i exm suite e (some (.rt d))=some (.rt d):=rfl
theorem a8t{n i:Nat}{exm:Str→Bool}{suite:SF}{e:DE}{d:List D}:a2X n i exm suite e (some (.ro d))=some (.ro d):=rfl
theorem a8u{n i:Nat}{exm:Str→Bool}{suite:SF}{e e1:DE}:a2X n i exm suite e (some (.nx e1))=some (.nx e1):=rfl
theorem a8v(a b:Int):v5 (.int a) (.int b)=some (.int (a+b)):=rfl
theorem a8w(a b:Int):k6 (.int a) (.int b)=some (.int (a-b)):=rfl
theorem a98(a b:Int):gLt (.int a) (.int b)=some (.bl (decide (a<b))):=rfl
theorem a99(a b:Int):gLe (.int a) (.int b)=some (.bl (decide (a≤b))):=rfl
theorem a9_(a b:Int):gGt (.int a) (.int b)=some (.bl (decide (b<a))):=rfl
theorem b0a(a b:Int):gGe (.int a) (.int b)=some (.bl (decide (b≤a))):=rfl
theorem a1I{a b:Int}(h:IntMulOk a b):n0 (.int a) (.int b)=some (.int (a*b)):=by show(if _ then _ else _)=_;rw[if_pos h]
theorem a3Y{a b:Int}(h:0<b∧b.natAbs.log2<9000):G0 (.int a) (.int b)=some (.int (a/b)):=by show(if _ then _ else _)=_;rw[if_pos h]
theorem a0l{a b:Int}(h:0<b):k9 (.int a) (.int b)=some (.int (a%b)):=by show(if _ then _ else _)=_;rw[if_pos h]
theorem a3Z{a b:Int}(h:a1t a b):Q4 (.int a) (.int b)=some (.int (a ^ b.toNat)):=by show(if _ then _ else _)=_;rw[if_pos h]
end
def Fits(i:Int):Prop:=Builtin.Int.intBits i≤2 ^ 20
theorem a8x{a b:Int}(h:a.natAbs≤b.natAbs):Builtin.Int.intBits a≤Builtin.Int.intBits b:=by
 unfold Builtin.Int.intBits
 split
 ·exact Nat.zero_le _
 ·rename_i ha
  have ha':a.natAbs≠0:=by
   intro z;apply ha;first | exact Int.natAbs_eq_zero.mp z | (simpa using z)
  have hb':b.natAbs≠0:=by omega
  split
  ·rename_i hb
   exact absurd (by first | exact Int.natAbs_eq_zero.mpr hb | (simpa using hb)) hb'
  ·have h1:b.natAbs<2 ^ (b.natAbs.log2+1):=Nat.lt_log2_self
   have h2:a.natAbs.log2<b.natAbs.log2+1:=(Nat.log2_lt ha').mpr (by omega)
   omega
theorem Fits.le{a b:Int}(h:Fits b)(l:a.natAbs≤b.natAbs):Fits a:=Nat.le_trans (a8x l) h
theorem Fits.mod{i n:Int}(hn:0<n)(h:Fits n):Fits (i%n):=by
 refine h.le ?_
 have h1:=Int.emod_nonneg i (show n≠0 by omega)
 have h2:=Int.emod_lt_of_pos i hn
 omega
theorem Fits.mul{i j:Int}(a:Fits i)(b:Fits j):IntMulOk i j:=IntMulOk.of_bits a b
theorem a2Y{i:Int}(h:i.natAbs<2 ^ 400:=by decide):Fits i:=by
 have e:Builtin.Int.intBits (2 ^ 400:Int)≤2 ^ 20:=by decide +kernel
 have e2:(2 ^ 400:Int).natAbs=2 ^ 400:=by decide +kernel
 exact(show Fits (2 ^ 400)from e).le (by omega)
theorem a5u{a b:Int}(h:a.natAbs<2 ^ 64):IntMulOk a b:=IntMulOk.of_left (intBits_le_64 (by omega) (by omega))
theorem a4Q{a b:Int}(h:b.natAbs<2 ^ 64):IntMulOk a b:=IntMulOk.of_right (intBits_le_64 (by omega) (by omega))
theorem a1e{a b:Int}(h:a.natAbs<2 ^ 64):n0 (.int a) (.int b)=some (.int (a*b)):=a1I (a5u h)
theorem O4{a b:Int}(h:b.natAbs<2 ^ 64):n0 (.int a) (.int b)=some (.int (a*b)):=a1I (a4Q h)
section
variable {α:Type}
theorem a7t{a:α}{l:List α}:atI (a::l) 0=some a:=by unfold atI K4;simp
theorem a4R{a:α}{l:List α}{n:Nat}:atI (a::l) ((n:Int)+1)=atI l n:=by
 unfold atI K4
 have h1:(0:Int)≤(n:Int)+1:=by omega
 have h2:(0:Int)≤(n:Int):=by omega
 rw[if_pos h1,if_pos h2]
 by_cases z:(n:Int)<(l.length:Int)
 ·rw[if_pos z,if_pos (by rw[List.length_cons];push_cast;omega)]
  show(a::l)[((n:Int)+1).toNat]? = l[((n:Int)).toNat]?
  rw[show((n:Int)+1).toNat=n+1 by omega,show((n:Int)).toNat=n by omega]
  rfl
 ·rw[if_neg z,if_neg (by rw[List.length_cons];push_cast;omega)]
  rfl
theorem a7u{a b:α}{l:List α}:atI (a::b::l) 1=some b:=(a4R (n:=0)).trans a7t
theorem a7v{a b c:α}{l:List α}:atI (a::b::c::l) 2=some c:=(a4R (n:=1)).trans a7u
theorem b0J{a b c d:α}{l:List α}:atI (a::b::c::d::l) 3=some d:=(a4R (n:=2)).trans a7v
end
def B7(ns:List Int)(k:Int):Int:=ns.getD k.toNat 0
theorem a8y{ns:List Int}{k:Int}(hk:0≤k):(if k<(ns.length:Int)then(match atI ns k with
  | none=>none
  | some n=>some (R1.ret (D.int n)))else some (R1.ret (D.int 0)))=some (R1.ret (D.int (B7 ns k))):=by
 unfold B7
 by_cases z:k<(ns.length:Int)
 ·rw[if_pos z]
  have h:k.toNat<ns.length:=by omega
  have e:atI ns k=some ns[k.toNat]:=by
   unfold atI K4
   rw[if_pos hk,if_pos z]
   exact List.getElem?_eq_getElem h
  rw[e,List.getD_eq_getElem?_getD,List.getElem?_eq_getElem h];rfl
 ·rw[if_neg z,List.getD_eq_getElem?_getD,List.getElem?_eq_none (by omega)];rfl
section
variable {K:W.Frag}{cl:Str→Addr}{E:XK}{σ:St}{H F:Hp}{env:DE}{k:Nat}
def R5(ds es:List D):List D:=List.zipWith (fun a b=>.tup [a,b]) ds es
theorem a6w{ds es:List D}{i:Nat}{d e:D}(h:ds[i]? = some d)(h':es[i]? = some e):(R5 ds es)[i]? = some (.tup [d,e]):=by
 unfold R5;rw[List.getElem?_zipWith,h,h']
theorem a6x{ds es:List D}:(R5 ds es).length=min ds.length es.length:=by unfold R5;rw[List.length_zipWith]
def a4S(ds:List D):Option (List D):=match ds with
 | [d,e]=>match seqL d,seqL e with
  | some xs,some ys=>some (R5 xs ys)
  | _,_=>none
 | _=>none
theorem a8z{ds zs:List D}{vs:List V}(h:a4S ds=some zs)(p:Rps K cl F ds vs):∃a a' xs ys ds' es',vs=[.ref a,.ref a']∧zs=R5 ds' es'∧Rps K cl F ds' xs∧Rps K cl F es' ys∧∀H',Same F H'→SqL K H' a xs∧SqL K H' a' ys:=by
 unfold a4S at h
 split at h
 ·rename_i d e
  split at h
  ·rename_i xs ys h1 h2
   cases h
   obtain⟨v,r,rfl,p1,p2⟩:=p.inv
   obtain⟨u,r',rfl,p3,p4⟩:=p2.inv
   rw[p4.inv0]
   obtain⟨a,us,rfl,q1,l1⟩:=Rp.seqL p1 h1
   obtain⟨a',us',rfl,q2,l2⟩:=Rp.seqL p3 h2
   exact⟨a,a',us,us',xs,ys,rfl,rfl,q1,q2,fun H' g=>⟨l1 H' g,l2 H' g⟩⟩
  ·cases h
 ·cases h
theorem b0K{b:GF}{c:BF}{el:ZF}{g:TG}{tf:TT}{te:TE}{js:List Nat}{ds es:List D}{xs ys:List V}{a a' B:Addr}{Q:VK}(nd:js.Nodup)(hg:E2 K cl k g b)(hc:K7 K cl E tf c)(he:m3 K cl E te el)(R:Rel K cl σ H F env)(hB:H B=none)
  (hl:∀H' F',Same F F'→Same F' H'→SqL K H' a xs∧SqL K H' a' ys) (r:Rps K cl F ds xs) (r':Rps K cl F es ys) (h:Ct K cl E (PN K cl) (t5 b c el (l5 k js env) env (R5 ds es) []) σ H F env Q) :
  K5 (Itz K a a') g tf te k (l3 k js σ) B (fun H'=>Q (.ref B) H') H:=by
 refine a6j (xs:=xs) (ys:=ys) (fun i zs H'=>∃F' acc,Grow K cl σ H F env B acc zs H' F'∧Ct K cl E (PN K cl) (t5 b c el (l5 k js env) env ((R5 ds es).drop i) acc) σ H F env Q) ⟨F,[],.start R hB,h⟩ (fun i zs H' ⟨F',acc,gw,_⟩=>hl H' F' gw.frm.fz gw.rel.sub) (fun i x y zs H' p hx hy ⟨F',acc,gw,h'⟩ hp=>?_) (fun zs H' ⟨F',acc,gw,h'⟩=>?_)
 ·obtain⟨d,hd,pd⟩:=r.get' hx
  obtain⟨d',hd',pd'⟩:=r'.get' hy
  rw[J8 (a6w hd hd')]at h'
  have gr:Gr H' F' (upd H' p (.tup [x,y])) (upd F' p (.tup [x,y])):=.new gw.rel.sub hp
  refine a18 (Pv:=fun zs' H2=>∃F' acc,Grow K cl σ H F env B acc zs' H2 F'∧Ct K cl E (PN K cl) (t5 b c el (l5 k js env) env ((R5 ds es).drop (i+1)) acc) σ H F env Q) nd hg hc he (gw.gr gr) ?_ h' fun acc' ys' H2 F2 gw2 h2=>⟨F2,acc',gw2,h2⟩
  simp only[Rp]
  exact⟨p,_,rfl,i0,.cons (Rp.mono (gw.frm.fz.trans gr.fz) _ _ pd) (.one (Rp.mono (gw.frm.fz.trans gr.fz) _ _ pd'))⟩
 ·rw[← r.length,← r'.length,List.drop_eq_nil_of_le (by rw[a6x];exact Nat.le_refl _)]at h'
  exact a2V gw h'
def a2Z(k:Nat)(js:List Nat)(f:AF)(b:GF)(c:BF)(el:ZF):NF:=fun e=>bnd (f e) fun ds e1=>match a4S ds with
 | none=>none
 | some zs=>t5 b c el (l5 k js e1) e1 zs []
theorem a6y{t:TA}{g:TG}{tf:TT}{te:TE}{js:List Nat}{f:AF}{b:GF}{c:BF}{el:ZF}(nd:js.Nodup)(hf:M0 K cl E t f)(hg:E2 K cl k g b)(hc:K7 K cl E tf c)(he:m3 K cl E te el):X8 K cl E (a02 (a9P K t) g tf te k js) (a2Z k js f b c el):=by
 intro σ H Q env F R h
 refine hf σ H _ env F R ((Ct.bnd h a0F).mono fun x H1 ⟨F1,e1,ds,s1,R1,p1,h1⟩=>?_)
 split at h1
 ·exact h1.elim
 ·rename_i zs hs
  obtain⟨a,a',xs,ys,ds',es',rfl,rfl,q1,q2,hl⟩:=a8z hs p1
  exact⟨a,a',rfl,⟨xs,(hl H1 R1.sub).1⟩,⟨ys,(hl H1 R1.sub).2⟩,fun B hB=>b0K nd hg hc he R1 hB (fun H' F' f2 s2=>hl H' (f2.trans s2)) q1 q2 h1⟩
def oS(f:ZF):OF:=fun e=>bnd (f e) fun d e1=>match d with
 | .int i=>some (.ok (some i) e1)
 | _=>none
theorem a0m{t:TE}{f:ZF}(hf:m3 K cl E t f):RfO K cl E (a7l t) (oS f):=by
 intro σ H Q env F R h
 refine hf σ H _ env F R ((Ct.bnd h b0_).mono fun x H1 ⟨F1,e1,d,s1,R1,p1,h1⟩=>?_)
 split at h1
 ·rename_i i
  have:x=.int i:=by have:=(show Rp K cl F1 (.int i) x from p1);simpa only[Rp]using this
  exact⟨i,this,h1 _ H1 F1 Frm.refl R1 rfl⟩
 ·exact h1.elim
def a0L(xs:List D)(lo hi:Option Int):List D:=(xs.drop (HT.sIx xs.length 0 lo)).take (HT.sIx xs.length xs.length hi-HT.sIx xs.length 0 lo)
theorem Rps.cut{ds:List D}{xs:List V}(h:Rps K cl F ds xs)(lo hi:Option Int):Rps K cl F (a0L ds lo hi) (a1u xs lo hi):=by
 unfold a0L a1u
 rw[h.length]
 exact(h.drop _).take _
def T6(i:Nat)(l u:OF):NF:=fun e=>match look e i with
 | none=>none
 | some _=>bnd (l e) fun lo e2=>bnd (u e2) fun hi e3=>match look e3 i with
  | some d=>(match seqL d with
   | some ds=>some (.ok (a0L ds lo hi) e3)
   | none=>none)
  | none=>none
theorem Rb.seqL{d:D}{ds:List D}{v:V}(s:Same F H)(p:Rb K cl F H d v)(q:L2.seqL d=some ds):∃a xs,v=.ref a∧Rps K cl F ds xs∧SqL K H a xs:=by
 rcases p with p | ⟨a,xs,es,e,rfl,h,r⟩
 ·obtain⟨a,xs,e,r,l⟩:=Rp.seqL p q;exact⟨a,xs,e,r,l H s⟩
 ·cases q;exact⟨a,xs,e,r,.of h⟩
theorem a5v{i:Nat}{tl tu:TO}{l u:OF}(hl:RfO K cl E tl l)(hu:RfO K cl E tu u):X8 K cl E (tSl (a56 K) (D7 i) tl tu) (T6 i l u):=by
 intro σ H Q env F R h
 unfold T6 at h
 cases q:look env i with
 | none=>rw[q]at h;exact h.elim
 | some d0 =>
  rw[q]at h
  obtain⟨x,e0,_⟩:=R.look q
  refine⟨x,e0,?_⟩
  refine hl σ H _ env F R ((Ct.bnd h a0F).mono fun lo H2 ⟨F2,e2,lo',s2,R2,p2,h2⟩=>?_)
  refine hu σ H2 _ e2 F2 R2 ((Ct.bnd h2 a0F).mono fun hi H3 ⟨F3,e3,hi',s3,R3,p3,h3⟩=>?_)
  cases (show lo=lo' from p2)
  cases (show hi=hi' from p3)
  cases q2:look e3 i with
  | none=>simp only[q2]at h3;exact h3.elim
  | some d =>
   simp only[q2]at h3
   obtain⟨x',e',rb⟩:=R3.look q2
   rw[e0]at e';cases e'
   split at h3
   ·rename_i ds hs
    obtain⟨a,xs,rfl,r,hq⟩:=rb.seqL R3.sub hs
    exact⟨a,xs,rfl,hq,fun p hp=>Ct.newN R3 hp (r.cut _ _) h3⟩
   ·exact h3.elim
end
def b0b(x:Option DE)(k:DE→Option (R (List D))):Option (R (List D)):=match x with
 | none=>none
 | some e=>k e
theorem a19{e:DE}{k:DE→Option (R (List D))}:b0b (some e) k=k e:=rfl
theorem a5w{b:GF}{c:BF}{el:ZF}{ec eo:DE}{acc:List D}:t5 b c el ec eo [] acc=some (.ok acc eo):=rfl
theorem a1f{b:GF}{c:BF}{el:ZF}{ec eo:DE}{d:D}{ds acc:List D}:t5 b c el ec eo (d::ds) acc=b0b (b d ec) fun e1=>bnd (c e1) fun t e2=>if t=true then bnd (el e2) fun y _=>if acc.length<sizeLine then t5 b c el ec eo ds (acc++[y])else none else t5 b c el ec eo ds acc:=by
 rw[t5];cases b d ec<;>rfl
section
variable {K:W.Frag}{cl:Str→Addr}{E:XK}{σ:St}{H F:Hp}{env:DE}{k:Nat}
theorem Rb.flat{d:D}{v:V}(h:Rb K cl F H d v)(f:j5 d=true):Rp K cl F d v:=by
 rcases h with h | ⟨_,_,_,_,rfl,_⟩
 ·exact h
 ·cases f
theorem tyL{i:Nat}{ds:List D}(R:Rel K cl σ H F env)(q:look env i=some (.lst ds)):∃a,σ[i]? = some (some (.ref a))∧tyV K "list" (.ref a) H:=by
 obtain⟨x,e0,rb⟩:=R.look q
 obtain⟨a,xs,rfl,hH,_⟩:=rb.lst R.sub
 exact⟨a,e0,.inl ⟨rfl,xs,.of hH⟩⟩
end
mutual
def n5:D→D→Bool
 | .tup ds,e=>(match e with
  | .tup es=>D4 ds es
  | _=>false)
 | .lst ds,e=>(match e with
  | .lst es=>D4 ds es
  | _=>false)
 | d,e=>Q6 d e
def D4:List D→List D→Bool
 | [],es=>es.isEmpty
 | d::ds,es=>(match es with
  | []=>false
  | e::es=>n5 d e && D4 ds es)
end
mutual
def g8:D→Bool
 | .tup ds=>u5 ds
 | .lst ds=>u5 ds
 | d=>j5 d
def u5:List D→Bool
 | []=>true
 | d::ds=>g8 d && u5 ds
end
mutual
def L4:D→Nat
 | .tup ds=>B1 ds+1
 | .lst ds=>B1 ds+1
 | _=>0
def B1:List D→Nat
 | []=>0
 | d::ds=>max (L4 d) (B1 ds)
end
def a20(ds es:List D)(j:Nat):Bool:=match ds[j]?,es[j]? with
 | some d,some e=>n5 d e
 | _,_=>true
theorem L5:∀{ds es:List D},ds.length=es.length→(List.range ds.length).all (a20 ds es)=D4 ds es
 | [],[],_=>by simp[D4]
 | d::ds,e::es,h=>by
  have h':ds.length=es.length:=by simpa using h
  simp only[D4]
  show(List.range (ds.length+1)).all _=(n5 d e && D4 ds es)
  rw[List.range_succ_eq_map,List.all_cons,List.all_map,← L5 h']
  rfl
theorem R6:∀{ds es:List D},ds.length≠es.length→D4 ds es=false
 | [],[],h=>absurd rfl h
 | _::_,[],_=>by simp[D4]
 | [],_::_,_=>by simp[D4]
 | d::ds,e::es,h=>by
  simp only[D4]
  rw[R6 (fun q=>h (by simp[q])),Bool.and_false]
section
variable {K:W.Frag}{cl:Str→Addr}{F:Hp}
theorem W6{d e:D}{v:V}(fd:j5 d=true)(p:Rp K cl F d v)(q:Rp K cl F e v)(pe:g8 e=true):Q6 d e=true:=by
 cases d<;>first | (cases fd;done) | skip
 all_goals simp only[Rp]at p;subst p
 all_goals cases e<;>simp only[Rp]at q<;>first | (cases q;done) | (cases q;simp[Q6];done) | (obtain⟨_,_,z,_⟩:=q;cases z;done) | (obtain⟨_,z,_⟩:=q;cases z;done) | (simp[g8,j5]at pe;done)
mutual
theorem a1J:∀(d e:D) (v:V),Rp K cl F d v→Rp K cl F e v→g8 d=true→g8 e=true→n5 d e=true
 | .tup ds,e,v,p,q,pd,pe=>by
  simp only[Rp]at p
  obtain⟨a,xs,rfl,ha,r⟩:=p
  cases e<;>simp only[Rp]at q
  case tup es =>
   obtain⟨a',ys,z,ha',r'⟩:=q
   cases z;rw[ha]at ha';cases ha'
   simp only[g8]at pd pe
   simp only[n5]
   exact a0M ds es xs r r' pd pe
  case lst es =>
   obtain⟨a',ys,z,ha',r'⟩:=q
   cases z;rw[ha]at ha';cases ha'
  all_goals first | (cases q;done) | (simp[g8,j5]at pe;done)
 | .lst ds,e,v,p,q,pd,pe=>by
  simp only[Rp]at p
  obtain⟨a,xs,rfl,ha,r⟩:=p
  cases e<;>simp only[Rp]at q
  case lst es =>
   obtain⟨a',ys,z,ha',r'⟩:=q
   cases z;rw[ha]at ha';cases ha'
   simp only[g8]at pd pe
   simp only[n5]
   exact a0M ds es xs r r' pd pe
  case tup es =>
   obtain⟨a',ys,z,ha',r'⟩:=q
   cases z;rw[ha]at ha';cases ha'
  all_goals first | (cases q;done) | (simp[g8,j5]at pe;done)
 | .non,e,v,p,q,pd,pe=>by simp only[n5];exact W6 rfl p q pe
 | .bl _,e,v,p,q,pd,pe=>by simp only[n5];exact W6 rfl p q pe
 | .int _,e,v,p,q,pd,pe=>by simp only[n5];exact W6 rfl p q pe
 | .str _,e,v,p,q,pd,pe=>by simp only[n5];exact W6 rfl p q pe
 | .ty _,e,v,p,q,pd,pe=>by simp[g8,j5]at pd
 | .cls _,e,v,p,q,pd,pe=>by simp[g8,j5]at pd
 | .scr _,e,v,p,q,pd,pe=>by simp[g8,j5]at pd
 | .exc _,e,v,p,q,pd,pe=>by simp[g8,j5]at pd
 | .obj _ _ _,e,v,p,q,pd,pe=>by simp[g8,j5]at pd
 | .dic _ _,e,v,p,q,pd,pe=>by simp[g8,j5]at pd
 | .exv _ _ _,e,v,p,q,pd,pe=>by simp[g8,j5]at pd
theorem a0M:∀(ds es:List D) (vs:List V),Rps K cl F ds vs→Rps K cl F es vs→u5 ds=true→u5 es=true→D4 ds es=true
 | [],es,vs,p,q,_,_=>by
  rw[p.inv0]at q
  cases es with
  | nil=>simp[D4]
  | cons e es=>obtain⟨_,_,z,_⟩:=q.inv;cases z
 | d::ds,es,vs,p,q,pd,pe=>by
  obtain⟨v,r,rfl,p1,p2⟩:=p.inv
  cases es with
  | nil=>have:=q.inv0;cases this
  | cons e es =>
   obtain⟨v',r',z,q1,q2⟩:=q.inv
   cases z
   simp only[u5,Bool.and_eq_true]at pd pe
   simp only[D4]
   rw[a1J d e v p1 q1 pd.1 pe.1,a0M ds es r p2 q2 pd.2 pe.2];rfl
end
end
section
variable {X:Cx}{cl:Str→Addr}{F:Hp}{pins:List (Addr×Obj)}{σ:St}{H:Hp}{s:Shared}
theorem W7{a:Addr}{d:D}{v:V}{u:Value}{A:Around}(hu:A.units<cLine)(hl:(∃xs,SqL X.K H a xs)∨∃xs,SqT X.K H a xs)(I:Inv X pins σ H s)(f:j5 d=true)(p:Rp X.K cl F d v)(r:RelV v u):SeqAt.EqAt A s (.ref a) u false∧SeqAt.EqAt A s u (.ref a) false:=by
 rcases hl with⟨xs,h⟩ | ⟨xs,h⟩
 ·obtain⟨us,r1,p1,z1⟩:=I.list h
  have q:=p1.isList
  cases d<;>first | (cases f;done) | skip
  all_goals simp only[Rp]at p;subst p
  ·cases r;exact⟨.list_none q hu,.none_list q hu⟩
  ·cases r;exact⟨.list_bool _ q hu,.bool_list _ q hu⟩
  ·obtain⟨t,rfl⟩:=r;exact⟨.list_int _ _ q hu,.int_list _ _ q hu⟩
  ·obtain⟨t,rfl⟩:=r;exact⟨.list_str _ _ q hu,.str_list _ _ q hu⟩
 ·obtain⟨us,r1,q,z1⟩:=I.tuple h
  cases d<;>first | (cases f;done) | skip
  all_goals simp only[Rp]at p;subst p
  ·cases r;exact⟨.tuple_none q hu,.none_tuple q hu⟩
  ·cases r;exact⟨.tuple_bool _ q hu,.bool_tuple _ q hu⟩
  ·obtain⟨t,rfl⟩:=r;exact⟨.tuple_int _ _ q hu,.int_tuple _ _ q hu⟩
  ·obtain⟨t,rfl⟩:=r;exact⟨.tuple_str _ _ q hu,.str_tuple _ _ q hu⟩
theorem C3{d:D}(p:g8 d=true):j5 d=true∨(∃ds,d=.tup ds)∨∃ds,d=.lst ds:=by
 cases d<;>first | exact .inl rfl | exact .inr (.inl ⟨_,rfl⟩) | exact .inr (.inr ⟨_,rfl⟩) | (simp[g8,j5]at p;done)
theorem a6z{d e:D}(f:j5 d=true):n5 d e=Q6 d e:=by cases d<;>first | (cases f;done) | simp only[n5]
theorem S4{d e:D}{v u:V}{a b:Value}{A:Around}(I:Inv X pins σ H s)(sF:Same F H)(hu:A.units<cLine)(f:j5 d=true)(p:Rp X.K cl F d v)(q:Rp X.K cl F e u)(rv:RelV v a)(ru:RelV u b)(pe:g8 e=true):SeqAt.EqAt A s a b (n5 d e):=by
 rw[a6z f]
 rcases C3 pe with fe | ⟨es,rfl⟩ | ⟨es,rfl⟩
 ·rw[← p.eq q f fe]
  exact a9D rv ru (p.flat f).2 (q.flat fe).2
 ·simp only[Rp]at q
  obtain⟨c,ys,rfl,hb,r'⟩:=q
  cases ru
  have:=(W7 (A:=A) hu (.inr ⟨ys,.of (sF _ _ hb)⟩) I f p rv).2
  have z:Q6 d (.tup es)=false:=by cases d<;>first | (cases f;done) | rfl
  rw[z];exact this
 ·simp only[Rp]at q
  obtain⟨c,ys,rfl,hb,r'⟩:=q
  cases ru
  have:=(W7 (A:=A) hu (.inl ⟨ys,.of (sF _ _ hb)⟩) I f p rv).2
  have z:Q6 d (.lst es)=false:=by cases d<;>first | (cases f;done) | rfl
  rw[z];exact this
mutual
theorem a8A(I:Inv X pins σ H s)(sF:Same F H):∀(d e:D) (v u:V) (a b:Value) (A:Around),A.units+L4 d<cLine→Rp X.K cl F d v→Rp X.K cl F e u→RelV v a→RelV u b→g8 d=true→g8 e=true→SeqAt.EqAt A s a b (n5 d e)
 | .tup ds,e,v,u,va,ua,A,hu,p,q,rv,ru,pd,pe=>by
  have p0:=p
  have hu':A.units<cLine:=by omega
  simp only[L4]at hu
  simp only[Rp]at p
  obtain⟨a,xs,rfl,ha,r⟩:=p
  cases rv
  have ha':=sF _ _ ha
  rcases C3 pe with f | ⟨es,rfl⟩ | ⟨es,rfl⟩
  ·have:=(W7 (A:=A) hu' (.inr ⟨xs,.of ha'⟩) I f q ru).1
   have z:n5 (.tup ds) e=false:=by cases e<;>first | (cases f;done) | simp only[n5]
   rw[z];exact this
  ·have q0:=q
   simp only[Rp]at q
   obtain⟨b,ys,rfl,hb,r'⟩:=q
   cases ru
   have hb':=sF _ _ hb
   by_cases z:a=b
   ·subst z
    rw[a1J _ _ _ p0 q0 pd pe]
    exact .same _
   ·obtain⟨us,r1,p1,_⟩:=I.tuple (.of ha')
    obtain⟨ws,r2,p2,_⟩:=I.tuple (.of hb')
    simp only[g8]at pd pe
    have he:∀j (h1:j<us.toArray.size) (h2:j<ws.toArray.size),SeqAt.EqAt A.in1 s us.toArray[j] ws.toArray[j] (a20 ds es j):=R7 I sF ds es xs ys us ws A.in1 (by show A.units+1+B1 ds<cLine;omega) r r' r1 r2 pd pe
    have:=SeqAt.EqAt.of_refs z (SeqAt.RcAt.tuples p1 p2 hu' he)
    have e1:us.toArray.size=ds.length:=by simp[← r1.length,r.length]
    have e2:ws.toArray.size=es.length:=by simp[← r2.length,r'.length]
    rw[e1,e2]at this
    simp only[n5]
    by_cases hl:ds.length=es.length
    ·rw[← hl,Nat.min_self,L5 hl,beq_self_eq_true,Bool.and_true]at this
     exact this
    ·rw[R6 hl]
     rw[beq_eq_false_iff_ne.mpr hl,Bool.and_false]at this
     exact this
  ·simp only[Rp]at q
   obtain⟨b,ys,rfl,hb,r'⟩:=q
   cases ru
   obtain⟨us,r1,p1,_⟩:=I.tuple (.of ha')
   obtain⟨ws,r2,p2,_⟩:=I.list (.of (sF _ _ hb))
   simp only[n5]
   exact .tuple_list p1 p2.isList hu'
 | .lst ds,e,v,u,va,ua,A,hu,p,q,rv,ru,pd,pe=>by
  have p0:=p
  have hu':A.units<cLine:=by omega
  simp only[L4]at hu
  simp only[Rp]at p
  obtain⟨a,xs,rfl,ha,r⟩:=p
  cases rv
  have ha':=sF _ _ ha
  rcases C3 pe with f | ⟨es,rfl⟩ | ⟨es,rfl⟩
  ·have:=(W7 (A:=A) hu' (.inl ⟨xs,.of ha'⟩) I f q ru).1
   have z:n5 (.lst ds) e=false:=by cases e<;>first | (cases f;done) | simp only[n5]
   rw[z];exact this
  ·simp only[Rp]at q
   obtain⟨b,ys,rfl,hb,r'⟩:=q
   cases ru
   obtain⟨us,r1,p1,_⟩:=I.list (.of ha')
   obtain⟨ws,r2,p2,_⟩:=I.tuple (.of (sF _ _ hb))
   simp only[n5]
   exact .list_tuple p1.isList p2 hu'
  ·have q0:=q
   simp only[Rp]at q
   obtain⟨b,ys,rfl,hb,r'⟩:=q
   cases ru
   have hb':=sF _ _ hb
   by_cases z:a=b
   ·subst z
    rw[a1J _ _ _ p0 q0 pd pe]
    exact .same _
   ·obtain⟨us,r1,p1,_⟩:=I.list (.of ha')
    obtain⟨ws,r2,p2,_⟩:=I.list (.of hb')
    simp only[g8]at pd pe
    have he:∀j (h1:j<us.toArray.size) (h2:j<ws.toArray.size),SeqAt.EqAt A.in1 s us.toArray[j] ws.toArray[j] (a20 ds es j):=R7 I sF ds es xs ys us ws A.in1 (by show A.units+1+B1 ds<cLine;omega) r r' r1 r2 pd pe
    have e1:us.toArray.size=ds.length:=by simp[← r1.length,r.length]
    have e2:ws.toArray.size=es.length:=by simp[← r2.length,r'.length]
    simp only[n5]
    by_cases hl:ds.length=es.length
    ·have:=SeqAt.EqAt.of_refs z (SeqAt.RcAt.lists p1.isList p2.isList (by rw[e1,e2,hl]) hu' he)
     rw[e1,L5 hl]at this
     exact this
    ·rw[R6 hl]
     exact SeqAt.EqAt.of_refs z (SeqAt.RcAt.lists_lengths p1.isList p2.isList (by rw[e1,e2];simp[hl]) hu')
 | .non,e,v,u,va,ua,A,hu,p,q,rv,ru,pd,pe=>S4 I sF (by omega) rfl p q rv ru pe
 | .bl _,e,v,u,va,ua,A,hu,p,q,rv,ru,pd,pe=>S4 I sF (by omega) rfl p q rv ru pe
 | .int _,e,v,u,va,ua,A,hu,p,q,rv,ru,pd,pe=>S4 I sF (by omega) rfl p q rv ru pe
 | .str _,e,v,u,va,ua,A,hu,p,q,rv,ru,pd,pe=>S4 I sF (by omega) rfl p q rv ru pe
 | .ty _,e,v,u,va,ua,A,hu,p,q,rv,ru,pd,pe=>by simp[g8,j5]at pd
 | .cls _,e,v,u,va,ua,A,hu,p,q,rv,ru,pd,pe=>by simp[g8,j5]at pd
 | .scr _,e,v,u,va,ua,A,hu,p,q,rv,ru,pd,pe=>by simp[g8,j5]at pd
 | .exc _,e,v,u,va,ua,A,hu,p,q,rv,ru,pd,pe=>by simp[g8,j5]at pd
 | .obj _ _ _,e,v,u,va,ua,A,hu,p,q,rv,ru,pd,pe=>by simp[g8,j5]at pd
 | .dic _ _,e,v,u,va,ua,A,hu,p,q,rv,ru,pd,pe=>by simp[g8,j5]at pd
 | .exv _ _ _,e,v,u,va,ua,A,hu,p,q,rv,ru,pd,pe=>by simp[g8,j5]at pd
theorem R7(I:Inv X pins σ H s)(sF:Same F H):∀(ds es:List D) (xs ys:List V) (us ws:List Value) (A:Around),A.units+B1 ds<cLine→Rps X.K cl F ds xs→Rps X.K cl F es ys→Vals xs us→Vals ys ws→u5 ds=true→u5 es=true→∀j (h1:j<us.toArray.size) (h2:j<ws.toArray.size),SeqAt.EqAt A s us.toArray[j] ws.toArray[j] (a20 ds es j)
 | [],es,xs,ys,us,ws,A,hu,p,q,rv,rw',pd,pe=>fun j h1 h2=>by
  rw[p.inv0]at rv;cases rv;simp at h1
 | d::ds,es,xs,ys,us,ws,A,hu,p,q,rv,rw',pd,pe=>fun j h1 h2=>by
  obtain⟨x,xs',rfl,p1,p2⟩:=p.inv
  cases rv with
  | cons r1 t1 =>
   cases es with
   | nil=>rw[q.inv0]at rw';cases rw';simp at h2
   | cons e es =>
    obtain⟨y,ys',rfl,q1,q2⟩:=q.inv
    cases rw' with
    | cons r2 t2 =>
     simp only[u5,Bool.and_eq_true]at pd pe
     simp only[B1]at hu
     cases j with
     | zero=>exact a8A I sF d e x y _ _ A (by omega) p1 q1 r1 r2 pd.1 pe.1
     | succ j =>
      have:=R7 I sF ds es xs' ys' _ _ A (by omega) p2 q2 t1 t2 pd.2 pe.2 j (by simpa using h1) (by simpa using h2)
      simpa [a20]using this
end
end
theorem b1b{A:Around}{k:Nat}(hr:Room k A):A.units+41<cLine:=Nat.lt_of_le_of_lt (Nat.add_le_add_left (by decide:41≤64) _) hr.units
def N5 : D→Bool
 | .tup _=>true
 | .lst _=>true
 | _=>false
theorem Rb.toRp{K:W.Frag}{cl:Str→Addr}{F H:Hp}{d:D}{v:V}(s:Same F H)(h:Rb K cl F H d v):∃F',Same F F'∧Same F' H∧Rp K cl F' d v:=by
 rcases h with h | ⟨a,xs,ds,rfl,rfl,ha,r⟩
 ·exact⟨F,Same.refl _,s,h⟩
 ·have g:Same F (upd F a (.lst xs)):=fun b o q=>by
   by_cases z:b=a
   ·subst z;have:=s _ _ q;rw[ha]at this;cases this;exact i0
   ·rw[c8 z];exact q
  refine⟨upd F a (.lst xs),g,fun b o q=>?_,?_⟩
  ·by_cases z:b=a
   ·subst z;rw[i0]at q;cases q;exact ha
   ·rw[c8 z]at q;exact s _ _ q
  ·simp only[Rp];exact⟨a,xs,rfl,i0,r.mono g⟩
section
variable {X:Cx}{cl:Str→Addr}{F:Hp}{pins:List (Addr×Obj)}{σ:St}{H:Hp}{s:Shared}
theorem a0n{a:Addr}{d:D}{v:V}{u:Value}{A:Around}(hu:A.units<cLine)(hl:(∃xs,SqL X.K H a xs)∨∃xs,SqT X.K H a xs)(I:Inv X pins σ H s)(f:j5 d=true)(p:Rp X.K cl F d v)(r:RelV v u) :
  (SeqAt.RcAt A s (.ref a) u false∧SeqAt.RcAt A s u (.ref a) false)∧SeqAt.RcNeAt A s (.ref a) u true∧SeqAt.RcNeAt A s u (.ref a) true:=by
 rcases hl with⟨xs,h⟩ | ⟨xs,h⟩
 ·obtain⟨us,r1,p1,z1⟩:=I.list h
  have q:=p1.isList
  cases d<;>first | (cases f;done) | skip
  all_goals simp only[Rp]at p;subst p
  ·cases r;exact⟨⟨.list_none q hu,.none_list q hu⟩,.list_none q hu,.none_list q hu⟩
  ·cases r;exact⟨⟨.list_bool _ q hu,.bool_list _ q hu⟩,.list_bool _ q hu,.bool_list _ q hu⟩
  ·obtain⟨t,rfl⟩:=r;exact⟨⟨.list_int _ _ q hu,.int_list _ _ q hu⟩,.list_int _ _ q hu,.int_list _ _ q hu⟩
  ·obtain⟨t,rfl⟩:=r;exact⟨⟨.list_str _ _ q hu,.str_list _ _ q hu⟩,.list_str _ _ q hu,.str_list _ _ q hu⟩
 ·obtain⟨us,r1,q,z1⟩:=I.tuple h
  cases d<;>first | (cases f;done) | skip
  all_goals simp only[Rp]at p;subst p
  ·cases r;exact⟨⟨.tuple_none q hu,.none_tuple q hu⟩,.tuple_none q hu,.none_tuple q hu⟩
  ·cases r;exact⟨⟨.tuple_bool _ q hu,.bool_tuple _ q hu⟩,.tuple_bool _ q hu,.bool_tuple _ q hu⟩
  ·obtain⟨t,rfl⟩:=r;exact⟨⟨.tuple_int _ _ q hu,.int_tuple _ _ q hu⟩,.tuple_int _ _ q hu,.int_tuple _ _ q hu⟩
  ·obtain⟨t,rfl⟩:=r;exact⟨⟨.tuple_str _ _ q hu,.str_tuple _ _ q hu⟩,.tuple_str _ _ q hu,.str_tuple _ _ q hu⟩
theorem a8B{d e:D}{v u:V}{a b:Value}{A:Around}(I:Inv X pins σ H s)(sF:Same F H)(hu:A.units+L4 d<cLine)(p:Rp X.K cl F d v)(q:Rp X.K cl F e u)(rv:RelV v a)(ru:RelV u b)(pd:g8 d=true)(pe:g8 e=true)(hs:N5 d=true∨N5 e=true) :
  SeqAt.RcAt A s a b (n5 d e)∧SeqAt.RcNeAt A s a b (!n5 d e):=by
 have hu':A.units<cLine:=by omega
 rcases C3 pd with fd | ⟨ds,rfl⟩ | ⟨ds,rfl⟩
 ·have se:N5 e=true:=hs.resolve_left (by cases d<;>first | (cases fd;done) | simp[N5])
  rcases C3 pe with fe | ⟨es,rfl⟩ | ⟨es,rfl⟩
  ·cases e<;>first | (cases fe;done) | (cases se;done)
  ·simp only[Rp]at q
   obtain⟨c,ys,rfl,hb,r'⟩:=q
   cases ru
   have:=a0n (A:=A) hu' (.inr ⟨ys,.of (sF _ _ hb)⟩) I fd p rv
   have z:n5 d (.tup es)=false:=by cases d<;>first | (cases fd;done) | simp[n5,Q6]
   rw[z];exact⟨this.1.2,this.2.2⟩
  ·simp only[Rp]at q
   obtain⟨c,ys,rfl,hb,r'⟩:=q
   cases ru
   have:=a0n (A:=A) hu' (.inl ⟨ys,.of (sF _ _ hb)⟩) I fd p rv
   have z:n5 d (.lst es)=false:=by cases d<;>first | (cases fd;done) | simp[n5,Q6]
   rw[z];exact⟨this.1.2,this.2.2⟩
 ·simp only[L4]at hu
  simp only[Rp]at p
  obtain⟨l,xs,rfl,ha,r⟩:=p
  cases rv
  have ha':=sF _ _ ha
  obtain⟨us,r1,p1,_⟩:=I.tuple (.of ha')
  rcases C3 pe with fe | ⟨es,rfl⟩ | ⟨es,rfl⟩
  ·have:=a0n (A:=A) hu' (.inr ⟨xs,.of ha'⟩) I fe q ru
   have z:n5 (.tup ds) e=false:=by cases e<;>first | (cases fe;done) | simp only[n5]
   rw[z];exact⟨this.1.1,this.2.1⟩
  ·simp only[Rp]at q
   obtain⟨c,ys,rfl,hb,r'⟩:=q
   cases ru
   obtain⟨ws,r2,p2,_⟩:=I.tuple (.of (sF _ _ hb))
   simp only[g8]at pd pe
   have he:=R7 I sF ds es xs ys us ws A.in1 (by show A.units+1+B1 ds<cLine;omega) r r' r1 r2 pd pe
   have h1:=SeqAt.RcAt.tuples p1 p2 hu' he
   have h2:=SeqAt.RcNeAt.tuples p1 p2 hu' he
   have e1:us.toArray.size=ds.length:=by simp[← r1.length,r.length]
   have e2:ws.toArray.size=es.length:=by simp[← r2.length,r'.length]
   rw[e1,e2]at h1 h2
   simp only[n5]
   by_cases hl:ds.length=es.length
   ·rw[← hl,Nat.min_self,L5 hl,beq_self_eq_true,Bool.and_true]at h1 h2
    exact⟨h1,h2⟩
   ·rw[R6 hl]
    rw[beq_eq_false_iff_ne.mpr hl,Bool.and_false]at h1 h2
    exact⟨h1,h2⟩
  ·simp only[Rp]at q
   obtain⟨c,ys,rfl,hb,r'⟩:=q
   cases ru
   obtain⟨ws,r2,p2,_⟩:=I.list (.of (sF _ _ hb))
   simp only[n5]
   exact⟨.tuple_list p1 p2.isList hu',.tuple_list p1 p2.isList hu'⟩
 ·simp only[L4]at hu
  simp only[Rp]at p
  obtain⟨l,xs,rfl,ha,r⟩:=p
  cases rv
  have ha':=sF _ _ ha
  obtain⟨us,r1,p1,_⟩:=I.list (.of ha')
  rcases C3 pe with fe | ⟨es,rfl⟩ | ⟨es,rfl⟩
  ·have:=a0n (A:=A) hu' (.inl ⟨xs,.of ha'⟩) I fe q ru
   have z:n5 (.lst ds) e=false:=by cases e<;>first | (cases fe;done) | simp only[n5]
   rw[z];exact⟨this.1.1,this.2.1⟩
  ·simp only[Rp]at q
   obtain⟨c,ys,rfl,hb,r'⟩:=q
   cases ru
   obtain⟨ws,r2,p2,_⟩:=I.tuple (.of (sF _ _ hb))
   simp only[n5]
   exact⟨.list_tuple p1.isList p2 hu',.list_tuple p1.isList p2 hu'⟩
  ·simp only[Rp]at q
   obtain⟨c,ys,rfl,hb,r'⟩:=q
   cases ru
   obtain⟨ws,r2,p2,_⟩:=I.list (.of (sF _ _ hb))
   simp only[g8]at pd pe
   have he:=R7 I sF ds es xs ys us ws A.in1 (by show A.units+1+B1 ds<cLine;omega) r r' r1 r2 pd pe
   have e1:us.toArray.size=ds.length:=by simp[← r1.length,r.length]
   have e2:ws.toArray.size=es.length:=by simp[← r2.length,r'.length]
   simp only[n5]
   by_cases hl:ds.length=es.length
   ·have h1:=SeqAt.RcAt.lists p1.isList p2.isList (by rw[e1,e2,hl]) hu' he
    have h2:=SeqAt.RcNeAt.lists p1.isList p2.isList (by rw[e1,e2,hl]) hu' he
    rw[e1,L5 hl]at h1 h2
    exact⟨h1,h2⟩
   ·rw[R6 hl]
    exact⟨SeqAt.RcAt.lists_lengths p1.isList p2.isList (by rw[e1,e2];simp[hl]) hu',SeqAt.RcNeAt.lists_lengths p1.isList p2.isList (by rw[e1,e2];simp[hl]) hu'⟩
end
def b0c(K:W.Frag)(cl:Str→Addr)(neg:Bool):R2:=fun x y H Q=>∃F d e,Same F H∧Rp K cl F d x∧Rp K cl F e y∧g8 d=true∧g8 e=true∧L4 d≤40∧(N5 d=true∨N5 e=true)∧Q (.bl (if neg then !n5 d e else n5 d e)) H
theorem a8C{X:Cx}{K:W.Frag}{cl:Str→Addr}(hu:X.A.units+41<cLine)(hK:X.K=K:=by rfl):OpR X (compareOp .NotEq) (b0c K cl true):=by
 subst hK
 intro pins s σ H x y v u Q I rx ry h
 obtain⟨F,d,e,sF,p,q,pd,pe,hd,hs,hQ⟩:=h
 exact(a8B I sF (by omega) p q rx ry pd pe hs).2 X.prog X.w _ _ ⟨.bl _,H,I,rfl,hQ⟩
def a0b(neg:Bool)(d e:D):Option D:=if(g8 d && g8 e && decide (L4 d≤40) && (N5 d || N5 e))=true then some (.bl (if neg then !n5 d e else n5 d e))else none
theorem b0d{K:W.Frag}{cl:Str→Addr}{neg:Bool}:OpOk K cl (b0c K cl neg) (a0b neg):=by
 intro x y d e z H F Q s hx hy h q
 unfold a0b at h
 split at h
 ·rename_i c;cases h
  simp only[Bool.and_eq_true,Bool.or_eq_true,decide_eq_true_eq]at c
  obtain⟨F1,g1,s1,p1⟩:=hx.toRp s
  have hy1:Rb K cl F1 H e y:=by
   rcases hy with hy | ⟨a,xs,ds,e1,e2,ha,r⟩
   ·exact .inl (hy.mono g1)
   ·exact .inr ⟨a,xs,ds,e1,e2,ha,r.mono g1⟩
  obtain⟨F2,g2,s2,p2⟩:=hy1.toRp s1
  exact⟨F2,d,e,s2,p1.mono g2,p2,c.1.1.1,c.1.1.2,c.1.2,c.2,q _ H F (.refl s) (by simp only[Rp])⟩
 ·cases h
mutual
theorem a21:∀(d:D),g8 d=true→n5 d d=true
 | .tup ds,h=>by simp only[g8]at h;simp only[n5];exact a0c ds h
 | .lst ds,h=>by simp only[g8]at h;simp only[n5];exact a0c ds h
 | .non,_=>by simp[n5,Q6]
 | .bl _,_=>by simp[n5,Q6]
 | .int _,_=>by simp[n5,Q6]
 | .str _,_=>by simp[n5,Q6]
 | .ty _,h=>by simp[g8,j5]at h
 | .cls _,h=>by simp[g8,j5]at h
 | .scr _,h=>by simp[g8,j5]at h
 | .exc _,h=>by simp[g8,j5]at h
 | .obj _ _ _,h=>by simp[g8,j5]at h
 | .dic _ _,h=>by simp[g8,j5]at h
 | .exv _ _ _,h=>by simp[g8,j5]at h
theorem a0c:∀(ds:List D),u5 ds=true→D4 ds ds=true
 | [],_=>by simp[D4]
 | d::ds,h=>by
  simp only[u5,Bool.and_eq_true]at h
  simp only[D4]
  rw[a21 d h.1,a0c ds h.2];rfl
end
theorem a5x{d:D}(neg:Bool)(h1:g8 d=true)(h2:L4 d≤40)(h3:N5 d=true):a0b neg d d=some (.bl (!neg)):=by
 unfold a0b
 rw[if_pos (by simp[h1,h2,h3]),a21 d h1]
 cases neg<;>rfl
theorem a3u{α:Type}{f:α→D}{l:List α}(h:∀a∈l,g8 (f a)=true):u5 (l.map f)=true:=by
 induction l with
 | nil=>rfl
 | cons a l ih =>
  simp only[List.map_cons,u5,Bool.and_eq_true]
  exact⟨h a List.mem_cons_self,ih fun b hb=>h b (List.mem_cons_of_mem _ hb)⟩
theorem a5y{α:Type}{f:α→D}{l:List α}{n:Nat}(h:∀a∈l,L4 (f a)≤n):B1 (l.map f)≤n:=by
 induction l with
 | nil=>simp[B1]
 | cons a l ih =>
  simp only[List.map_cons,B1]
  have:=h a List.mem_cons_self
  have:=ih fun b hb=>h b (List.mem_cons_of_mem _ hb)
  omega
section
variable {K:W.Frag}{cl:Str→Addr}{E:XK}{σ:St}{H F:Hp}{env:DE}{k:Nat}
def b1c(K:W.Frag)(cl:Str→Addr)(E:XK)(a:Addr)(t:TS)(f:SF):Prop:=∀(N:Ends) σ H env F,Rel K cl σ H F env→(∃cls,F a=some (a0C a cls none))→Cs K cl E (f env) σ H F env N→t N σ H
theorem RfS.x{a:Addr}{t:TS}{f:SF}(h:RfS K cl E t f):b1c K cl E a t f:=fun N σ H env F R _ c=>h N σ H env F R c
end
def T7:Sl→Sl
 | .ow ds=>.fz (.lst ds)
 | .hd ds=>.fz (.lst ds)
 | .od ks ds=>.fz (.dic ks ds)
 | .hk ks ds=>.fz (.dic ks ds)
 | s=>s
def J2:DE→DE
 | []=>[]
 | s::e=>T7 s::J2 e
mutual
def noL:D→Bool
 | .lst _=>false
 | .scr _=>false
 | .exc _=>false
 | .obj _ _ _=>false
 | .dic _ _=>false
 | .exv _ _ _=>false
 | .tup ds=>noLs ds
 | _=>true
def noLs:List D→Bool
 | []=>true
 | d::ds=>noL d && noLs ds
end
def B2(σ:St)(env:DE)(b:Addr):Prop:=(∃j,Mu env j∧σ[j]? = some (some (.ref b)))∨∃(j:Nat) (s:Sl) (ks:DK) (ds:List D),env[j]? = some s∧K6 s ks ds∧σ[j]? = some (some (.ref b))
def a0N(o:HO):Prop:=(∃xs,o=.lst xs)∨∃ks xs,o=dkO ks xs
theorem a1K:∀(e:DE),J2 e=e.map T7
 | []=>rfl
 | s::e=>by rw[J2,a1K e];rfl
section
variable {K:W.Frag}{cl:Str→Addr}{E:XK}{σ:St}{H F F1 H' F' F2:Hp}{env:DE}
mutual
theorem Rp.noL(g:∀b o,F' b=some o→¬a0N o→F2 b=some o):∀(d:D) (v:V),L2.noL d=true→Rp K cl F' d v→Rp K cl F2 d v
 | .non,_,_,h=>by simpa only[Rp]using h
 | .bl _,_,_,h=>by simpa only[Rp]using h
 | .int _,_,_,h=>by simpa only[Rp]using h
 | .str _,_,_,h=>by simpa only[Rp]using h
 | .ty _,_,_,h=>by simpa only[Rp]using h
 | .cls _,_,_,h=>by simpa only[Rp]using h
 | .tup ds,v,n,h=>by
  simp only[Rp]at h ⊢
  obtain⟨a,xs,e,h1,h2⟩:=h
  exact⟨a,xs,e,g _ _ h1 (fun z=>by rcases z with⟨_,z⟩ | ⟨ks,_,z⟩;exact nomatch z;cases ks<;>exact nomatch z),Rps.noL g ds xs (by simpa only[L2.noL]using n) h2⟩
 | .lst ds,v,n,h=>by simp[L2.noL]at n
 | .scr ns,v,n,h=>by simp[L2.noL]at n
 | .exc c,v,n,h=>by simp[L2.noL]at n
 | .obj _ _ _,v,n,h=>by simp[L2.noL]at n
 | .dic _ _,v,n,h=>by simp[L2.noL]at n
 | .exv _ _ _,v,n,h=>by simp[L2.noL]at n
theorem Rps.noL(g:∀b o,F' b=some o→¬a0N o→F2 b=some o):∀(ds:List D) (vs:List V),L2.noLs ds=true→Rps K cl F' ds vs→Rps K cl F2 ds vs
 | [],_,_,h=>by simpa only[Rps]using h
 | d::ds,vs,n,h=>by
  simp only[Rps]at h ⊢
  simp only[L2.noLs,Bool.and_eq_true]at n
  obtain⟨v,r,e,h1,h2⟩:=h
  exact⟨v,r,e,Rp.noL g d v n.1 h1,Rps.noL g ds r n.2 h2⟩
end
theorem a0o{j:Nat}{s:Sl}(h:(J2 env)[j]? = some s):∃s0,env[j]? = some s0∧s=T7 s0:=by
 rw[a1K,List.getElem?_map]at h
 cases q:env[j]? with
 | none=>rw[q]at h;cases h
 | some s0=>rw[q]at h;exact⟨s0,rfl,(Option.some.inj h).symm⟩
theorem a22{j:Nat}:¬Mu (J2 env) j:=fun⟨ds,q⟩=>by
 rcases q with q | q
 ·obtain⟨s0,_,e⟩:=a0o q;cases s0<;>cases e
 ·obtain⟨s0,_,e⟩:=a0o q;cases s0<;>cases e
theorem a30{j:Nat}{s:Sl}{ks:DK}{ds:List D}(h:(J2 env)[j]? = some s):¬K6 s ks ds:=fun d=>by
 obtain⟨s0,_,e⟩:=a0o h
 cases s0<;> (subst e;exact d)
theorem a8D(R:Rel K cl σ H F env):∃F1,Rel K cl σ H F1 (J2 env)∧(∀b,B2 σ env b→∃o,a0N o∧F1 b=some o∧H b=some o)∧∀b,¬B2 σ env b→F1 b=F b:=by
 classical
 have hF:∀b,B2 σ env b→F b=none∧∃o,a0N o∧H b=some o:=fun b w=>by
  rcases w with⟨j,⟨ds,q⟩,e⟩ | ⟨j,s,ks,ds,q,d,e⟩
  ·obtain⟨a,xs,e1,h1,f1,_⟩:=R.mu j ds q
   rw[e]at e1;cases e1
   exact⟨f1,_,.inl ⟨xs,rfl⟩,h1⟩
  ·obtain⟨a,xs,e1,h1,f1,_⟩:=R.od.at_ j s ks ds q d
   rw[e]at e1;cases e1
   exact⟨f1,_,.inr ⟨ks,xs,rfl⟩,h1⟩
 have sF:Same F (fun b=>if B2 σ env b then H b else F b):=fun b o q=>by
  show(if B2 σ env b then H b else F b)=some o
  rw[if_neg (fun w=>by rw[(hF b w).1]at q;cases q)];exact q
 refine⟨fun b=>if B2 σ env b then H b else F b,⟨fun b o q=>?_,by rw[a1K,List.length_map];exact R.len,fun i d q=>?_,fun i ds q=>absurd ⟨ds,q⟩ a22,fun i j a hi=>absurd hi a22,.none fun _ _ _ _ h=>a30 h⟩,fun b w=>?_,fun b w=>if_neg w⟩
 ·try dsimp only at q
  split at q
  ·exact q
  ·exact R.sub _ _ q
 ·obtain⟨s0,e0,e1⟩:=a0o q
  cases s0 with
  | no=>cases e1
  | fz d'=>cases e1;obtain⟨v,e2,r⟩:=R.fz i _ e0;exact⟨v,e2,r.mono sF⟩
  | ow ds =>
   cases e1
   obtain⟨a,xs,e2,h2,f2,r⟩:=R.mu i ds (.inl e0)
   refine⟨_,e2,?_⟩
   simp only[Rp]
   refine⟨a,xs,rfl,?_,r.mono sF⟩
   rw[if_pos (.inl ⟨i,⟨ds,.inl e0⟩,e2⟩)];exact h2
  | hd ds =>
   cases e1
   obtain⟨a,xs,e2,h2,f2,r⟩:=R.mu i ds (.inr e0)
   refine⟨_,e2,?_⟩
   simp only[Rp]
   refine⟨a,xs,rfl,?_,r.mono sF⟩
   rw[if_pos (.inl ⟨i,⟨ds,.inr e0⟩,e2⟩)];exact h2
  | od ks ds =>
   cases e1
   obtain⟨a,xs,e2,h2,f2,hn,r⟩:=R.od.at_ i _ ks ds e0 ⟨rfl,rfl⟩
   refine⟨_,e2,?_⟩
   simp only[Rp]
   refine⟨a,xs,rfl,?_,hn,r.mono sF⟩
   rw[if_pos (.inr ⟨i,_,ks,ds,e0,⟨rfl,rfl⟩,e2⟩)];exact h2
  | hk ks ds =>
   cases e1
   obtain⟨a,xs,e2,h2,f2,hn,r⟩:=R.od.at_ i _ ks ds e0 ⟨rfl,rfl⟩
   refine⟨_,e2,?_⟩
   simp only[Rp]
   refine⟨a,xs,rfl,?_,hn,r.mono sF⟩
   rw[if_pos (.inr ⟨i,_,ks,ds,e0,⟨rfl,rfl⟩,e2⟩)];exact h2
 ·obtain⟨o,i,h⟩:=(hF b w).2
  exact⟨o,i,by(try dsimp only);rw[if_pos w];exact h,h⟩
theorem a23(R:Rel K cl σ H F env)(o1:∀b,B2 σ env b→∃o,a0N o∧F1 b=some o∧H b=some o)(o2:∀b,¬B2 σ env b→F1 b=F b)(x:FX σ H F1 (J2 env) H' F') :
  ∃F2,Frm σ H F env σ H' F2 env∧Rel K cl σ H' F2 env∧(∀b o,F' b=some o→¬a0N o→F2 b=some o)∧∀b,F' b=none→F2 b=none:=by
 classical
 have nw:∀b,¬Ow σ (J2 env) b:=fun b ⟨j,s,oo,q,_⟩=>by
  cases s with
  | ow ds=>exact a22 ⟨ds,.inl q⟩
  | od ks ds=>exact a30 q (ks:=ks) (ds:=ds) ⟨rfl,rfl⟩
  | _=>exact oo
 have hF:∀b,B2 σ env b→F b=none:=fun b w=>by
  rcases w with⟨j,⟨ds,q⟩,e⟩ | ⟨j,s,ks,ds,q,d,e⟩
  ·obtain⟨a,xs,e1,h1,f1,_⟩:=R.mu j ds q
   rw[e]at e1;cases e1
   exact f1
  ·obtain⟨a,xs,e1,h1,f1,_⟩:=R.od.at_ j s ks ds q d
   rw[e]at e1;cases e1
   exact f1
 have sF:Same F (fun b=>if B2 σ env b then none else F' b):=fun b o q=>by
  have w:¬B2 σ env b:=fun w=>by rw[hF b w]at q;cases q
  show(if B2 σ env b then none else F' b)=some o
  rw[if_neg w]
  exact x.fz _ _ (by rw[o2 b w];exact q)
 have kept:∀b o,B2 σ env b→H b=some o→H' b=some o:=fun b xs w h=>by
  obtain⟨ys,_,f,h2⟩:=o1 b w
  rw[h]at h2;cases h2
  exact x.sub _ _ (x.fz _ _ f)
 refine⟨fun b=>if B2 σ env b then none else F' b,⟨sF,fun b o hb fb w=>?_,fun _ _ h=>⟨h,rfl⟩,x.dom⟩,⟨fun b o q=>?_,R.len,fun i d q=>?_,fun i ds q=>?_,R.inj,R.od.own (fun i s ks ds a xs h d e hH hF=>⟨kept a _ (.inr ⟨i,s,ks,ds,h,d,e⟩) hH,by(try dsimp only);rw[if_pos (.inr ⟨i,s,ks,ds,h,d,e⟩)]⟩) sF⟩,fun b o q nl=>?_,fun b q=>?_⟩
 ·by_cases ww:B2 σ env b
  ·obtain⟨ys,_,f,h2⟩:=o1 b ww
   refine⟨by rw[hb]at h2;cases h2;exact kept b _ ww hb,by(try dsimp only);rw[if_pos ww],w⟩
  ·obtain⟨h1,f1⟩:=x.hid b o hb (by rw[o2 b ww];exact fb) (nw b)
   exact⟨h1,by(try dsimp only);rw[if_neg ww];exact f1,w⟩
 ·try dsimp only at q
  split at q
  ·cases q
  ·exact x.sub _ _ q
 ·obtain⟨v,e,r⟩:=R.fz i d q;exact⟨v,e,r.mono sF⟩
 ·obtain⟨a,xs,e,h1,f1,r⟩:=R.mu i ds q
  have w:B2 σ env a:=.inl ⟨i,⟨ds,q⟩,e⟩
  exact⟨a,xs,e,kept a _ w h1,by(try dsimp only);rw[if_pos w],r.mono sF⟩
 ·dsimp only
  rw[if_neg (fun w=>by obtain⟨ys,i,f,_⟩:=o1 b w;rw[x.fz _ _ f]at q;cases q;exact nl i)];exact q
 ·dsimp only
  split
  ·rfl
  ·exact q
def noX:XN→Bool
 | .p _=>true
 | .v _ _ d=>noL d
theorem Xf.noL{c:XN}{cx:Option Addr}(g:∀b o,F' b=some o→¬a0N o→F2 b=some o)(n:noX c=true)(h:Xf K cl F' c cx):Xf K cl F2 c cx:=by
 cases c with
 | p c=>exact h
 | v c f d =>
  obtain⟨dx,y,e,h1,h2⟩:=h
  exact⟨dx,y,e,g _ _ h1 (fun z=>by rcases z with⟨_,z⟩ | ⟨ks,_,z⟩;exact nomatch z;cases ks<;>exact nomatch z),Rp.noL g d y n h2⟩
def b0L(f:ZF):ZF:=fun e=>match f (J2 e)with
 | some (.ok d _)=>if noL d=true then some (.ok d e)else none
 | some (.ex c)=>if noX c=true then some (.ex c)else none
 | none=>none
def a1g(f:BF):BF:=fun e=>match f (J2 e)with
 | some (.ok d _)=>some (.ok d e)
 | some (.ex c)=>if noX c=true then some (.ex c)else none
 | none=>none
theorem a6A{t:TT}{f:BF}(hf:K7 K cl E t f):K7 K cl E t (a1g f):=by
 intro σ H Q env F R h
 obtain⟨F1,R1,o1,o2⟩:=a8D R
 refine hf σ H Q (J2 env) F1 R1 ?_
 unfold a1g at h
 split at h
 ·rename_i d e2 q
  rw[q]
  intro b H' F' fr R' p
  obtain⟨F2,fr2,R2,g,_⟩:=a23 R o1 o2 (fr.toFX R'.sub)
  exact h b H' F2 fr2 R2 p
 ·rename_i c q
  rw[q]
  intro H' F' x cx xf
  obtain⟨F2,fr2,R2,g,_⟩:=a23 R o1 o2 x
  split at h
  ·rename_i n
   exact h H' F2 (fr2.toFX R2.sub) cx (xf.noL g n)
  ·exact h.elim
 ·exact h.elim
def bLd(r:Option (R Bool))(e:DE):Option (R Bool):=match r with
 | some (.ok d _)=>some (.ok d e)
 | some (.ex c)=>if noX c=true then some (.ex c)else none
 | none=>none
def zLd(r:Option (R D))(e:DE):Option (R D):=match r with
 | some (.ok d _)=>if noL d=true then some (.ok d e)else none
 | some (.ex c)=>if noX c=true then some (.ex c)else none
 | none=>none
theorem a6B(f:BF)(e:DE):a1g f e=bLd (f (J2 e)) e:=rfl
theorem a6C(f:ZF)(e:DE):b0L f e=zLd (f (J2 e)) e:=rfl
theorem b0e(d:Bool)(e e2:DE):bLd (some (.ok d e2)) e=some (.ok d e):=rfl
theorem b0f(c:Str)(e:DE):bLd (some (.ex (.p c))) e=some (.ex (.p c)):=rfl
theorem a8E(c f:Str)(d:D)(e:DE):bLd (some (.ex (.v c f d))) e=if noL d=true then some (.ex (.v c f d))else none:=rfl
theorem b0g(d:D)(e e2:DE):zLd (some (.ok d e2)) e=if noL d=true then some (.ok d e)else none:=rfl
theorem b0h(c:Str)(e:DE):zLd (some (.ex (.p c))) e=some (.ex (.p c)):=rfl
theorem a8F(c f:Str)(d:D)(e:DE):zLd (some (.ex (.v c f d))) e=if noL d=true then some (.ex (.v c f d))else none:=rfl
variable {k:Nat}
def a4T(i j:Nat)(f:AF):SF:=fun e=>B8 (f e) fun ds e1=>match ds with
 | [d,d']=>M8 (put i (.fz d) e1) fun e2=>put j (.fz d') e2
 | _=>none
theorem b0i{i j:Nat}{t:TA}{f:AF}(hf:M0 K cl E t f):RfS K cl E (a9t i j t) (a4T i j f):=by
 intro N σ H env F R h
 refine hf σ H _ env F R ((Cs.bnd h).mono fun xs H1 ⟨F1,e1,ds,fr,R1,p1,h1⟩=>?_)
 split at h1
 ·rename_i d d'
  obtain⟨v,r,rfl,q1,q2⟩:=p1.inv
  obtain⟨u,r',rfl,q3,q4⟩:=q2.inv
  rw[q4.inv0]
  refine⟨v,u,rfl,?_⟩
  cases hp:put i (.fz d) e1 with
  | none=>rw[hp]at h1;exact h1.elim
  | some z =>
   have hz:z=.nx (e1.set i (.fz d)):=by
    unfold put at hp
    split at hp
    ·cases hp
    ·cases hp
    ·cases hp;rfl
   subst hz
   have h0:Cs K cl E (put i (.fz d) e1) σ H F env { N with nx:=fun σ' H'=>∀F',Frm σ H F env σ' H' F' (e1.set i (.fz d))→Rel K cl σ' H' F' (e1.set i (.fz d))→True }:=by rw[hp];exact fun _ _ _ _ _ _ _ _=>trivial
   obtain⟨hi,nh,_⟩:=Z6 h0
   rw[hp]at h1
   have h1:Cs K cl E (put j (.fz d') (e1.set i (.fz d))) σ H F env N:=h1
   obtain⟨hj,nh2,h3⟩:=Z6 h1
   exact h3 _ H1 F1 ((fr.trans (Frm.put nh)).trans (Frm.put nh2)) ((R1.put hi nh q1).put hj nh2 q3)
 ·exact h1.elim
end
def un:Option D→Sl
 | none=>.no
 | some d=>.fz d
def N6:Sl→Bool
 | .hd _=>false
 | _=>true
def okS:Option Sl→Bool
 | none=>false
 | some s=>N6 s
theorem a6D(o:Option D):N6 (un o)=true:=by cases o<;>rfl
theorem a6E:N6 .no=true:=rfl
theorem a6F(d:D):N6 (.fz d)=true:=rfl
theorem a6G(d:List D):N6 (.ow d)=true:=rfl
theorem a6H(d:List D):N6 (.hd d)=false:=rfl
theorem a6I(s:Sl):okS (some s)=N6 s:=rfl
theorem a6J:okS none=false:=rfl
theorem a8G:T7 .no=.no:=rfl
theorem a8H(d:D):T7 (.fz d)=.fz d:=rfl
theorem a8I(d:List D):T7 (.ow d)=.fz (.lst d):=rfl
theorem a8J(d:List D):T7 (.hd d)=.fz (.lst d):=rfl
theorem b0j(i:Nat)(s:Sl)(e:DE):put i s e=if okS e[i]? = true then some (.nx (e.set i s))else none:=by
 unfold put okS
 cases e[i]? with
 | none=>rfl
 | some t=>cases t<;>rfl
theorem a6K(i:Nat)(d:D)(e:DE):b8 i d e=if okS e[i]? = true then some (e.set i (.fz d))else none:=by
 unfold b8 okS
 cases e[i]? with
 | none=>rfl
 | some t=>cases t<;>rfl
theorem a8K(o:Option D):T7 (un o)=un o:=by cases o<;>rfl
theorem a6L:a1F []=true:=rfl
theorem a5A(s:Sl)(e:DE):a1F (s::e)=(N6 s && a1F e):=by cases s<;>rfl
def v7(r:Option RS):Option RS:=match r with
 | some (.ct e)=>some (.nx e)
 | r=>r
theorem a8L(e:DE):v7 (some (.nx e))=some (.nx e):=rfl
theorem a8M(e:DE):v7 (some (.ct e))=some (.nx e):=rfl
theorem a8N(d:D):v7 (some (.rt d))=some (.rt d):=rfl
theorem a8O(c:XN):v7 (some (.ex c))=some (.ex c):=rfl
theorem a8P(d:List (List D)):v7 (some (.rz d))=some (.rz d):=rfl
theorem a8Q(d:List D):v7 (some (.ro d))=some (.ro d):=rfl
theorem a1_{r:Option RS}{k:SF}:R0 r k=R0 (v7 r) k:=by
 cases r with
 | none=>rfl
 | some r=>cases r<;>rfl
theorem a24{α:Type}{b:GF}{body:SF}(f:α→D)(I:List α→DE→Prop)(l0:List α):∀(l pre:List α) (e:DE),l0=pre++l→I pre e→(∀pre x post e,l0=pre++x::post→I pre e→∃e2,v7 (O8 (b (f x) e) body)=some (.nx e2)∧I (pre++[x]) e2)→∃e',m7 b body (l.map f) e=some (.nx e')∧I l0 e'
 | [],pre,e,hl,h,_=>⟨e,rfl,by rw[hl,List.append_nil];exact h⟩
 | x::l,pre,e,hl,h,hs=>by
  obtain⟨e2,h2,h3⟩:=hs pre x l e hl h
  obtain⟨e',h4,h5⟩:=a24 f I l0 l (pre++[x]) e2 (by rw[hl,List.append_assoc];rfl) h3 hs
  refine⟨e',?_,h5⟩
  rw[List.map_cons,a0a]
  cases q:b (f x) e with
  | none=>rw[q]at h2;cases h2
  | some e1 =>
   rw[q]at h2
   have h2:v7 (body e1)=some (.nx e2):=h2
   rw[A6,a1_,h2];exact h4
theorem a0p{α:Type}{b:GF}{body:SF}(f:α→D)(I:List α→DE→Prop)(l:List α)(e:DE)(h:I [] e)(hs:∀pre x post e,l=pre++x::post→I pre e→∃e2,v7 (O8 (b (f x) e) body)=some (.nx e2)∧I (pre++[x]) e2):∃e',m7 b body (l.map f) e=some (.nx e')∧I l e' :=
 a24 f I l l [] e rfl h hs
def a2r:RS→Bool
 | .rt _=>true
 | .ro _=>true
 | .rz _=>true
 | .rp _ _=>true
 | .ex _=>true
 | _=>false
theorem W8{α:Type}{b:GF}{c:BF}{el:ZF}{ec eo:DE}(f:α→D)(g:α→D)(q:α→Bool):∀(l:List α) (acc:List D),acc.length+l.length≤sizeLine→(∀x∈l,∃e1 e2,b (f x) ec=some e1∧c e1=some (.ok (q x) e2)∧(q x=true→∃e3,el e2=some (.ok (g x) e3)))→t5 b c el ec eo (l.map f) acc=some (.ok (acc++(l.filter q).map g) eo)
 | [],acc,_,_=>by simp only[List.filter_nil,List.map_nil,List.append_nil];rfl
 | x::l,acc,hl,h=>by
  obtain⟨e1,e2,h1,h2,h3⟩:=h x List.mem_cons_self
  have hl':acc.length<sizeLine:=by rw[List.length_cons]at hl;omega
  rw[List.map_cons,a1f,h1,a19,h2,a2O]
  by_cases z:q x=true
  ·obtain⟨e3,h4⟩:=h3 z
   rw[if_pos z,h4,a2O,if_pos hl',W8 f g q l (acc++[g x]) (by rw[List.length_append,List.length_cons,List.length_nil];rw[List.length_cons]at hl;omega) (fun y m=>h y (List.mem_cons_of_mem _ m)),List.filter_cons_of_pos z,List.map_cons,List.append_assoc];rfl
  ·rw[if_neg z,W8 f g q l acc (by rw[List.length_cons]at hl;omega) (fun y m=>h y (List.mem_cons_of_mem _ m)),List.filter_cons_of_neg z]
theorem a32{ds:List D}{v u:Int}(h:0≤v)(h2:v≤u):a0L ds (some v) (some u)=(ds.drop v.toNat).take (u-v).toNat:=by
 unfold a0L
 obtain⟨n,rfl⟩:=Int.eq_ofNat_of_zero_le h
 obtain⟨m,rfl⟩:=Int.eq_ofNat_of_zero_le (Int.le_trans h h2)
 rw[HT.sIx_nat,HT.sIx_nat,Int.toNat_natCast]
 have e:((m:Int)-(n:Int)).toNat=m-n:=by omega
 rw[e]
 by_cases z:n≤ds.length
 ·rw[Nat.min_eq_left z]
  by_cases y:m≤ds.length
  ·rw[Nat.min_eq_left y]
  ·rw[Nat.min_eq_right (by omega),List.take_of_length_le (by rw[List.length_drop];exact Nat.le_refl _),List.take_of_length_le (by rw[List.length_drop];omega)]
 ·rw[List.drop_of_length_le (show ds.length≤min n ds.length by omega),List.drop_of_length_le (by omega),List.take_nil,List.take_nil]
theorem a0q{n k:Nat}(h:k<n):K4 n (k:Int)=some k:=by
 unfold K4;rw[if_pos (by omega),if_pos (by omega),Int.toNat_natCast]
section
variable {K:W.Frag}{cl:Str→Addr}{E:XK}
def W9(i:Nat)(k f:ZF):SF:=fun e=>match look e i with
 | some (.lst _)=>B8 (k e) fun j e1=>B8 (f e1) fun d e2=>match j,e2[i]? with
  | .int n,some (.ow ds)=>if 0≤n∧n≤ds.length∧ds.length<sizeLine then some (.nx (e2.set i (.ow (ds.take n.toNat++d::ds.drop n.toNat))))else none
  | _,_=>none
 | _=>none
theorem a25:∀{F:_} {ds:List D} {vs:List V} (n:Nat),Rps K cl F ds vs→Rps K cl F (ds.take n) (vs.take n)
 | F,ds,vs,0,h=>by rw[List.take_zero,List.take_zero];exact .nil
 | F,[],vs,n+1,h=>by
  have e:=h.length
  cases vs with
  | nil=>exact h
  | cons _ _=>cases e
 | F,d::ds,vs,n+1,h=>by
  obtain⟨v,r,rfl,h1,h2⟩:=h.inv
  exact .cons h1 (a25 n h2)
theorem a26:∀{F:_} {ds:List D} {vs:List V} (n:Nat),Rps K cl F ds vs→Rps K cl F (ds.drop n) (vs.drop n)
 | F,ds,vs,0,h=>h
 | F,[],vs,n+1,h=>by
  have e:=h.length
  cases vs with
  | nil=>exact h
  | cons _ _=>cases e
 | F,d::ds,vs,n+1,h=>by
  obtain⟨v,r,rfl,h1,h2⟩:=h.inv
  exact a26 n h2
theorem a27{i:Nat}{u t:TE}{k f:ZF}(hk:m3 K cl E u k)(hf:m3 K cl E t f):RfS K cl E (a4f (tBM K "list" a3N (D7 i) (B0 u (B0 t M3)))) (W9 i k f):=by
 intro N σ H env F R h
 unfold W9 at h
 split at h
 ·rename_i ds0 q
  obtain⟨a0,e0,ty⟩:=tyL R q
  refine⟨_,e0,ty,?_⟩
  refine hk σ H _ env F R ((Cs.bnd h).mono fun y H1 ⟨F1,e1,j,fr,R1,p1,h1⟩=>?_)
  refine hf σ H1 _ e1 F1 R1 ((Cs.bnd (h1.from fr)).mono fun x H2 ⟨F2,e2,d,fr2,R2,p2,h2⟩=>?_)
  split at h2
  ·rename_i n ds q2 _
   split at h2
   ·rename_i c
    obtain⟨a,xs,e,hH,hF,r⟩:=R2.mu i ds (.inl q2)
    rw[e0]at e;cases e
    obtain⟨R3,f3⟩:=R2.change q2 e0 ((a25 n.toNat r).append (.cons p2 (a26 n.toNat r)))
    have hy:y=.int n:=by have:=(show Rp K cl F1 (.int n) y from p1);simpa only[Rp]using this
    subst hy
    exact⟨_,xs,n,x,rfl,rfl,hH,c.1,by rw[← r.length];exact c.2.1,by rw[← r.length];exact c.2.2,h2 σ _ F2 (fr2.trans f3) R3⟩
   ·exact h2.elim
  ·exact h2.elim
 ·exact h.elim
end
def R8{α:Type}(g:Nat→α→D)(n:Nat):List α→List D
 | []=>[]
 | x::l=>g n x::R8 g (n+1) l
theorem U5{α:Type}(f:α→D):∀(n:Nat) (l:List α),G6 n (l.map f)=R8 (fun k x=>.tup [.int k,f x]) n l
 | _,[]=>rfl
 | n,x::l=>by rw[List.map_cons,R8,G6,U5 f (n+1) l]
theorem a33{α:Type}{b:GF}{body:SF}(g:Nat→α→D)(I:List α→DE→Prop)(Z:List α→α→RS→Prop)(l0:List α):∀(l pre:List α) (e:DE),l0=pre++l→I pre e →
  (∀pre x post e,l0=pre++x::post→I pre e→(∃r,a2r r=true∧v7 (O8 (b (g pre.length x) e) body)=some r∧Z pre x r)∨(∃e2,v7 (O8 (b (g pre.length x) e) body)=some (.nx e2)∧I (pre++[x]) e2)) →
  ((∃pr x post r,l0=pr++x::post∧a2r r=true∧m7 b body (R8 g pre.length l) e=some r∧Z pr x r∧∃e',I pr e')∨(∃e',m7 b body (R8 g pre.length l) e=some (.nx e')∧I l0 e'))
 | [],pre,e,hl,h,_=>.inr ⟨e,rfl,by rw[hl,List.append_nil];exact h⟩
 | x::l,pre,e,hl,h,hs=>by
  have hstep:∀r,v7 (O8 (b (g pre.length x) e) body)=some r→m7 b body (R8 g pre.length (x::l)) e=R0 (some r) (m7 b body (R8 g (pre.length+1) l)):=fun r h2=>by
   rw[R8,a0a]
   cases q:b (g pre.length x) e with
   | none=>rw[q]at h2;cases h2
   | some e1 =>
    rw[q]at h2
    have h2:v7 (body e1)=some r:=h2
    rw[A6,a1_,h2]
  rcases hs pre x l e hl h with⟨r,hr,h2,hz⟩ | ⟨e2,h2,h3⟩
  ·refine .inl ⟨pre,x,l,r,hl,hr,?_,hz,e,h⟩
   rw[hstep r h2]
   cases r<;>first | rfl | cases hr
  ·have ih:=a33 g I Z l0 l (pre++[x]) e2 (by rw[hl,List.append_assoc];rfl) h3 hs
   rw[List.length_append,List.length_singleton]at ih
   rw[hstep _ h2]
   exact ih
theorem a28{α:Type}{b:GF}{body:SF}(g:Nat→α→D)(I:List α→DE→Prop)(Z:List α→α→RS→Prop)(l:List α)(e:DE)(h:I [] e)
  (hs:∀pre x post e,l=pre++x::post→I pre e→(∃r,a2r r=true∧v7 (O8 (b (g pre.length x) e) body)=some r∧Z pre x r)∨(∃e2,v7 (O8 (b (g pre.length x) e) body)=some (.nx e2)∧I (pre++[x]) e2)) :
  (∃pre x post r,l=pre++x::post∧a2r r=true∧m7 b body (R8 g 0 l) e=some r∧Z pre x r∧∃e',I pre e')∨(∃e',m7 b body (R8 g 0 l) e=some (.nx e')∧I l e') :=
 a33 g I Z l l [] e rfl h hs
theorem a34{α:Type}{b:GF}{body:SF}(g:Nat→α→D)(I:List α→DE→Prop)(l:List α)(e:DE)(h:I [] e)
  (hs:∀pre x post e,l=pre++x::post→I pre e→∃e2,v7 (O8 (b (g pre.length x) e) body)=some (.nx e2)∧I (pre++[x]) e2):∃e',m7 b body (R8 g 0 l) e=some (.nx e')∧I l e':=by
 rcases a28 g I (fun _ _ _=>False) l e h (fun pre x post e hl hi=>.inr (hs pre x post e hl hi))with⟨_,_,_,_,_,_,_,h,_⟩ | h
 ·exact h.elim
 ·exact h
theorem a2a{α:Type}(f g:α→D):∀(l:List α),R5 (l.map f) (l.map g)=l.map fun q=>.tup [f q,g q]
 | []=>rfl
 | x::l=>by
  have:=a2a f g l
  unfold R5 at this ⊢
  rw[List.map_cons,List.map_cons,List.zipWith_cons_cons,this,List.map_cons]
theorem X0{α:Type}{l:List α}{k:Nat}{a:α}(h:l[k]? = some a):atI l (k:Int)=some a:=by
 have hk:=(List.getElem?_eq_some_iff.mp h).1
 unfold atI
 rw[a0q hk];exact h
theorem a6M{α:Type}(f:α→D){p r:List α}{x:α}:atI ((p++x::r).map f) (p.length:Int)=some (f x) :=
 X0 (by rw[List.map_append,List.getElem?_append_right (by rw[List.length_map];exact Nat.le_refl _),List.length_map,Nat.sub_self];rfl)
section
variable {K:W.Frag}{cl:Str→Addr}{E:XK}
theorem a2b{F:Hp}:∀{dss:List (List D)} {as:List Addr},dss.length=as.length→(∀(k:Nat) (ds:List D) (a:Addr),dss[k]? = some ds→as[k]? = some a→Rp K cl F (.lst ds) (.ref a))→Rps K cl F (dss.map .lst) (as.map V.ref)
 | [],[],_,_=>.nil
 | ds::dss,a::as,hl,h=>.cons (h 0 ds a rfl rfl) (a2b (by simpa using hl) fun k d b h1 h2=>h (k+1) d b h1 h2)
end
open Classical in
section
variable {K:W.Frag}{cl:Str→Addr}{E:XK}
theorem a35{F:Hp}:∀{ds:List D} {xs:List V},Rps K cl F ds xs→Rps K cl F ds.reverse xs.reverse
 | [],_,r=>by rw[r.inv0];exact .nil
 | d::ds,_,r=>by
  obtain⟨v,xs,rfl,p,r'⟩:=r.inv
  rw[List.reverse_cons,List.reverse_cons]
  exact(a35 r').append (.one p)
end
section
variable {K:W.Frag}{cl:Str→Addr}{E:XK}{σ:St}{H F:Hp}{env:DE}
abbrev HF:=XN→SF
theorem Xf.rp{c:XN}{cx:Option Addr}{a:Addr}(h:Xf K cl F c cx)(na:F a=none):Rp K cl (upd F a (a0C a (.ref (cl c.nm)) cx)) c.d (.ref a):=by
 have g:Same F (upd F a (a0C a (.ref (cl c.nm)) cx)):=fun b o e=>by rw[c8 (m8 e na)];exact e
 cases c with
 | p c=>show Rp K cl _ (.exc c) _;simp only[Rp];exact⟨a,cx,rfl,i0⟩
 | v c f d =>
  obtain⟨dx,y,rfl,h1,h2⟩:=h
  show Rp K cl _ (.exv c f d) _
  simp only[Rp]
  exact⟨a,dx,y,rfl,i0,g _ _ h1,h2.mono g⟩
def hN:HF:=fun _ _=>none
end
section
variable {K:W.Frag}{cl:Str→Addr}{E:XK}{σ:St}{H F:Hp}{env:DE}
theorem Rps.lookup{f:Str}:∀{ns:List Str} {ds:List D} {xs:List V} {z:D},Rps K cl F ds xs→(ns.zip ds).lookup f=some z→∃v,(ns.zip xs).lookup f=some v∧Rp K cl F z v
 | [],ds,xs,z,_,h=>by simp at h
 | n::ns,[],xs,z,r,h=>by simp at h
 | n::ns,d::ds,xs,z,r,h=>by
  obtain⟨v,ys,rfl,p,r'⟩:=r.inv
  rw[List.zip_cons_cons,List.lookup_cons]at h ⊢
  by_cases q:(f == n)=true
  ·rw[q]at h ⊢;cases h;exact⟨v,rfl,p⟩
  ·rw[Bool.not_eq_true _ |>.mp q]at h ⊢;exact r'.lookup h
end
structure GrM(a:Addr)(H F H' F':Hp):Prop where
 fz:Same F F'
 sub:Same F' H'
 hid:∀b o,b≠a→H b=some o→F b=none→H' b=some o∧F' b=none
 dom:∀b,H' b=none→H b=none
structure Bs(a:Addr)(σ:St)(env:DE)(H0 F0 H F:Hp):Prop where
 fz:Same F0 F
 hid:∀b o,b≠a→H0 b=some o→F0 b=none→H b=some o∧F b=none∧¬Ow σ env b
 dom:∀b,H b=none→H0 b=none
section
variable {K:W.Frag}{cl:Str→Addr}{E:XK}{σ:St}{H F:Hp}{env:DE}
theorem Bs.frm{a:Addr}{ds:List D}{σ':St}{env':DE}{H0 F0 H' F':Hp}(B:Bs a σ env H0 F0 H F)(f:Frm σ H F env σ' H' F' env'):Bs a σ' env' H0 F0 H' F' :=
 ⟨B.fz.trans f.fz,fun b o n h g=>by obtain⟨h1,f1,w1⟩:=B.hid b o n h g;exact f.hid b o h1 f1 w1,fun b h=>B.dom b (f.dom b h)⟩
theorem Bs.gr{a:Addr}{H0 F0:Hp}(B:Bs a σ env H0 F0 H F)(s:Same F H):GrM a H0 F0 H F :=
 ⟨B.fz,s,fun b o n h g=>by obtain⟨h1,f1,_⟩:=B.hid b o n h g;exact⟨h1,f1⟩,B.dom⟩
end
def a4U:SF:=fun _=>none
theorem a8R{X:Cx}{st:Stmt}:PS X st (fun _ _ _=>False):=fun _ _ _ _ _ _ h=>h.elim
section
variable {K:W.Frag}{cl:Str→Addr}{E:XK}
theorem a8S:RfS K cl E (fun _ _ _=>False) a4U:=fun _ _ _ _ _ _ h=>h
end
section
variable {P:Program}{w:World}{K:W.Frag}{mg:Str→Option Value}{base:Heap}{cl:Str→Addr}{TB:List (Addr×Str)}
variable {X:Cx}{k k':Nat}{x:Str}{ps:List Str}{sp:Sp}{E:XK}{e:Expr}{es:List Expr}{t:TA}{p pos:Pos}{d:V}
theorem OwnD.own(G:OwnD P w K mg base k x ps sp d):Own P w K mg base k x ps sp:=by
 obtain⟨f,fd,du,F,b,bd,rd,kp,m⟩:=G.ex
 exact⟨f,fd,F,b,kp,m⟩
end
section
variable {X:Cx}
theorem a6N:MtR X "str.count" (fun x vs H Q=>∃z y,x=.str z∧vs=[.str y]∧Q (.int (Builtin.Str.occurrences z y 0 z.length (z.length+1)).length) H):=by
 intro pins s σ H x vs v us Q I rx rv h
 obtain⟨z,y,rfl,rfl,q⟩:=h
 obtain⟨t,rfl⟩:=rx
 obtain⟨u,rfl,ru⟩:=rv.one
 obtain⟨t2,rfl⟩:=ru
 exact call_gives F.slot_str_count (typeIs_str _ _ _) F.entry_str_count (F.args_str_count_2 _ _) (gives_str_count z y t t2) (show EP X pins σ Q (.int (Builtin.Str.occurrences z y 0 z.length (z.length+1)).length s.toks) { s with toks:=s.toks+1 }from⟨.int _,H,I.tok _,⟨_,rfl⟩,q⟩)
end
section
variable {K:W.Frag}{cl:Str→Addr}{E:XK}
def M9(d e:D):Option D:=match d,e with
 | .str z,.int i=>if z.length≤sizeLine then(atI z.cps.toList i).map fun c=>.str ⟨#[c]⟩else none
 | _,_=>none
theorem a5B:OpOk K cl a9A M9:=by
 intro x y d e z H F Q s hx hy h q
 unfold M9 at h
 split at h
 ·rename_i zz i
  split at h
  ·rename_i hz
   cases hc:atI zz.cps.toList i with
   | none=>rw[hc]at h;cases h
   | some c =>
    rw[hc]at h
    cases h
    have:x=.str zz:=hx.str
    exact⟨zz,i,c,this,hy.int,hz,hc,q _ H F (.refl s) (by simp only[Rp])⟩
  ·cases h
 ·cases h
def zSM(g:Str→Str→D)(f h:ZF):ZF:=fun e=>bnd (f e) fun d e1=>match d with
 | .str z=>bnd (h e1) fun d2 e2=>match d2 with
  | .str y=>some (.ok (g z y) e2)
  | _=>none
 | _=>none
theorem b0M{g:Str→Str→D}{v:Str→Str→V}(hg:∀z y F,Rp K cl F (g z y) (v z y)){t u:TE}{f h:ZF}(hf:m3 K cl E t f)(hh:m3 K cl E u h):m3 K cl E (tBM K "str" (fun x vs H Q=>∃z y,x=.str z∧vs=[.str y]∧Q (v z y) H) t (B0 u M3)) (zSM g f h):=by
 intro σ H Q env F R h0
 refine hf σ H _ env F R ((Ct.bnd h0 F9).mono fun x H1 ⟨F1,e1,d,s1,R1,p1,h1⟩=>?_)
 split at h1
 ·rename_i z
  have ex:x=.str z:=by have:=(show Rp K cl F1 (.str z) x from p1);simpa only[Rp]using this
  subst ex
  refine⟨rfl,?_⟩
  refine hh σ H1 _ e1 F1 R1 ((Ct.bnd h1 F9).mono fun x2 H2 ⟨F2,e2,d2,s2,R2,p2,h2⟩=>?_)
  split at h2
  ·rename_i y
   have ey:x2=.str y:=by have:=(show Rp K cl F2 (.str y) x2 from p2);simpa only[Rp]using this
   subst ey
   exact⟨z,y,rfl,rfl,h2 _ H2 F2 Frm.refl R2 (hg z y F2)⟩
  ·exact h2.elim
 ·exact h1.elim
def L6(z y:Str):D:=.int (Builtin.Str.occurrences z y 0 z.length (z.length+1)).length
theorem a6O{t u:TE}{f h:ZF}(hf:m3 K cl E t f)(hh:m3 K cl E u h):m3 K cl E (tBM K "str" (fun x vs H Q=>∃z y,x=.str z∧vs=[.str y]∧Q (.int (Builtin.Str.occurrences z y 0 z.length (z.length+1)).length) H) t (B0 u M3)) (zSM L6 f h):=b0M (v:=fun z y=>.int (Builtin.Str.occurrences z y 0 z.length (z.length+1)).length) (fun z y F=>by simp only[L6,Rp]) hf hh
end
section
variable {K:W.Frag}{cl:Str→Addr}{E:XK}{σ:St}{H F:Hp}{env:DE}{k:Nat}
def a6P(f:ZF)(l u:OF):ZF:=fun e=>bnd (f e) fun d e1=>bnd (l e1) fun lo e2=>bnd (u e2) fun hi e3=>match d with
 | .str z=>if z.length≤sizeLine then some (.ok (.str (Txt.slice z lo hi)) e3)else none
 | _=>none
theorem b0k{t:TE}{tl tu:TO}{f:ZF}{l u:OF}(hf:m3 K cl E t f)(hl:RfO K cl E tl l)(hu:RfO K cl E tu u):m3 K cl E (tSl a9L t tl tu) (a6P f l u):=by
 intro σ H Q env F R h
 refine hf σ H _ env F R ((Ct.bnd h F9).mono fun x H1 ⟨F1,e1,d,s1,R1,p1,h1⟩=>?_)
 refine hl σ H1 _ e1 F1 R1 ((Ct.bnd h1 F9).mono fun lo H2 ⟨F2,e2,lo',s2,R2,p2,h2⟩=>?_)
 refine hu σ H2 _ e2 F2 R2 ((Ct.bnd h2 F9).mono fun hi H3 ⟨F3,e3,hi',s3,R3,p3,h3⟩=>?_)
 cases (show lo=lo' from p2)
 cases (show hi=hi' from p3)
 split at h3
 ·rename_i z _ _
  have ex:x=.str z:=by have:=(show Rp K cl F1 (.str z) x from p1);simpa only[Rp]using this
  split at h3
  ·rename_i hz
   exact⟨z,ex,hz,h3 _ H3 F3 Frm.refl R3 (by simp only[PZ,Rp])⟩
  ·exact h3.elim
 ·exact h3.elim
end
section
variable {K:W.Frag}{cl:Str→Addr}{E:XK}{F:Hp}
def S5:List D→Option (List Str)
 | []=>some []
 | .str z::ds=>(S5 ds).map (z :: ·)
 | _::_=>none
theorem a29:∀{ds:List D} {ys:List Str} {us:List V},S5 ds=some ys→Rps K cl F ds us→us=ys.map V.str
 | [],_,us,h,r=>by
  cases h
  exact r.inv0
 | .str z::ds,ys,us,h,r=>by
  unfold S5 at h
  cases h1:S5 ds with
  | none=>rw[h1]at h;cases h
  | some ys' =>
   rw[h1]at h
   cases h
   obtain⟨u,r',rfl,p1,p2⟩:=r.inv
   have e:u=.str z:=by simpa only[Rp]using p1
   rw[e,a29 h1 p2]
   rfl
 | .non::_,_,_,h,_=>by cases h
 | .bl _::_,_,_,h,_=>by cases h
 | .int _::_,_,_,h,_=>by cases h
 | .ty _::_,_,_,h,_=>by cases h
 | .cls _::_,_,_,h,_=>by cases h
 | .tup _::_,_,_,h,_=>by cases h
 | .lst _::_,_,_,h,_=>by cases h
 | .scr _::_,_,_,h,_=>by cases h
 | .exc _::_,_,_,h,_=>by cases h
 | .obj _ _ _::_,_,_,h,_=>by cases h
 | .dic _ _::_,_,_,h,_=>by cases h
 | .exv _ _ _::_,_,_,h,_=>by cases h
def a4V(f h:ZF):ZF:=fun e=>bnd (f e) fun d e1=>match d with
 | .str z=>bnd (h e1) fun d2 e2=>match seqL d2 with
  | some ds=>match S5 ds with
   | some ys=>if(ys.map (·.length)).sum+ys.length*z.length≤16777216 then some (.ok (.str (Txt.join z ys)) e2)else none
   | none=>none
  | none=>none
 | _=>none
theorem a8T{t u:TE}{f h:ZF}(hf:m3 K cl E t f)(hh:m3 K cl E u h):m3 K cl E (tBM K "str" (a7o K) t (B0 u M3)) (a4V f h):=by
 intro σ H Q env F R h0
 refine hf σ H _ env F R ((Ct.bnd h0 F9).mono fun x H1 ⟨F1,e1,d,s1,R1,p1,h1⟩=>?_)
 split at h1
 ·rename_i z
  have ex:x=.str z:=by have:=(show Rp K cl F1 (.str z) x from p1);simpa only[Rp]using this
  subst ex
  refine⟨rfl,?_⟩
  refine hh σ H1 _ e1 F1 R1 ((Ct.bnd h1 F9).mono fun x2 H2 ⟨F2,e2,d2,s2,R2,p2,h2⟩=>?_)
  split at h2
  ·rename_i ds hs
   split at h2
   ·rename_i ys hy
    split at h2
    ·rename_i hz
     obtain⟨a,us,rfl,q1,l1⟩:=Rp.seqL p2 hs
     have e:=a29 hy q1
     subst e
     exact⟨z,a,ys,rfl,rfl,l1 H2 R2.sub,hz,h2 _ H2 F2 Frm.refl R2 (by simp only[PZ,Rp])⟩
    ·exact h2.elim
   ·exact h2.elim
  ·exact h2.elim
 ·exact h1.elim
end
@[simp] theorem a6Q(ks:DK)(ds:List D):N6 (.od ks ds)=true:=rfl
@[simp] theorem a8U(ks:DK)(ds:List D):T7 (.od ks ds)=.fz (.dic ks ds):=rfl
@[simp] theorem a8V(ks:DK)(ds:List D):T7 (.hk ks ds)=.fz (.dic ks ds):=rfl
structure SU(K:W.Frag)(cl:Str→Addr)(ps:List Nat)(A:Nat→Addr)(H0 F0 F1:Hp)(σ:St)(H F:Hp)(env:DE):Prop where
 rel:Rel K cl σ H F env
 pn:∀i∈ps,σ[i]? = some (some (.ref (A i)))∧∃ds,env[i]? = some (.hd ds)
 fz:Same F0 F
 gz:Same F1 F
 hid:∀b o,(∀i∈ps,b≠A i)→H0 b=some o→F0 b=none→H b=some o∧F b=none∧¬Ow σ env b
 dom:∀b,H b=none→H0 b=none
section
variable {K:W.Frag}{cl:Str→Addr}{E:XK}{ps:List Nat}{A:Nat→Addr}{H0 F0 F1:Hp}{σ:St}{H F:Hp}{env:DE}{k:Nat}
theorem SU.frm{σ':St}{H' F':Hp}{env':DE}(S:SU K cl ps A H0 F0 F1 σ H F env)(f:Frm σ H F env σ' H' F' env')(R:Rel K cl σ' H' F' env'):SU K cl ps A H0 F0 F1 σ' H' F' env' :=
 ⟨R,fun i m=>by obtain⟨e,ds,h⟩:=S.pn i m;obtain⟨h1,e1⟩:=f.keep i ds h;exact⟨e1.trans e,ds,h1⟩,S.fz.trans f.fz,S.gz.trans f.fz,
  fun b o n h g=>by obtain⟨h1,f1,w1⟩:=S.hid b o n h g;exact f.hid b o h1 f1 w1,fun b h=>S.dom b (f.dom b h)⟩
theorem SU.change{i:Nat}{ds es:List D}{ys:List V}(S:SU K cl ps A H0 F0 F1 σ H F env)(m:i∈ps)(h:env[i]? = some (.hd ds))(r:Rps K cl F es ys):SU K cl ps A H0 F0 F1 σ (upd H (A i) (.lst ys)) F (env.set i (.hd es)):=by
 obtain⟨e,_,_⟩:=S.pn i m
 obtain⟨a',xs,e',hH,hF,_⟩:=S.rel.mu i ds (.inr h)
 rw[e]at e';cases e'
 have hi:i<env.length:=(List.getElem?_eq_some_iff.mp h).1
 have self:(env.set i (.hd es))[i]? = some (.hd es):=List.getElem?_set_self hi
 have oth:∀j,j≠i→(env.set i (.hd es))[j]? = env[j]?:=fun j hj=>List.getElem?_set_ne (Ne.symm hj)
 have mui:∀j,Mu (env.set i (.hd es)) j→Mu env j:=fun j ⟨fs,q⟩=>by
  by_cases z:j=i
  ·subst z;exact⟨ds,.inr h⟩
  ·rw[oth j z]at q;exact⟨fs,q⟩
 have R:=S.rel
 refine⟨⟨fun b o q=>?_,by rw[List.length_set];exact R.len,fun j d q=>?_,fun j fs q=>?_,fun j k b hj hk=>R.inj j k b (mui j hj) (mui k hk),(R.od.updL hH).setE a05⟩,fun j mj=>?_,S.fz,S.gz,fun b o n h0 f0=>?_,fun b q=>?_⟩
 ·have z:b≠A i:=fun z=>by rw[z,hF]at q;cases q
  rw[c8 z];exact R.sub _ _ q
 ·have z:j≠i:=fun z=>by subst z;rw[self]at q;cases q
  rw[oth j z]at q;exact R.fz j d q
 ·by_cases z:j=i
  ·subst z
   rw[self]at q
   rcases q with q | q
   ·cases q
   ·cases q;exact⟨_,ys,e,i0,hF,r⟩
  ·rw[oth j z]at q
   obtain⟨b,zs,e1,h1,f1,r1⟩:=R.mu j fs q
   have nb:b≠A i:=fun y=>z (R.inj j i b ⟨fs,q⟩ ⟨ds,.inr h⟩ e1 (by rw[y];exact e))
   exact⟨b,zs,e1,by rw[c8 nb];exact h1,f1,r1⟩
 ·obtain⟨e1,fs,q⟩:=S.pn j mj
  refine⟨e1,?_⟩
  by_cases z:j=i
  ·subst z;exact⟨es,self⟩
  ·exact⟨fs,by rw[oth j z];exact q⟩
 ·obtain⟨h1,f1,w1⟩:=S.hid b o n h0 f0
  refine⟨by rw[c8 (n i m)];exact h1,f1,fun⟨j,fs,oo,q,e1⟩=>?_⟩
  have y:j≠i:=fun y=>by subst y;rw[self]at q;cases q;exact oo
  rw[oth j y]at q;exact w1 ⟨j,fs,oo,q,e1⟩
 ·by_cases z:b=A i
  ·rw[z,i0]at q;cases q
  ·rw[c8 z]at q;exact S.dom b q
theorem SU.at(S:SU K cl ps A H0 F0 F1 σ H F env):SU K cl ps A H0 F0 F σ H F env:=⟨S.rel,S.pn,S.fz,Same.refl _,S.hid,S.dom⟩
end
def RpU(K:W.Frag)(cl:Str→Addr)(σ:St)(F:Hp):List (Sum Nat D)→List V→Prop
 | [],vs=>vs=[]
 | .inl i::xs,vs=>∃v r,vs=v::r∧σ[i]? = some (some v)∧RpU K cl σ F xs r
 | .inr d::xs,vs=>∃v r,vs=v::r∧Rp K cl F d v∧RpU K cl σ F xs r
section
variable {K:W.Frag}{cl:Str→Addr}{E:XK}{ps:List Nat}{σ:St}{H F:Hp}{env:DE}
theorem RpU.mono{F':Hp}(s:Same F F'):∀{xs:List (Sum Nat D)} {vs:List V},RpU K cl σ F xs vs→RpU K cl σ F' xs vs
 | [],_,h=>h
 | .inl _::_,_,⟨v,r,e,h1,h2⟩=>⟨v,r,e,h1,h2.mono s⟩
 | .inr _::_,_,⟨v,r,e,h1,h2⟩=>⟨v,r,e,Rp.mono s _ _ h1,h2.mono s⟩
theorem RpU.length:∀{xs:List (Sum Nat D)} {vs:List V},RpU K cl σ F xs vs→vs.length=xs.length
 | [],_,h=>by rw[show _=_ from h];rfl
 | .inl _::_,_,⟨v,r,e,_,h2⟩=>by rw[e,List.length_cons,List.length_cons,h2.length]
 | .inr _::_,_,⟨v,r,e,_,h2⟩=>by rw[e,List.length_cons,List.length_cons,h2.length]
end
section
variable {K:W.Frag}{cl:Str→Addr}{E:XK}
def L7(d e:D):Option D:=match d,e with
 | .str z,.int n=>if z.length≤1000∧-1000000000≤n∧n≤10000 then some (.str (Z0 z n))else none
 | _,_=>none
theorem a8W:OpOk K cl a7n L7:=by
 intro x y d e z H F Q s hx hy h q
 unfold L7 at h
 split at h
 ·rename_i u n
  split at h
  ·rename_i hz
   cases h
   have ex:x=.str u:=by
    rcases hx with hx | ⟨_,_,_,_,z,_⟩
    ·simpa only[Rp]using hx
    ·cases z
   have ey:y=.int n:=by
    rcases hy with hy | ⟨_,_,_,_,z,_⟩
    ·simpa only[Rp]using hy
    ·cases z
   exact⟨u,n,ex,ey,hz.1,hz.2.1,hz.2.2,q _ H F (.refl s) (by simp only[Rp])⟩
  ·cases h
 ·cases h
end
def a0O:Sl→Bool
 | .no=>true
 | .fz _=>true
 | _=>false
def okW(r:Nat)(e:DE):Bool:=e.all a0O && (match e[r]? with
 | some .no=>true
 | _=>false)
abbrev WF:=List (List D)→DE→Option (List (List D)×DE)
structure DSt(K:W.Frag)(cl:Str→Addr)(H F:Hp)(B:Addr)(as:List Addr)(dss:List (List D))(H' F':Hp):Prop where
 gr:Gr H F H' F'
 atB:H' B=some (.lst (as.map V.ref))
 unB:F' B=none
 len:dss.length=as.length
 ins:∀(k:Nat) (a:Addr),as[k]? = some a→∃ds zs,dss[k]? = some ds∧H' a=some (.lst zs)∧F' a=none∧Rps K cl F' ds zs
structure Fx(H:Hp)(B:Addr)(as:List Addr):Prop where
 hB:H B=none
 nd:as.Nodup
 nw:∀a∈as,H a=none∧a≠B
section
variable {K:W.Frag}{cl:Str→Addr}{E:XK}{σ:St}{H F H0 F0 H' F' H2 F2:Hp}{env:DE}{B:Addr}{as:List Addr}{dss:List (List D)}{r k:Nat}
theorem DSt.to(s:DSt K cl H0 F0 B as dss H F)(g:Gr H F H2 F2):DSt K cl H0 F0 B as dss H2 F2 :=
 ⟨s.gr.trans g,(g.hid B _ s.atB s.unB).1,(g.hid B _ s.atB s.unB).2,s.len,fun k a h=>by
  obtain⟨ds,zs,h1,h2,h3,h4⟩:=s.ins k a h
  exact⟨ds,zs,h1,(g.hid a _ h2 h3).1,(g.hid a _ h2 h3).2,h4.mono g.fz⟩⟩
theorem DSt.put{j n:Nat}{a:Addr}{ds:List D}{d:D}{v:V}(s:DSt K cl H0 F0 B as dss H F)(fx:Fx H0 B as)(hj:as[j]? = some a)(hd:dss[j]? = some ds)(p:Rp K cl F d v) :
  ∃zs,H a=some (.lst zs)∧F a=none∧ds.length=zs.length∧DSt K cl H0 F0 B as (dss.set j (ds.set n d)) (upd H a (.lst (zs.set n v))) F:=by
 obtain⟨ds',zs,h1,h2,h3,h4⟩:=s.ins j a hj
 rw[hd]at h1;cases h1
 obtain⟨aH,aB⟩:=fx.nw a (List.mem_of_getElem? hj)
 refine⟨zs,h2,h3,h4.length,⟨⟨s.gr.fz,fun b o hb=>?_,fun b o hb fb=>?_⟩,by rw[c8 (Ne.symm aB)];exact s.atB,s.unB,by rw[List.length_set];exact s.len,fun m b hb=>?_⟩⟩
 ·rw[c8 (fun z=>by rw[z,h3]at hb;cases hb)];exact s.gr.sub _ _ hb
 ·rw[c8 (fun z=>by rw[z,aH]at hb;cases hb)];exact s.gr.hid b o hb fb
 ·by_cases z:m=j
  ·subst z
   rw[hj]at hb;cases hb
   exact⟨_,_,List.getElem?_set_self (List.getElem?_eq_some_iff.mp hd).1,i0,h3,h4.set p n⟩
  ·obtain⟨d2,z2,k1,k2,k3,k4⟩:=s.ins m b hb
   have ne:b≠a:=fun e=>z (by
    obtain⟨hm,em⟩:=List.getElem?_eq_some_iff.mp hb
    obtain⟨hj',ej⟩:=List.getElem?_eq_some_iff.mp hj
    exact(List.getElem_inj fx.nd).mp (em.trans (e.trans ej.symm)))
   exact⟨d2,z2,by rw[List.getElem?_set_ne (Ne.symm z)];exact k1,by rw[c8 ne];exact k2,k3,k4⟩
theorem R9(h:okW r env=true)(i:Nat)(s:Sl)(e:env[i]? = some s):a0O s=true:=by
 unfold okW at h
 rw[Bool.and_eq_true,List.all_eq_true]at h
 exact h.1 s (List.mem_of_getElem? e)
theorem a2_(h:okW r env=true):env[r]? = some .no:=by
 unfold okW at h
 rw[Bool.and_eq_true]at h
 have:=h.2
 split at this
 ·rename_i q;exact q
 ·cases this
theorem a0P(h:okW r env=true):NoOw env:=fun i s oo e=>by
 have:=R9 h i s e
 cases s<;>first | exact oo | cases this
theorem a0d(hp:∀(i:Nat) (s:Sl),env[i]? = some s→a0O s=true)(sub:Same F H)(len:σ.length=env.length)(fz:∀(i:Nat) (d:D),env[i]? = some (.fz d)→∃v,σ[i]? = some (some v)∧Rp K cl F d v):Rel K cl σ H F env :=
 ⟨sub,len,fz,fun i ds q=>by rcases q with q | q<;>exact absurd (hp i _ q) (by simp[a0O]),
  fun i j a ⟨ds,q⟩=>by rcases q with q | q<;>exact absurd (hp i _ q) (by simp[a0O]),.none fun j s ks ds q d=>by
  have:=hp j s q
  cases s<;>first | exact d | cases this⟩
def RfW(K:W.Frag)(cl:Str→Addr)(E:XK)(r:Nat)(t:TS)(f:WF):Prop:=∀(N:Ends) (σ:St) (H F H0 F0:Hp) (env:DE) (B:Addr) (as:List Addr) (dss dss':List (List D)) (e':DE),
 Fx H0 B as→okW r env=true→Rel K cl σ H F env→σ[r]? = some (some (.ref B))→DSt K cl H0 F0 B as dss H F→f dss env=some (dss',e') →
 (∀σ' H' F',okW r e'=true→Rel K cl σ' H' F' e'→σ'[r]? = some (some (.ref B))→Same F F'→DSt K cl H0 F0 B as dss' H' F'→N.nx σ' H')→t N σ H
def a4W(r y x:Nat)(d:D)(dss:List (List D))(e:DE):Option (List (List D)×DE):=match e[y]?,e[x]? with
 | some (.fz (.int j)),some (.fz (.int i))=>(match K4 dss.length j with
  | some m=>(match dss[m]? with
   | some ds=>(match K4 ds.length i with
    | some n=>some (dss.set m (ds.set n d),e)
    | none=>none)
   | none=>none)
  | none=>none)
 | _,_=>none
def a3a(r y x:Nat)(f:ZF):WF:=fun dss e=>match f e with
 | some (.ok d e1)=>if okW r e1=true then a4W r y x d dss e1 else none
 | _=>none
theorem a8X{y x:Nat}{t:TE}{f:ZF}(hf:m3 K cl E t f):RfW K cl E r (T1 t (a52 (tOp (a4p K) (D7 r) (D7 y)) (D7 x) a4r)) (a3a r y x f):=by
 intro N σ H F H0 F0 env B as dss dss' e' fx ok R hr s h q
 unfold a3a at h
 split at h
 ·rename_i d e1 hfe
  split at h
  ·rename_i ok1
   refine hf σ H _ env F R ?_
   rw[hfe]
   intro v H1 F1 fr R1 p1
   have g1:Gr H F H1 F1:=fr.gr (a0P ok) R1.sub
   have s1:=s.to g1
   unfold a4W at h
   split at h
   ·rename_i j i ey ex
    split at h
    ·rename_i m hm
     split at h
     ·rename_i ds hd
      split at h
      ·rename_i n hn
       cases h
       obtain⟨vy,ey',py⟩:=R1.fz y _ ey
       obtain⟨vx,ex',px⟩:=R1.fz x _ ex
       have hvy:vy=.int j:=by simpa only[Rp]using py
       have hvx:vx=.int i:=by simpa only[Rp]using px
       subst hvy hvx
       have hml:m<as.length:=by have:=(List.getElem?_eq_some_iff.mp hd).1;rw[s1.len]at this;exact this
       have ha:as[m]? = some as[m]:=List.getElem?_eq_getElem hml
       obtain⟨zs,k1,k2,k3,k4⟩:=s1.put (n:=n) fx ha hd p1
       have hat:atI (as.map V.ref) j=some (.ref as[m]):=by
        unfold atI
        rw[List.length_map,← s1.len,hm]
        show(as.map V.ref)[m]? = _
        rw[List.getElem?_map,ha]
        rfl
       refine⟨_,hr,_,ey',B,_,j,_,rfl,rfl,.of s1.atB,hat,_,ex',as[m],zs,i,n,rfl,rfl,k1,by rw[← k3];exact hn,?_⟩
       refine q σ _ F1 ok1 (a0d (R9 ok1) (fun b o hb=>?_) R1.len R1.fz) hr fr.fz k4
       rw[c8 (fun z=>by rw[z,k2]at hb;cases hb)];exact R1.sub _ _ hb
      ·cases h
     ·cases h
    ·cases h
   ·cases h
  ·cases h
 ·cases h
def a1h(r:Nat)(g:TG):Prop:=∀(x:V) (σ:St) (H:Hp) (Q:St→Hp→Prop),g x σ H (fun σ2 H2=>σ2[r]? = σ[r]?→Q σ2 H2)→g x σ H Q
theorem a1i{j:Nat}(h:j≠r:=by decide):a1h r (K3 j):=fun x σ H Q q=>q (List.getElem?_set_ne h)
theorem a5D{i j:Nat}(h:i≠r:=by decide)(h':j≠r:=by decide):a1h r (a4g K 2 (a2k (K3 i) (a2k (K3 j) a51))):=fun x σ H Q q=>by
 obtain⟨a,xs,e,hT,hl,v,r1,e1,w,r2,e2,e3,q⟩:=q
 exact⟨a,xs,e,hT,hl,v,r1,e1,w,r2,e2,e3,q (by rw[List.getElem?_set_ne h',List.getElem?_set_ne h])⟩
def E3(r:Nat)(b:GF)(body:WF):List D→WF
 | [],dss,e=>some (dss,e)
 | d::ds,dss,e=>match b d e with
  | none=>none
  | some e1=>if okW r e1=true then(match body dss e1 with
   | none=>none
   | some (dss1,e2)=>E3 r b body ds dss1 e2)else none
theorem a5E{g:TG}{tb:TS}{b:GF}{body:WF}{d:D}{x:V}{ds:List D}{dss':List (List D)}{e':DE}{N:Ends}{Pv:St→Hp→Prop}(hg:E2 K cl k g b)(kp:a1h r g)(hb:RfW K cl E r tb body)(fx:Fx H0 B as)(R:Rel K cl σ H F env)(hr:σ[r]? = some (some (.ref B)))(s:DSt K cl H0 F0 B as dss H F)(p:Rp K cl F d x)
  (h:E3 r b body (d::ds) dss env=some (dss',e'))
  (hP:∀σ' H' F' e1 dss1,okW r e1=true→Rel K cl σ' H' F' e1→σ'[r]? = some (some (.ref B))→Same F F'→DSt K cl H0 F0 B as dss1 H' F'→E3 r b body ds dss1 e1=some (dss',e')→Pv σ' H') :
  g x σ H fun σ2 H2=>tb { N with nx:=Pv,ct:=Pv,bk:=N.nx } σ2 H2:=by
 unfold E3 at h
 split at h
 ·cases h
 ·rename_i e1 hb1
  split at h
  ·rename_i ok1
   split at h
   ·cases h
   ·rename_i dss1 e2 hbd
    refine kp x σ H _ (hg x σ H _ d env e1 F R p hb1 fun σ2 _ _ f2 R2 h2=>?_)
    refine hb _ σ2 H F H0 F0 e1 B as dss dss1 e2 fx ok1 R2 (h2.trans hr) s hbd fun σ' H' F' ok' R' hr' sF s'=>?_
    exact hP σ' H' F' e2 dss1 ok' R' hr' sF s' h
  ·cases h
def S6(r:Nat)(f:AF)(b:GF)(body:WF):WF:=fun dss e=>match f e with
 | some (.ok ds e1)=>if okW r e1=true then(match a1C ds with
  | some (lo,n)=>E3 r b body (A0 lo n) dss e1
  | none=>none)else none
 | _=>none
theorem a3b{t:TA}{g:TG}{tb:TS}{f:AF}{b:GF}{body:WF}(hf:M0 K cl E t f)(hg:E2 K cl k g b)(kp:a1h r g)(hb:RfW K cl E r tb body):RfW K cl E r (a0w (a7i t) g tb) (S6 r f b body):=by
 intro N σ H F H0 F0 env B as dss dss' e' fx ok R hr s h q
 unfold S6 at h
 split at h
 ·rename_i ds e1 hfe
  split at h
  ·rename_i ok1
   split at h
   ·rename_i lo n hs
    refine hf σ H _ env F R ?_
    rw[hfe]
    intro vs H1 F1 fr R1 p1
    have g1:Gr H F H1 F1:=fr.gr (a0P ok) R1.sub
    obtain⟨i,j,e,c,rfl,rfl⟩:=a7Y hs p1
    refine⟨_,j,e,c,?_⟩
    refine a1R (fun i σ' H'=>∃F' e2 dss2,okW r e2=true∧Rel K cl σ' H' F' e2∧σ'[r]? = some (some (.ref B))∧Same F1 F'∧DSt K cl H0 F0 B as dss2 H' F'∧E3 r b body ((A0 lo _).drop i) dss2 e2=some (dss',e')) ⟨F1,e1,dss,ok1,R1,hr,Same.refl _,s.to g1,h⟩ (fun i σ' H' hx ⟨F',e2,dss2,ok2,R2,hr2,sF,s2,h2⟩=>?_) (fun σ' H' ⟨F',e2,dss2,ok2,R2,hr2,sF,s2,h2⟩=>?_)
    ·rw[Z8 hx]at h2
     exact a5E hg kp hb fx R2 hr2 s2 (by simp only[Rp]) h2 fun σ3 H3 F3 e3 dss3 ok3 R3 hr3 sF3 s3 h3=>⟨F3,e3,dss3,ok3,R3,hr3,sF.trans sF3,s3,h3⟩
    ·rw[List.drop_eq_nil_of_le (by rw[Q8];exact Nat.le_refl _)]at h2
     cases h2
     exact q σ' H' F' ok2 R2 hr2 (g1.fz.trans sF) s2
   ·cases h
  ·cases h
 ·cases h
def a1j(r:Nat)(f:ZF)(b:GF)(body:WF):WF:=fun dss e=>match f e with
 | some (.ok d e1)=>if okW r e1=true then(match seqL d with
  | some ds=>E3 r b body (G6 0 ds) dss e1
  | none=>none)else none
 | _=>none
theorem a6R{t:TE}{g:TG}{tb:TS}{f:ZF}{b:GF}{body:WF}(hf:m3 K cl E t f)(hg:E2 K cl k g b)(kp:a1h r g)(hb:RfW K cl E r tb body):RfW K cl E r (a0w (a4y K (B0 t M3)) g tb) (a1j r f b body):=by
 intro N σ H F H0 F0 env B as dss dss' e' fx ok R hr s h q
 unfold a1j at h
 split at h
 ·rename_i d e1 hfe
  split at h
  ·rename_i ok1
   split at h
   ·rename_i ds hs
    refine hf σ H _ env F R ?_
    rw[hfe]
    intro v H1 F1 fr R1 p1
    have g1:Gr H F H1 F1:=fr.gr (a0P ok) R1.sub
    obtain⟨a,xs,rfl,rp,hl⟩:=Rp.seqL p1 hs
    refine⟨a,rfl,⟨xs,hl H1 R1.sub⟩,?_⟩
    refine a2J (xs:=xs) (fun i σ' H'=>∃F' e2 dss2,okW r e2=true∧Rel K cl σ' H' F' e2∧σ'[r]? = some (some (.ref B))∧Same F1 F'∧DSt K cl H0 F0 B as dss2 H' F'∧E3 r b body ((G6 0 ds).drop i) dss2 e2=some (dss',e')) ⟨F1,e1,dss,ok1,R1,hr,Same.refl _,s.to g1,h⟩ (fun i σ' H' _ ⟨F',e2,dss2,ok2,R2,hr2,sF,s2,h2⟩=>hl H' (sF.trans R2.sub)) (fun i x σ' H' p hx ⟨F',e2,dss2,ok2,R2,hr2,sF,s2,h2⟩ hp=>?_) (fun σ' H' ⟨F',e2,dss2,ok2,R2,hr2,sF,s2,h2⟩=>?_)
    ·obtain⟨d,hd,pd⟩:=rp.get' hx
     rw[J8 (a1D hd),Nat.zero_add]at h2
     have gr:Gr H' F' (upd H' p (.tup [.int i,x])) (upd F' p (.tup [.int i,x])):=.new R2.sub hp
     refine a5E hg kp hb fx (R2.gr gr) hr2 (s2.to gr) ?_ h2 fun σ3 H3 F3 e3 dss3 ok3 R3 hr3 sF3 s3 h3=>⟨F3,e3,dss3,ok3,R3,hr3,(sF.trans gr.fz).trans sF3,s3,h3⟩
     simp only[Rp]
     exact⟨p,_,rfl,i0,.cons (by simp only[Rp]) (.one (Rp.mono (sF.trans gr.fz) _ _ pd))⟩
    ·rw[← rp.length,List.drop_eq_nil_of_le (by rw[a1E];exact Nat.le_refl _)]at h2
     cases h2
     exact q σ' H' F' ok2 R2 hr2 (g1.fz.trans sF) s2
   ·cases h
  ·cases h
 ·cases h
def N7(b:GF)(el:NF)(ec:DE):List D→List (List D)→Option (List (List D))
 | [],acc=>some acc
 | d::ds,acc=>match b d ec with
  | none=>none
  | some e1=>match el e1 with
   | some (.ok y _)=>if acc.length<sizeLine then N7 b el ec ds (acc++[y])else none
   | _=>none
theorem b0l{b:GF}{el:NF}{g:TG}{te:TE}{js:List Nat}{lo:Int}{n:Nat}{Fin:Hp→Prop}{dss':List (List D)}(nd:js.Nodup)(hg:E2 K cl k g b)(he:X8 K cl E te el)(ok:okW r env=true)(R:Rel K cl σ H F env)(hB:H B=none)
  (h:N7 b el (l5 k js env) (A0 lo n) []=some dss') (hq:∀as H' F',Fx H B as→Rel K cl σ H' F' env→DSt K cl H F B as dss' H' F'→Fin H') :
  K5 (X4 lo n) g a0h te k (l3 k js σ) B Fin H:=by
 refine a4x (fun i ys H'=>∃as F' acc,ys=as.map V.ref∧Fx H B as∧Rel K cl σ H' F' env∧DSt K cl H F B as acc H' F'∧N7 b el (l5 k js env) ((A0 lo n).drop i) acc=some dss') ?h0 ?hs ?hd
 case h0 =>
  have FB:F B=none:=R.sub.free hB
  have sub:Same F (upd H B (.lst [])):=fun a o ha=>by rw[c8 (fun z=>by rw[z,FB]at ha;cases ha)];exact R.sub _ _ ha
  refine⟨[],F,[],rfl,⟨hB,List.nodup_nil,fun a m=>absurd m List.not_mem_nil⟩,a0d (R9 ok) sub R.len R.fz,⟨⟨Same.refl _,sub,fun a o ha fa=>⟨by rw[c8 (fun z=>by rw[z,hB]at ha;cases ha)];exact ha,fa⟩⟩,i0,FB,rfl,fun k a ha=>by simp at ha⟩,h⟩
 case hs =>
  rintro i ys H' hi ⟨as,F',acc,rfl,fx,R',s,h'⟩
  rw[Z8 hi]at h'
  unfold N7 at h'
  have Rc:Rel K cl (l3 k js σ) H' F' (l5 k js env):=R'.comp nd
  have n1:NoOw (l5 k js env):=a17
  split at h'
  ·cases h'
  ·rename_i e1 hb
   refine hg _ _ H' _ _ _ e1 F' Rc (by simp only[Rp]) hb fun σ2 d2 l2 f2 R2=>⟨⟨d2,l2⟩,?_⟩
   unfold a0h
   dsimp only
   rw[if_pos rfl]
   split at h'
   ·rename_i y e3 hel
    refine he σ2 H' _ e1 F' R2 ?_
    rw[hel]
    rintro v H4 F4 f4 R4 ⟨p,xs,rfl,hp,hp4,fp4,_,rxs⟩
    split at h'
    ·rename_i hlen
     have g4:Gr H' F' H4 F4:=(f2.trans f4).gr n1 R4.sub
     have s4:=s.to g4
     have Hp:H p=none:=by
      cases z:H p with
      | none=>rfl
      | some o =>
       cases zf:F p with
       | none=>rw[(s.gr.hid p o z zf).1]at hp;cases hp
       | some u=>rw[s.gr.sub _ _ (s.gr.fz _ _ zf)]at hp;cases hp
     have pB:p≠B:=fun z=>by rw[z,s.atB]at hp;cases hp
     have pas:p ∉ as:=fun m=>by
      obtain⟨kk,hk⟩:=List.getElem?_of_mem m
      obtain⟨_,_,_,h2,_⟩:=s.ins kk p hk
      rw[h2]at hp;cases hp
     refine⟨s4.atB,by rw[List.length_map,← s.len];exact hlen,as++[p],F4,acc++[y],by rw[List.map_append];rfl,⟨hB,List.nodup_append.mpr ⟨fx.nd,by simp,fun a ha c hc=>by rw[List.mem_singleton.mp hc];exact fun z=>pas (z▸ha)⟩,fun a m=>?_⟩,?_,⟨⟨s4.gr.fz,fun a o ha=>?_,fun a o ha fa=>?_⟩,?_,s4.unB,by rw[List.length_append,List.length_append,s4.len];rfl,fun m a ha=>?_⟩,h'⟩
     ·rcases List.mem_append.mp m with m | m
      ·exact fx.nw a m
      ·rw[List.mem_singleton.mp m];exact⟨Hp,pB⟩
     ·refine a0d (R9 ok) (fun a o ha=>?_) R'.len (fun i d q=>?_)
      ·rw[c8 (fun z=>by rw[z,s4.unB]at ha;cases ha)];exact R4.sub _ _ ha
      ·obtain⟨v,e,pv⟩:=R'.fz i d q
       exact⟨v,e,Rp.mono g4.fz _ _ pv⟩
     ·rw[c8 (fun z=>by rw[z,s4.unB]at ha;cases ha)];exact R4.sub _ _ ha
     ·rw[c8 (fun z=>by rw[z,hB]at ha;cases ha)];exact s4.gr.hid a o ha fa
     ·rw[i0,List.map_append];rfl
     ·by_cases z:m<as.length
      ·rw[List.getElem?_append_left z]at ha
       obtain⟨ds,zs,k1,k2,k3,k4⟩:=s4.ins m a ha
       refine⟨ds,zs,by rw[List.getElem?_append_left (by rw[s4.len];exact z)];exact k1,?_,k3,k4⟩
       rw[c8 (fx.nw a (List.mem_of_getElem? ha)).2];exact k2
      ·have hm:m=as.length:=by
        have:=(List.getElem?_eq_some_iff.mp ha).1
        rw[List.length_append,List.length_singleton]at this
        omega
       subst hm
       rw[List.getElem?_append_right (Nat.le_refl _),Nat.sub_self]at ha
       cases ha
       refine⟨y,xs,by rw[List.getElem?_append_right (by rw[s4.len];exact Nat.le_refl _),s4.len,Nat.sub_self];rfl,?_,fp4,rxs⟩
       rw[c8 pB];exact hp4
    ·cases h'
   ·cases h'
 case hd =>
  rintro ys H' ⟨as,F',acc,rfl,fx,R',s,h'⟩
  rw[List.drop_eq_nil_of_le (by rw[Q8];exact Nat.le_refl _)]at h'
  cases h'
  exact hq as H' F' fx R' s
def X3(r k:Nat)(js:List Nat)(fa:AF)(b:GF)(el:NF)(lp:WF)(fr:SF):SF:=fun e=>match fa e with
 | some (.ok ds e1)=>if okW r e1=true then(match Z9 ds with
  | some (lo,m)=>(match N7 b el (l5 k js e1) (A0 lo m) []with
   | some dss=>(match lp dss e1 with
    | some (dss',e2)=>if okW r e2=true then fr (e2.set r (.fz (.lst (dss'.map .lst))))else none
    | none=>none)
   | none=>none)
  | none=>none)else none
 | _=>none
theorem a8Y{js:List Nat}{t:TA}{g:TG}{te:TE}{tl tr:TS}{fa:AF}{b:GF}{el:NF}{lp:WF}{fr:SF}(nd:js.Nodup)(hf:M0 K cl E t fa)(hg:E2 K cl k g b)(he:X8 K cl E te el)(hl:RfW K cl E r tl lp)(hr:RfS K cl E tr fr) :
  RfS K cl E (a1r (T1 (a02 (a2l t) g a0h te k js) (K3 r)) (a1r tl tr)) (X3 r k js fa b el lp fr):=by
 intro N σ H env F R h
 unfold X3 at h
 split at h
 ·rename_i ds e1 hfe
  split at h
  ·rename_i ok1
   split at h
   ·rename_i lo m hs
    split at h
    ·rename_i dss hc
     split at h
     ·rename_i dss' e2 hlp
      split at h
      ·rename_i ok2
       refine hf σ H _ env F R ?_
       rw[hfe]
       intro vs H1 F1 fr1 R1 p1
       obtain⟨j,e,c1,c2,rfl,rfl⟩:=a3U hs p1
       refine⟨j,e,c1,c2,fun B hB=>b0l nd hg he ok1 R1 hB hc fun as H' F' fx R' s=>?_⟩
       have hrl:r<σ.length:=by
        have:=(List.getElem?_eq_some_iff.mp (a2_ ok1)).1
        rw[R1.len];exact this
       have Rr:Rel K cl (σ.set r (some (.ref B))) H' F' e1:=by
        refine a0d (R9 ok1) R'.sub (by rw[List.length_set];exact R'.len) fun i d q=>?_
        obtain⟨v,ev,pv⟩:=R'.fz i d q
        have:r≠i:=fun z=>by rw[← z,a2_ ok1]at q;cases q
        exact⟨v,by rw[List.getElem?_set_ne this];exact ev,pv⟩
       refine hl _ (σ.set r (some (.ref B))) H' F' H1 F1 e1 B as dss dss' e2 fx ok1 Rr (List.getElem?_set_self hrl) s hlp fun σ2 H2 F2 _ R2 hr2 sF s2=>?_
       have nas:∀c o,F2 c=some o→c≠B∧c ∉ as:=fun c o hc=>by
        refine⟨fun z=>(by rw[z,s2.unB]at hc;cases hc),fun m=>?_⟩
        obtain⟨kk,hk⟩:=List.getElem?_of_mem m
        obtain⟨_,_,_,_,h3,_⟩:=s2.ins kk c hk
        rw[h3]at hc;cases hc
       let F3:Hp:=fun c=>if c=B∨c∈as then H2 c else F2 c
       have F3in:∀c,(c=B∨c∈as)→F3 c=H2 c:=fun c z=>by show(if _ then _ else _)=_;rw[if_pos z]
       have F3out:∀c,¬(c=B∨c∈as)→F3 c=F2 c:=fun c z=>by show(if _ then _ else _)=_;rw[if_neg z]
       have s23:Same F2 F3:=fun c o hc=>by
        rw[F3out c (fun z=>z.elim (nas c o hc).1 (nas c o hc).2)];exact hc
       have sub3:Same F3 H2:=fun c o hc=>by
        by_cases z:c=B∨c∈as
        ·rw[F3in c z]at hc;exact hc
        ·rw[F3out c z]at hc;exact R2.sub _ _ hc
       have rl:Rp K cl F3 (.lst (dss'.map .lst)) (.ref B):=by
        simp only[Rp]
        refine⟨B,as.map V.ref,rfl,by rw[F3in B (.inl rfl)];exact s2.atB,a2b s2.len fun kk ds a h1 h2=>?_⟩
        obtain⟨d2,z2,k1,k2,k3,k4⟩:=s2.ins kk a h2
        rw[h1]at k1;cases k1
        simp only[Rp]
        exact⟨a,z2,rfl,by rw[F3in a (.inr (List.mem_of_getElem? h2))];exact k2,k4.mono s23⟩
       have hr2l:r<e2.length:=(List.getElem?_eq_some_iff.mp (a2_ ok2)).1
       have pl3:∀(i:Nat) (s:Sl),(e2.set r (.fz (.lst (dss'.map .lst))))[i]? = some s→a0O s=true:=fun i s q=>by
        by_cases z:i=r
        ·subst z;rw[List.getElem?_set_self hr2l]at q;cases q;rfl
        ·rw[List.getElem?_set_ne (Ne.symm z)]at q;exact R9 ok2 i s q
       have R3:Rel K cl σ2 H2 F3 (e2.set r (.fz (.lst (dss'.map .lst)))):=by
        refine a0d pl3 sub3 (by rw[List.length_set];exact R2.len) fun i d q=>?_
        by_cases z:i=r
        ·subst z;rw[List.getElem?_set_self hr2l]at q;cases q;exact⟨_,hr2,rl⟩
        ·rw[List.getElem?_set_ne (Ne.symm z)]at q
         obtain⟨v,ev,pv⟩:=R2.fz i d q
         exact⟨v,ev,Rp.mono s23 _ _ pv⟩
       have f3:Frm σ H1 F1 e1 σ2 H2 F3 (e2.set r (.fz (.lst (dss'.map .lst)))):=by
        refine⟨s2.gr.fz.trans s23,fun a o ha fa _=>?_,fun i ds q=>?_,s2.gr.dom⟩
        ·obtain⟨k1,k2⟩:=s2.gr.hid a o ha fa
         refine⟨k1,?_,fun⟨i,s,oo,q,_⟩=>?_⟩
         ·have nz:¬(a=B∨a∈as):=fun z=>by
           rcases z with z | z
           ·rw[z,hB]at ha;cases ha
           ·rw[(fx.nw a z).1]at ha;cases ha
          rw[F3out a nz]
          exact k2
         ·have:=pl3 i s q
          cases s<;>first | exact oo | cases this
        ·exact absurd (R9 ok1 i _ q) (by simp[a0O])
       exact hr N σ2 H2 _ F3 R3 (h.from (fr1.trans f3))
      ·exact h.elim
     ·exact h.elim
    ·exact h.elim
   ·exact h.elim
  ·exact h.elim
 ·exact h.elim
end
theorem a6S{K:W.Frag}{a:Addr}{xs:List V}{g:TG}{tf:TT}{te:TE}{k:Nat}{σ0:St}{D:Addr}{Fin:Hp→Prop}{H1:Hp}(Pv:Nat→List V→Hp→Prop)(h0:Pv 0 [] (upd H1 D (.lst [])))(hl:∀i ys H,i≤xs.length→Pv i ys H→SqL K H a xs)
  (hs:∀i x ys H,xs.reverse[i]? = some x→Pv i ys H→g x σ0 H fun σ2 H2=>(σ2.drop k=σ0.drop k∧σ2.length=σ0.length)∧tf σ2 H2 fun b H3 =>
   if b=true then te σ2 H3 fun y H4=>H4 D=some (.lst ys)∧ys.length<sizeLine∧Pv (i+1) (ys++[y]) (upd H4 D (.lst (ys++[y])))else Pv (i+1) ys H3)
  (hd:∀ys H,Pv xs.length ys H→Fin H):K5 (Itv K a xs.length) g tf te k σ0 D Fin H1:=by
 refine⟨fun i m ys H=>m=xs.length-i∧i≤xs.length∧Pv i ys H,⟨xs.length,by simp,Nat.zero_le _,h0⟩,?_⟩
 rintro i m ys H ⟨rfl,hi,p⟩
 have q:=hl i ys H hi p
 by_cases hlt:i<xs.length
 ·refine .inr ⟨⟨hlt,xs,q,rfl⟩,Pv (i+1),fun ys' H' z=>⟨xs.length-(i+1),by omega,rfl,hlt,z⟩,fun x H' y=>?_⟩
  obtain⟨e,y⟩:=y
  subst e
  refine hs i x ys _ ?_ p
  rw[List.getElem?_reverse hlt]
  exact y xs q
 ·have e:i=xs.length:=by omega
  subst e
  exact .inl ⟨⟨Nat.le_refl _,xs,q,rfl⟩,hd ys H p⟩
section
variable {K:W.Frag}{cl:Str→Addr}{E:XK}{σ:St}{H F:Hp}{env:DE}{k:Nat}
theorem a5F{b:GF}{c:BF}{el:ZF}{g:TG}{tf:TT}{te:TE}{js:List Nat}{ds:List D}{xs:List V}{a B:Addr}{Q:VK}(nd:js.Nodup)(hg:E2 K cl k g b)(hc:K7 K cl E tf c)(he:m3 K cl E te el)(R:Rel K cl σ H F env)(hB:H B=none)
  (hl:∀H' F',Same F F'→Same F' H'→(∀a o,H a=some o→F a=none→H' a=some o∧F' a=none)→SqL K H' a xs) (r:Rps K cl F ds xs) (h:Ct K cl E (PN K cl) (t5 b c el (l5 k js env) env ds.reverse []) σ H F env Q) :
  K5 (Itv K a xs.length) g tf te k (l3 k js σ) B (fun H'=>Q (.ref B) H') H:=by
 have rr:Rps K cl F ds.reverse xs.reverse:=a35 r
 refine a6S (xs:=xs) (fun i ys H'=>∃F' acc,Grow K cl σ H F env B acc ys H' F'∧Ct K cl E (PN K cl) (t5 b c el (l5 k js env) env (ds.reverse.drop i) acc) σ H F env Q) ⟨F,[],.start R hB,h⟩ (fun i ys H' _ ⟨F',acc,gw,_⟩=>hl H' F' gw.frm.fz gw.rel.sub gw.stay) (fun i x ys H' hx ⟨F',acc,gw,h'⟩=>?_) (fun ys H' ⟨F',acc,gw,h'⟩=>?_)
 ·obtain⟨d,hd,p⟩:=rr.get' hx
  rw[J8 hd]at h'
  exact a18 (Pv:=fun ys' H2=>∃F' acc,Grow K cl σ H F env B acc ys' H2 F'∧Ct K cl E (PN K cl) (t5 b c el (l5 k js env) env (ds.reverse.drop (i+1)) acc) σ H F env Q) nd hg hc he gw (Rp.mono gw.frm.fz _ _ p) h' fun acc' ys' H2 F2 gw2 h2=>⟨F2,acc',gw2,h2⟩
 ·rw[← r.length,← List.length_reverse,List.drop_length]at h'
  exact a2V gw h'
def a3c(k:Nat)(js:List Nat)(f:ZF)(b:GF)(c:BF)(el:ZF):NF:=fun e=>bnd (f e) fun d e1=>match seqL d with
 | none=>none
 | some ds=>t5 b c el (l5 k js e1) e1 ds.reverse []
theorem a6T{t:TE}{g:TG}{tf:TT}{te:TE}{js:List Nat}{f:ZF}{b:GF}{c:BF}{el:ZF}(nd:js.Nodup)(hf:m3 K cl E t f)(hg:E2 K cl k g b)(hc:K7 K cl E tf c)(he:m3 K cl E te el):X8 K cl E (a02 (a9R K (B0 t M3)) g tf te k js) (a3c k js f b c el):=by
 intro σ H Q env F R h
 refine hf σ H _ env F R ((Ct.bnd h a0F).mono fun x H1 ⟨F1,e1,d,s1,R1,p1,h1⟩=>?_)
 split at h1
 ·exact h1.elim
 ·rename_i ds hs
  obtain⟨a,xs,rfl,r,hl⟩:=Rp.seqL p1 hs
  exact⟨a,xs,rfl,hl H1 R1.sub,fun B hB=>a5F nd hg hc he R1 hB (fun H' F' g1 g2 _=>hl H' (g1.trans g2)) r h1⟩
theorem a6U{r:Nat}{js:List Nat}{t:TA}{g:TG}{te:TE}{tl tr:TS}{fa:AF}{b:GF}{el:NF}{lp:WF}{fr:SF}(nd:js.Nodup)(hf:M0 K cl E t fa)(hg:E2 K cl k g b)(he:X8 K cl E te el)(hl:RfW K cl E r tl lp)(hr:RfS K cl E tr fr) :
  RfS K cl E (a1r (a2I r (a2l t) g a0h te k js) (a1r tl tr)) (X3 r k js fa b el lp fr):=fun N σ H env F R q=>a8Y nd hf hg he hl hr N σ H env F R q
end
end L2
namespace Law
open PySem L2 PyProof.Rows
def O9(i:Nat):Stmt:=PySem.Challenge.pw_cratefit_k65_drawn_sign_by_sign.main.body.getD i (.Pass ⟨0,0,0,0⟩)
abbrev E7:Stmt:=O9 6
abbrev J9:Stmt:=O9 8
abbrev A7:Stmt:=O9 9
abbrev P8:Stmt:=O9 10
abbrev K0:Stmt:=O9 11
abbrev P9:Stmt:=O9 12
abbrev w9:Stmt:=O9 17
abbrev D1:Stmt:=O9 18
abbrev D2:Stmt:=O9 20
abbrev z7:Stmt:=O9 21
abbrev E8:Stmt:=O9 22
abbrev K1:Stmt:=O9 23
abbrev E9:Stmt:=O9 24
abbrev N0:Stmt:=O9 25
abbrev N1:Stmt:=O9 26
abbrev N8:Stmt:=O9 27
variable {P:Program}{w:World}{K:PySem.W.Frag}{mg:Str→Option Value}{base:Heap}{c:Str→Addr}
structure Txt(K:PySem.W.Frag)(mg:Str→Option Value)(c:Str→Addr):Prop where
 z_enumerate:mg "enumerate" = none
 z_isinstance:mg "isinstance" = none
 z_len:mg "len" = none
 z_list:mg "list" = none
 z_range:mg "range" = none
 z_reversed:mg "reversed" = none
 z_str:mg "str" = none
 z_zip:mg "zip" = none
 m_BadTurn:mg "BadTurn" = some (.ref (c "BadTurn"))
 m_NoSheet:mg "NoSheet" = some (.ref (c "NoSheet"))
 x_BadTurn:PySem.W.excIn K (c "BadTurn") a0B "ValueError.__new__" = true
 x_NoSheet:PySem.W.excIn K (c "NoSheet") a0B "ValueError.__new__" = true
 v_MOST_SIDE:∃u,mg "MOST_SIDE" = some u∧RelV (.int 60) u
 v_NOTHING:∃u,mg "NOTHING" = some u∧RelV (.str ".") u
 v_SIGNS:∃u,mg "SIGNS" = some u∧RelV (.str "0123456789abcdefghijklmnopqrstuvwxyzABCDEFGHIJKLMNOPQRSTUVWXYZ") u
def a1k:SF:=(c6 (O7 (eV 0) (m4 [(b8 2),(b8 3),(b8 4)])) (c6 (u3 (x8 (bZ (eV 1))) (n4 (eT (aC (eV 2) (aC (eV 3) aN)))) v3) (c6 (u3 (x8 (bZ (eV 4))) (Z5 "BadTurn" (aC (eC (.str "a ware that may not be turned has no sides turned")) aN)) v3) (n4 (eT (aC (eV 3) (aC (eV 2) aN)))))))
def L8:List D→Option R1:=fD 5 2 a1k
theorem N9:FnScope ["ware","lie","w","h","turns"] ["ware","lie"] (c5 E7):=⟨rfl,rfl,rfl,by decide +kernel,rfl,by decide +kernel,by decide +kernel⟩
seal PSs PS PE PA PT
theorem a3v{f:Addr}{fd:FuncData}(F:Fun K "sides_of" "sides_of" E7 f fd)(T:Txt K mg c)  : FnOk P w K mg base (u9 P w) 3 f fd ["ware","lie"] (j3 K c L8) :=
 F.okD (k:=2) N9 fun cdv A outer s H E hr=>⟨_,(c4 (G3 (pv 0) (y8 (K:=K) (n:=3) rfl (h7 (g9 (i:=2) N9.nd rfl (Or.inl rfl)) (h7 (g9 (i:=3) N9.nd rfl (Or.inl rfl)) (h7 (g9 (i:=4) N9.nd rfl (Or.inl rfl)) y4))))) (c4 (w6 (D8 (B4 (pv 1))) (g5 (k8 (w4 (a7 (pv 2) (a7 (pv 3) b9))))) n8) (c4 (w6 (D8 (B4 (pv 4))) (g5 (a2G D0 T.x_BadTurn rfl T.m_BadTurn (a7 G2 b9))) n8) (g5 (k8 (w4 (a7 (pv 3) (a7 (pv 2) b9)))))))),(c9 (Q7 a8 (z0 (h8 (f9 (k:=5) (by decide)) (h8 (f9 (k:=5) (by decide)) (h8 (f9 (k:=5) (by decide)) y9))) rfl)) (c9 (t7 (B6 (D5 a8)) (n9 (E1 (b6 a8 (b6 a8 g6)))) x9) (c9 (t7 (B6 (D5 a8)) (a2T (b6 c7 g6)) x9) (n9 (E1 (b6 a8 (b6 a8 g6)))))))⟩
def a2d:SF:=(c6 (O7 (eV 1) (m4 [(b8 2),(b8 3),(b8 4)])) (c6 (O7 (E6 L8 (aC (eV 0) (aC (eV 4) aN))) (m4 [(b8 5),(b8 6)])) (n4 (eT (aC (eV 2) (aC (eV 3) (aC (eB v5 (eV 2) (eV 5)) (aC (eB v5 (eV 3) (eV 6)) aN))))))))
def u7:List D→Option R1:=fD 7 2 a2d
theorem F5:FnScope ["ware","place","x","y","lie","w","h"] ["ware","place"] (c5 J9):=⟨rfl,rfl,rfl,by decide +kernel,rfl,by decide +kernel,by decide +kernel⟩
theorem a4X{f:Addr}{fd:FuncData}(F:Fun K "spot_of" "spot_of" J9 f fd)(T:Txt K mg c)(G_sides_of:Own P w K mg base 3 "sides_of" ["ware","lie"] (j3 K c L8)):FnOk P w K mg base (u9 P w) 5 f fd ["ware","place"] (j3 K c u7) :=
 F.okD (k:=4) F5 fun cdv A outer s H E hr=>⟨_,(c4 (G3 (pv 1) (y8 (K:=K) (n:=3) rfl (h7 (g9 (i:=2) F5.nd rfl (Or.inl rfl)) (h7 (g9 (i:=3) F5.nd rfl (Or.inl rfl)) (h7 (g9 (i:=4) F5.nd rfl (Or.inl rfl)) y4))))) (c4 (G3 (l9 G_sides_of hr (by decide) (XAcc.passes D0) (a7 (pv 0) (a7 (pv 4) b9))) (y8 (K:=K) (n:=2) rfl (h7 (g9 (i:=5) F5.nd rfl (Or.inl rfl)) (h7 (g9 (i:=6) F5.nd rfl (Or.inl rfl)) y4)))) (g5 (k8 (w4 (a7 (pv 2) (a7 (pv 3) (a7 (d9 A4 (pv 2) (pv 5)) (a7 (d9 A4 (pv 3) (pv 6)) b9))))))))),(c9 (Q7 a8 (z0 (h8 (f9 (k:=7) (by decide)) (h8 (f9 (k:=7) (by decide)) (h8 (f9 (k:=7) (by decide)) y9))) rfl)) (c9 (Q7 (U4 (b6 a8 (b6 a8 g6))) (z0 (h8 (f9 (k:=7) (by decide)) (h8 (f9 (k:=7) (by decide)) y9)) rfl)) (n9 (E1 (b6 a8 (b6 a8 (b6 (a9 A5 a8 a8) (b6 (a9 A5 a8 a8) g6))))))))⟩
def a1l:SF:=(W1 (a2Z 2 [] (aC (eV 0) (aC (eV 1) aN)) (m4 [(b8 0),(b8 1)]) P5 (E6 u7 (aC (eV 0) (aC (eV 1) aN)))))
def y0:List D→Option R1:=fD 2 2 a1l
theorem a3w:FnScope ["wares","places"] ["wares","places"] (c5 A7):=⟨rfl,rfl,rfl,by decide +kernel,rfl,by decide +kernel,by decide +kernel⟩
theorem a3x{f:Addr}{fd:FuncData}(F:Fun K "spots_of" "spots_of" A7 f fd)(T:Txt K mg c)(G_spot_of:Own P w K mg base 5 "spot_of" ["ware","place"] (j3 K c u7)):FnOk P w K mg base (u9 P w) 7 f fd ["wares","places"] (j3 K c y0) :=
 F.okD (k:=6) a3w fun cdv A outer s H E hr=>⟨_,(g5 (k8 (a6h (Nc:=["ware","place"]) (k:=2) (js:=[]) D0 rfl ⟨by decide +kernel,rfl,by decide +kernel,(by change ∀y∈Scope.names _,y.2=NameKind.free→(c5 A7).names.lookup y.1=some .cell∨(c5 A7).names.lookup y.1=some .free;decide +kernel),by decide +kernel,rfl,rfl,by decide +kernel⟩ (a9Q rfl T.z_zip (a7 (pv 0) (a7 (pv 1) b9))) (fun _ _ _ _ _=>(y8 (K:=K) (n:=2) rfl (h7 (g9 (i:=0) (by show List.Nodup [("ware" : Str),("place" : Str)];decide +kernel) rfl (Or.inl rfl)) (h7 (g9 (i:=1) (by show List.Nodup [("ware" : Str),("place" : Str)];decide +kernel) rfl (Or.inl rfl)) y4)))) (fun _ _ _ _ _=>a2H) (fun _ _ _ _ _ ac=>(l9 G_spot_of hr (by decide) (XAcc.passes ac) (a7 (pv 0) (a7 (pv 1) b9))))))),(a1A (a6y (by decide) (b6 a8 (b6 a8 g6)) (z0 (h8 (f9 (k:=2) (by decide)) (h8 (f9 (k:=2) (by decide)) y9)) rfl) a2W (U4 (b6 a8 (b6 a8 g6)))))⟩
def a36:SF:=(c6 (j9 2 (eOr (eB gLe (eB g7 (eV 0) (eC (.int 2))) (eB g7 (eV 1) (eC (.int 0)))) (eB gLe (eB g7 (eV 1) (eC (.int 2))) (eB g7 (eV 0) (eC (.int 0)))))) (c6 (j9 3 (eOr (eB gLe (eB g7 (eV 0) (eC (.int 3))) (eB g7 (eV 1) (eC (.int 1)))) (eB gLe (eB g7 (eV 1) (eC (.int 3))) (eB g7 (eV 0) (eC (.int 1)))))) (n4 (eOr (eV 2) (eV 3)))))
def N2:List D→Option R1:=fD 4 2 a36
theorem a0Q:FnScope ["one","other","across","up"] ["one","other"] (c5 P8):=⟨rfl,rfl,rfl,by decide +kernel,rfl,by decide +kernel,by decide +kernel⟩
theorem a6V{f:Addr}{fd:FuncData}(F:Fun K "apart" "apart" P8 f fd)(T:Txt K mg c)  : FnOk P w K mg base (u9 P w) 3 f fd ["one","other"] (j3 K c N2) :=
 F.okD (k:=2) a0Q fun cdv A outer s H E hr=>⟨_,(c4 (i8 (i:=2) a0Q.nd rfl (Or.inl rfl) (a2j (y6 V0 (i5 (h9 (K:=K)) (pv 0) b7 (fun _ _=>rfl)) (i5 (h9 (K:=K)) (pv 1) b7 (fun _ _=>rfl)) (l6 _)) (T9 (y6 V0 (i5 (h9 (K:=K)) (pv 1) b7 (fun _ _=>rfl)) (i5 (h9 (K:=K)) (pv 0) b7 (fun _ _=>rfl)) (l6 _))))) (c4 (i8 (i:=3) a0Q.nd rfl (Or.inl rfl) (a2j (y6 V0 (i5 (h9 (K:=K)) (pv 0) b7 (fun _ _=>rfl)) (i5 (h9 (K:=K)) (pv 1) b7 (fun _ _=>rfl)) (l6 _)) (T9 (y6 V0 (i5 (h9 (K:=K)) (pv 1) b7 (fun _ _=>rfl)) (i5 (h9 (K:=K)) (pv 0) b7 (fun _ _=>rfl)) (l6 _))))) (g5 (k8 (a2j (pv 2) (T9 (pv 3))))))),(c9 (m9 (a2o (a9 V9 (a9 i6 a8 c7) (a9 i6 a8 c7)) (a9 V9 (a9 i6 a8 c7) (a9 i6 a8 c7)))) (c9 (m9 (a2o (a9 V9 (a9 i6 a8 c7) (a9 i6 a8 c7)) (a9 V9 (a9 i6 a8 c7) (a9 i6 a8 c7)))) (n9 (a2o a8 a8))))⟩
def a2e:SF:=(c6 (O7 (eV 1) (m4 [(b8 2),(b8 3),(b8 4),(b8 5)])) (n4 (a1y (eB gGe (eV 2) (eC (.int 0))) (a1y (eB gGe (eV 3) (eC (.int 0))) (a1y (eB gLe (eV 4) (eB g7 (eV 0) (eC (.int 0)))) (eB gLe (eV 5) (eB g7 (eV 0) (eC (.int 1)))))))))
def B9:List D→Option R1:=fD 6 2 a2e
theorem L9:FnScope ["box","spot","x","y","x2","y2"] ["box","spot"] (c5 K0):=⟨rfl,rfl,rfl,by decide +kernel,rfl,by decide +kernel,by decide +kernel⟩
theorem a4Y{f:Addr}{fd:FuncData}(F:Fun K "lies_in" "lies_in" K0 f fd)(T:Txt K mg c)  : FnOk P w K mg base (u9 P w) 3 f fd ["box","spot"] (j3 K c B9) :=
 F.okD (k:=2) L9 fun cdv A outer s H E hr=>⟨_,(c4 (G3 (pv 1) (y8 (K:=K) (n:=4) rfl (h7 (g9 (i:=2) L9.nd rfl (Or.inl rfl)) (h7 (g9 (i:=3) L9.nd rfl (Or.inl rfl)) (h7 (g9 (i:=4) L9.nd rfl (Or.inl rfl)) (h7 (g9 (i:=5) L9.nd rfl (Or.inl rfl)) y4)))))) (g5 (k8 (a0X (y6 a4m (pv 2) b7 (l6 _)) (a0X (y6 a4m (pv 3) b7 (l6 _)) (a0X (y6 V0 (pv 4) (i5 (h9 (K:=K)) (pv 0) b7 (fun _ _=>rfl)) (l6 _)) (T9 (y6 V0 (pv 5) (i5 (h9 (K:=K)) (pv 0) b7 (fun _ _=>rfl)) (l6 _))))))))),(c9 (Q7 a8 (z0 (h8 (f9 (k:=6) (by decide)) (h8 (f9 (k:=6) (by decide)) (h8 (f9 (k:=6) (by decide)) (h8 (f9 (k:=6) (by decide)) y9)))) rfl)) (n9 (a06 (a9 a4H a8 c7) (a06 (a9 a4H a8 c7) (a06 (a9 V9 a8 (a9 i6 a8 c7)) (a9 V9 a8 (a9 i6 a8 c7)))))))⟩
def a1L:SF:=(c6 (u3 (bZ (eB (y3 true) (Q3 J1 2) (Q3 J1 1))) (n4 (eT (aC (eC (.str "count")) (aC (Q3 J1 2) aN)))) v3) (c6 (C1 3 (eL aN)) (c6 (C9 2 (m4 [(b8 4),(b8 5)]) (c6 (u3 (a0G (bZ (eB g7 (eV 5) (eC (.int 2)))) (x8 (bZ (eB g7 (F8 A2 1 (eV 4)) (eC (.int 2)))))) (n4 (eT (aC (eC (.str "turn")) (aC (eV 4) aN)))) v3) (c6 (P4 6 u7 (aC (F8 A2 1 (eV 4)) (aC (eV 5) aN))) (c6 (u3 (x8 (bZ (i9 B9 (aC (eV 0) (aC (eV 6) aN))))) (n4 (eT (aC (eC (.str "out")) (aC (eV 4) aN)))) v3) (c6 (C9 3 (m4 [(b8 7),(b8 8)]) (u3 (x8 (bZ (i9 N2 (aC (eV 8) (aC (eV 6) aN))))) (n4 (eT (aC (eC (.str "over")) (aC (eV 7) (aC (eV 4) aN))))) v3)) (L3 3 (eV 6))))))) (n4 (eC .non)))))
def F6:List D→Option R1:=fD 9 3 a1L
theorem J3:FnScope ["box","wares","places","spots","k","place","spot","i","other"] ["box","wares","places"] (c5 P9):=⟨rfl,rfl,rfl,by decide +kernel,rfl,by decide +kernel,by decide +kernel⟩
theorem a6W{f:Addr}{fd:FuncData}(F:Fun K "fault" "fault" P9 f fd)(T:Txt K mg c)(G_spot_of:Own P w K mg base 5 "spot_of" ["ware","place"] (j3 K c u7))(G_lies_in:Own P w K mg base 3 "lies_in" ["box","spot"] (j3 K c B9))(G_apart:Own P w K mg base 3 "apart" ["one","other"] (j3 K c N2)):FnOk P w K mg base (u9 P w) 7 f fd ["box","wares","places"] (j3 K c F6) :=
 F.okD (k:=6) J3 fun cdv A outer s H E hr=>⟨_,(c4 (w6 (w8 a0Y (x5 (u6 (K:=K)) rfl T.z_len G4 (a7 (pv 2) b9)) (x5 (u6 (K:=K)) rfl T.z_len G4 (a7 (pv 1) b9)) (l6 _)) (g5 (k8 (w4 (a7 G2 (a7 (x5 (u6 (K:=K)) rfl T.z_len G4 (a7 (pv 2) b9)) b9))))) n8) (c4 (i8 (i:=3) J3.nd rfl (Or.inl rfl) (B5 b9)) (c4 (D9 PassesOwn.leaving rfl (U2 rfl T.z_enumerate (a7 (pv 2) b9)) (y8 (K:=K) (n:=2) rfl (h7 (g9 (i:=4) J3.nd rfl (Or.inl rfl)) (h7 (g9 (i:=5) J3.nd rfl (Or.inl rfl)) y4))) (c4 (w6 (PW.pt (a48 (B4 (i5 (h9 (K:=K)) (pv 5) b7 (fun _ _=>rfl))) (a3C (D8 (B4 (i5 (h9 (K:=K)) (i5 (A9 (K:=K)) (pv 1) (pv 4) (fun _ _=>rfl)) b7 (fun _ _=>rfl))))))) (g5 (k8 (w4 (a7 G2 (a7 (pv 4) b9))))) n8) (c4 (i8 (i:=6) J3.nd rfl (Or.inl rfl) (l9 G_spot_of hr (by decide) (XAcc.passes D0) (a7 (i5 (A9 (K:=K)) (pv 1) (pv 4) (fun _ _=>rfl)) (a7 (pv 5) b9)))) (c4 (w6 (D8 (B4 (l9 G_lies_in hr (by decide) u0 (a7 (pv 0) (a7 (pv 6) b9))))) (g5 (k8 (w4 (a7 G2 (a7 (pv 4) b9))))) n8) (c4 (D9 PassesOwn.leaving rfl (U2 rfl T.z_enumerate (a7 (pv 3) b9)) (y8 (K:=K) (n:=2) rfl (h7 (g9 (i:=7) J3.nd rfl (Or.inl rfl)) (h7 (g9 (i:=8) J3.nd rfl (Or.inl rfl)) y4))) (g5 (w6 (D8 (B4 (l9 G_apart hr (by decide) u0 (a7 (pv 8) (a7 (pv 6) b9))))) (g5 (k8 (w4 (a9N (a7 (pv 7) (a7 (pv 4) b9)))))) n8))) (g5 (J6 (G5 (K:=K) PySem.F.plainAttrs_list PySem.F.slot_list_append PySem.F.type_list_append J7 (pv 3) (a7 (pv 6) b9))))))))) (g5 (k8 a47))))),(c9 (t7 (D6 (a9 a08 (S3 O2) (S3 O2))) (n9 (E1 (b6 c7 (b6 (S3 O2) g6)))) x9) (c9 (M7 (M6 g6)) (c9 (W4 (z0 (h8 (f9 (k:=9) (by decide)) (h8 (f9 (k:=9) (by decide)) y9)) rfl) (c9 (t7 (a3P (D5 (a9 i6 a8 c7)) (B6 (D5 (a9 i6 (K8 K9 a8) c7)))) (n9 (E1 (b6 c7 (b6 a8 g6)))) x9) (c9 (a1B (b6 (K8 K9 a8) (b6 a8 g6))) (c9 (t7 (B6 (D5 (r0 (b6 a8 (b6 a8 g6))))) (n9 (E1 (b6 c7 (b6 a8 g6)))) x9) (c9 (W4 (z0 (h8 (f9 (k:=9) (by decide)) (h8 (f9 (k:=9) (by decide)) y9)) rfl) (t7 (B6 (D5 (r0 (b6 a8 (b6 a8 g6))))) (n9 (E1 (b6 c7 (b6 a8 (b6 a8 g6))))) x9)) (Z7 a8)))))) (n9 c7))))⟩
def S7:SF:=(n4 (a1y (eB gGe (eV 0) (eC (.int 1))) (eB gLe (eV 0) (eC (.int 60)))))
def r6:List D→Option R1:=fD 1 1 S7
theorem a0R:FnScope ["side"] ["side"] (c5 w9):=⟨rfl,rfl,rfl,by decide +kernel,rfl,by decide +kernel,by decide +kernel⟩
theorem a0S{f:Addr}{fd:FuncData}(F:Fun K "is_sheet_side" "is_sheet_side" w9 f fd)(T:Txt K mg c)  : FnOk P w K mg base (u9 P w) 3 f fd ["side"] (j3 K c r6) :=
 F.okD (k:=2) a0R fun cdv A outer s H E hr=>⟨_,(g5 (k8 (a0X (y6 a4m (pv 0) b7 (l6 _)) (T9 (y6 V0 (pv 0) (S2 rfl T.v_MOST_SIDE) (l6 _)))))),(n9 (a06 (a9 a4H a8 c7) (a9 V9 a8 c7)))⟩
def a8Z:SF:=(c6 (u3 (X9 (x8 (bZ (i9 r6 (aC (eB g7 (eV 0) (eC (.int 0))) aN)))) (X9 (x8 (bZ (i9 r6 (aC (eB g7 (eV 0) (eC (.int 1))) aN)))) (bZ (eB gGt (Q3 J1 1) (eCB (g1 N4) (aC (eC (.str "0123456789abcdefghijklmnopqrstuvwxyzABCDEFGHIJKLMNOPQRSTUVWXYZ")) aN)))))) (Z5 "NoSheet" (aC (eC (.str "the box or the wares are too many for a sheet")) aN)) v3) (c6 (P4 3 F6 (aC (eV 0) (aC (eV 1) (aC (eV 2) aN)))) (c6 (u3 (bZ (eB (Z4 true) (eV 3) (eC .non))) a4U v3) (X3 4 1 [0] (aC (eB g7 (eV 0) (eC (.int 1))) aN) (b8 0) (nB a0H (zN (eL (aC (eC (.str ".")) aN))) (eB g7 (eV 1) (eC (.int 0)))) (a1j 4 (E6 y0 (aC (eV 1) (aC (eV 2) aN)))  (m4 [(b8 5),(b8 6)]) (S6 4 (aC (eB g7 (eV 6) (eC (.int 1))) (aC (eB g7 (eV 6) (eC (.int 3))) aN)) (b8 7) (S6 4 (aC (eB g7 (eV 6) (eC (.int 0))) (aC (eB g7 (eV 6) (eC (.int 2))) aN)) (b8 8) (a3a 4 7 8 (eB M9 (eC (.str "0123456789abcdefghijklmnopqrstuvwxyzABCDEFGHIJKLMNOPQRSTUVWXYZ")) (eV 5)))))) (W1 (a3c 1 [] (eV 4) (b8 0) P5 (a4V (eC (.str "")) (eV 0))))))))
def F7:List D→Option R1:=fD 9 3 a8Z
theorem J4:FnScope ["box","wares","places","why","rows","k","spot","y","x"] ["box","wares","places"] (c5 D1):=⟨rfl,rfl,rfl,by decide +kernel,rfl,by decide +kernel,by decide +kernel⟩
theorem a6X{f:Addr}{fd:FuncData}(F:Fun K "drawn" "drawn" D1 f fd)(T:Txt K mg c)(G_is_sheet_side:Own P w K mg base 3 "is_sheet_side" ["side"] (j3 K c r6))(G_fault:Own P w K mg base 7 "fault" ["box","wares","places"] (j3 K c F6))(G_spots_of:Own P w K mg base 7 "spots_of" ["wares","places"] (j3 K c y0)):FnOk P w K mg base (u9 P w) 9 f fd ["box","wares","places"] (j3 K c F7) :=
 F.okD (k:=8) J4 fun cdv A outer s H E hr=>⟨_,(c4 (w6 (PW.pt (a0W (D8 (B4 (l9 G_is_sheet_side hr (by decide) u0 (a7 (i5 (h9 (K:=K)) (pv 0) b7 (fun _ _=>rfl)) b9)))) (a0W (D8 (B4 (l9 G_is_sheet_side hr (by decide) u0 (a7 (i5 (h9 (K:=K)) (pv 0) b7 (fun _ _=>rfl)) b9)))) (a0V (w8 a4l (x5 (u6 (K:=K)) rfl T.z_len G4 (a7 (pv 1) b9)) (x5 Y9 rfl T.z_len G4 (a7 (S2 rfl T.v_SIGNS) b9)) (l6 _)))))) (g5 (a2G D0 T.x_NoSheet rfl T.m_NoSheet (a7 G2 b9))) n8) (c4 (i8 (i:=3) J4.nd rfl (Or.inl rfl) (l9 G_fault hr (by decide) (XAcc.passes D0) (a7 (pv 0) (a7 (pv 1) (a7 (pv 2) b9))))) (c4 (w6 (w8 a7H (pv 3) a47 (l6 _)) (g5 a8R) n8) (c4 (a4w (i:=4) (Nc:=["y","box"]) (k:=1) (js:=[0]) rfl ⟨by decide +kernel,rfl,by decide +kernel,(by change ∀y∈Scope.names _,y.2=NameKind.free→(c5 D1).names.lookup y.1=some .cell∨(c5 D1).names.lookup y.1=some .free;decide +kernel),by decide +kernel,rfl,rfl,by decide +kernel⟩ J4.nd rfl (a1P rfl T.z_range (a7 (i5 (h9 (K:=K)) (pv 0) b7 (fun _ _=>rfl)) b9)) (fun _ _ _ _ _=>(g9 (i:=0) (by show List.Nodup [("y" : Str),("box" : Str)];decide +kernel) rfl (Or.inl rfl))) (fun _ _ _ _ _=>a2H) (fun _ _ _ _ _=>(d9 a9H (B5 (a7 (S2 rfl T.v_NOTHING) b9)) (i5 (h9 (K:=K)) (pv 1) b7 (fun _ _=>rfl))))) (c4 (D9 PassesOwn.leaving rfl (U2 rfl T.z_enumerate (a7 (l9 G_spots_of hr (by decide) (XAcc.passes D0) (a7 (pv 1) (a7 (pv 2) b9))) b9)) (y8 (K:=K) (n:=2) rfl (h7 (g9 (i:=5) J4.nd rfl (Or.inl rfl)) (h7 (g9 (i:=6) J4.nd rfl (Or.inl rfl)) y4))) (g5 (D9 PassesOwn.leaving rfl (a1Q rfl T.z_range (a7 (i5 (h9 (K:=K)) (pv 6) b7 (fun _ _=>rfl)) (a7 (i5 (h9 (K:=K)) (pv 6) b7 (fun _ _=>rfl)) b9))) (g9 (i:=7) J4.nd rfl (Or.inl rfl)) (g5 (D9 PassesOwn.leaving rfl (a1Q rfl T.z_range (a7 (i5 (h9 (K:=K)) (pv 6) b7 (fun _ _=>rfl)) (a7 (i5 (h9 (K:=K)) (pv 6) b7 (fun _ _=>rfl)) b9))) (g9 (i:=8) J4.nd rfl (Or.inl rfl)) (g5 (G3 (i5 a5e (S2 rfl T.v_SIGNS) (pv 5) (fun _ _=>rfl)) (a2v (i5 (A9 (K:=K)) (pv 4) (pv 7) (fun _ _=>rfl)) (pv 8) a0y)))))))) (g5 (k8 (a7S (Nc:=["row"]) (k:=1) (js:=[]) rfl ⟨by decide +kernel,rfl,by decide +kernel,(by change ∀y∈Scope.names _,y.2=NameKind.free→(c5 D1).names.lookup y.1=some .cell∨(c5 D1).names.lookup y.1=some .free;decide +kernel),by decide +kernel,rfl,rfl,by decide +kernel⟩ (a9S rfl T.z_reversed (a7 (pv 4) b9)) (fun _ _ _ _ _=>(g9 (i:=0) (by show List.Nodup [("row" : Str)];decide +kernel) rfl (Or.inl rfl))) (fun _ _ _ _ _=>a2H) (fun _ _ _ _ _=>(G5 (K:=K) PySem.F.plainAttrs_str PySem.F.slot_str_join PySem.F.type_str_join (a6f (K:=K)) G2 (a7 (pv 0) b9))))))))))),(c9 (t7 (Z3 (B6 (D5 (r0 (b6 (a9 i6 a8 c7) g6)))) (Z3 (B6 (D5 (r0 (b6 (a9 i6 a8 c7) g6)))) (D6 (a9 a4G (S3 O2) (a7s a3R.cb (b6 c7 g6)))))) (a2T (b6 c7 g6)) x9) (c9 (a1B (b6 a8 (b6 a8 (b6 a8 g6)))) (c9 (t7 (D6 (a9 a7V a8 c7)) a8S x9) (a6U (by decide) (b6 (a9 i6 a8 c7) g6) (f9 (k:=1) (by decide)) (b0G a93 (P3 (M6 (b6 c7 g6))) (a9 i6 a8 c7)) (a6R (U4 (b6 a8 (b6 a8 g6))) (z0 (h8 (f9 (k:=9) (by decide)) (h8 (f9 (k:=9) (by decide)) y9)) rfl) a5D (a3b (b6 (a9 i6 a8 c7) (b6 (a9 i6 a8 c7) g6)) (f9 (k:=9) (by decide)) a1i (a3b (b6 (a9 i6 a8 c7) (b6 (a9 i6 a8 c7) g6)) (f9 (k:=9) (by decide)) a1i (a8X (a9 a5B c7 a8))))) (a1A (a6T (by decide) a8 (f9 (k:=1) (by decide)) a2W (a8T c7 a8)))))))⟩
def a0u:SF:=(c6 (u3 (bZ (eB gLt (eV 1) (Q3 J1 0))) (n4 (F8 A2 0 (eV 1))) v3) (n4 (eC (.int 0))))
def k7:List D→Option R1:=fD 2 2 a0u
theorem a3d:FnScope ["_law_script","_law_k"] ["_law_script","_law_k"] (c5 D2):=⟨rfl,rfl,rfl,by decide +kernel,rfl,by decide +kernel,by decide +kernel⟩
theorem a3e{f:Addr}{fd:FuncData}(F:Fun K "_law_cell_at" "_law_cell_at" D2 f fd)(T:Txt K mg c)  : FnOk P w K mg base (u9 P w) 3 f fd ["_law_script","_law_k"] (j3 K c k7) :=
 F.okD (k:=2) a3d fun cdv A outer s H E hr=>⟨_,(c4 (w6 (w8 b0C (pv 1) (x5 (u6 (K:=K)) rfl T.z_len G4 (a7 (pv 0) b9)) (l6 _)) (g5 (k8 (i5 (A9 (K:=K)) (pv 0) (pv 1) (fun _ _=>rfl)))) n8) (g5 (k8 b7))),(c9 (t7 (D6 (a9 b0H a8 (S3 O2))) (n9 (K8 K9 a8)) x9) (n9 c7))⟩
def U6:SF:=(c6 (j9 1 (eB G0 (eV 0) (eC (.int 4)))) (c6 (u3 (bZ (eB (y3 false) (eB k9 (eV 0) (eC (.int 4))) (eC (.int 1)))) (n4 (eB k6 (eC (.int 60)) (eB k9 (eV 1) (eC (.int 60))))) v3) (n4 (eB v5 (eC (.int 1)) (eB k9 (eB k9 (eB n0 (eV 1) (eC (.int 48271))) (eC (.int 2147483647))) (eC (.int 12)))))))
def m5:List D→Option R1:=fD 2 1 U6
theorem S8:FnScope ["_law_cell","_law_rest"] ["_law_cell"] (c5 z7):=⟨rfl,rfl,rfl,by decide +kernel,rfl,by decide +kernel,by decide +kernel⟩
theorem a1m{f:Addr}{fd:FuncData}(F:Fun K "_law_sheet_side" "_law_sheet_side" z7 f fd)(T:Txt K mg c)  : FnOk P w K mg base (u9 P w) 3 f fd ["_law_cell"] (j3 K c m5) :=
 F.okD (k:=2) S8 fun cdv A outer s H E hr=>⟨_,(c4 (i8 (i:=1) S8.nd rfl (Or.inl rfl) (d9 I0 (pv 0) b7)) (c4 (w6 (w8 a0g (d9 r8 (pv 0) b7) b7 (l6 _)) (g5 (k8 (d9 z8 b7 (d9 r8 (pv 1) b7)))) n8) (g5 (k8 (d9 A4 b7 (d9 r8 (d9 r8 (d9 A3 (pv 1) b7) b7) b7)))))),(c9 (m9 (a9 Q5 a8 c7)) (c9 (t7 (D6 (a9 a0j (a9 r9 a8 c7) c7)) (n9 (a9 z9 c7 (a9 r9 a8 c7))) x9) (n9 (a9 A5 c7 (a9 r9 (a9 r9 (a9 C8 a8 c7) c7) c7)))))⟩
def a4Z:SF:=(c6 (C1 2 (eL aN)) (c6 (j9 3 (eB k9 (eV 0) (eC (.int 2147483647)))) (c6 (a1c Z9 (aC (eV 1) aN) (b8 4) (c6 (j9 3 (eB k9 (eB v5 (eB v5 (eB n0 (eV 3) (eC (.int 69621))) (eB n0 (eB n0 (eV 4) (eV 4)) (eC (.int 7919)))) (eC (.int 48271))) (eC (.int 2147483647)))) (L3 2 (eV 3)))) (W2 2))))
def C4:List D→Option R1:=fD 5 2 a4Z
theorem G7:FnScope ["_law_cell","_law_many","_law_found","_law_number","_law_k"] ["_law_cell","_law_many"] (c5 E8):=⟨rfl,rfl,rfl,by decide +kernel,rfl,by decide +kernel,by decide +kernel⟩
theorem a3y{f:Addr}{fd:FuncData}(F:Fun K "_law_stream" "_law_stream" E8 f fd)(T:Txt K mg c)  : FnOk P w K mg base (u9 P w) 3 f fd ["_law_cell","_law_many"] (j3 K c C4) :=
 F.okD (k:=2) G7 fun cdv A outer s H E hr=>⟨_,(c4 (i8 (i:=2) G7.nd rfl (Or.inl rfl) (B5 b9)) (c4 (i8 (i:=3) G7.nd rfl (Or.inl rfl) (d9 r8 (pv 0) b7)) (c4 (D9 PassesOwn.leaving rfl (a1P rfl T.z_range (a7 (pv 1) b9)) (g9 (i:=4) G7.nd rfl (Or.inl rfl)) (c4 (i8 (i:=3) G7.nd rfl (Or.inl rfl) (d9 r8 (d9 A4 (d9 A4 (d9 A3 (pv 3) b7) (d9 A3 (d9 A3 (pv 4) (pv 4)) b7)) b7) b7)) (g5 (J6 (G5 (K:=K) PySem.F.plainAttrs_list PySem.F.slot_list_append PySem.F.type_list_append J7 (pv 2) (a7 (pv 3) b9)))))) (g5 (k8 (pv 2)))))),(c9 (M7 (M6 g6)) (c9 (m9 (a9 r9 a8 c7)) (c9 (a6n (b6 a8 g6) (f9 (k:=5) (by decide)) (c9 (m9 (a9 r9 (a9 A5 (a9 A5 (a9 C8 a8 c7) (a9 C8 (a9 C8 a8 a8) c7)) c7) c7)) (Z7 a8))) a3T)))⟩
def a5G:SF:=(c6 (j9 1 (eB G0 (i9 k7 (aC (eV 0) (aC (eC (.int 2)) aN))) (eC (.int 2)))) (c6 (u3 (bZ (eB (y3 false) (eB k9 (eV 1) (eC (.int 4))) (eC (.int 1)))) (U3 C4 (aC (i9 k7 (aC (eV 0) (aC (eC (.int 3)) aN))) (aC (eB k6 (eC (.int 61)) (eB k9 (eB G0 (eV 1) (eC (.int 4))) (eC (.int 62)))) aN))) v3) (W1 (T6 0 (oS (eC (.int 2))) (oS (eC (.int 63)))))))
def E4:List D→Option R1:=fD 2 1 a5G
theorem a1n:FnScope ["_law_script","_law_number"] ["_law_script"] (c5 K1):=⟨rfl,rfl,rfl,by decide +kernel,rfl,by decide +kernel,by decide +kernel⟩
theorem a40{f:Addr}{fd:FuncData}(F:Fun K "_law_cells" "_law_cells" K1 f fd)(T:Txt K mg c)(G_l_cell_at:Own P w K mg base 3 "_law_cell_at" ["_law_script","_law_k"] (j3 K c k7))(G_l_stream:Own P w K mg base 3 "_law_stream" ["_law_cell","_law_many"] (j3 K c C4)):FnOk P w K mg base (u9 P w) 5 f fd ["_law_script"] (j3 K c E4) :=
 F.okD (k:=4) a1n fun cdv A outer s H E hr=>⟨_,(c4 (i8 (i:=1) a1n.nd rfl (Or.inl rfl) (d9 I0 (l9 G_l_cell_at hr (by decide) u0 (a7 (pv 0) (a7 b7 b9))) b7)) (c4 (w6 (w8 a0g (d9 r8 (pv 1) b7) b7 (l6 _)) (g5 (k8 (l9 G_l_stream hr (by decide) u0 (a7 (l9 G_l_cell_at hr (by decide) u0 (a7 (pv 0) (a7 b7 b9))) (a7 (d9 z8 b7 (d9 r8 (d9 I0 (pv 1) b7) b7)) b9))))) n8) (g5 (k8 (a0x (a2L (K:=K)) (pv 0) (P7 b7) (P7 b7)))))),(c9 (m9 (a9 Q5 (r0 (b6 a8 (b6 c7 g6))) c7)) (c9 (t7 (D6 (a9 a0j (a9 r9 a8 c7) c7)) (a2U (b6 (r0 (b6 a8 (b6 c7 g6))) (b6 (a9 z9 c7 (a9 r9 (a9 Q5 a8 c7) c7)) g6))) x9) (a1A (a5v (a0m c7) (a0m c7)))))⟩
def a41:SF:=(c6 (C1 2 (eL (aC (eT (aC (eC (.int 0)) (aC (eC (.int 0)) (aC (eB g7 (eV 0) (eC (.int 0))) (aC (eB g7 (eV 0) (eC (.int 1))) aN))))) aN))) (c6 (a0k 1 (b8 3) (c6 (j9 4 (eB k9 (eV 3) (eB Q4 (eC (.int 10)) (eC (.int 60))))) (c6 (j9 5 (eB k9 (eB n0 (eV 4) (eC (.int 48271))) (eC (.int 2147483647)))) (c6 (j9 6 (eB k9 (eB G0 (eV 5) (eC (.int 2))) (Q3 J1 2))) (c6 (O7 (F8 A2 2 (eV 6)) (m4 [(b8 7),(b8 8),(b8 9),(b8 10)])) (u3 (a0G (bZ (eB (y3 false) (eB k9 (eV 5) (eC (.int 2))) (eC (.int 0)))) (bZ (eB gGt (eB k6 (eV 9) (eV 7)) (eC (.int 1))))) (c6 (j9 11 (eB v5 (eB v5 (eV 7) (eC (.int 1))) (eB k9 (eB n0 (eV 4) (eB Q4 (eC (.int 7919)) (eC (.int 11)))) (eB k6 (eB k6 (eV 9) (eV 7)) (eC (.int 1)))))) (c6 (a1z 2 (eV 6) (eT (aC (eV 7) (aC (eV 8) (aC (eV 11) (aC (eV 10) aN)))))) (L3 2 (eT (aC (eV 11) (aC (eV 8) (aC (eV 9) (aC (eV 10) aN)))))))) (u3 (bZ (eB gGt (eB k6 (eV 10) (eV 8)) (eC (.int 1)))) (c6 (j9 11 (eB v5 (eB v5 (eV 8) (eC (.int 1))) (eB k9 (eB n0 (eV 4) (eB Q4 (eC (.int 7919)) (eC (.int 11)))) (eB k6 (eB k6 (eV 10) (eV 8)) (eC (.int 1)))))) (c6 (a1z 2 (eV 6) (eT (aC (eV 7) (aC (eV 8) (aC (eV 9) (aC (eV 11) aN)))))) (L3 2 (eT (aC (eV 7) (aC (eV 11) (aC (eV 9) (aC (eV 10) aN)))))))) v3))))))) (W2 2)))
def C5:List D→Option R1:=fD 12 2 a41
theorem n6:FnScope ["_law_box","_law_cells_here","_law_pieces_here","_law_cell","_law_number","_law_mix","_law_at","_law_x","_law_y","_law_x2","_law_y2","_law_cut"] ["_law_box","_law_cells_here"] (c5 E9):=⟨rfl,rfl,rfl,by decide +kernel,rfl,by decide +kernel,by decide +kernel⟩
theorem a3z{f:Addr}{fd:FuncData}(F:Fun K "_law_pieces" "_law_pieces" E9 f fd)(T:Txt K mg c)  : FnOk P w K mg base (u9 P w) 3 f fd ["_law_box","_law_cells_here"] (j3 K c C5) :=
 F.okD (k:=2) n6 fun cdv A outer s H E hr=>⟨_,(c4 (i8 (i:=2) n6.nd rfl (Or.inl rfl) (B5 (a7 (w4 (a7 b7 (a7 b7 (a7 (i5 (h9 (K:=K)) (pv 0) b7 (fun _ _=>rfl)) (a7 (i5 (h9 (K:=K)) (pv 0) b7 (fun _ _=>rfl)) b9))))) b9))) (c4 (D9 PassesOwn.leaving rfl (a1s (pv 1)) (g9 (i:=3) n6.nd rfl (Or.inl rfl)) (c4 (i8 (i:=4) n6.nd rfl (Or.inl rfl) (d9 r8 (pv 3) (d9 a2x b7 b7))) (c4 (i8 (i:=5) n6.nd rfl (Or.inl rfl) (d9 r8 (d9 A3 (pv 4) b7) b7)) (c4 (i8 (i:=6) n6.nd rfl (Or.inl rfl) (d9 r8 (d9 I0 (pv 5) b7) (x5 (u6 (K:=K)) rfl T.z_len G4 (a7 (pv 2) b9)))) (c4 (G3 (i5 (A9 (K:=K)) (pv 2) (pv 6) (fun _ _=>rfl)) (y8 (K:=K) (n:=4) rfl (h7 (g9 (i:=7) n6.nd rfl (Or.inl rfl)) (h7 (g9 (i:=8) n6.nd rfl (Or.inl rfl)) (h7 (g9 (i:=9) n6.nd rfl (Or.inl rfl)) (h7 (g9 (i:=10) n6.nd rfl (Or.inl rfl)) y4)))))) (g5 (w6 (PW.pt (a48 (w8 a0g (d9 r8 (pv 5) b7) b7 (l6 _)) (a3C (w8 a4l (d9 z8 (pv 9) (pv 7)) b7 (l6 _))))) (c4 (i8 (i:=11) n6.nd rfl (Or.inl rfl) (d9 A4 (d9 A4 (pv 7) b7) (d9 r8 (d9 A3 (pv 4) (d9 a2x b7 b7)) (d9 z8 (d9 z8 (pv 9) (pv 7)) b7)))) (c4 (G3 (w4 (a7 (pv 7) (a7 (pv 8) (a7 (pv 11) (a7 (pv 10) b9))))) (a2v (pv 2) (pv 6) a0y)) (g5 (J6 (G5 (K:=K) PySem.F.plainAttrs_list PySem.F.slot_list_append PySem.F.type_list_append J7 (pv 2) (a7 (w4 (a7 (pv 11) (a7 (pv 8) (a7 (pv 9) (a7 (pv 10) b9))))) b9)))))) (g5 (w6 (w8 a4l (d9 z8 (pv 10) (pv 8)) b7 (l6 _)) (c4 (i8 (i:=11) n6.nd rfl (Or.inl rfl) (d9 A4 (d9 A4 (pv 8) b7) (d9 r8 (d9 A3 (pv 4) (d9 a2x b7 b7)) (d9 z8 (d9 z8 (pv 10) (pv 8)) b7)))) (c4 (G3 (w4 (a7 (pv 7) (a7 (pv 8) (a7 (pv 9) (a7 (pv 11) b9))))) (a2v (pv 2) (pv 6) a0y)) (g5 (J6 (G5 (K:=K) PySem.F.plainAttrs_list PySem.F.slot_list_append PySem.F.type_list_append J7 (pv 2) (a7 (w4 (a7 (pv 7) (a7 (pv 11) (a7 (pv 9) (a7 (pv 10) b9))))) b9)))))) n8))))))))) (g5 (k8 (pv 2))))),(c9 (M7 (M6 (b6 (E1 (b6 c7 (b6 c7 (b6 (a9 i6 a8 c7) (b6 (a9 i6 a8 c7) g6))))) g6))) (c9 (a3V (f9 (k:=12) (by decide)) (c9 (m9 (a9 r9 a8 (a9 a2S c7 c7))) (c9 (m9 (a9 r9 (a9 C8 a8 c7) c7)) (c9 (m9 (a9 r9 (a9 Q5 a8 c7) (S3 O2))) (c9 (Q7 (K8 K9 a8) (z0 (h8 (f9 (k:=12) (by decide)) (h8 (f9 (k:=12) (by decide)) (h8 (f9 (k:=12) (by decide)) (h8 (f9 (k:=12) (by decide)) y9)))) rfl)) (t7 (a3P (D6 (a9 a0j (a9 r9 a8 c7) c7)) (D6 (a9 a4G (a9 z9 a8 a8) c7))) (c9 (m9 (a9 A5 (a9 A5 a8 c7) (a9 r9 (a9 C8 a8 (a9 a2S c7 c7)) (a9 z9 (a9 z9 a8 a8) c7)))) (c9 (a5l (E1 (b6 a8 (b6 a8 (b6 a8 (b6 a8 g6))))) a8) (Z7 (E1 (b6 a8 (b6 a8 (b6 a8 (b6 a8 g6)))))))) (t7 (D6 (a9 a4G (a9 z9 a8 a8) c7)) (c9 (m9 (a9 A5 (a9 A5 a8 c7) (a9 r9 (a9 C8 a8 (a9 a2S c7 c7)) (a9 z9 (a9 z9 a8 a8) c7)))) (c9 (a5l (E1 (b6 a8 (b6 a8 (b6 a8 (b6 a8 g6))))) a8) (Z7 (E1 (b6 a8 (b6 a8 (b6 a8 (b6 a8 g6)))))))) x9))))))) a3T))⟩
def a6Y:SF:=(c6 (C1 3 (eL aN)) (c6 (C1 4 (eL aN)) (c6 (C1 5 (eL aN)) (c6 (j9 6 (eB k9 (eV 1) (eC (.int 2147483647)))) (c6 (C9 0 (m4 [(b8 7),(b8 8)]) (c6 (j9 6 (eB k9 (eB v5 (eB v5 (eB n0 (eV 6) (eC (.int 69621))) (eB n0 (eB n0 (eV 7) (eV 7)) (eC (.int 7919)))) (eC (.int 48271))) (eC (.int 2147483647)))) (u3 (bZ (eB (y3 true) (eB k9 (eV 6) (eV 2)) (eC (.int 1)))) (c6 (j9 9 (eB k6 (eB g7 (eV 8) (eC (.int 2))) (eB g7 (eV 8) (eC (.int 0))))) (c6 (j9 10 (eB k6 (eB g7 (eV 8) (eC (.int 3))) (eB g7 (eV 8) (eC (.int 1))))) (c6 (j9 11 (eB (y3 false) (eB k9 (eB G0 (eV 6) (eV 2)) (eC (.int 3))) (eC (.int 1)))) (c6 (j9 12 (eB k9 (eB G0 (eB G0 (eV 6) (eV 2)) (eC (.int 3))) (eB v5 (Q3 J1 3) (eC (.int 1))))) (c6 (u3 (bZ (eV 11)) (a4T 9 10 (aC (eV 10) (aC (eV 9) aN))) v3) (c6 (W9 3 (eV 12) (eT (aC (eV 9) (aC (eV 10) (aC (eOr (eV 11) (eB (y3 false) (eB k9 (eV 6) (eC (.int 2))) (eC (.int 1)))) aN))))) (c6 (W9 4 (eV 12) (eT (aC (eB g7 (eV 8) (eC (.int 0))) (aC (eB g7 (eV 8) (eC (.int 1))) (aC (eV 11) aN))))) (W9 5 (eV 12) (eV 8))))))))) v3))) (n4 (eT (aC (eV 3) (aC (eV 4) (aC (eV 5) aN))))))))))
def J5:List D→Option R1:=fD 13 3 a6Y
theorem t8:FnScope ["_law_pieces_here","_law_cell","_law_share","_law_wares","_law_places","_law_spots","_law_number","_law_k","_law_piece","_law_w","_law_h","_law_lie","_law_at"] ["_law_pieces_here","_law_cell","_law_share"] (c5 N0):=⟨rfl,rfl,rfl,by decide +kernel,rfl,by decide +kernel,by decide +kernel⟩
theorem a5H{f:Addr}{fd:FuncData}(F:Fun K "_law_laid" "_law_laid" N0 f fd)(T:Txt K mg c)  : FnOk P w K mg base (u9 P w) 3 f fd ["_law_pieces_here","_law_cell","_law_share"] (j3 K c J5) :=
 F.okD (k:=2) t8 fun cdv A outer s H E hr=>⟨_,(c4 (i8 (i:=3) t8.nd rfl (Or.inl rfl) (B5 b9)) (c4 (i8 (i:=4) t8.nd rfl (Or.inl rfl) (B5 b9)) (c4 (i8 (i:=5) t8.nd rfl (Or.inl rfl) (B5 b9)) (c4 (i8 (i:=6) t8.nd rfl (Or.inl rfl) (d9 r8 (pv 1) b7)) (c4 (D9 PassesOwn.leaving rfl (U2 rfl T.z_enumerate (a7 (pv 0) b9)) (y8 (K:=K) (n:=2) rfl (h7 (g9 (i:=7) t8.nd rfl (Or.inl rfl)) (h7 (g9 (i:=8) t8.nd rfl (Or.inl rfl)) y4))) (c4 (i8 (i:=6) t8.nd rfl (Or.inl rfl) (d9 r8 (d9 A4 (d9 A4 (d9 A3 (pv 6) b7) (d9 A3 (d9 A3 (pv 7) (pv 7)) b7)) b7) b7)) (g5 (w6 (w8 a0Y (d9 r8 (pv 6) (pv 2)) b7 (l6 _)) (c4 (i8 (i:=9) t8.nd rfl (Or.inl rfl) (d9 z8 (i5 (h9 (K:=K)) (pv 8) b7 (fun _ _=>rfl)) (i5 (h9 (K:=K)) (pv 8) b7 (fun _ _=>rfl)))) (c4 (i8 (i:=10) t8.nd rfl (Or.inl rfl) (d9 z8 (i5 (h9 (K:=K)) (pv 8) b7 (fun _ _=>rfl)) (i5 (h9 (K:=K)) (pv 8) b7 (fun _ _=>rfl)))) (c4 (i8 (i:=11) t8.nd rfl (Or.inl rfl) (y6 a0g (d9 r8 (d9 I0 (pv 6) (pv 2)) b7) b7 (l6 _))) (c4 (i8 (i:=12) t8.nd rfl (Or.inl rfl) (d9 r8 (d9 I0 (d9 I0 (pv 6) (pv 2)) b7) (d9 A4 (x5 (u6 (K:=K)) rfl T.z_len G4 (a7 (pv 3) b9)) b7))) (c4 (w6 (B4 (pv 11)) (g5 (a9u (i:=9) (j:=10) rfl t8.nd rfl rfl (by decide) rfl rfl (a7 (pv 10) (a7 (pv 9) b9)) rfl)) n8) (c4 (J6 (G5 (K:=K) PySem.F.plainAttrs_list PySem.F.slot_list_insert PySem.F.type_list_insert Z1 (pv 3) (a7 (pv 12) (a7 (w4 (a7 (pv 9) (a7 (pv 10) (a7 (a2j (pv 11) (T9 (y6 a0g (d9 r8 (pv 6) b7) b7 (l6 _)))) b9)))) b9)))) (c4 (J6 (G5 (K:=K) PySem.F.plainAttrs_list PySem.F.slot_list_insert PySem.F.type_list_insert Z1 (pv 4) (a7 (pv 12) (a7 (w4 (a7 (i5 (h9 (K:=K)) (pv 8) b7 (fun _ _=>rfl)) (a7 (i5 (h9 (K:=K)) (pv 8) b7 (fun _ _=>rfl)) (a7 (pv 11) b9)))) b9)))) (g5 (J6 (G5 (K:=K) PySem.F.plainAttrs_list PySem.F.slot_list_insert PySem.F.type_list_insert Z1 (pv 5) (a7 (pv 12) (a7 (pv 8) b9)))))))))))) n8)))) (g5 (k8 (w4 (a7 (pv 3) (a7 (pv 4) (a7 (pv 5) b9))))))))))),(c9 (M7 (M6 g6)) (c9 (M7 (M6 g6)) (c9 (M7 (M6 g6)) (c9 (m9 (a9 r9 a8 c7)) (c9 (W4 (z0 (h8 (f9 (k:=13) (by decide)) (h8 (f9 (k:=13) (by decide)) y9)) rfl) (c9 (m9 (a9 r9 (a9 A5 (a9 A5 (a9 C8 a8 c7) (a9 C8 (a9 C8 a8 a8) c7)) c7) c7)) (t7 (D6 (a9 a08 (a9 r9 a8 a8) c7)) (c9 (m9 (a9 z9 (a9 i6 a8 c7) (a9 i6 a8 c7))) (c9 (m9 (a9 z9 (a9 i6 a8 c7) (a9 i6 a8 c7))) (c9 (m9 (a9 a0j (a9 r9 (a9 Q5 a8 a8) c7) c7)) (c9 (m9 (a9 r9 (a9 Q5 (a9 Q5 a8 a8) c7) (a9 A5 (S3 O2) c7))) (c9 (t7 (D5 a8) (b0i (b6 a8 (b6 a8 g6))) x9) (c9 (a27 a8 (E1 (b6 a8 (b6 a8 (b6 (a2o a8 (a9 a0j (a9 r9 a8 c7) c7)) g6))))) (c9 (a27 a8 (E1 (b6 (a9 i6 a8 c7) (b6 (a9 i6 a8 c7) (b6 a8 g6))))) (a27 a8 a8)))))))) x9))) (n9 (E1 (b6 a8 (b6 a8 (b6 a8 g6))))))))))⟩
def a6Z:SF:=(c6 (j9 3 (eC (.str "0123456789abcdefghijklmnopqrstuvwxyzABCDEFGHIJKLMNOPQRSTUVWXYZ"))) (c6 (u3 (X9 (x8 (bZ (W5 2 "list"))) (bZ (eB (y3 true) (Q3 J1 2) (eB g7 (eV 0) (eC (.int 1)))))) (n4 (eC (.bl false))) v3) (c6 (j9 4 (eC (.int 0))) (c6 (a0k 2 (b8 5) (c6 (u3 (X9 (x8 (bZ (W5 5 "str"))) (bZ (eB (y3 true) (eCB (g1 N4) (aC (eV 5) aN)) (eB g7 (eV 0) (eC (.int 0)))))) (n4 (eC (.bl false))) v3) (j9 4 (eB v5 (eV 4) (zSM L6 (eV 5) (eC (.str "."))))))) (c6 (C9 1 (m4 [(b8 6),(b8 7)]) (c6 (O7 (eV 7) (m4 [(b8 8),(b8 9),(b8 10),(b8 11)])) (c6 (j9 4 (eB v5 (eV 4) (eB n0 (eB k6 (eV 10) (eV 8)) (eB k6 (eV 11) (eV 9))))) (a0K (zN (T6 2 (oS (eB k6 (eB g7 (eV 0) (eC (.int 1))) (eV 11))) (oS (eB k6 (eB g7 (eV 0) (eC (.int 1))) (eV 9)))))  (b8 5) (u3 (bZ (eB (y3 true) (a6P (eV 5) (oS (eV 8)) (oS (eV 10))) (eB L7 (eB M9 (eV 3) (eV 6)) (eB k6 (eV 10) (eV 8))))) (n4 (eC (.bl false))) v3))))) (n4 (eB (y3 false) (eV 4) (eB n0 (eB g7 (eV 0) (eC (.int 0))) (eB g7 (eV 0) (eC (.int 1)))))))))))
def C6:List D→Option R1:=fD 12 3 a6Z
theorem t9:FnScope ["_law_box","_law_spots","_law_rows","_law_signs","_law_points","_law_row","_law_k","_law_spot","_law_x","_law_y","_law_x2","_law_y2"] ["_law_box","_law_spots","_law_rows"] (c5 N1):=⟨rfl,rfl,rfl,by decide +kernel,rfl,by decide +kernel,by decide +kernel⟩
theorem a5I{f:Addr}{fd:FuncData}(F:Fun K "_law_good" "_law_good" N1 f fd)(T:Txt K mg c)  : FnOk P w K mg base (u9 P w) 3 f fd ["_law_box","_law_spots","_law_rows"] (j3 K c C6) :=
 F.okD (k:=2) t9 fun cdv A outer s H E hr=>⟨_,(c4 (i8 (i:=3) t9.nd rfl (Or.inl rfl) G2) (c4 (w6 (PW.pt (a0W (D8 (B4 (x5 (a1Z (K:=K)) rfl T.z_isinstance X5 (a7 (pv 2) (a7 (a3B (v:=.ty "list") rfl T.z_list a1x rfl) b9))))) (a0V (w8 a0Y (x5 (u6 (K:=K)) rfl T.z_len G4 (a7 (pv 2) b9)) (i5 (h9 (K:=K)) (pv 0) b7 (fun _ _=>rfl)) (l6 _))))) (g5 (k8 a0U)) n8) (c4 (i8 (i:=4) t9.nd rfl (Or.inl rfl) b7) (c4 (D9 PassesOwn.leaving rfl (a1s (pv 2)) (g9 (i:=5) t9.nd rfl (Or.inl rfl)) (c4 (w6 (PW.pt (a0W (D8 (B4 (x5 (a1Z (K:=K)) rfl T.z_isinstance X5 (a7 (pv 5) (a7 (a3B (v:=.ty "str") rfl T.z_str a9K rfl) b9))))) (a0V (w8 a0Y (x5 Y9 rfl T.z_len G4 (a7 (pv 5) b9)) (i5 (h9 (K:=K)) (pv 0) b7 (fun _ _=>rfl)) (l6 _))))) (g5 (k8 a0U)) n8) (g5 (i8 (i:=4) t9.nd rfl (Or.inl rfl) (d9 A4 (pv 4) (G5 (K:=K) PySem.F.plainAttrs_str PySem.F.slot_str_count PySem.F.type_str_count a6N (pv 5) (a7 G2 b9))))))) (c4 (D9 PassesOwn.leaving rfl (U2 rfl T.z_enumerate (a7 (pv 1) b9)) (y8 (K:=K) (n:=2) rfl (h7 (g9 (i:=6) t9.nd rfl (Or.inl rfl)) (h7 (g9 (i:=7) t9.nd rfl (Or.inl rfl)) y4))) (c4 (G3 (pv 7) (y8 (K:=K) (n:=4) rfl (h7 (g9 (i:=8) t9.nd rfl (Or.inl rfl)) (h7 (g9 (i:=9) t9.nd rfl (Or.inl rfl)) (h7 (g9 (i:=10) t9.nd rfl (Or.inl rfl)) (h7 (g9 (i:=11) t9.nd rfl (Or.inl rfl)) y4)))))) (c4 (i8 (i:=4) t9.nd rfl (Or.inl rfl) (d9 A4 (pv 4) (d9 A3 (d9 z8 (pv 10) (pv 8)) (d9 z8 (pv 11) (pv 9))))) (g5 (D9 PassesOwn.leaving rfl (a1s (a0x (a2L (K:=K)) (pv 2) (P7 (d9 z8 (i5 (h9 (K:=K)) (pv 0) b7 (fun _ _=>rfl)) (pv 11))) (P7 (d9 z8 (i5 (h9 (K:=K)) (pv 0) b7 (fun _ _=>rfl)) (pv 9))))) (g9 (i:=5) t9.nd rfl (Or.inl rfl)) (g5 (w6 (w8 a0Y (a0x a9M (pv 5) (P7 (pv 8)) (P7 (pv 10))) (d9 a4A (i5 a5e (pv 3) (pv 6) (fun _ _=>rfl)) (d9 z8 (pv 10) (pv 8))) (l6 _)) (g5 (k8 a0U)) n8))))))) (g5 (k8 (y6 a0g (pv 4) (d9 A3 (i5 (h9 (K:=K)) (pv 0) b7 (fun _ _=>rfl)) (i5 (h9 (K:=K)) (pv 0) b7 (fun _ _=>rfl))) (l6 _))))))))),(c9 (m9 c7) (c9 (t7 (Z3 (B6 (D5 a3X)) (D6 (a9 a08 (S3 O2) (a9 i6 a8 c7)))) (n9 c7) x9) (c9 (m9 c7) (c9 (a3V (f9 (k:=12) (by decide)) (c9 (t7 (Z3 (B6 (D5 a3X)) (D6 (a9 a08 (a7s a3R.cb (b6 a8 g6)) (a9 i6 a8 c7)))) (n9 c7) x9) (m9 (a9 A5 a8 (a6O a8 c7))))) (c9 (W4 (z0 (h8 (f9 (k:=12) (by decide)) (h8 (f9 (k:=12) (by decide)) y9)) rfl) (c9 (Q7 a8 (z0 (h8 (f9 (k:=12) (by decide)) (h8 (f9 (k:=12) (by decide)) (h8 (f9 (k:=12) (by decide)) (h8 (f9 (k:=12) (by decide)) y9)))) rfl)) (c9 (m9 (a9 A5 a8 (a9 C8 (a9 z9 a8 a8) (a9 z9 a8 a8)))) (a94 (P3 (a5v (a0m (a9 z9 (a9 i6 a8 c7) a8)) (a0m (a9 z9 (a9 i6 a8 c7) a8)))) (f9 (k:=12) (by decide)) (t7 (D6 (a9 a08 (b0k a8 (a0m a8) (a0m a8)) (a9 a8W (a9 a5B a8 a8) (a9 z9 a8 a8)))) (n9 c7) x9))))) (n9 (a9 a0j a8 (a9 C8 (a9 i6 a8 c7) (a9 i6 a8 c7)))))))))⟩
def b0N:SF:=(c6 (j9 1 (eT (aC (i9 m5 (aC (i9 k7 (aC (eV 0) (aC (eC (.int 0)) aN))) aN)) (aC (i9 m5 (aC (i9 k7 (aC (eV 0) (aC (eC (.int 1)) aN))) aN)) aN)))) (c6 (a1b 2 C5 (aC (eV 1) (aC (i9 E4 (aC (eV 0) aN)) aN))) (c6 (j9 3 (eB A2 (zN (eL (aC (eC (.int 3)) (aC (eC (.int 509)) aN)))) (eB k9 (i9 k7 (aC (eV 0) (aC (eC (.int 2)) aN))) (eC (.int 2))))) (c6 (O7 (i9 J5 (aC (eV 2) (aC (i9 k7 (aC (eV 0) (aC (eC (.int 3)) aN))) (aC (eV 3) aN)))) (m4 [(b8 4),(b8 5),(b8 6)])) (c6 (C1 7 (eL (aC (zN (nCV W0 4)) (aC (zN (nCV W0 5)) aN)))) (c6 (P4 8 F7 (aC (eV 1) (aC (F8 A2 7 (eC (.int 0))) (aC (F8 A2 7 (eC (.int 1))) aN)))) (c6 (u3 (a1g (X9 (x8 (bZ (i9 C6 (aC (eV 1) (aC (eV 6) (aC (eV 8) aN)))))) (bZ (F8 (a0b true) 7 (zN (eL (aC (eV 4) (aC (eV 5) aN)))))))) (n4 (eC (.bl false))) v3) (c6 (L3 8 (eC (.str ""))) (c6 (j9 9 (eT (aC (eB g7 (eV 1) (eC (.int 1))) (aC (eB g7 (eV 1) (eC (.int 0))) aN)))) (c6 (u3 (x8 (bZ (i9 C6 (aC (eV 9) (aC (zN (eL aN)) (aC (E6 F7 (aC (eV 9) (aC (zN (eL aN)) (aC (zN (eL aN)) aN)))) aN)))))) (n4 (eC (.bl false))) v3) (U3 C6 (aC (eV 1) (aC (eV 6) (aC (E6 F7 (aC (eV 1) (aC (F8 A2 7 (eC (.int 0))) (aC (F8 A2 7 (eC (.int 1))) aN)))) aN))))))))))))))
def a7y:List D→Option R1:=fD 10 1 b0N
theorem G8:FnScope ["_law_script","_law_box","_law_pieces_here","_law_share","_law_wares","_law_places","_law_spots","_law_handed","_law_found","_law_other"] ["_law_script"] (c5 N8):=⟨rfl,rfl,rfl,by decide +kernel,rfl,by decide +kernel,by decide +kernel⟩
theorem a80{f:Addr}{fd:FuncData}(F:Fun K "law" "law" N8 f fd)(T:Txt K mg c)(G_l_sheet_side:Own P w K mg base 3 "_law_sheet_side" ["_law_cell"] (j3 K c m5))(G_l_cell_at:Own P w K mg base 3 "_law_cell_at" ["_law_script","_law_k"] (j3 K c k7))(G_l_pieces:Own P w K mg base 3 "_law_pieces" ["_law_box","_law_cells_here"] (j3 K c C5))(G_l_cells:Own P w K mg base 5 "_law_cells" ["_law_script"] (j3 K c E4))(G_l_laid:Own P w K mg base 3 "_law_laid" ["_law_pieces_here","_law_cell","_law_share"] (j3 K c J5))(G_drawn:Own P w K mg base 9 "drawn" ["box","wares","places"] (j3 K c F7))(G_l_good:Own P w K mg base 3 "_law_good" ["_law_box","_law_spots","_law_rows"] (j3 K c C6)):FnOk P w K mg base (u9 P w) 11 f fd ["_law_script"] (j3 K c a7y) :=
 F.okD (k:=10) G8 fun cdv A outer s H E hr=>⟨_,(c4 (i8 (i:=1) G8.nd rfl (Or.inl rfl) (w4 (a7 (l9 G_l_sheet_side hr (by decide) u0 (a7 (l9 G_l_cell_at hr (by decide) u0 (a7 (pv 0) (a7 b7 b9))) b9)) (a7 (l9 G_l_sheet_side hr (by decide) u0 (a7 (l9 G_l_cell_at hr (by decide) u0 (a7 (pv 0) (a7 b7 b9))) b9)) b9)))) (c4 (i8 (i:=2) G8.nd rfl (Or.inl rfl) (l9 G_l_pieces hr (by decide) u0 (a7 (pv 1) (a7 (l9 G_l_cells hr (by decide) u0 (a7 (pv 0) b9)) b9)))) (c4 (i8 (i:=3) G8.nd rfl (Or.inl rfl) (i5 (A9 (K:=K)) (B5 (a7 b7 (a7 b7 b9))) (d9 r8 (l9 G_l_cell_at hr (by decide) u0 (a7 (pv 0) (a7 b7 b9))) b7) (fun _ _=>rfl))) (c4 (G3 (l9 G_l_laid hr (by decide) u0 (a7 (pv 2) (a7 (l9 G_l_cell_at hr (by decide) u0 (a7 (pv 0) (a7 b7 b9))) (a7 (pv 3) b9)))) (y8 (K:=K) (n:=3) rfl (h7 (g9 (i:=4) G8.nd rfl (Or.inl rfl)) (h7 (g9 (i:=5) G8.nd rfl (Or.inl rfl)) (h7 (g9 (i:=6) G8.nd rfl (Or.inl rfl)) y4))))) (c4 (i8 (i:=7) G8.nd rfl (Or.inl rfl) (B5 (a7 (a1V (X6 (K:=K)) rfl T.z_list a1x (a7 (pv 4) b9)) (a7 (a1V (X6 (K:=K)) rfl T.z_list a1x (a7 (pv 5) b9)) b9)))) (c4 (i8 (i:=8) G8.nd rfl (Or.inl rfl) (l9 G_drawn hr (by decide) (XAcc.passes D0) (a7 (pv 1) (a7 (i5 (A9 (K:=K)) (pv 7) b7 (fun _ _=>rfl)) (a7 (i5 (A9 (K:=K)) (pv 7) b7 (fun _ _=>rfl)) b9))))) (c4 (w6 (PW.pt (a0W (D8 (B4 (l9 G_l_good hr (by decide) u0 (a7 (pv 1) (a7 (pv 6) (a7 (pv 8) b9)))))) (a0V (w8 (a8C (K:=K) (cl:=c) (b1b hr)) (pv 7) (B5 (a7 (pv 4) (a7 (pv 5) b9))) (l6 _))))) (g5 (k8 a0U)) n8) (c4 (J6 (G5 (K:=K) PySem.F.plainAttrs_list PySem.F.slot_list_append PySem.F.type_list_append J7 (pv 8) (a7 G2 b9))) (c4 (i8 (i:=9) G8.nd rfl (Or.inl rfl) (w4 (a7 (i5 (h9 (K:=K)) (pv 1) b7 (fun _ _=>rfl)) (a7 (i5 (h9 (K:=K)) (pv 1) b7 (fun _ _=>rfl)) b9)))) (c4 (w6 (D8 (B4 (l9 G_l_good hr (by decide) u0 (a7 (pv 9) (a7 (B5 b9) (a7 (l9 G_drawn hr (by decide) (XAcc.passes D0) (a7 (pv 9) (a7 (B5 b9) (a7 (B5 b9) b9)))) b9)))))) (g5 (k8 a0U)) n8) (g5 (k8 (l9 G_l_good hr (by decide) u0 (a7 (pv 1) (a7 (pv 6) (a7 (l9 G_drawn hr (by decide) (XAcc.passes D0) (a7 (pv 1) (a7 (i5 (A9 (K:=K)) (pv 7) b7 (fun _ _=>rfl)) (a7 (i5 (A9 (K:=K)) (pv 7) b7 (fun _ _=>rfl)) b9)))) b9)))))))))))))))),(c9 (m9 (E1 (b6 (r0 (b6 (r0 (b6 a8 (b6 c7 g6))) g6)) (b6 (r0 (b6 (r0 (b6 a8 (b6 c7 g6))) g6)) g6)))) (c9 (a6l (b6 a8 (b6 (r0 (b6 a8 g6)) g6))) (c9 (m9 (a9 K9 (P3 (M6 (b6 c7 (b6 c7 g6)))) (a9 r9 (r0 (b6 a8 (b6 c7 g6))) c7))) (c9 (Q7 (r0 (b6 a8 (b6 (r0 (b6 a8 (b6 c7 g6))) (b6 a8 g6)))) (z0 (h8 (f9 (k:=10) (by decide)) (h8 (f9 (k:=10) (by decide)) (h8 (f9 (k:=10) (by decide)) y9))) rfl)) (c9 (M7 (M6 (b6 (P3 (a5i a3S)) (b6 (P3 (a5i a3S)) g6)))) (c9 (a1B (b6 a8 (b6 (K8 K9 c7) (b6 (K8 K9 c7) g6)))) (c9 (t7 (a6A (Z3 (B6 (D5 (r0 (b6 a8 (b6 a8 (b6 a8 g6)))))) (D6 (K8 b0d (P3 (M6 (b6 a8 (b6 a8 g6)))))))) (n9 c7) x9) (c9 (Z7 c7) (c9 (m9 (E1 (b6 (a9 i6 a8 c7) (b6 (a9 i6 a8 c7) g6)))) (c9 (t7 (B6 (D5 (r0 (b6 a8 (b6 (P3 (M6 g6)) (b6 (U4 (b6 a8 (b6 (P3 (M6 g6)) (b6 (P3 (M6 g6)) g6)))) g6)))))) (n9 c7) x9) (a2U (b6 a8 (b6 a8 (b6 (U4 (b6 a8 (b6 (K8 K9 c7) (b6 (K8 K9 c7) g6)))) g6))))))))))))))⟩
end Law
namespace Law
open PySem L2 PyProof.Rows
variable {P:Program}{w:World}{K:PySem.W.Frag}{mg:Str→Option Value}{base:Heap}{c:Str→Addr}
local macro_rules|`(tactic|walk_at $s:str)=>do
 let t←`(tactic|simp(decide:=true)only[*,b0I,a72,a1G,a73,a74,a8e,a75,a76,a77,a78,a6p,a79,a7_,a8a,a8b,a97,a6q,a6r,a5o,a5p,a6s,a4L,a4M,a5q,a5r,a5s,a6t,a4N,a4O,a8c,a1H,a8f,a8d,a8g,a6u,a8h,a8i,a8j,a8k,a8m,a8l,a8n,a6v,a0a,A6,a8L,a8M,a8N,a8O,a8Q,a8P,a19,a5w,a1f,l5,Q9,a2Z,a4S,a4T,a6B,b0e,b0f,a6C,b0g,b0h,J2,a8G,a8H,a8I,a8J,noL,noLs,T6,oS,a0k,C9,unhide,a5t,a8u,a8r,a8s,a8t,a8o,a8p,a8q,a4I,Q6,a0b,n5,D4,g8,u5,L4,B1,N5,Nat.max_self,Nat.zero_max,Nat.max_zero,decide_true,Bool.or_true,Bool.true_or,Bool.or_false,List.isEmpty_nil,List.any_cons,List.any_nil,j5,List.all_cons,List.all_nil,Bool.and_self,Bool.and_true,Bool.true_and,beq_self_eq_true,a8v,a8w,a98,a99,a9_,b0a,a1e,O4,a3Y,a0l,a3Z,u3,j9,C1,P4,a1b,n4,W1,U3,W2,v3,O7,Z5,L7,XN.nm,XN.d,a8E,a8F,L3,W9,a6Q,a8U,a8V,a1z,a0K,a1c,b0j,a6I,a6J,a6E,a6F,a6G,a6H,a6D,a8K,a6L,a5A,eC,eV,eB,F8,eT,eL,zN,aN,aC,E6,i9,a1y,eOr,eCB,Q3,nCV,nB,g1,J1,W0,bZ,x8,a0G,X9,P5,a6K,m4,W3,a2O,a9U,a9V,a2P,a9W,a9X,V7,V8,look,g7,A2,a7U,Z4,W5,a2q,tyN,seqL,a7t,a7u,a7v,b0J,List.map_cons,List.map_nil,List.length_cons,List.length_nil,List.cons_append,List.nil_append,List.replicate_succ,List.replicate_zero,List.getElem?_cons_zero,List.getElem?_cons_succ,List.set_cons_zero,List.set_cons_succ,Nat.reduceAdd,Nat.reduceSub,if_true,if_false,Bool.not_true,Bool.not_false,Bool.not_not,Nat.zero_add,Bool.false_eq_true,decide_eq_true_eq,Bool.not_eq_true',decide_eq_false_iff_not,Option.map_some,Option.map_none,ite_self])
 return if s.getString=="eh" then t.raw else t.raw.modifyArg 4 (·.modifyArg 1 fun l=>l.setArg 0 l[2])
abbrev T3:=Int×Int×Bool
abbrev T4:=Int×Int×Int×Int
def O5(q:T3×T3):Bool:=q.2.2.2 && !q.1.2.2
def j6(q:T3×T3):T4:=if q.2.2.2=true then(q.2.1,q.2.2.1,q.2.1+q.1.2.1,q.2.2.1+q.1.1)else(q.2.1,q.2.2.1,q.2.1+q.1.1,q.2.2.1+q.1.2.1)
def ap(s t:T4):Bool:=(decide (s.2.2.1≤t.1) || decide (t.2.2.1≤s.1)) || (decide (s.2.2.2≤t.2.1) || decide (t.2.2.2≤s.2.1))
theorem U7(s t:T4):ap s t=ap t s:=by
 unfold ap;rw[Bool.or_comm (decide (s.2.2.1≤t.1)),Bool.or_comm (decide (s.2.2.2≤t.2.1))]
theorem S0(s t:T4):ap s t=true↔((s.2.2.1≤t.1∨t.2.2.1≤s.1)∨(s.2.2.2≤t.2.1∨t.2.2.2≤s.2.1)):=by
 unfold ap;simp only[Bool.or_eq_true,decide_eq_true_eq]
def ins(bx:Int×Int)(s:T4):Bool:=decide (0≤s.1) && (decide (0≤s.2.1) && (decide (s.2.2.1≤bx.1) && decide (s.2.2.2≤bx.2)))
theorem a81(bx:Int×Int)(s:T4):ins bx s=true↔(0≤s.1∧0≤s.2.1∧s.2.2.1≤bx.1∧s.2.2.2≤bx.2):=by
 unfold ins;simp only[Bool.and_eq_true,decide_eq_true_eq]
structure Good(bx:Int×Int)(l:List (T3×T3)):Prop where
 one:∀q∈l,O5 q=false∧ins bx (j6 q)=true
 two:l.Pairwise fun p q=>ap (j6 p) (j6 q)=true
theorem Good.nil{bx:Int×Int}:Good bx []:=⟨fun _ h=>absurd h List.not_mem_nil,.nil⟩
theorem Good.snoc{bx:Int×Int}{l:List (T3×T3)}{q:T3×T3}(h:Good bx l)(h1:O5 q=false)(h2:ins bx (j6 q)=true)(h3:∀p∈l,ap (j6 p) (j6 q)=true):Good bx (l++[q]):=by
 refine⟨fun p m=>?_,List.pairwise_append.mpr ⟨h.two,List.pairwise_singleton _ _,fun p m r mr=>?_⟩⟩
 ·rcases List.mem_append.mp m with m | m
  ·exact h.one p m
  ·rw[List.mem_singleton.mp m];exact⟨h1,h2⟩
 ·rw[List.mem_singleton.mp mr];exact h3 p m
theorem Good.left{bx:Int×Int}{l m:List (T3×T3)}(h:Good bx (l++m)):Good bx l :=
 ⟨fun q hq=>h.one q (List.mem_append_left _ hq),(List.pairwise_append.mp h.two).1⟩
theorem Good.last{bx:Int×Int}{l m:List (T3×T3)}{q:T3×T3}(h:Good bx (l++q::m)):O5 q=false∧ins bx (j6 q)=true∧∀p∈l,ap (j6 p) (j6 q)=true :=
 ⟨(h.one q (List.mem_append_right _ List.mem_cons_self)).1,(h.one q (List.mem_append_right _ List.mem_cons_self)).2,fun p hp=>(List.pairwise_append.mp h.two).2.2 p hp q List.mem_cons_self⟩
def Flt(bx:Int×Int)(pre:List (T3×T3))(q:T3×T3)(turn out:Prop)(over:Nat→Prop):Prop :=
 (O5 q=true∧turn)∨(O5 q=false∧ins bx (j6 q)=false∧out)∨(O5 q=false∧ins bx (j6 q)=true∧∃p1 o p2,pre=p1++o::p2∧(∀p∈p1,ap (j6 p) (j6 q)=true)∧ap (j6 o) (j6 q)=false∧over p1.length)
theorem Flt.not{bx:Int×Int}{pre post:List (T3×T3)}{q:T3×T3}{a b:Prop}{c:Nat→Prop}(h:Flt bx pre q a b c)(g:Good bx (pre++q::post)):False:=by
 obtain⟨g1,g2,g3⟩:=g.last
 rcases h with⟨h,_⟩ | ⟨_,h,_⟩ | ⟨_,_,p1,o,p2,rfl,_,h,_⟩
 ·rw[g1]at h;cases h
 ·rw[g2]at h;cases h
 ·rw[g3 o (List.mem_append_right _ List.mem_cons_self)]at h;cases h
def Y0(bx:Int×Int)(s:T4):Prop:=0≤s.1∧s.1<s.2.2.1∧s.2.2.1≤bx.1∧0≤s.2.1∧s.2.1<s.2.2.2∧s.2.2.2≤bx.2
def has(s:T4)(u v:Int):Prop:=s.1≤u∧u<s.2.2.1∧s.2.1≤v∧v<s.2.2.2
structure Cut(bx:Int×Int)(l:List T4):Prop where
 one:∀s∈l,Y0 bx s
 two:l.Pairwise fun s t=>ap s t=true
 all:∀u v,0≤u→u<bx.1→0≤v→v<bx.2→∃s∈l,has s u v
theorem Cut.first{bx:Int×Int}(h1:1≤bx.1)(h2:1≤bx.2):Cut bx [(0,0,bx.1,bx.2)] :=
 ⟨fun s m=>by rw[List.mem_singleton.mp m];exact⟨Int.le_refl _,by show(0:Int)<bx.1;omega,Int.le_refl _,Int.le_refl _,by show(0:Int)<bx.2;omega,Int.le_refl _⟩,List.pairwise_singleton _ _,fun u v a b c d=>⟨_,List.mem_singleton.mpr rfl,a,b,c,d⟩⟩
structure Halves(s a b:T4):Prop where
 inA:∀bx,Y0 bx s→Y0 bx a
 inB:∀bx,Y0 bx s→Y0 bx b
 ab:ap a b=true
 apA:∀t,ap s t=true→ap a t=true
 apB:∀t,ap s t=true→ap b t=true
 all:∀u v,has s u v→has a u v∨has b u v
theorem a60{x y x2 y2 c:Int}(h1:x<c)(h2:c<x2):Halves (x,y,x2,y2) (x,y,c,y2) (c,y,x2,y2):=by
 refine⟨fun bx h=>?_,fun bx h=>?_,?_,fun t h=>?_,fun t h=>?_,fun u v h=>?_⟩
 ·simp only[Y0]at h ⊢;omega
 ·simp only[Y0]at h ⊢;omega
 ·rw[S0];exact .inl (.inl (Int.le_refl _))
 ·rw[S0]at h ⊢;simp only at h ⊢;omega
 ·rw[S0]at h ⊢;simp only at h ⊢;omega
 ·simp only[has]at h ⊢;omega
theorem a61{x y x2 y2 c:Int}(h1:y<c)(h2:c<y2):Halves (x,y,x2,y2) (x,y,x2,c) (x,c,x2,y2):=by
 refine⟨fun bx h=>?_,fun bx h=>?_,?_,fun t h=>?_,fun t h=>?_,fun u v h=>?_⟩
 ·simp only[Y0]at h ⊢;omega
 ·simp only[Y0]at h ⊢;omega
 ·rw[S0];exact .inr (.inl (Int.le_refl _))
 ·rw[S0]at h ⊢;simp only at h ⊢;omega
 ·rw[S0]at h ⊢;simp only at h ⊢;omega
 ·simp only[has]at h ⊢;omega
theorem Cut.step{bx:Int×Int}{l:List T4}{n:Nat}{s a b:T4}(h:Cut bx l)(e:l[n]? = some s)(H:Halves s a b):Cut bx (l.set n a++[b]):=by
 obtain⟨hn,e⟩:=List.getElem?_eq_some_iff.mp e
 obtain⟨p,r,rfl,rfl⟩:∃p r,l=p++s::r∧p.length=n:=⟨l.take n,l.drop (n+1),by
  rw[← e,List.getElem_cons_drop,List.take_append_drop],by rw[List.length_take];omega⟩
 rw[List.set_append_right _ _ (Nat.le_refl _),Nat.sub_self,List.set_cons_zero]
 have hs:=h.one s (List.mem_append_right _ List.mem_cons_self)
 have q:=List.pairwise_append.mp h.two
 have q2:=List.pairwise_cons.mp q.2.1
 have ps:∀t∈p,ap s t=true:=fun t m=>by rw[U7];exact q.2.2 t m s List.mem_cons_self
 refine⟨fun t m=>?_,?_,fun u v h1 h2 h3 h4=>?_⟩
 ·rcases List.mem_append.mp m with m | m
  ·rcases List.mem_append.mp m with m | m
   ·exact h.one t (List.mem_append_left _ m)
   ·rcases List.mem_cons.mp m with rfl | m
    ·exact H.inA bx hs
    ·exact h.one t (List.mem_append_right _ (List.mem_cons_of_mem _ m))
  ·rw[List.mem_singleton.mp m];exact H.inB bx hs
 ·refine List.pairwise_append.mpr ⟨List.pairwise_append.mpr ⟨q.1,List.pairwise_cons.mpr ⟨fun t m=>H.apA t (q2.1 t m),q2.2⟩,fun t m t' m'=>?_⟩,List.pairwise_singleton _ _,fun t m t' m'=>?_⟩
  ·rcases List.mem_cons.mp m' with rfl | m'
   ·rw[U7];exact H.apA t (ps t m)
   ·exact q.2.2 t m t' (List.mem_cons_of_mem _ m')
  ·rw[List.mem_singleton.mp m',U7]
   rcases List.mem_append.mp m with m | m
   ·exact H.apB t (ps t m)
   ·rcases List.mem_cons.mp m with rfl | m
    ·rw[U7];exact H.ab
    ·exact H.apB t (q2.1 t m)
 ·obtain⟨t,m,ht⟩:=h.all u v h1 h2 h3 h4
  rcases List.mem_append.mp m with m | m
  ·exact⟨t,List.mem_append_left _ (List.mem_append_left _ m),ht⟩
  ·rcases List.mem_cons.mp m with rfl | m
   ·rcases H.all u v ht with z | z
    ·exact⟨a,List.mem_append_left _ (List.mem_append_right _ List.mem_cons_self),z⟩
    ·exact⟨b,List.mem_append_right _ (List.mem_singleton.mpr rfl),z⟩
   ·exact⟨t,List.mem_append_left _ (List.mem_append_right _ (List.mem_cons_of_mem _ m)),ht⟩
structure Laid(pre:List T4)(L:List (T3×T3)):Prop where
 one:∀q∈L,O5 q=false∧j6 q∈pre
 two:L.Pairwise fun p q=>ap (j6 p) (j6 q)=true
 len:L.length≤pre.length
 all:L.length=pre.length→∀s∈pre,∃q∈L,j6 q=s
theorem Laid.nil:Laid [] []:=⟨fun _ h=>absurd h List.not_mem_nil,.nil,Nat.le_refl _,fun _ _ h=>absurd h List.not_mem_nil⟩
theorem Laid.skip{pre:List T4}{L:List (T3×T3)}(s:T4)(h:Laid pre L):Laid (pre++[s]) L :=
 ⟨fun q m=>⟨(h.one q m).1,List.mem_append_left _ (h.one q m).2⟩,h.two,by have:=h.len;rw[List.length_append];omega,fun e=>by have:=h.len;rw[List.length_append,List.length_singleton]at e;omega⟩
theorem Laid.put{pre:List T4}{L:List (T3×T3)}{q:T3×T3}(n:Nat)(h:Laid pre L)(hn:n≤L.length)(h1:O5 q=false)(h2:∀s∈pre,ap s (j6 q)=true):Laid (pre++[j6 q]) (L.take n++q::L.drop n):=by
 have hm:∀p,p∈L.take n++q::L.drop n↔p=q∨p∈L:=fun p=>by
  rw[List.mem_append,List.mem_cons]
  constructor
  ·rintro(m | m | m)
   ·exact .inr (List.mem_of_mem_take m)
   ·exact .inl m
   ·exact .inr (List.mem_of_mem_drop m)
  ·rintro(m | m)
   ·exact .inr (.inl m)
   ·rw[← List.take_append_drop n L,List.mem_append]at m
    rcases m with m | m
    ·exact .inl m
    ·exact .inr (.inr m)
 have hl:(L.take n++q::L.drop n).length=L.length+1:=by rw[List.length_append,List.length_cons,List.length_take,List.length_drop];omega
 have w:=h.two
 rw[← List.take_append_drop n L]at w
 obtain⟨w1,w2,w3⟩:=List.pairwise_append.mp w
 have aq:∀p∈L,ap (j6 p) (j6 q)=true:=fun p m=>h2 _ (h.one p m).2
 refine⟨fun p m=>?_,List.pairwise_append.mpr ⟨w1,List.pairwise_cons.mpr ⟨fun p m=>?_,w2⟩,fun p m r mr=>?_⟩,?_,fun e s m=>?_⟩
 ·rcases(hm p).mp m with rfl | m
  ·exact⟨h1,List.mem_append_right _ (List.mem_singleton.mpr rfl)⟩
  ·exact⟨(h.one p m).1,List.mem_append_left _ (h.one p m).2⟩
 ·rw[U7];exact aq p (List.mem_of_mem_drop m)
 ·rcases List.mem_cons.mp mr with rfl | mr
  ·exact aq p (List.mem_of_mem_take m)
  ·exact w3 p m r mr
 ·rw[hl,List.length_append,List.length_singleton];have:=h.len;omega
 ·rw[hl,List.length_append,List.length_singleton]at e
  rcases List.mem_append.mp m with m | m
  ·obtain⟨p,mp,e2⟩:=h.all (by omega) s m
   exact⟨p,(hm p).mpr (.inr mp),e2⟩
  ·exact⟨q,(hm q).mpr (.inl rfl),(List.mem_singleton.mp m).symm⟩
theorem a82{bx:Int×Int}{s:T4}(h:Y0 bx s):ins bx s=true:=by rw[a81];unfold Y0 at h;omega
theorem Laid.good{bx:Int×Int}{l:List T4}{L:List (T3×T3)}(h:Laid l L)(c:Cut bx l):Good bx L :=
 ⟨fun q m=>⟨(h.one q m).1,a82 (c.one _ (h.one q m).2)⟩,h.two⟩
abbrev t3(p:T3):D:=.tup [.int p.1,.int p.2.1,.bl p.2.2]
abbrev t4(p:T4):D:=.tup [.int p.1,.int p.2.1,.int p.2.2.1,.int p.2.2.2]
abbrev t2(b:Int×Int):D:=.tup [.int b.1,.int b.2]
abbrev wD(q:T3×T3):D:=t3 q.1
abbrev pD(q:T3×T3):D:=t3 q.2
abbrev sD(q:T3×T3):D:=t4 (j6 q)
theorem a37(q:T3×T3)(hb:O5 q=false):u7 [t3 q.1,t3 q.2]=some (.ret (t4 (j6 q))):=by
 obtain⟨⟨w,h,t⟩,⟨x,y,l⟩⟩:=q
 unfold u7 a2d L8 a1k j6
 unfold O5 at hb
 cases l<;>cases t<;>first | (simp only[Bool.and_true,Bool.and_false,Bool.not_true,Bool.not_false,Bool.true_and,Bool.false_and];walk_at "ev";done) | simp at hb
theorem a62(s t:T4):N2 [t4 s,t4 t]=some (.ret (.bl (ap s t))):=by
 obtain⟨a,b,x,y⟩:=s
 obtain⟨a',b',x',y'⟩:=t
 unfold N2 a36 ap
 walk_at "ev"
 by_cases h1:x≤a' <;>by_cases h2:x'≤a<;>by_cases h3:y≤b' <;>by_cases h4:y'≤b<;>simp[h1,h2,h3,h4,a1G,a1H]
theorem a83(bx:Int×Int)(s:T4):B9 [t2 bx,t4 s]=some (.ret (.bl (ins bx s))):=by
 obtain⟨a,b,x,y⟩:=s
 obtain⟨u,v⟩:=bx
 unfold B9 a2e ins
 walk_at "ev"
 by_cases h1:0≤a<;>by_cases h2:0≤b<;>by_cases h3:x≤u<;>by_cases h4:y≤v<;>simp[h1,h2,h3,h4,a1G,a1H]
abbrev G9:SF:=(u3 (x8 (bZ (i9 N2 (aC (eV 8) (aC (eV 6) aN))))) (n4 (eT (aC (eC (.str "over")) (aC (eV 7) (aC (eV 4) aN))))) v3)
theorem a63(bx:Int×Int)(A B:D)(ds:List (T3×T3))(q:T3×T3)(k:Nat)(o7 o8:Option D) :
  (∃p1 o p2,ds=p1++o::p2∧(∀p∈p1,ap (j6 p) (j6 q)=true)∧ap (j6 o) (j6 q)=false∧m7 (m4 [(b8 7),(b8 8)]) G9 (G6 0 (ds.map sD)) [.fz (t2 bx),.fz A,.fz B,.hd (ds.map sD),.fz (.int k),.fz (t3 q.2),.fz (t4 (j6 q)),un o7,un o8]=some (.rt (.tup [.str "over",.int p1.length,.int k])))
  ∨ ((∀p∈ds,ap (j6 p) (j6 q)=true)∧∃o7' o8',m7 (m4 [(b8 7),(b8 8)]) G9 (G6 0 (ds.map sD)) [.fz (t2 bx),.fz A,.fz B,.hd (ds.map sD),.fz (.int k),.fz (t3 q.2),.fz (t4 (j6 q)),un o7,un o8]=some (.nx [.fz (t2 bx),.fz A,.fz B,.hd (ds.map sD),.fz (.int k),.fz (t3 q.2),.fz (t4 (j6 q)),un o7',un o8'])):=by
 rw[U5]
 generalize hG:Sl.hd (ds.map sD)=G
 have hG':N6 G=false:=by rw[← hG];rfl
 rcases a28 (b:=m4 [(b8 7),(b8 8)]) (body:=G9) (fun k x=>.tup [.int k,sD x]) (fun pre e=>(∀p∈pre,ap (j6 p) (j6 q)=true)∧∃o7 o8,e=[.fz (t2 bx),.fz A,.fz B,G,.fz (.int k),.fz (t3 q.2),.fz (t4 (j6 q)),un o7,un o8]) (fun pre x r=>ap (j6 x) (j6 q)=false∧r=.rt (.tup [.str "over",.int pre.length,.int k])) ds [.fz (t2 bx),.fz A,.fz B,G,.fz (.int k),.fz (t3 q.2),.fz (t4 (j6 q)),un o7,un o8] ⟨fun _ h=>absurd h List.not_mem_nil,_,_,rfl⟩ (by
   rintro pre x post e hl ⟨hp,o7,o8,rfl⟩
   have h:=a62 (j6 x) (j6 q)
   clear hG hG'
   cases hap:ap (j6 x) (j6 q)with
   | false =>
    rw[hap]at h
    refine .inl ⟨.rt (.tup [.str "over",.int pre.length,.int k]),rfl,?_,rfl,rfl⟩
    clear hl hp hap
    unfold G9
    walk_at "eh"
   | true =>
    rw[hap]at h
    have hp':∀p∈pre++[x],ap (j6 p) (j6 q)=true:=fun p m=>by
     rcases List.mem_append.mp m with m | m
     ·exact hp p m
     ·rw[List.mem_singleton.mp m];exact hap
    suffices hh:∃e2,v7 (O8 (m4 [(b8 7),(b8 8)] (.tup [.int pre.length,sD x]) [.fz (t2 bx),.fz A,.fz B,G,.fz (.int k),.fz (t3 q.2),.fz (t4 (j6 q)),un o7,un o8]) G9)=some (.nx e2)∧∃o7 o8,e2=[.fz (t2 bx),.fz A,.fz B,G,.fz (.int k),.fz (t3 q.2),.fz (t4 (j6 q)),un o7,un o8] by
     obtain⟨e2,h1,h2⟩:=hh
     exact .inr ⟨e2,h1,hp',h2⟩
    clear hl hp hap hp'
    unfold G9
    walk_at "eh"
    exact⟨_,rfl,some _,some _,rfl⟩)with⟨p1,o,p2,r,h1,_,h3,⟨h4,rfl⟩,e',h6,_⟩ | ⟨e',h1,h2,o7',o8',rfl⟩
 ·exact .inl ⟨p1,o,p2,h1,h6,h4,h3⟩
 ·exact .inr ⟨h2,o7',o8',h1⟩
theorem a64(bx:Int×Int)(L:List (T3×T3))(hl:L.length≤1000):∃v,F6 [t2 bx,.lst (L.map wD),.lst (L.map pD)]=some (.ret v)∧((v=.non∧Good bx L)∨∃pre q post,L=pre++q::post∧Good bx pre∧Flt bx pre q (v=.tup [.str "turn",.int pre.length]) (v=.tup [.str "out",.int pre.length]) (fun i=>v=.tup [.str "over",.int i,.int pre.length])):=by
 have key:=a28 (b:=m4 [(b8 4),(b8 5)]) (body:=(c6 (u3 (a0G (bZ (eB g7 (eV 5) (eC (.int 2)))) (x8 (bZ (eB g7 (F8 A2 1 (eV 4)) (eC (.int 2)))))) (n4 (eT (aC (eC (.str "turn")) (aC (eV 4) aN)))) v3) (c6 (P4 6 u7 (aC (F8 A2 1 (eV 4)) (aC (eV 5) aN))) (c6 (u3 (x8 (bZ (i9 B9 (aC (eV 0) (aC (eV 6) aN))))) (n4 (eT (aC (eC (.str "out")) (aC (eV 4) aN)))) v3) (c6 (C9 3 (m4 [(b8 7),(b8 8)]) G9) (L3 3 (eV 6)))))))
  (fun k q=>.tup [.int k,pD q])
  (fun pre e=>Good bx pre∧∃o4 o5 o6 o7 o8,e=[.fz (t2 bx),.fz (.lst (L.map wD)),.fz (.lst (L.map pD)),.ow (pre.map sD),un o4,un o5,un o6,un o7,un o8])
  (fun pre q r=>∃v,r=.rt v∧Flt bx pre q (v=.tup [.str "turn",.int pre.length]) (v=.tup [.str "out",.int pre.length]) (fun i=>v=.tup [.str "over",.int i,.int pre.length]))
  L [.fz (t2 bx),.fz (.lst (L.map wD)),.fz (.lst (L.map pD)),.ow [],.no,.no,.no,.no,.no] ⟨.nil,none,none,none,none,none,rfl⟩ (by
   rintro pre q post e hq ⟨g,o4,o5,o6,o7,o8,rfl⟩
   have hat:atI (L.map wD) (pre.length:Int)=some (t3 q.1):=by rw[hq];exact a6M wD
   have hs:(pre.map sD).length<sizeLine:=by
    rw[hq,List.length_append]at hl
    rw[List.length_map];show _<2 ^ 24;omega
   clear hq hl
   cases hb:O5 q with
   | true =>
    refine .inl ⟨.rt (.tup [.str "turn",.int pre.length]),rfl,?_,_,rfl,.inl ⟨hb,rfl⟩⟩
    have hb1:q.2.2.2=true:=by unfold O5 at hb;simp at hb;exact hb.1
    have hb2:q.1.2.2=false:=by unfold O5 at hb;simp at hb;exact hb.2
    generalize pre.map sD=acc at *
    generalize L.map wD=LW at *
    generalize L.map pD=LP at *
    clear hb g
    walk_at "eh"
   | false =>
    have h1:=a37 q hb
    have h2:=a83 bx (j6 q)
    have hlt:(q.2.2.2=false)∨(q.2.2.2=true∧q.1.2.2=true):=by
     unfold O5 at hb
     cases h:q.2.2.2
     ·exact .inl rfl
     ·rw[h]at hb;simp at hb;exact .inr ⟨rfl,hb⟩
    cases hi:ins bx (j6 q)with
    | false =>
     rw[hi]at h2
     refine .inl ⟨.rt (.tup [.str "out",.int pre.length]),rfl,?_,_,rfl,.inr (.inl ⟨hb,hi,rfl⟩)⟩
     generalize pre.map sD=acc at *
     generalize L.map wD=LW at *
     generalize L.map pD=LP at *
     clear hb g hi
     rcases hlt with hlt | ⟨hlt,hlt2⟩<;>walk_at "eh"
    | true =>
     rw[hi]at h2
     rcases a63 bx (.lst (L.map wD)) (.lst (L.map pD)) pre q pre.length o7 o8 with⟨p1,o,p2,i1,i2,i3,i4⟩ | ⟨i1,o7',o8',i4⟩
     ·refine .inl ⟨.rt (.tup [.str "over",.int p1.length,.int pre.length]),rfl,?_,_,rfl,.inr (.inr ⟨hb,hi,p1,o,p2,i1,i2,i3,rfl⟩)⟩
      generalize pre.map sD=acc at *
      generalize L.map wD=LW at *
      generalize L.map pD=LP at *
      clear hb g hi i1 i2 i3
      rcases hlt with hlt | ⟨hlt,hlt2⟩<;>walk_at "eh"
     ·suffices hh:∃e2,v7 (O8 (m4 [(b8 4),(b8 5)] (.tup [.int pre.length,pD q]) [.fz (t2 bx),.fz (.lst (L.map wD)),.fz (.lst (L.map pD)),.ow (pre.map sD),un o4,un o5,un o6,un o7,un o8]) (c6 (u3 (a0G (bZ (eB g7 (eV 5) (eC (.int 2)))) (x8 (bZ (eB g7 (F8 A2 1 (eV 4)) (eC (.int 2)))))) (n4 (eT (aC (eC (.str "turn")) (aC (eV 4) aN)))) v3) (c6 (P4 6 u7 (aC (F8 A2 1 (eV 4)) (aC (eV 5) aN))) (c6 (u3 (x8 (bZ (i9 B9 (aC (eV 0) (aC (eV 6) aN))))) (n4 (eT (aC (eC (.str "out")) (aC (eV 4) aN)))) v3) (c6 (C9 3 (m4 [(b8 7),(b8 8)]) G9) (L3 3 (eV 6)))))))=some (.nx e2)∧∃o4 o5 o6 o7 o8,e2=[.fz (t2 bx),.fz (.lst (L.map wD)),.fz (.lst (L.map pD)),.ow ((pre++[q]).map sD),un o4,un o5,un o6,un o7,un o8] by
       obtain⟨e2,j1,j2⟩:=hh
       exact .inr ⟨e2,j1,g.snoc hb hi i1,j2⟩
      rw[List.map_append]
      generalize pre.map sD=acc at *
      generalize L.map wD=LW at *
      generalize L.map pD=LP at *
      clear hb g hi i1
      rcases hlt with hlt | ⟨hlt,hlt2⟩<;> (walk_at "eh";exact⟨_,rfl,some _,some _,some _,_,_,rfl⟩))
 have l1:((L.map pD).length:Int)=L.length:=by rw[List.length_map]
 have l2:((L.map wD).length:Int)=L.length:=by rw[List.length_map]
 rw[← U5]at key
 rcases key with⟨pre,q,post,r,k1,_,k3,⟨v,rfl,k4⟩,e',k5,_⟩ | ⟨e',k1,k2,o4,o5,o6,o7,o8,rfl⟩
 ·refine⟨v,?_,.inr ⟨pre,q,post,k1,k5,k4⟩⟩
  clear k4 k5 k1 hl
  unfold G9 at k3
  generalize L.map wD=LW at *
  generalize L.map pD=LP at *
  unfold F6 a1L
  walk_at "eh"
 ·refine⟨.non,?_,.inl ⟨rfl,k2⟩⟩
  clear k2 hl
  unfold G9 at k1
  generalize L.map sD=LS at *
  generalize L.map wD=LW at *
  generalize L.map pD=LP at *
  unfold F6 a1L
  walk_at "eh"
theorem a42(bx:Int×Int)(L:List (T3×T3))(hl:L.length≤1000)(g:Good bx L):F6 [t2 bx,.lst (L.map wD),.lst (L.map pD)]=some (.ret .non):=by
 obtain⟨v,h1,⟨rfl,_⟩ | ⟨pre,q,post,rfl,_,h⟩⟩:=a64 bx L hl
 ·exact h1
 ·exact(h.not g).elim
theorem a65(L:List (T3×T3))(hl:L.length≤1000)(hb:∀q∈L,O5 q=false):y0 [.lst (L.map wD),.lst (L.map pD)]=some (.own (L.map sD)):=by
 have key:∀eo,t5 (m4 [b8 0,b8 1]) P5 (E6 u7 (aC (eV 0) (aC (eV 1) aN))) [.no,.no] eo (L.map fun q=>D.tup [wD q,pD q]) []=some (.ok (L.map sD) eo):=fun eo=>by
  have:=W8 (b:=m4 [b8 0,b8 1]) (c:=P5) (el:=E6 u7 (aC (eV 0) (aC (eV 1) aN))) (ec:=[.no,.no]) (eo:=eo) (fun q:T3×T3=>D.tup [wD q,pD q]) sD (fun _=>true) L [] (by show 0+_≤2 ^ 24;omega) fun q m=>⟨[.fz (t3 q.1),.fz (t3 q.2)],[.fz (t3 q.1),.fz (t3 q.2)],rfl,rfl,fun _=>by
   have h:=a37 q (hb q m)
   clear hb m
   walk_at "eh";exact⟨_,rfl⟩⟩
  rw[this,List.filter_eq_self.mpr (fun _ _=>rfl),List.nil_append]
 have hz:=a2a wD pD L
 unfold y0 a1l
 clear hl hb
 walk_at "eh"
theorem K2{ns:List Int}{k:Int}(hk:0≤k):k7 [.scr ns,.int k]=some (.ret (.int (B7 ns k))):=by
 rw[← a8y hk]
 unfold k7 a0u
 walk_at "ev"
 split
 ·cases atI ns k<;>rfl
 ·rfl
theorem a84{rg:List D→Option (Int×Nat)}{f:AF}{b:GF}{body:SF}{e e1:DE}{ds:List D}{lo:Int}{n:Nat}(h:f e=some (.ok ds e1))(hr:rg ds=some (lo,n)):a1c rg f b body e=m7 b body (A0 lo n) e1:=by
 unfold a1c;rw[h,a2P,hr]
theorem b0m(l:List T3):u5 (l.map t3)=true:=a3u fun a _=>rfl
theorem b0n(l:List T3):B1 (l.map t3)≤2:=a5y fun a _=>by simp[L4,B1]
abbrev ch(c:Nat):D:=.str ⟨#[c]⟩
def v8(w h:Nat)(f:Nat→Nat→Nat):List (List D):=(List.range h).map fun y=>(List.range w).map fun x=>ch (f x y)
theorem a0v{α:Type}(n i:Nat)(g:Nat→α)(v:α):((List.range n).map g).set i v=(List.range n).map fun j=>if j=i then v else g j:=by
 apply List.ext_getElem?
 intro j
 rw[List.getElem?_set,List.getElem?_map,List.getElem?_map,List.length_map,List.length_range]
 by_cases z:j<n
 ·rw[List.getElem?_range z]
  by_cases e:i=j
  ·subst e
   rw[if_pos rfl,if_pos z]
   show _=some (if i=i then v else g i)
   rw[if_pos rfl]
  ·rw[if_neg e]
   show some (g j)=some (if j=i then v else g j)
   rw[if_neg (Ne.symm e)]
 ·rw[List.getElem?_eq_none (by rw[List.length_range];omega)]
  by_cases e:i=j
  ·subst e;rw[if_pos rfl,if_neg z];rfl
  ·rw[if_neg e];rfl
def upf(f:Nat→Nat→Nat)(x y c:Nat):Nat→Nat→Nat:=fun u v=>if u=x∧v=y then c else f u v
theorem a66(w h:Nat)(f:Nat→Nat→Nat)(x y c:Nat):(v8 w h f).set y (((List.range w).map fun u=>ch (f u y)).set x (ch c))=v8 w h (upf f x y c):=by
 unfold v8
 rw[a0v,a0v]
 refine List.map_congr_left fun v _=>?_
 by_cases e:v=y
 ·subst e
  rw[if_pos rfl]
  refine List.map_congr_left fun u _=>?_
  unfold upf
  by_cases d:u=x
  ·rw[if_pos d,if_pos ⟨d,rfl⟩]
  ·rw[if_neg d,if_neg (fun z=>d z.1)]
 ·rw[if_neg e]
  refine List.map_congr_left fun u _=>?_
  unfold upf
  rw[if_neg (fun z=>e z.2)]
theorem a67(w h:Nat)(f:Nat→Nat→Nat)(y:Nat)(hy:y<h):(v8 w h f)[y]? = some ((List.range w).map fun u=>ch (f u y)):=by
 unfold v8
 rw[List.getElem?_map,List.getElem?_range hy]
 rfl
theorem a68(w h:Nat)(f:Nat→Nat→Nat):(v8 w h f).length=h:=by unfold v8;rw[List.length_map,List.length_range]
theorem a85(w h:Nat)(f:Nat→Nat→Nat)(x y c:Nat)(hx:x<w)(hy:y<h)(d0 d1 d2 d3 d5 d6:D):a4W 4 7 8 (ch c) (v8 w h f) [.fz d0,.fz d1,.fz d2,.fz d3,.no,.fz d5,.fz d6,.fz (.int (y:Int)),.fz (.int (x:Int))]=some (v8 w h (upf f x y c),[.fz d0,.fz d1,.fz d2,.fz d3,.no,.fz d5,.fz d6,.fz (.int (y:Int)),.fz (.int (x:Int))]):=by
 have hx2:K4 ((List.range w).map fun u=>ch (f u y)).length (x:Int)=some x:=by rw[List.length_map,List.length_range];exact a0q hx
 have hy2:K4 (v8 w h f).length (y:Int)=some y:=by rw[a68];exact a0q hy
 unfold a4W
 simp only[List.getElem?_cons_succ,List.getElem?_cons_zero]
 rw[hy2]
 dsimp only
 rw[a67 w h f y hy]
 dsimp only
 rw[hx2]
 dsimp only
 rw[a66]
abbrev sgE(S:Str):ZF:=(eB M9 (eC (.str S)) (eV 5))
abbrev wP(S:Str):WF:=a3a 4 7 8 (sgE S)
def u4(S:Str)(k:Nat):Nat:=(S.cps.toList[k]?).getD 0
theorem b0o(S:Str)(hS:S.length≤100)(k:Nat)(hk:k<S.length)(s0 s1 s2 s3 s4 s6 s7 s8:Sl):sgE S [s0,s1,s2,s3,s4,.fz (.int (k:Int)),s6,s7,s8]=some (.ok (ch (u4 S k)) [s0,s1,s2,s3,s4,.fz (.int (k:Int)),s6,s7,s8]):=by
 have hk':k<S.cps.toList.length:=by rw[Array.length_toList];exact hk
 have h1:M9 (.str S) (.int (k:Int))=some (ch (u4 S k)):=by
  show(if S.length≤sizeLine then Option.map (fun c=>D.str { cps := #[c] }) (atI S.cps.toList (k:Int))else none)=_
  rw[if_pos (by show _≤2 ^ 24;omega),X0 (List.getElem?_eq_getElem hk')]
  unfold u4
  rw[List.getElem?_eq_getElem hk']
  rfl
 show X7 (M9 (.str S) (.int (k:Int))) _=_
 rw[h1]
 rfl
theorem b0O(S:Str)(hS:S.length≤100)(k:Nat)(hk:k<S.length)(w h:Nat)(f:Nat→Nat→Nat)(x y:Nat)(hx:x<w)(hy:y<h)(d0 d1 d2 d3 d6:D):wP S (v8 w h f) [.fz d0,.fz d1,.fz d2,.fz d3,.no,.fz (.int (k:Int)),.fz d6,.fz (.int (y:Int)),.fz (.int (x:Int))]=some (v8 w h (upf f x y (u4 S k)),[.fz d0,.fz d1,.fz d2,.fz d3,.no,.fz (.int (k:Int)),.fz d6,.fz (.int (y:Int)),.fz (.int (x:Int))]):=by
 unfold wP a3a
 rw[b0o S hS k hk]
 dsimp only
 refine(if_pos (by rfl)).trans ?_
 exact a85 w h f x y _ hx hy d0 d1 d2 d3 _ d6
theorem a38(a n:Nat):A0 (a:Int) n=(List.range' a n).map fun(x:Nat)=>D.int (x:Int):=by
 unfold A0
 rw[List.range'_eq_map_range,List.map_map]
 refine List.map_congr_left fun i _=>?_
 show D.int ((a:Int)+(i:Int))=D.int ((a+i:Nat):Int)
 rw[Int.natCast_add]
def T8(f:Nat→Nat→Nat)(c y x1 n:Nat):Nat→Nat→Nat:=fun u v=>if v=y∧x1≤u∧u<x1+n then c else f u v
theorem a0e{r:Nat}{b:GF}{body:WF}{d:D}{ds:List D}{dss dss1:List (List D)}{e e1 e2:DE}(h1:b d e=some e1)(h2:okW r e1=true)(h3:body dss e1=some (dss1,e2)):E3 r b body (d::ds) dss e=E3 r b body ds dss1 e2:=by
 rw[E3,h1]
 dsimp only
 rw[if_pos h2,h3]
theorem a5J(S:Str)(hS:S.length≤100)(k:Nat)(hk:k<S.length)(w h y:Nat)(hy:y<h)(d0 d1 d2 d3 d6:D):∀(n x1:Nat) (f:Nat→Nat→Nat) (o8:Option D),x1+n≤w→∃o8':Option D,E3 4 (b8 8) (wP S) ((List.range' x1 n).map fun(x:Nat)=>D.int (x:Int)) (v8 w h f) [.fz d0,.fz d1,.fz d2,.fz d3,.no,.fz (.int (k:Int)),.fz d6,.fz (.int (y:Int)),un o8]=some (v8 w h (T8 f (u4 S k) y x1 n),[.fz d0,.fz d1,.fz d2,.fz d3,.no,.fz (.int (k:Int)),.fz d6,.fz (.int (y:Int)),un o8'])
 | 0,x1,f,o8,_=>by
  refine⟨o8,?_⟩
  have:T8 f (u4 S k) y x1 0=f:=by
   funext u v
   unfold T8
   rw[if_neg (by omega)]
  rw[this]
  rfl
 | n+1,x1,f,o8,hw=>by
  obtain⟨o8',ih⟩:=a5J S hS k hk w h y hy d0 d1 d2 d3 d6 n (x1+1) (upf f x1 y (u4 S k)) (some (.int (x1:Int))) (by omega)
  refine⟨o8',?_⟩
  rw[List.range'_succ,List.map_cons,a0e (e1:=[.fz d0,.fz d1,.fz d2,.fz d3,.no,.fz (.int (k:Int)),.fz d6,.fz (.int (y:Int)),.fz (.int (x1:Int))]) (by cases o8<;>rfl) rfl (b0O S hS k hk w h f x1 y (by omega) hy d0 d1 d2 d3 d6)]
  refine Eq.trans ih ?_
  have:T8 (upf f x1 y (u4 S k)) (u4 S k) y (x1+1) n=T8 f (u4 S k) y x1 (n+1):=by
   funext u v
   unfold T8 upf
   split
   ·rw[if_pos (by omega)]
   ·split
    ·rw[if_pos (by omega)]
    ·rw[if_neg (by omega)]
  rw[this]
theorem a5K{a b:Int}(h1:0≤a)(h2:a≤1000)(h3:0≤b)(h4:b≤1000):a1C [.int a,.int b]=some (a,(b-a).toNat):=by
 unfold a1C
 show(if _ then _ else _)=_
 rw[if_pos (by omega)]
abbrev a43(S:Str):WF:=(S6 4 (aC (eB g7 (eV 6) (eC (.int 0))) (aC (eB g7 (eV 6) (eC (.int 2))) aN)) (b8 8) (wP S))
theorem a3f{r:Nat}{f:AF}{b:GF}{body:WF}{dss:List (List D)}{e e1:DE}{ds:List D}{lo:Int}{n:Nat}(h:f e=some (.ok ds e1))(h2:okW r e1=true)(hr:a1C ds=some (lo,n)):S6 r f b body dss e=E3 r b body (A0 lo n) dss e1:=by
 unfold S6;rw[h];dsimp only;rw[if_pos h2,hr]
theorem a86(S:Str)(hS:S.length≤100)(k:Nat)(hk:k<S.length)(w h y:Nat)(hy:y<h)(hw:w≤60)(d0 d1 d2 d3:D)(x1 x2:Nat)(y1 y2:Int)(hx:x1≤x2)(hx2:x2≤w)(f:Nat→Nat→Nat)(o8:Option D):∃o8':Option D,a43 S (v8 w h f) [.fz d0,.fz d1,.fz d2,.fz d3,.no,.fz (.int (k:Int)),.fz (t4 ((x1:Int),y1,(x2:Int),y2)),.fz (.int (y:Int)),un o8]=some (v8 w h (T8 f (u4 S k) y x1 (x2-x1)),[.fz d0,.fz d1,.fz d2,.fz d3,.no,.fz (.int (k:Int)),.fz (t4 ((x1:Int),y1,(x2:Int),y2)),.fz (.int (y:Int)),un o8']):=by
 have e0:(aC (eB g7 (eV 6) (eC (.int 0))) (aC (eB g7 (eV 6) (eC (.int 2))) aN)) [.fz d0,.fz d1,.fz d2,.fz d3,.no,.fz (.int (k:Int)),.fz (t4 ((x1:Int),y1,(x2:Int),y2)),.fz (.int (y:Int)),un o8]=some (.ok [.int (x1:Int),.int (x2:Int)] [.fz d0,.fz d1,.fz d2,.fz d3,.no,.fz (.int (k:Int)),.fz (t4 ((x1:Int),y1,(x2:Int),y2)),.fz (.int (y:Int)),un o8]):=rfl
 obtain⟨o8',h1⟩:=a5J S hS k hk w h y hy d0 d1 d2 d3 (t4 ((x1:Int),y1,(x2:Int),y2)) (x2-x1) x1 f o8 (by omega)
 refine⟨o8',?_⟩
 unfold a43
 rw[a3f e0 (by cases o8<;>rfl) (a5K (by omega) (by omega) (by omega) (by omega)),show((x2:Int)-(x1:Int)).toNat=x2-x1 by omega,a38]
 exact h1
def S9(f:Nat→Nat→Nat)(c x1 n y1 m:Nat):Nat→Nat→Nat:=fun u v=>if y1≤v∧v<y1+m∧x1≤u∧u<x1+n then c else f u v
theorem a5L(S:Str)(hS:S.length≤100)(k:Nat)(hk:k<S.length)(w h:Nat)(hw:w≤60)(d0 d1 d2 d3:D)(x1 x2:Nat)(Y1 Y2:Int)(hx:x1≤x2)(hx2:x2≤w):∀(m y1:Nat) (f:Nat→Nat→Nat) (o7 o8:Option D),y1+m≤h→∃o7' o8':Option D,E3 4 (b8 7) (a43 S) ((List.range' y1 m).map fun(x:Nat)=>D.int (x:Int)) (v8 w h f) [.fz d0,.fz d1,.fz d2,.fz d3,.no,.fz (.int (k:Int)),.fz (t4 ((x1:Int),Y1,(x2:Int),Y2)),un o7,un o8]=some (v8 w h (S9 f (u4 S k) x1 (x2-x1) y1 m),[.fz d0,.fz d1,.fz d2,.fz d3,.no,.fz (.int (k:Int)),.fz (t4 ((x1:Int),Y1,(x2:Int),Y2)),un o7',un o8'])
 | 0,y1,f,o7,o8,_=>by
  refine⟨o7,o8,?_⟩
  have:S9 f (u4 S k) x1 (x2-x1) y1 0=f:=by
   funext u v
   unfold S9
   rw[if_neg (by omega)]
  rw[this]
  rfl
 | m+1,y1,f,o7,o8,hh=>by
  obtain⟨p8,h1⟩:=a86 S hS k hk w h y1 (by omega) hw d0 d1 d2 d3 x1 x2 Y1 Y2 hx hx2 f o8
  obtain⟨o7',o8',ih⟩:=a5L S hS k hk w h hw d0 d1 d2 d3 x1 x2 Y1 Y2 hx hx2 m (y1+1) (T8 f (u4 S k) y1 x1 (x2-x1)) (some (.int (y1:Int))) p8 (by omega)
  refine⟨o7',o8',?_⟩
  rw[List.range'_succ,List.map_cons,a0e (e1:=[.fz d0,.fz d1,.fz d2,.fz d3,.no,.fz (.int (k:Int)),.fz (t4 ((x1:Int),Y1,(x2:Int),Y2)),.fz (.int (y1:Int)),un o8]) (by cases o7<;>rfl) (by cases o8<;>rfl) h1]
  refine Eq.trans ih ?_
  have:S9 (T8 f (u4 S k) y1 x1 (x2-x1)) (u4 S k) x1 (x2-x1) (y1+1) m=S9 f (u4 S k) x1 (x2-x1) y1 (m+1):=by
   funext u v
   unfold S9 T8
   split
   ·rw[if_pos (by omega)]
   ·split
    ·rw[if_pos (by omega)]
    ·rw[if_neg (by omega)]
  rw[this]
abbrev a3g(S:Str):WF:=(S6 4 (aC (eB g7 (eV 6) (eC (.int 1))) (aC (eB g7 (eV 6) (eC (.int 3))) aN)) (b8 7) (a43 S))
def A8(f:Nat→Nat→Nat)(s:T4)(c:Nat):Nat→Nat→Nat:=fun u v=>if s.2.1≤(v:Int)∧(v:Int)<s.2.2.2∧s.1≤(u:Int)∧(u:Int)<s.2.2.1 then c else f u v
def inB(w h:Nat)(s:T4):Prop:=0≤s.1∧s.1≤s.2.2.1∧s.2.2.1≤(w:Int)∧0≤s.2.1∧s.2.1≤s.2.2.2∧s.2.2.2≤(h:Int)
theorem a87(S:Str)(hS:S.length≤100)(k:Nat)(hk:k<S.length)(w h:Nat)(hw:w≤60)(hh:h≤60)(d0 d1 d2 d3:D)(s:T4)(hs:inB w h s)(f:Nat→Nat→Nat)(o7 o8:Option D):∃o7' o8':Option D,a3g S (v8 w h f) [.fz d0,.fz d1,.fz d2,.fz d3,.no,.fz (.int (k:Int)),.fz (t4 s),un o7,un o8]=some (v8 w h (A8 f s (u4 S k)),[.fz d0,.fz d1,.fz d2,.fz d3,.no,.fz (.int (k:Int)),.fz (t4 s),un o7',un o8']):=by
 obtain⟨X1,Y1,X2,Y2⟩:=s
 obtain⟨q1,q2,q3,q4,q5,q6⟩:=hs
 dsimp only at q1 q2 q3 q4 q5 q6
 obtain⟨x1,rfl⟩:=Int.eq_ofNat_of_zero_le q1
 obtain⟨y1,rfl⟩:=Int.eq_ofNat_of_zero_le q4
 obtain⟨x2,rfl⟩:=Int.eq_ofNat_of_zero_le (show 0≤X2 by omega)
 obtain⟨y2,rfl⟩:=Int.eq_ofNat_of_zero_le (show 0≤Y2 by omega)
 have e0:(aC (eB g7 (eV 6) (eC (.int 1))) (aC (eB g7 (eV 6) (eC (.int 3))) aN)) [.fz d0,.fz d1,.fz d2,.fz d3,.no,.fz (.int (k:Int)),.fz (t4 ((x1:Int),(y1:Int),(x2:Int),(y2:Int))),un o7,un o8]=some (.ok [.int (y1:Int),.int (y2:Int)] [.fz d0,.fz d1,.fz d2,.fz d3,.no,.fz (.int (k:Int)),.fz (t4 ((x1:Int),(y1:Int),(x2:Int),(y2:Int))),un o7,un o8]):=rfl
 obtain⟨o7',o8',h1⟩:=a5L S hS k hk w h hw d0 d1 d2 d3 x1 x2 (y1:Int) (y2:Int) (by omega) (by omega) (y2-y1) y1 f o7 o8 (by omega)
 refine⟨o7',o8',?_⟩
 unfold a3g
 rw[a3f e0 (by cases o7<;>cases o8<;>rfl) (a5K (by omega) (by omega) (by omega) (by omega)),show((y2:Int)-(y1:Int)).toNat=y2-y1 by omega,a38]
 refine Eq.trans h1 ?_
 have:S9 f (u4 S k) x1 (x2-x1) y1 (y2-y1)=A8 f ((x1:Int),(y1:Int),(x2:Int),(y2:Int)) (u4 S k):=by
  funext u v
  unfold S9 A8
  dsimp only
  by_cases z:y1≤v∧v<y1+(y2-y1)∧x1≤u∧u<x1+(x2-x1)
  ·rw[if_pos z,if_pos (by omega)]
  ·rw[if_neg z,if_neg (by omega)]
 rw[this]
def M1(S:Str)(f:Nat→Nat→Nat):Nat→List T4→Nat→Nat→Nat
 | _,[]=>f
 | k,s::l=>M1 S (A8 f s (u4 S k)) (k+1) l
theorem a5M(S:Str)(hS:S.length≤100)(w h:Nat)(hw:w≤60)(hh:h≤60)(d0 d1 d2 d3:D):∀(l:List T4) (k:Nat) (f:Nat→Nat→Nat) (o5 o6 o7 o8:Option D),k+l.length≤S.length→(∀s∈l,inB w h s)→∃p5 p6 p7 p8:Option D,E3 4 (m4 [b8 5,b8 6]) (a3g S) (G6 k (l.map t4)) (v8 w h f) [.fz d0,.fz d1,.fz d2,.fz d3,.no,un o5,un o6,un o7,un o8]=some (v8 w h (M1 S f k l),[.fz d0,.fz d1,.fz d2,.fz d3,.no,un p5,un p6,un p7,un p8])
 | [],k,f,o5,o6,o7,o8,_,_=>⟨o5,o6,o7,o8,rfl⟩
 | s::l,k,f,o5,o6,o7,o8,hk,hb=>by
  rw[List.length_cons]at hk
  obtain⟨q7,q8,h1⟩:=a87 S hS k (by omega) w h hw hh d0 d1 d2 d3 s (hb s List.mem_cons_self) f o7 o8
  obtain⟨p5,p6,p7,p8,ih⟩:=a5M S hS w h hw hh d0 d1 d2 d3 l (k+1) (A8 f s (u4 S k)) (some (.int (k:Int))) (some (t4 s)) q7 q8 (by omega) (fun t m=>hb t (List.mem_cons_of_mem _ m))
  refine⟨p5,p6,p7,p8,?_⟩
  rw[List.map_cons]
  show E3 4 _ _ (.tup [.int (k:Int),t4 s]::G6 (k+1) (l.map t4)) _ _=_
  rw[a0e (e1:=[.fz d0,.fz d1,.fz d2,.fz d3,.no,.fz (.int (k:Int)),.fz (t4 s),un o7,un o8]) (by cases o5<;>cases o6<;>rfl) (by cases o7<;>cases o8<;>rfl) h1]
  exact ih
theorem a3h(b:GF)(el:NF)(ec:DE)(y:List D):∀(ds:List D) (acc:List (List D)),acc.length+ds.length≤1000→(∀d∈ds,∃e1 e2,b d ec=some e1∧el e1=some (.ok y e2))→N7 b el ec ds acc=some (acc++List.replicate ds.length y)
 | [],acc,_,_=>by rw[N7,List.length_nil,List.replicate_zero,List.append_nil]
 | d::ds,acc,hl,h=>by
  rw[List.length_cons]at hl
  obtain⟨e1,e2,h1,h2⟩:=h d List.mem_cons_self
  have ih:=a3h b el ec y ds (acc++[y]) (by rw[List.length_append,List.length_singleton];omega) (fun d m=>h d (List.mem_cons_of_mem _ m))
  rw[N7,h1]
  dsimp only
  rw[h2]
  dsimp only
  rw[if_pos (show acc.length<sizeLine by show _<2 ^ 24;omega),ih,List.append_assoc,List.length_cons,List.replicate_succ]
  rfl
theorem a44(w h c:Nat):List.replicate h (List.replicate w (ch c))=v8 w h (fun _ _=>c):=by
 unfold v8
 rw[List.map_const',List.map_const',List.length_range,List.length_range]
theorem a69(w:Nat)(d:D):(List.replicate w [d]).flatten=List.replicate w d:=by
 induction w with
 | zero=>rfl
 | succ n ih=>rw[List.replicate_succ,List.flatten_cons,ih];rfl
abbrev a1o:NF:=(nB a0H (zN (eL (aC (eC (.str ".")) aN))) (eB g7 (eV 1) (eC (.int 0))))
theorem b0p(d:D)(w:Nat)(hw:w≤60):a0H (.lst [d]) (.int (w:Int))=some (List.replicate w d):=by
 unfold a0H
 dsimp only
 rw[if_pos ⟨by omega,by omega,by rw[List.length_singleton,Nat.one_mul];show _≤2 ^ 24;omega⟩,a69,Int.toNat_natCast]
theorem a88(G:D→D→Option (List D))(w hb:Int)(i:D)(R:List D)(h:G (.lst [.str "."]) (.int w)=some R):(nB G (zN (eL (aC (eC (.str ".")) aN))) (eB g7 (eV 1) (eC (.int 0)))) [.fz i,.fz (.tup [.int w,.int hb])]=some (.ok R [.fz i,.fz (.tup [.int w,.int hb])]):=by
 show X7 (G (.lst [.str "."]) (.int w)) _=_
 rw[h]
 rfl
theorem a6_(w:Nat)(hb:Int)(hw:w≤60)(i:D):a1o [.fz i,.fz (.tup [.int (w:Int),.int hb])]=some (.ok (List.replicate w (ch 46)) [.fz i,.fz (.tup [.int (w:Int),.int hb])]):=a88 a0H (w:Int) hb i _ (b0p _ w hw)
abbrev a7a(S:Str)(SO:ZF):WF:=(a1j 4 SO (m4 [(b8 5),(b8 6)]) (a3g S))
def j7(w h:Nat)(f:Nat→Nat→Nat):List (List Nat):=(List.range h).map fun y=>(List.range w).map fun x=>f x y
theorem a5N(w h:Nat)(f:Nat→Nat→Nat):v8 w h f=(j7 w h f).map fun r=>r.map ch:=by
 unfold v8 j7
 rw[List.map_map]
 refine List.map_congr_left fun y _=>?_
 show _=((List.range w).map fun x=>f x y).map ch
 rw[List.map_map]
 rfl
theorem a39:∀(r:List Nat),S5 (r.map ch)=some (r.map fun c=>(⟨#[c]⟩:Str))
 | []=>rfl
 | c::r=>by
  show(S5 (r.map ch)).map (⟨#[c]⟩ :: ·)=_
  rw[a39 r]
  rfl
theorem a2g(g:Array Nat)(hg:g = #[]):∀(r:List Nat) (a:Array Nat),List.foldl (fun(acc:Array Nat) (p:Str)=>acc++g++p.cps) a (r.map fun c=>(⟨#[c]⟩:Str))=a++r.toArray
 | [],a=>by simp
 | c::r,a=>by
  rw[List.map_cons,List.foldl_cons,a2g g hg r,hg]
  simp
theorem a89(r:List Nat):Txt.join "" (r.map fun c=>(⟨#[c]⟩:Str))=⟨r.toArray⟩:=by
 unfold Txt.join Builtin.Str.glued
 cases r with
 | nil=>rfl
 | cons c r =>
  have:=a2g (Str.ofString "").cps rfl r #[c]
  show Str.mk (List.foldl _ #[c] (r.map fun c=>(⟨#[c]⟩:Str)))=_
  rw[this]
  simp
abbrev a2s:ZF:=(a4V (eC (.str "")) (eV 0))
theorem a3i:∀(r:List Nat),((r.map fun c=>(⟨#[c]⟩:Str)).map (·.length)).sum=r.length
 | []=>rfl
 | c::r=>by
  rw[List.map_cons,List.map_cons,List.sum_cons,a3i r,List.length_cons]
  show 1+_=_
  omega
theorem a8_(r:List Nat)(hr:r.length≤1000):a2s [.fz (.lst (r.map ch))]=some (.ok (.str ⟨r.toArray⟩) [.fz (.lst (r.map ch))]):=by
 show(match S5 (r.map ch)with
   | some (ys:List Str)=>(if(ys.map (fun(s:Str)=>s.length)).sum+ys.length*(Str.ofString "").length≤16777216 then some (L2.R.ok (D.str (Txt.join (Str.ofString "") ys)) [Sl.fz (D.lst (r.map ch))])else none:Option (L2.R D))
   | none=>none)=_
 rw[a39]
 dsimp only
 have hz:(Str.ofString "").length=0:=rfl
 rw[a3i,hz,Nat.mul_zero,if_pos (by omega),a89]
abbrev b0q:SF:=(W1 (a3c 1 [] (eV 4) (b8 0) P5 a2s))
theorem b0r(R:List (List Nat))(hR:R.length≤1000)(hr:∀r∈R,r.length≤1000)(d0 d1 d2 d3:D)(s5 s6 s7 s8:Sl):b0q [.fz d0,.fz d1,.fz d2,.fz d3,.fz (.lst ((R.map fun r=>r.map ch).map .lst)),s5,s6,s7,s8]=some (.ro (R.reverse.map fun r=>.str ⟨r.toArray⟩)):=by
 have e1:(R.map fun r=>r.map ch).map D.lst=R.map fun r=>D.lst (r.map ch):=by rw[List.map_map];rfl
 rw[e1]
 have h:=W8 (b:=b8 0) (c:=P5) (el:=a2s) (ec:=[.no]) (eo:=[.fz d0,.fz d1,.fz d2,.fz d3,.fz (.lst (R.map fun r=>D.lst (r.map ch))),s5,s6,s7,s8]) (fun(r:List Nat)=>D.lst (r.map ch)) (fun r=>D.str ⟨r.toArray⟩) (fun _=>true) R.reverse [] (by rw[List.length_reverse];show 0+_≤2 ^ 24;omega) (fun r m=>⟨[.fz (.lst (r.map ch))],[.fz (.lst (r.map ch))],rfl,rfl,fun _=>⟨_,a8_ r (hr r (List.mem_reverse.mp m))⟩⟩)
 rw[List.filter_eq_self.mpr (fun _ _=>rfl),List.nil_append,List.map_reverse]at h
 show B8 (t5 (b8 0) P5 a2s [.no] _ (R.map fun r=>D.lst (r.map ch)).reverse []) (fun ds _=>some (.ro ds))=_
 rw[h]
 rfl
abbrev drw(S:Str)(SO:ZF):SF:=(X3 4 1 [0] (aC (eB g7 (eV 0) (eC (.int 1))) aN) (b8 0) a1o (a7a S SO) b0q)
theorem a5O{n:Nat}(h:n≤1000):Z9 [.int (n:Int)]=some (0,n):=by
 unfold Z9
 show(if _ then _ else _)=_
 rw[if_pos (by omega)]
 simp
theorem a9a{r k:Nat}{js:List Nat}{fa:AF}{b:GF}{el:NF}{lp:WF}{fr:SF}{e e1 e2:DE}{ds:List D}{lo:Int}{m:Nat}{dss dss':List (List D)}(h1:fa e=some (.ok ds e1))(h2:okW r e1=true)(h3:Z9 ds=some (lo,m))(h4:N7 b el (l5 k js e1) (A0 lo m) []=some dss)(h5:lp dss e1=some (dss',e2))(h6:okW r e2=true):X3 r k js fa b el lp fr e=fr (e2.set r (.fz (.lst (dss'.map .lst)))):=by
 unfold X3
 rw[h1]
 dsimp only
 rw[if_pos h2,h3]
 dsimp only
 rw[h4]
 dsimp only
 rw[h5]
 dsimp only
 rw[if_pos h6]
theorem a9b{S:Str}{SO:ZF}{e e1:DE}{ds:List D}{dss:List (List D)}(h1:SO e=some (.ok (.lst ds) e1))(h2:okW 4 e1=true):a7a S SO dss e=E3 4 (m4 [b8 5,b8 6]) (a3g S) (G6 0 ds) dss e1:=by
 unfold a7a a1j
 rw[h1]
 dsimp only
 rw[if_pos h2]
 rfl
theorem b0s(S:Str)(SO:ZF)(hS:S.length≤100)(w h:Nat)(hw:w≤60)(hh:h≤60)(d1 d2 d3:D)(l:List T4)(hl:l.length≤S.length)(hb:∀s∈l,inB w h s)
  (hs:SO [.fz (.tup [.int (w:Int),.int (h:Int)]),.fz d1,.fz d2,.fz d3,.no,.no,.no,.no,.no]=some (.ok (.lst (l.map t4)) [.fz (.tup [.int (w:Int),.int (h:Int)]),.fz d1,.fz d2,.fz d3,.no,.no,.no,.no,.no])) :
  drw S SO [.fz (.tup [.int (w:Int),.int (h:Int)]),.fz d1,.fz d2,.fz d3,.no,.no,.no,.no,.no]=some (.ro ((j7 w h (M1 S (fun _ _=>46) 0 l)).reverse.map fun r=>.str ⟨r.toArray⟩)):=by
 have h1:(aC (eB g7 (eV 0) (eC (.int 1))) aN) [.fz (.tup [.int (w:Int),.int (h:Int)]),.fz d1,.fz d2,.fz d3,.no,.no,.no,.no,.no]=some (.ok [.int (h:Int)] [.fz (.tup [.int (w:Int),.int (h:Int)]),.fz d1,.fz d2,.fz d3,.no,.no,.no,.no,.no]):=rfl
 have h4:N7 (b8 0) a1o [.no,.fz (.tup [.int (w:Int),.int (h:Int)])] (A0 0 h) []=some (v8 w h (fun _ _=>46)):=by
  rw[a3h (b8 0) a1o _ (List.replicate w (ch 46)) (A0 0 h) [] (by rw[Q8];show 0+_≤_;omega) (fun d _=>⟨[.fz d,.fz (.tup [.int (w:Int),.int (h:Int)])],_,rfl,a6_ w h hw d⟩),Q8,List.nil_append,a44]
 obtain⟨p5,p6,p7,p8,h5⟩:=a5M S hS w h hw hh (.tup [.int (w:Int),.int (h:Int)]) d1 d2 d3 l 0 (fun _ _=>46) none none none none (by omega) hb
 unfold drw
 rw[a9a h1 rfl (a5O (by omega)) h4 ((a9b hs rfl).trans h5) (by cases p5<;>cases p6<;>cases p7<;>cases p8<;>rfl),a5N]
 refine b0r (j7 w h (M1 S (fun _ _=>46) 0 l)) (by unfold j7;rw[List.length_map,List.length_range];omega) (fun r m=>?_) _ d1 d2 d3 (un p5) (un p6) (un p7) (un p8)
 unfold j7 at m
 obtain⟨y,_,rfl⟩:=List.mem_map.mp m
 rw[List.length_map,List.length_range]
 omega
abbrev stB(GM:D→D→Option D):SF:=(c6 (j9 3 (eB k9 (eB v5 (eB v5 (eB GM (eV 3) (eC (.int 69621))) (eB GM (eB GM (eV 4) (eV 4)) (eC (.int 7919)))) (eC (.int 48271))) (eC (.int 2147483647)))) (L3 2 (eV 3)))
theorem b1d(GM:D→D→Option D)(c m:D)(A:List D)(n k a b d:Int)(h1:GM (.int n) (.int 69621)=some (.int a))(h2:GM (.int k) (.int k)=some (.int b))(h3:GM (.int b) (.int 7919)=some (.int d))(hA:A.length<sizeLine) :
  stB GM [.fz c,.fz m,.ow A,.fz (.int n),.fz (.int k)]=some (.nx [.fz c,.fz m,.ow (A++[.int ((a+d+48271)%2147483647)]),.fz (.int ((a+d+48271)%2147483647)),.fz (.int k)]):=by
 unfold stB
 walk_at "eh"
theorem b1e(LP:SF)(c m:Int)(A:List D)(n:D)(o4:Option D)(h:LP [.fz (.int c),.fz (.int m),.ow [],.fz (.int (c%2147483647)),.no]=some (.nx [.fz (.int c),.fz (.int m),.ow A,.fz n,un o4])):fD 5 2 (c6 (C1 2 (eL aN)) (c6 (j9 3 (eB k9 (eV 0) (eC (.int 2147483647)))) (c6 LP (W2 2)))) [.int c,.int m]=some (.own A):=by
 walk_at "eh"
theorem b1f(m:Nat):A0 0 m=(List.range m).map fun(k:Nat)=>D.int (k:Int):=by
 unfold A0
 refine List.map_congr_left fun i _=>?_
 rw[Int.zero_add]
theorem a5P(c:Int)(m:Nat)(hm:m≤1000):∃L:List Int,L.length=m∧C4 [.int c,.int (m:Int)]=some (.own (L.map D.int)):=by
 obtain⟨e',lp,L,n,o4,hL,rfl⟩:=a0p (b:=b8 4) (body:=stB n0) (fun(k:Nat)=>D.int (k:Int)) (fun pre e=>∃(L:List Int) (n:Int) (o4:Option D),L.length=pre.length∧e=[.fz (.int c),.fz (.int (m:Int)),.ow (L.map D.int),.fz (.int n),un o4]) (List.range m) [.fz (.int c),.fz (.int (m:Int)),.ow [],.fz (.int (c%2147483647)),.no] ⟨[],_,none,rfl,rfl⟩ (by
  rintro pre k post e hq ⟨L,n,o4,hL,rfl⟩
  have hk:k<m:=List.mem_range.mp (by rw[hq];simp)
  have hp:pre.length<m:=by have:=congrArg List.length hq;rw[List.length_range,List.length_append,List.length_cons]at this;omega
  have hb:b8 4 (.int (k:Int)) [.fz (.int c),.fz (.int (m:Int)),.ow (L.map D.int),.fz (.int n),un o4]=some [.fz (.int c),.fz (.int (m:Int)),.ow (L.map D.int),.fz (.int n),.fz (.int (k:Int))]:=by cases o4<;>rfl
  rw[hb,A6]
  refine⟨_,(congrArg v7 (b1d n0 (.int c) (.int (m:Int)) (L.map D.int) n (k:Int) _ _ _ (O4 (by decide)) (O4 (by omega)) (O4 (by decide)) (by rw[List.length_map];show _<2 ^ 24;omega))).trans rfl,L++[(n*69621+(k:Int)*k*7919+48271)%2147483647],(n*69621+(k:Int)*k*7919+48271)%2147483647,some (.int (k:Int)),by rw[List.length_append,List.length_append,hL];rfl,?_⟩
  rw[List.map_append]
  rfl)
 refine⟨L,by rw[hL,List.length_range],b1e _ c m _ (.int n) o4 ?_⟩
 have e0:(aC (eV 1) aN) [.fz (.int c),.fz (.int (m:Int)),.ow [],.fz (.int (c%2147483647)),.no]=some (.ok [.int (m:Int)] [.fz (.int c),.fz (.int (m:Int)),.ow [],.fz (.int (c%2147483647)),.no]):=rfl
 rw[a84 e0 (a5O hm),b1f]
 exact lp
theorem a3j(i:Int):∃v:Nat,m5 [.int i]=some (.ret (.int (v:Int)))∧1≤v∧v≤60:=by
 have hm:n0 (.int (i/4)) (.int 48271)=some (.int (i/4*48271)):=O4 (by decide)
 have w:∃v:Int,m5 [.int i]=some (.ret (.int v))∧1≤v∧v≤60:=by
  unfold m5 U6
  by_cases z:i%4=1
  ·exact⟨60-i/4%60,by walk_at "eh",by omega,by omega⟩
  ·exact⟨1+i/4*48271%2147483647%12,by walk_at "eh",by omega,by omega⟩
 obtain⟨v,h1,h2,h3⟩:=w
 exact⟨v.toNat,by rw[show((v.toNat:Nat):Int)=v by omega];exact h1,by omega,by omega⟩
theorem a3_(CE ST:List D→Option R1)(ns:List Int)(c2 c3:Int)(M:List D)(k2:CE [.scr ns,.int 2]=some (.ret (.int c2)))(k3:CE [.scr ns,.int 3]=some (.ret (.int c3)))(h:(c2/2%4=1∧ST [.int c3,.int (61-c2/2/4%62)]=some (.own M))∨(¬c2/2%4=1∧a0L (ns.map D.int) (some 2) (some 63)=M)):fD 2 1 (c6 (j9 1 (eB G0 (i9 CE (aC (eV 0) (aC (eC (.int 2)) aN))) (eC (.int 2)))) (c6 (u3 (bZ (eB (y3 false) (eB k9 (eV 1) (eC (.int 4))) (eC (.int 1)))) (U3 ST (aC (i9 CE (aC (eV 0) (aC (eC (.int 3)) aN))) (aC (eB k6 (eC (.int 61)) (eB k9 (eB G0 (eV 1) (eC (.int 4))) (eC (.int 62)))) aN))) v3) (W1 (T6 0 (oS (eC (.int 2))) (oS (eC (.int 63))))))) [.scr ns]=some (.own M):=by
 rcases h with⟨z,h⟩ | ⟨z,h⟩
 ·walk_at "eh"
 ·subst h
  walk_at "eh"
  try rfl
theorem a7b(ns:List Int):∃M:List Int,E4 [.scr ns]=some (.own (M.map D.int))∧M.length≤61:=by
 by_cases z:B7 ns 2/2%4=1
 ·obtain⟨m,hm⟩:=Int.eq_ofNat_of_zero_le (show 0≤61-B7 ns 2/2/4%62 by omega)
  obtain⟨M,h1,h2⟩:=a5P (B7 ns 3) m (by omega)
  rw[← hm]at h2
  exact⟨M,a3_ k7 C4 ns _ _ _ (K2 (by omega)) (K2 (by omega)) (.inl ⟨z,h2⟩),by omega⟩
 ·refine⟨(ns.drop 2).take 61,a3_ k7 C4 ns _ _ _ (K2 (by omega)) (K2 (by omega)) (.inr ⟨z,?_⟩),by rw[List.length_take];omega⟩
  rw[a32 (by decide) (by decide)]
  show((ns.map D.int).drop 2).take 61=_
  rw[List.map_take,List.map_drop]
abbrev a3k(GM GP:D→D→Option D):SF:=(c6 (j9 6 (eB k9 (eB G0 (eV 5) (eC (.int 2))) (Q3 J1 2))) (c6 (O7 (F8 A2 2 (eV 6)) (m4 [(b8 7),(b8 8),(b8 9),(b8 10)])) (u3 (a0G (bZ (eB (y3 false) (eB k9 (eV 5) (eC (.int 2))) (eC (.int 0)))) (bZ (eB gGt (eB k6 (eV 9) (eV 7)) (eC (.int 1))))) (c6 (j9 11 (eB v5 (eB v5 (eV 7) (eC (.int 1))) (eB k9 (eB GM (eV 4) (eB GP (eC (.int 7919)) (eC (.int 11)))) (eB k6 (eB k6 (eV 9) (eV 7)) (eC (.int 1)))))) (c6 (a1z 2 (eV 6) (eT (aC (eV 7) (aC (eV 8) (aC (eV 11) (aC (eV 10) aN)))))) (L3 2 (eT (aC (eV 11) (aC (eV 8) (aC (eV 9) (aC (eV 10) aN)))))))) (u3 (bZ (eB gGt (eB k6 (eV 10) (eV 8)) (eC (.int 1)))) (c6 (j9 11 (eB v5 (eB v5 (eV 8) (eC (.int 1))) (eB k9 (eB GM (eV 4) (eB GP (eC (.int 7919)) (eC (.int 11)))) (eB k6 (eB k6 (eV 10) (eV 8)) (eC (.int 1)))))) (c6 (a1z 2 (eV 6) (eT (aC (eV 7) (aC (eV 8) (aC (eV 9) (aC (eV 11) aN)))))) (L3 2 (eT (aC (eV 7) (aC (eV 11) (aC (eV 9) (aC (eV 10) aN)))))))) v3))))
theorem b0P(GM GP:D→D→Option D)(b0 A d3:D)(B B':List D)(num mix p far x y x2 y2 c:Int)(n:Nat)(o6 o7 o8 o9 o10 o11 o11':Option D)(gp:GP (.int 7919) (.int 11)=some (.int p))(gm:GM (.int num) (.int p)=some (.int far))(hB:0<(B.length:Int))(hn:mix/2%(B.length:Int)=(n:Int))(hat:atI B (n:Int)=some (.tup [.int x,.int y,.int x2,.int y2]))(hix:K4 B.length (n:Int)=some n)(hz:∀v,(B.set n v).length<sizeLine)
  (hc:((mix%2=0∧1<x2-x)∧0<x2-x-1∧x+1+far%(x2-x-1)=c∧B.set n (.tup [.int x,.int y,.int c,.int y2])++[.tup [.int c,.int y,.int x2,.int y2]]=B'∧some (D.int c)=o11')∨((¬mix%2=0∨(mix%2=0∧¬1<x2-x))∧1<y2-y∧0<y2-y-1∧y+1+far%(y2-y-1)=c∧B.set n (.tup [.int x,.int y,.int x2,.int c])++[.tup [.int x,.int c,.int x2,.int y2]]=B'∧some (D.int c)=o11')∨((¬mix%2=0∨(mix%2=0∧¬1<x2-x))∧¬1<y2-y∧B=B'∧o11=o11')) :
  a3k GM GP [.fz b0,.fz A,.ow B,.fz d3,.fz (.int num),.fz (.int mix),un o6,un o7,un o8,un o9,un o10,un o11]=some (.nx [.fz b0,.fz A,.ow B',.fz d3,.fz (.int num),.fz (.int mix),.fz (.int (n:Int)),.fz (.int x),.fz (.int y),.fz (.int x2),.fz (.int y2),un o11']):=by
 have g0:=a0l (a:=mix/2) hB
 rw[hn]at g0
 unfold a3k
 rcases hc with⟨⟨z1,z2⟩,z3,rfl,rfl,rfl⟩ | ⟨z1,z2,z3,rfl,rfl,rfl⟩ | ⟨z1,z2,rfl,rfl⟩
 ·walk_at "eh"
  rfl
 ·rcases z1 with z1 | ⟨z1,z4⟩<;>walk_at "eh" <;>rfl
 ·rcases z1 with z1 | ⟨z1,z4⟩<;>walk_at "eh"
abbrev pcB(CT:SF):SF:=(c6 (j9 4 (eB k9 (eV 3) (eB Q4 (eC (.int 10)) (eC (.int 60))))) (c6 (j9 5 (eB k9 (eB n0 (eV 4) (eC (.int 48271))) (eC (.int 2147483647)))) CT))
theorem b1g(CT:SF)(b0 A:D)(B:List D)(i:Int)(o4 o5:Option D)(s6 s7 s8 s9 s10 s11:Sl)(r:Option RS)(gm:n0 (.int (i%10 ^ Int.toNat 60)) (.int 48271)=some (.int (i%10 ^ Int.toNat 60*48271)))(h:CT [.fz b0,.fz A,.ow B,.fz (.int i),.fz (.int (i%10 ^ Int.toNat 60)),.fz (.int (i%10 ^ Int.toNat 60*48271%2147483647)),s6,s7,s8,s9,s10,s11]=r):pcB CT [.fz b0,.fz A,.ow B,.fz (.int i),un o4,un o5,s6,s7,s8,s9,s10,s11]=r:=by
 subst h
 unfold pcB
 walk_at "eh"
theorem b1h(bx:Int×Int)(A d3:D)(l:List T4)(c:Cut bx l)(h1:1≤l.length)(h2:l.length≤100)(num mix far:Int)(gm:n0 (.int num) (.int (7919 ^ Int.toNat 11))=some (.int far))(o6 o7 o8 o9 o10 o11:Option D):∃(l':List T4) (o6' o7' o8' o9' o10' o11':Option D),a3k n0 Q4 [.fz (t2 bx),.fz A,.ow (l.map t4),.fz d3,.fz (.int num),.fz (.int mix),un o6,un o7,un o8,un o9,un o10,un o11]=some (.nx [.fz (t2 bx),.fz A,.ow (l'.map t4),.fz d3,.fz (.int num),.fz (.int mix),un o6',un o7',un o8',un o9',un o10',un o11'])∧Cut bx l'∧1≤l'.length∧l'.length≤l.length+1:=by
 have gp:Q4 (.int 7919) (.int 11)=some (.int (7919 ^ Int.toNat 11)):=a3Z (by decide +kernel)
 have p1:=Int.emod_nonneg (mix/2) (show(l.length:Int)≠0 by omega)
 have p2:=Int.emod_lt_of_pos (mix/2) (show(0:Int)<(l.length:Int) by omega)
 obtain⟨n,hn⟩:=Int.eq_ofNat_of_zero_le p1
 have hn':n<l.length:=by omega
 obtain⟨⟨x,y,x2,y2⟩,hs⟩:∃s,l[n]? = some s:=⟨l[n],List.getElem?_eq_getElem hn'⟩
 have hat:atI (l.map t4) (n:Int)=some (.tup [.int x,.int y,.int x2,.int y2]):=X0 (by rw[List.getElem?_map,hs];rfl)
 have hix:K4 (l.map t4).length (n:Int)=some n:=a0q (by rw[List.length_map];exact hn')
 have hz:∀v,((l.map t4).set n v).length<sizeLine:=fun v=>by rw[List.length_set,List.length_map];show _<2 ^ 24;omega
 have W:=fun B' cc o11'=>b0P n0 Q4 (t2 bx) A d3 (l.map t4) B' num mix _ far x y x2 y2 cc n o6 o7 o8 o9 o10 o11 o11' gp gm (by rw[List.length_map];omega) (by rw[List.length_map];exact hn) hat hix hz
 have eL:∀(a b:T4),(l.set n a++[b]).map t4=(l.map t4).set n (t4 a)++[t4 b]:=fun a b=>by rw[List.map_append,List.map_set];rfl
 by_cases z:mix%2=0∧1<x2-x
 ·have g1:=Int.emod_nonneg far (show x2-x-1≠0 by omega)
  have g2:=Int.emod_lt_of_pos far (show 0<x2-x-1 by omega)
  have C:=c.step hs (a60 (y:=y) (y2:=y2) (show x<x+1+far%(x2-x-1) by omega) (show x+1+far%(x2-x-1)<x2 by omega))
  refine⟨_,some _,some _,some _,some _,some _,some _,(W _ _ _ (.inl ⟨z,by omega,rfl,?_,rfl⟩)),C,by rw[List.length_append,List.length_singleton];omega,by rw[List.length_append,List.length_singleton,List.length_set];omega⟩
  rw[eL]
 ·have z':¬mix%2=0∨(mix%2=0∧¬1<x2-x):=by
   by_cases y:mix%2=0
   ·exact .inr ⟨y,fun q=>z ⟨y,q⟩⟩
   ·exact .inl y
  by_cases z2:1<y2-y
  ·have g1:=Int.emod_nonneg far (show y2-y-1≠0 by omega)
   have g2:=Int.emod_lt_of_pos far (show 0<y2-y-1 by omega)
   have C:=c.step hs (a61 (x:=x) (x2:=x2) (show y<y+1+far%(y2-y-1) by omega) (show y+1+far%(y2-y-1)<y2 by omega))
   refine⟨_,some _,some _,some _,some _,some _,some _,(W _ _ _ (.inr (.inl ⟨z',z2,by omega,rfl,?_,rfl⟩))),C,by rw[List.length_append,List.length_singleton];omega,by rw[List.length_append,List.length_singleton,List.length_set];omega⟩
   rw[eL]
  ·exact⟨l,some _,some _,some _,some _,some _,o11,(W _ 0 _ (.inr (.inr ⟨z',z2,rfl,rfl⟩))),c,h1,by omega⟩
theorem b1i(LP:SF)(a b:Int)(A B:List D)(s3 s4 s5 s6 s7 s8 s9 s10 s11:Sl)(h:LP [.fz (.tup [.int a,.int b]),.fz (.lst A),.ow [.tup [.int 0,.int 0,.int a,.int b]],.no,.no,.no,.no,.no,.no,.no,.no,.no]=some (.nx [.fz (.tup [.int a,.int b]),.fz (.lst A),.ow B,s3,s4,s5,s6,s7,s8,s9,s10,s11])):fD 12 2 (c6 (C1 2 (eL (aC (eT (aC (eC (.int 0)) (aC (eC (.int 0)) (aC (eB g7 (eV 0) (eC (.int 0))) (aC (eB g7 (eV 0) (eC (.int 1))) aN))))) aN))) (c6 LP (W2 2))) [.tup [.int a,.int b],.lst A]=some (.own B):=by
 walk_at "eh"
theorem a5Q(bx:Int×Int)(b1:1≤bx.1)(b2:1≤bx.2)(cs:List Int)(hc:cs.length≤61):∃l,C5 [t2 bx,.lst (cs.map .int)]=some (.own (l.map t4))∧Cut bx l∧1≤l.length∧l.length≤62:=by
 obtain⟨e',k1,l,o3,o4,o5,o6,o7,o8,o9,o10,o11,c,l1,l2,rfl⟩:=a0p (b:=b8 3) (body:=pcB (a3k n0 Q4)) D.int (fun pre e=>∃(l:List T4) (o3 o4 o5 o6 o7 o8 o9 o10 o11:Option D),Cut bx l∧1≤l.length∧l.length≤pre.length+1∧e=[.fz (t2 bx),.fz (.lst (cs.map .int)),.ow (l.map t4),un o3,un o4,un o5,un o6,un o7,un o8,un o9,un o10,un o11])
  cs [.fz (t2 bx),.fz (.lst (cs.map .int)),.ow [.tup [.int 0,.int 0,.int bx.1,.int bx.2]],.no,.no,.no,.no,.no,.no,.no,.no,.no] ⟨_,none,none,none,none,none,none,none,none,none,Cut.first b1 b2,Nat.le_refl 1,Nat.le_refl 1,rfl⟩ (by
   rintro pre i post e hq ⟨l,o3,o4,o5,o6,o7,o8,o9,o10,o11,c,l1,l2,rfl⟩
   have hp:pre.length<61:=by rw[hq,List.length_append,List.length_cons]at hc;omega
   have f1:Fits (i%10 ^ Int.toNat 60):=.mod (by decide) a2Y
   have hm:n0 (.int (i%10 ^ Int.toNat 60)) (.int (7919 ^ Int.toNat 11))=some (.int (i%10 ^ Int.toNat 60*7919 ^ Int.toNat 11)):=a1I (f1.mul (a2Y (by decide +kernel)))
   obtain⟨l',o6',o7',o8',o9',o10',o11',t1,t2',t3',t4'⟩:=b1h bx (.lst (cs.map .int)) (.int i) l c l1 (by omega) (i%10 ^ Int.toNat 60) (i%10 ^ Int.toNat 60*48271%2147483647) _ hm o6 o7 o8 o9 o10 o11
   have hb:b8 3 (.int i) [.fz (t2 bx),.fz (.lst (cs.map .int)),.ow (l.map t4),un o3,un o4,un o5,un o6,un o7,un o8,un o9,un o10,un o11]=some [.fz (t2 bx),.fz (.lst (cs.map .int)),.ow (l.map t4),.fz (.int i),un o4,un o5,un o6,un o7,un o8,un o9,un o10,un o11]:=by cases o3<;>rfl
   rw[hb,A6]
   refine⟨_,(congrArg v7 (b1g (a3k n0 Q4) (t2 bx) (.lst (cs.map .int)) (l.map t4) i o4 o5 _ _ _ _ _ _ _ (O4 (by decide)) t1)).trans rfl,l',some (.int i),some _,some _,o6',o7',o8',o9',o10',o11',t2',t3',by rw[List.length_append,List.length_singleton];omega,rfl⟩)
 exact⟨l,b1i _ bx.1 bx.2 (cs.map .int) (l.map t4) _ _ _ _ _ _ _ _ _ k1,c,l1,by omega⟩
abbrev laB(GM:D→D→Option D):SF:=(c6 (j9 6 (eB k9 (eB v5 (eB v5 (eB GM (eV 6) (eC (.int 69621))) (eB GM (eB GM (eV 7) (eV 7)) (eC (.int 7919)))) (eC (.int 48271))) (eC (.int 2147483647)))) (u3 (bZ (eB (y3 true) (eB k9 (eV 6) (eV 2)) (eC (.int 1)))) (c6 (j9 9 (eB k6 (eB g7 (eV 8) (eC (.int 2))) (eB g7 (eV 8) (eC (.int 0))))) (c6 (j9 10 (eB k6 (eB g7 (eV 8) (eC (.int 3))) (eB g7 (eV 8) (eC (.int 1))))) (c6 (j9 11 (eB (y3 false) (eB k9 (eB G0 (eV 6) (eV 2)) (eC (.int 3))) (eC (.int 1)))) (c6 (j9 12 (eB k9 (eB G0 (eB G0 (eV 6) (eV 2)) (eC (.int 3))) (eB v5 (Q3 J1 3) (eC (.int 1))))) (c6 (u3 (bZ (eV 11)) (a4T 9 10 (aC (eV 10) (aC (eV 9) aN))) v3) (c6 (W9 3 (eV 12) (eT (aC (eV 9) (aC (eV 10) (aC (eOr (eV 11) (eB (y3 false) (eB k9 (eV 6) (eC (.int 2))) (eC (.int 1)))) aN))))) (c6 (W9 4 (eV 12) (eT (aC (eB g7 (eV 8) (eC (.int 0))) (aC (eB g7 (eV 8) (eC (.int 1))) (aC (eV 11) aN))))) (W9 5 (eV 12) (eV 8))))))))) v3))
theorem b1j(GM:D→D→Option D)(A C:D)(share:Int)(LW LP LS LW' LP' LS':List D)(num k a b d nm x y x2 y2:Int)(n:Nat)(o9 o10 o11 o12 p9 p10 p11 p12:Option D)(h1:GM (.int num) (.int 69621)=some (.int a))(h2:GM (.int k) (.int k)=some (.int b))(h3:GM (.int b) (.int 7919)=some (.int d))(hm:(a+d+48271)%2147483647=nm)(w1:k9 (.int nm) (.int share)=some (.int (nm%share)))(w2:G0 (.int nm) (.int share)=some (.int (nm/share)))
  (g0:k9 (.int (nm/share/3)) (.int ((LW.length:Int)+1))=some (.int (n:Int))) (c1:0≤(n:Int)∧(n:Int)≤(LW.length:Int)∧LW.length<sizeLine) (c2:0≤(n:Int)∧(n:Int)≤(LP.length:Int)∧LP.length<sizeLine) (c3:0≤(n:Int)∧(n:Int)≤(LS.length:Int)∧LS.length<sizeLine) (nn:((n:Nat):Int).toNat=n)
  (hc:(nm%share=1∧LW=LW'∧LP=LP'∧LS=LS'∧o9=p9∧o10=p10∧o11=p11∧o12=p12)∨(¬nm%share=1∧nm/share%3=1∧LW.take n++t3 (y2-y,x2-x,true)::LW.drop n=LW'∧LP.take n++t3 (x,y,true)::LP.drop n=LP'∧LS.take n++t4 (x,y,x2,y2)::LS.drop n=LS'∧some (D.int (y2-y))=p9∧some (D.int (x2-x))=p10∧some (D.bl true)=p11∧some (D.int (n:Int))=p12) ∨
   (¬nm%share=1∧¬nm/share%3=1∧LW.take n++t3 (x2-x,y2-y,decide (nm%2=1))::LW.drop n=LW'∧LP.take n++t3 (x,y,false)::LP.drop n=LP'∧LS.take n++t4 (x,y,x2,y2)::LS.drop n=LS'∧some (D.int (x2-x))=p9∧some (D.int (y2-y))=p10∧some (D.bl false)=p11∧some (D.int (n:Int))=p12)) :
  laB GM [.fz A,.fz C,.fz (.int share),.ow LW,.ow LP,.ow LS,.fz (.int num),.fz (.int k),.fz (.tup [.int x,.int y,.int x2,.int y2]),un o9,un o10,un o11,un o12]=some (.nx [.fz A,.fz C,.fz (.int share),.ow LW',.ow LP',.ow LS',.fz (.int nm),.fz (.int k),.fz (.tup [.int x,.int y,.int x2,.int y2]),un p9,un p10,un p11,un p12]):=by
 unfold laB
 rcases hc with⟨z,rfl,rfl,rfl,rfl,rfl,rfl,rfl⟩ | ⟨z,z2,rfl,rfl,rfl,rfl,rfl,rfl,rfl⟩ | ⟨z,z2,rfl,rfl,rfl,rfl,rfl,rfl,rfl⟩
 ·walk_at "eh"
 ·walk_at "eh"
  rfl
 ·walk_at "eh"
  rfl
theorem b1k(LL:SF)(A C:D)(cell:Int)(W P S:List D)(s6 s7 s8 s9 s10 s11 s12:Sl)(h:LL [.fz A,.fz (.int cell),.fz C,.ow [],.ow [],.ow [],.fz (.int (cell%2147483647)),.no,.no,.no,.no,.no,.no]=some (.nx [.fz A,.fz (.int cell),.fz C,.ow W,.ow P,.ow S,s6,s7,s8,s9,s10,s11,s12])):fD 13 3 (c6 (C1 3 (eL aN)) (c6 (C1 4 (eL aN)) (c6 (C1 5 (eL aN)) (c6 (j9 6 (eB k9 (eV 1) (eC (.int 2147483647)))) (c6 LL (n4 (eT (aC (eV 3) (aC (eV 4) (aC (eV 5) aN)))))))))) [A,.int cell,C]=some (.ret (.tup [.lst W,.lst P,.lst S])):=by
 walk_at "eh"
theorem a9c(bx:Int×Int)(l:List T4)(c:Cut bx l)(hl:l.length≤62)(cell share:Int)(hs:0<share∧share.natAbs.log2<9000):∃L,J5 [.lst (l.map t4),.int cell,.int share]=some (.ret (.tup [.lst (L.map wD),.lst (L.map pD),.lst (L.map sD)]))∧Laid l L:=by
 obtain⟨e',k1,L,num,o7,o8,o9,o10,o11,o12,h,rfl⟩:=a34 (b:=m4 [(b8 7),(b8 8)]) (body:=laB n0) (fun k s=>.tup [.int k,t4 s]) (fun pre e=>∃(L:List (T3×T3)) (num:Int) (o7 o8 o9 o10 o11 o12:Option D),Laid pre L∧e=[.fz (.lst (l.map t4)),.fz (.int cell),.fz (.int share),.ow (L.map wD),.ow (L.map pD),.ow (L.map sD),.fz (.int num),un o7,un o8,un o9,un o10,un o11,un o12]) l [.fz (.lst (l.map t4)),.fz (.int cell),.fz (.int share),.ow [],.ow [],.ow [],.fz (.int (cell%2147483647)),.no,.no,.no,.no,.no,.no] ⟨[],_,none,none,none,none,none,none,.nil,rfl⟩ (by
   rintro pre s post e hq ⟨L,num,o7,o8,o9,o10,o11,o12,h,rfl⟩
   have hp:pre.length≤62:=by rw[hq,List.length_append]at hl;omega
   have ha:∀t∈pre,ap t s=true:=by
    have:=c.two
    rw[hq]at this
    exact fun t m=>(List.pairwise_append.mp this).2.2 t m s List.mem_cons_self
   have hlen:=h.len
   have hb:m4 [b8 7,b8 8] (.tup [.int (pre.length:Int),t4 s]) [.fz (.lst (l.map t4)),.fz (.int cell),.fz (.int share),.ow (L.map wD),.ow (L.map pD),.ow (L.map sD),.fz (.int num),un o7,un o8,un o9,un o10,un o11,un o12]=some [.fz (.lst (l.map t4)),.fz (.int cell),.fz (.int share),.ow (L.map wD),.ow (L.map pD),.ow (L.map sD),.fz (.int num),.fz (.int (pre.length:Int)),.fz (t4 s),un o9,un o10,un o11,un o12]:=by cases o7<;>cases o8<;>rfl
   rw[hb,A6]
   obtain⟨nm,em⟩:∃nm:Int,(num*69621+(pre.length:Int)*(pre.length:Int)*7919+48271)%2147483647=nm:=⟨_,rfl⟩
   have q1:=Int.emod_nonneg (nm/share/3) (show(L.length:Int)+1≠0 by omega)
   have q2:=Int.emod_lt_of_pos (nm/share/3) (show(0:Int)<(L.length:Int)+1 by omega)
   obtain⟨n,hn⟩:=Int.eq_ofNat_of_zero_le q1
   have hn':n≤L.length:=by omega
   have c1:0≤(n:Int)∧(n:Int)≤((L.map wD).length:Int)∧(L.map wD).length<sizeLine:=by rw[List.length_map];exact⟨by omega,by omega,by show _<2 ^ 24;omega⟩
   have c2:0≤(n:Int)∧(n:Int)≤((L.map pD).length:Int)∧(L.map pD).length<sizeLine:=by rw[List.length_map];exact⟨by omega,by omega,by show _<2 ^ 24;omega⟩
   have c3:0≤(n:Int)∧(n:Int)≤((L.map sD).length:Int)∧(L.map sD).length<sizeLine:=by rw[List.length_map];exact⟨by omega,by omega,by show _<2 ^ 24;omega⟩
   have g0:k9 (.int (nm/share/3)) (.int (((L.map wD).length:Int)+1))=some (.int (n:Int)):=by rw[List.length_map,a0l (by omega),hn]
   obtain⟨x,y,x2,y2⟩:=s
   have W:=fun LW' LP' LS' p9 p10 p11 p12=>b1j n0 (.lst (l.map t4)) (.int cell) share (L.map wD) (L.map pD) (L.map sD) LW' LP' LS' num (pre.length:Int) _ _ _ nm x y x2 y2 n o9 o10 o11 o12 p9 p10 p11 p12 (O4 (by decide)) (a1e (by omega)) (O4 (by decide)) em (a0l hs.1) (a3Y hs) g0 c1 c2 c3 (Int.toNat_natCast n)
   have eM:∀(f:T3×T3→D) (q:T3×T3),(L.take n++q::L.drop n).map f=(L.map f).take n++f q::(L.map f).drop n:=fun f q=>by simp only[List.map_append,List.map_cons,List.map_take,List.map_drop]
   by_cases z:nm%share=1
   ·exact⟨_,(congrArg v7 (W _ _ _ _ _ _ _ (.inl ⟨z,rfl,rfl,rfl,rfl,rfl,rfl,rfl⟩))).trans rfl,L,nm,some _,some _,o9,o10,o11,o12,h.skip _,rfl⟩
   ·by_cases z2:nm/share%3=1
    ·have sq:j6 ((y2-y,x2-x,true),(x,y,true))=(x,y,x2,y2):=by
      simp only[j6,if_true]
      rw[show x+(x2-x)=x2 by omega,show y+(y2-y)=y2 by omega]
     refine⟨_,(congrArg v7 (W ((L.take n++((y2-y,x2-x,true),(x,y,true))::L.drop n).map wD) ((L.take n++((y2-y,x2-x,true),(x,y,true))::L.drop n).map pD) ((L.take n++((y2-y,x2-x,true),(x,y,true))::L.drop n).map sD) _ _ _ _ (.inr (.inl ⟨z,z2,(eM wD ((y2-y,x2-x,true),(x,y,true))).symm,(eM pD ((y2-y,x2-x,true),(x,y,true))).symm,?_,rfl,rfl,rfl,rfl⟩)))).trans rfl,L.take n++((y2-y,x2-x,true),(x,y,true))::L.drop n,nm,some _,some _,some _,some _,some _,some _,?_,rfl⟩
     ·rw[eM]
      show _=_++t4 (j6 ((y2-y,x2-x,true),(x,y,true)))::_
      rw[sq]
     ·have:=h.put n hn' (q:=((y2-y,x2-x,true),(x,y,true))) rfl (by rw[sq];exact ha)
      rw[sq]at this
      exact this
    ·have sq:j6 ((x2-x,y2-y,decide (nm%2=1)),(x,y,false))=(x,y,x2,y2):=by
      simp only[j6,Bool.false_eq_true,if_false]
      rw[show x+(x2-x)=x2 by omega,show y+(y2-y)=y2 by omega]
     refine⟨_,(congrArg v7 (W ((L.take n++((x2-x,y2-y,decide (nm%2=1)),(x,y,false))::L.drop n).map wD) ((L.take n++((x2-x,y2-y,decide (nm%2=1)),(x,y,false))::L.drop n).map pD) ((L.take n++((x2-x,y2-y,decide (nm%2=1)),(x,y,false))::L.drop n).map sD) _ _ _ _ (.inr (.inr ⟨z,z2,(eM wD ((x2-x,y2-y,decide (nm%2=1)),(x,y,false))).symm,(eM pD ((x2-x,y2-y,decide (nm%2=1)),(x,y,false))).symm,?_,rfl,rfl,rfl,rfl⟩)))).trans rfl,L.take n++((x2-x,y2-y,decide (nm%2=1)),(x,y,false))::L.drop n,nm,some _,some _,some _,some _,some _,some _,?_,rfl⟩
     ·rw[eM]
      show _=_++t4 (j6 ((x2-x,y2-y,decide (nm%2=1)),(x,y,false)))::_
      rw[sq]
     ·have:=h.put n hn' (q:=((x2-x,y2-y,decide (nm%2=1)),(x,y,false))) rfl (by rw[sq];exact ha)
      rw[sq]at this
      exact this)
 have k2:(C9 0 (m4 [(b8 7),(b8 8)]) (laB n0)) [.fz (.lst (l.map t4)),.fz (.int cell),.fz (.int share),.ow [],.ow [],.ow [],.fz (.int (cell%2147483647)),.no,.no,.no,.no,.no,.no]=some (.nx [.fz (.lst (l.map t4)),.fz (.int cell),.fz (.int share),.ow (L.map wD),.ow (L.map pD),.ow (L.map sD),.fz (.int num),un o7,un o8,un o9,un o10,un o11,un o12]):=by
  show m7 _ (laB n0) (G6 0 (l.map t4)) _=_
  rw[U5]
  exact k1
 exact⟨L,b1k (C9 0 (m4 [(b8 7),(b8 8)]) (laB n0)) _ _ _ _ _ _ _ _ _ _ _ _ _ k2,h⟩
abbrev signS(c:Nat):Str:=⟨#[c]⟩
theorem a1M(z:Str)(c:Nat):∀(m a:Nat) (st:Array Nat×Nat),a+m=z.length+1→st.2≤a→st.1.size+m≤z.length+1→(forIn (List.range' a m) st (StrLaws.occBody z ⟨#[c]⟩ z.length (z.length+1))).run.fst.size=st.1.size+(z.cps.toList.drop a).count c
 | 0,a,st,h1,h2,h3=>by
  have e:z.cps.toList.drop a=[]:=List.drop_eq_nil_of_le (by rw[Array.length_toList];show z.length≤a;omega)
  rw[e]
  rfl
 | m+1,a,st,h1,h2,h3=>by
  rw[List.range'_succ,List.forIn_cons]
  have key:=StrLaws.subAt_one z c a
  by_cases q:z.cps.toList[a]? = some c
  ·have kq:=key.mpr q
   have e1:StrLaws.occBody z ⟨#[c]⟩ z.length (z.length+1) a st=pure (ForInStep.yield (st.1.push a,a+(⟨#[c]⟩:Str).length)):=by
    unfold StrLaws.occBody
    rw[if_pos ⟨⟨⟨by omega,h2⟩,kq.1⟩,kq.2⟩]
   rw[e1]
   have ih:=a1M z c m (a+1) (st.1.push a,a+(⟨#[c]⟩:Str).length) (by omega) (by show a+1≤a+1;omega) (by simp only[Array.size_push];omega)
   have ed:z.cps.toList.drop a=c::z.cps.toList.drop (a+1):=by
    obtain⟨hlt,hc⟩:=List.getElem?_eq_some_iff.mp q
    rw[List.drop_eq_getElem_cons hlt,hc]
   rw[ed,List.count_cons_self]
   refine Eq.trans ih ?_
   simp only[Array.size_push]
   omega
  ·have e1:StrLaws.occBody z ⟨#[c]⟩ z.length (z.length+1) a st=pure (ForInStep.yield (st.1,st.2)):=by
    unfold StrLaws.occBody
    rw[if_neg (fun h=>q (key.mp ⟨h.1.2,h.2⟩))]
   rw[e1]
   have ih:=a1M z c m (a+1) (st.1,st.2) (by omega) (by show st.2≤a+1;omega) (by show st.1.size+m≤_;omega)
   refine Eq.trans ih ?_
   show st.1.size+_=_
   congr 1
   by_cases hl:a<z.cps.toList.length
   ·rw[List.drop_eq_getElem_cons hl]
    rw[List.count_cons_of_ne]
    intro e
    exact q (by rw[List.getElem?_eq_getElem hl,e])
   ·rw[List.drop_eq_nil_of_le (by omega),List.drop_eq_nil_of_le (by omega)]
theorem a5R(z:Str)(c:Nat):L6 z (signS c)=.int ((z.cps.toList.count c:Nat):Int):=by
 unfold L6 signS
 rw[PySem.StrLaws.occ_eq,Array.length_toList]
 have:=a1M z c (z.length+1) 0 (#[],0) (by omega) (Nat.le_refl _) (by simp)
 rw[show z.length+1-0=z.length+1 by omega,this]
 simp
def C7(n:Nat)(g:Nat→Nat):Nat:=((List.range n).map g).sum
theorem C0(n:Nat)(g:Nat→Nat):C7 (n+1) g=C7 n g+g n:=by
 unfold C7
 rw[List.range_succ,List.map_append,List.sum_append]
 simp
theorem a3l(n:Nat)(g k:Nat→Nat):C7 n (fun i=>g i+k i)=C7 n g+C7 n k:=by
 induction n with
 | zero=>rfl
 | succ n ih=>rw[C0,C0,C0,ih];omega
theorem P6(n:Nat)(g k:Nat→Nat)(h:∀i,i<n→g i=k i):C7 n g=C7 n k:=by
 unfold C7
 rw[List.map_congr_left fun i m=>h i (List.mem_range.mp m)]
theorem a5S(n:Nat):C7 n (fun _=>0)=0:=by
 induction n with
 | zero=>rfl
 | succ n ih=>rw[C0,ih]
theorem a0T(a b c:Nat)(hab:a≤b):∀n,C7 n (fun i=>if a≤i∧i<b then c else 0)=(min b n-a)*c
 | 0=>by rw[show min b 0-a=0 by omega,Nat.zero_mul];rfl
 | n+1=>by
  rw[C0,a0T a b c hab n]
  by_cases z:a≤n∧n<b
  ·rw[if_pos z,show min b (n+1)-a=(min b n-a)+1 by omega,Nat.succ_mul]
  ·rw[if_neg z,show min b (n+1)-a=min b n-a by omega]
   rfl
def dot(f:Nat→Nat→Nat)(u v:Nat):Nat:=if f u v=46 then 1 else 0
def G1(w h:Nat)(f:Nat→Nat→Nat):Nat:=C7 h fun v=>C7 w fun u=>dot f u v
def a0f(s:T4):Int:=(s.2.2.1-s.1)*(s.2.2.2-s.2.1)
def Y3(s:T4)(u v:Nat):Prop:=s.2.1≤(v:Int)∧(v:Int)<s.2.2.2∧s.1≤(u:Int)∧(u:Int)<s.2.2.1
theorem a5T(w h:Nat)(f:Nat→Nat→Nat)(s:T4)(c:Nat)(hc:c≠46)(hs:inB w h s)(hf:∀u v,Y3 s u v→f u v=46):(G1 w h f:Int)=G1 w h (A8 f s c)+a0f s:=by
 obtain⟨X1,Y1,X2,Y2⟩:=s
 obtain⟨q1,q2,q3,q4,q5,q6⟩:=hs
 dsimp only at q1 q2 q3 q4 q5 q6
 obtain⟨x1,rfl⟩:=Int.eq_ofNat_of_zero_le q1
 obtain⟨y1,rfl⟩:=Int.eq_ofNat_of_zero_le q4
 obtain⟨x2,rfl⟩:=Int.eq_ofNat_of_zero_le (show 0≤X2 by omega)
 obtain⟨y2,rfl⟩:=Int.eq_ofNat_of_zero_le (show 0≤Y2 by omega)
 have e1:G1 w h f=G1 w h (A8 f ((x1:Int),(y1:Int),(x2:Int),(y2:Int)) c)+(y2-y1)*(x2-x1):=by
  have e2:∀v,C7 w (fun u=>if y1≤v∧v<y2 then(if x1≤u∧u<x2 then 1 else 0)else 0)=if y1≤v∧v<y2 then x2-x1 else 0:=fun v=>by
   by_cases z:y1≤v∧v<y2
   ·rw[if_pos z]
    rw[P6 w _ (fun u=>if x1≤u∧u<x2 then 1 else 0) (fun u _=>if_pos z),a0T x1 x2 1 (by omega),show min x2 w-x1=x2-x1 by omega,Nat.mul_one]
   ·rw[if_neg z,P6 w _ (fun _=>0) (fun u _=>if_neg z),a5S]
  have e3:C7 h (fun v=>if y1≤v∧v<y2 then x2-x1 else 0)=(y2-y1)*(x2-x1):=by
   rw[a0T y1 y2 (x2-x1) (by omega),show min y2 h-y1=y2-y1 by omega]
  rw[← e3]
  unfold G1
  rw[← a3l]
  refine P6 h _ _ fun v _=>?_
  rw[← e2 v,← a3l]
  refine P6 w _ _ fun u _=>?_
  unfold dot
  by_cases z:Y3 ((x1:Int),(y1:Int),(x2:Int),(y2:Int)) u v
  ·have z':=z
   unfold Y3 at z'
   dsimp only at z'
   rw[if_pos (hf u v z)]
   unfold A8
   dsimp only
   rw[if_pos z',if_neg hc,if_pos (by omega),if_pos (by omega)]
  ·have z':=z
   unfold Y3 at z'
   dsimp only at z'
   unfold A8
   dsimp only
   rw[if_neg z']
   by_cases y:y1≤v∧v<y2
   ·rw[if_pos y,if_neg (show ¬(x1≤u∧u<x2) by omega)]
    rfl
   ·rw[if_neg y]
    rfl
 rw[e1]
 unfold a0f
 dsimp only
 rw[Int.natCast_add,Int.natCast_mul,Int.natCast_sub (by omega),Int.natCast_sub (by omega),Int.mul_comm]
theorem a7A{s t:T4}(h:ap s t=true){u v:Nat}(h1:Y3 s u v):¬Y3 t u v:=by
 rw[S0]at h
 unfold Y3 at *
 omega
theorem a4b(S:Str):∀(l:List T4) (f:Nat→Nat→Nat) (k u v:Nat),(∀t∈l,¬Y3 t u v)→M1 S f k l u v=f u v
 | [],_,_,_,_,_=>rfl
 | s::l,f,k,u,v,h=>by
  show M1 S (A8 f s (u4 S k)) (k+1) l u v=_
  rw[a4b S l _ _ u v (fun t m=>h t (List.mem_cons_of_mem _ m))]
  unfold A8
  exact if_neg (h s List.mem_cons_self)
theorem a5U(S:Str):∀(pre:List T4) (s:T4) (post:List T4) (f:Nat→Nat→Nat) (k u v:Nat),(pre++s::post).Pairwise (fun s t=>ap s t=true)→Y3 s u v→M1 S f k (pre++s::post) u v=u4 S (k+pre.length)
 | [],s,post,f,k,u,v,hp,hs=>by
  show M1 S (A8 f s (u4 S k)) (k+1) post u v=_
  rw[a4b S post _ _ u v (fun t m=>a7A ((List.pairwise_cons.mp hp).1 t m) hs)]
  unfold A8
  exact if_pos hs
 | t::pre,s,post,f,k,u,v,hp,hs=>by
  show M1 S (A8 f t (u4 S k)) (k+1) (pre++s::post) u v=_
  rw[a5U S pre s post _ (k+1) u v (List.pairwise_cons.mp hp).2 hs,List.length_cons,show k+1+pre.length=k+(pre.length+1) by omega]
theorem a3m(S:Str)(w h m:Nat)(hS:∀k,k<m→u4 S k≠46):∀(l:List T4) (f:Nat→Nat→Nat) (k:Nat),k+l.length≤m→l.Pairwise (fun s t=>ap s t=true)→(∀s∈l,inB w h s)→(∀s∈l,∀u v,Y3 s u v→f u v=46)→(G1 w h f:Int)=G1 w h (M1 S f k l)+(l.map a0f).sum
 | [],f,k,_,_,_,_=>by show(G1 w h f:Int)=G1 w h f+0;omega
 | s::l,f,k,hk,hp,hb,hf=>by
  rw[List.length_cons]at hk
  obtain⟨p1,p2⟩:=List.pairwise_cons.mp hp
  have h1:=a5T w h f s (u4 S k) (hS k (by omega)) (hb s List.mem_cons_self) (hf s List.mem_cons_self)
  have h2:=a3m S w h m hS l (A8 f s (u4 S k)) (k+1) (by omega) p2 (fun t m=>hb t (List.mem_cons_of_mem _ m)) (fun t mt u v hi=>by
   unfold A8
   exact(if_neg (fun z=>a7A (p1 t mt) z hi)).trans (hf t (List.mem_cons_of_mem _ mt) u v hi))
  rw[h1,h2,List.map_cons,List.sum_cons]
  show _=(G1 w h (M1 S (A8 f s (u4 S k)) (k+1) l):Int)+_
  omega
theorem a45(w h:Nat):G1 w h (fun _ _=>46)=w*h:=by
 unfold G1
 have e:∀n,C7 n (fun u=>dot (fun _ _=>46) u 0)=n:=fun n=>by
  induction n with
  | zero=>rfl
  | succ n ih=>rw[C0,ih];rfl
 have e2:(fun v=>C7 w fun u=>dot (fun _ _=>46) u v)=fun _=>w:=funext fun v=>e w
 rw[e2]
 induction h with
 | zero=>rfl
 | succ n ih=>rw[C0,ih,Nat.mul_succ]
theorem a5V(g:Nat→Nat)(n:Nat):((List.range n).map g).count 46=C7 n (fun u=>if g u=46 then 1 else 0):=by
 induction n with
 | zero=>rfl
 | succ n ih =>
  rw[C0,← ih,List.range_succ,List.map_append,List.count_append]
  congr 1
  rw[List.map_singleton,List.count_singleton]
  by_cases z:g n=46
  ·rw[if_pos z];simp[z]
  ·rw[if_neg z];simp[z]
theorem a5W(w h:Nat)(f:Nat→Nat→Nat):((j7 w h f).map fun r=>r.count 46).sum=G1 w h f:=by
 unfold j7 G1 C7
 rw[List.map_map]
 congr 1
 refine List.map_congr_left fun v _=>?_
 show((List.range w).map fun x=>f x v).count 46=_
 rw[a5V (fun x=>f x v) w]
 rfl
theorem a5X(w:Nat)(g:Nat→Nat)(a b c:Nat)(hab:a≤b)(hb:b≤w)(hg:∀u,a≤u→u<b→g u=c):Txt.slice ⟨((List.range w).map g).toArray⟩ (some (a:Int)) (some (b:Int))=⟨(List.replicate (b-a) c).toArray⟩:=by
 have h:=PyProof.Rows.slice_closes (x:=⟨((List.range w).map g).toArray⟩) (i:=(a:Int)) (j:=(b:Int)) ⟨by omega,by omega,by show(b:Int)≤((((List.range w).map g).toArray.toList).length:Int);rw[List.toList_toArray,List.length_map,List.length_range];omega⟩
 have h:=eq_of_beq h
 rw[h]
 have e:(List.take ((b:Int)-(a:Int)).toNat (List.drop (a:Int).toNat (((List.range w).map g).toArray.toList)))=List.replicate (b-a) c:=by
  rw[List.toList_toArray,Int.toNat_natCast,show((b:Int)-(a:Int)).toNat=b-a by omega]
  rw[List.eq_replicate_iff]
  refine⟨by rw[List.length_take,List.length_drop,List.length_map,List.length_range];omega,fun d m=>?_⟩
  obtain⟨i,hi⟩:=List.getElem?_of_mem m
  rw[List.getElem?_take]at hi
  split at hi
  ·rename_i z
   rw[List.getElem?_drop,List.getElem?_map,List.getElem?_range (by omega)]at hi
   have hi:some (g (a+i))=some d:=hi
   rw[← Option.some.inj hi]
   exact hg (a+i) (by omega) (by omega)
  ·cases hi
 exact congrArg (fun l:List Nat=>(⟨l.toArray⟩:Str)) e
theorem a3n(c:Nat):∀(n:Nat) (a:Array Nat),List.foldl (fun x1 x2=>x1++x2) a (List.replicate n #[c])=a++(List.replicate n c).toArray
 | 0,a=>by simp
 | n+1,a=>by
  rw[List.replicate_succ,List.foldl_cons,a3n c n]
  apply Array.ext'
  simp[List.replicate_succ]
theorem a9d(c n:Nat)(hn:n≤60):L7 (.str ⟨#[c]⟩) (.int (n:Int))=some (.str ⟨(List.replicate n c).toArray⟩):=by
 have e:Z0 ⟨#[c]⟩ (n:Int)=⟨(List.replicate n c).toArray⟩:=by
  unfold Z0
  by_cases z:(n:Int)<1
  ·rw[if_pos z,show n=0 by omega]
   rfl
  ·rw[if_neg z]
   by_cases y:n=1
   ·subst y
    rfl
   ·rw[if_neg (by
     have e2:(⟨#[c]⟩:Str).length=1:=rfl
     rw[e2]
     simp
     omega),Int.toNat_natCast]
    have:=a3n c n #[]
    show Str.mk (List.foldl (fun x1 x2=>x1++x2) #[] (List.replicate n #[c]))=_
    rw[this]
    simp
 show(if(⟨#[c]⟩:Str).length≤1000∧-1000000000≤(n:Int)∧(n:Int)≤10000 then some (D.str (Z0 ⟨#[c]⟩ (n:Int)))else none)=_
 rw[if_pos ⟨by show 1≤1000;omega,by omega,by omega⟩,e]
abbrev i7:Str := "0123456789abcdefghijklmnopqrstuvwxyzABCDEFGHIJKLMNOPQRSTUVWXYZ"
abbrev gr1(GL:D→Option D)(GC:Str→Str→D):SF:=(c6 (u3 (X9 (x8 (bZ (W5 5 "str"))) (bZ (eB (y3 true) (eCB (g1 GL) (aC (eV 5) aN)) (eB g7 (eV 0) (eC (.int 0)))))) (n4 (eC (.bl false))) v3) (j9 4 (eB v5 (eV 4) (zSM GC (eV 5) (eC (.str "."))))))
theorem b1l(GL:D→Option D)(GC:Str→Str→D)(w h p c:Int)(z:Str)(s1 s2 s3 s6 s7 s8 s9 s10 s11:Sl)(hg:GL (.str z)=some (.int w))(hc:GC z "." = .int c):gr1 GL GC [.fz (.tup [.int w,.int h]),s1,s2,s3,.fz (.int p),.fz (.str z),s6,s7,s8,s9,s10,s11]=some (.nx [.fz (.tup [.int w,.int h]),s1,s2,s3,.fz (.int (p+c)),.fz (.str z),s6,s7,s8,s9,s10,s11]):=by
 have hz:(zSM GC (eV 5) (eC (.str "."))) [.fz (.tup [.int w,.int h]),s1,s2,s3,.fz (.int p),.fz (.str z),s6,s7,s8,s9,s10,s11]=some (.ok (.int c) [.fz (.tup [.int w,.int h]),s1,s2,s3,.fz (.int p),.fz (.str z),s6,s7,s8,s9,s10,s11]):=by
  show some (L2.R.ok (GC z ".") _)=_
  rw[hc]
 unfold gr1
 walk_at "eh"
abbrev gi1(GR GX GQ:D→D→Option D)(SL:ZF):SF:=(u3 (bZ (eB GQ SL (eB GR (eB GX (eV 3) (eV 6)) (eB k6 (eV 10) (eV 8))))) (n4 (eC (.bl false))) v3)
theorem b1m(GR GX GQ:D→D→Option D)(SL:ZF)(k x x2:Int)(S t c:D)(s0 s1 s2 s4 s5 s7 s9 s11:Sl)(h1:SL [s0,s1,s2,.fz S,s4,s5,.fz (.int k),s7,.fz (.int x),s9,.fz (.int x2),s11]=some (.ok t [s0,s1,s2,.fz S,s4,s5,.fz (.int k),s7,.fz (.int x),s9,.fz (.int x2),s11]))(h2:GX S (.int k)=some c)(h3:GR c (.int (x2-x))=some t)(h4:GQ t t=some (.bl false)):gi1 GR GX GQ SL [s0,s1,s2,.fz S,s4,s5,.fz (.int k),s7,.fz (.int x),s9,.fz (.int x2),s11]=some (.nx [s0,s1,s2,.fz S,s4,s5,.fz (.int k),s7,.fz (.int x),s9,.fz (.int x2),s11]):=by
 unfold gi1
 walk_at "eh"
abbrev gr2(GM:D→D→Option D)(IN:SF):SF:=(c6 (O7 (eV 7) (m4 [(b8 8),(b8 9),(b8 10),(b8 11)])) (c6 (j9 4 (eB v5 (eV 4) (eB GM (eB k6 (eV 10) (eV 8)) (eB k6 (eV 11) (eV 9))))) IN))
theorem b1n(GM:D→D→Option D)(IN:SF)(w h p k x y x2 y2 a:Int)(S R G:D)(o5 o8 o9 o10 o11:Option D)(r:Option RS)(gm:GM (.int (x2-x)) (.int (y2-y))=some (.int a))(hi:IN [.fz (.tup [.int w,.int h]),.fz S,.fz R,.fz G,.fz (.int (p+a)),un o5,.fz (.int k),.fz (.tup [.int x,.int y,.int x2,.int y2]),.fz (.int x),.fz (.int y),.fz (.int x2),.fz (.int y2)]=r):gr2 GM IN [.fz (.tup [.int w,.int h]),.fz S,.fz R,.fz G,.fz (.int p),un o5,.fz (.int k),.fz (.tup [.int x,.int y,.int x2,.int y2]),un o8,un o9,un o10,un o11]=r:=by
 subst hi
 unfold gr2
 walk_at "eh"
theorem b1o(L1 L2:SF)(GM:D→D→Option D)(a b p0 p:Int)(S R:List D)(o5 q5 q6 q7 q8 q9 q10 q11:Option D)(hR:(R.length:Int)=b)(gm:GM (.int a) (.int b)=some (.int p))
  (l1:L1 [.fz (.tup [.int a,.int b]),.fz (.lst S),.fz (.lst R),.fz (.str "0123456789abcdefghijklmnopqrstuvwxyzABCDEFGHIJKLMNOPQRSTUVWXYZ"),.fz (.int 0),.no,.no,.no,.no,.no,.no,.no]=some (.nx [.fz (.tup [.int a,.int b]),.fz (.lst S),.fz (.lst R),.fz (.str "0123456789abcdefghijklmnopqrstuvwxyzABCDEFGHIJKLMNOPQRSTUVWXYZ"),.fz (.int p0),un o5,.no,.no,.no,.no,.no,.no])) (l2:L2 [.fz (.tup [.int a,.int b]),.fz (.lst S),.fz (.lst R),.fz (.str "0123456789abcdefghijklmnopqrstuvwxyzABCDEFGHIJKLMNOPQRSTUVWXYZ"),.fz (.int p0),un o5,.no,.no,.no,.no,.no,.no]=some (.nx [.fz (.tup [.int a,.int b]),.fz (.lst S),.fz (.lst R),.fz (.str "0123456789abcdefghijklmnopqrstuvwxyzABCDEFGHIJKLMNOPQRSTUVWXYZ"),.fz (.int p),un q5,un q6,un q7,un q8,un q9,un q10,un q11])) :
  fD 12 3 (c6 (j9 3 (eC (.str "0123456789abcdefghijklmnopqrstuvwxyzABCDEFGHIJKLMNOPQRSTUVWXYZ"))) (c6 (u3 (X9 (x8 (bZ (W5 2 "list"))) (bZ (eB (y3 true) (Q3 J1 2) (eB g7 (eV 0) (eC (.int 1)))))) (n4 (eC (.bl false))) v3) (c6 (j9 4 (eC (.int 0))) (c6 L1 (c6 L2 (n4 (eB (y3 false) (eV 4) (eB GM (eB g7 (eV 0) (eC (.int 0))) (eB g7 (eV 0) (eC (.int 1))))))))))) [.tup [.int a,.int b],.lst S,.lst R]=some (.ret (.bl true)):=by
 subst hR
 walk_at "eh"
abbrev tx(r:List Nat):D:=.str ⟨r.toArray⟩
theorem a9e(r:List Nat)(w:Nat)(h:r.length=w)(hw:w≤1000):N4 (tx r)=some (.int (w:Int)):=by
 have e:(Str.mk r.toArray).length=w:=by show r.toArray.size=w;rw[List.size_toArray];exact h
 show(if(Str.mk r.toArray).length≤sizeLine then some (D.int ((Str.mk r.toArray).length:Int))else none)=_
 rw[e,if_pos (by show _≤2 ^ 24;omega)]
theorem a9f(r:List Nat):L6 ⟨r.toArray⟩ "." = .int ((r.count 46:Nat):Int):=by
 have h:=a5R ⟨r.toArray⟩ 46
 exact h
theorem b0v(w h:Nat)(hw:w≤1000)(S:D)(R:List (List Nat))(hr:∀r∈R,r.length=w):∃o5:Option D,(a0k 2 (b8 5) (gr1 N4 L6)) [.fz (.tup [.int (w:Int),.int (h:Int)]),.fz S,.fz (.lst (R.map tx)),.fz (.str i7),.fz (.int 0),.no,.no,.no,.no,.no,.no,.no]=some (.nx [.fz (.tup [.int (w:Int),.int (h:Int)]),.fz S,.fz (.lst (R.map tx)),.fz (.str i7),.fz (.int (((R.map fun r=>r.count 46).sum:Nat):Int)),un o5,.no,.no,.no,.no,.no,.no]):=by
 obtain⟨e',f,o5,rfl⟩:=a0p (b:=b8 5) (body:=gr1 N4 L6) tx (fun pre e=>∃(o5:Option D),e=[.fz (.tup [.int (w:Int),.int (h:Int)]),.fz S,.fz (.lst (R.map tx)),.fz (.str i7),.fz (.int (((pre.map fun r=>r.count 46).sum:Nat):Int)),un o5,.no,.no,.no,.no,.no,.no]) R [.fz (.tup [.int (w:Int),.int (h:Int)]),.fz S,.fz (.lst (R.map tx)),.fz (.str i7),.fz (.int 0),.no,.no,.no,.no,.no,.no,.no] ⟨none,rfl⟩ (by
  rintro pre r post e hq ⟨o5,rfl⟩
  have hm:r∈R:=by rw[hq];exact List.mem_append_right _ List.mem_cons_self
  have hb:b8 5 (tx r) [.fz (.tup [.int (w:Int),.int (h:Int)]),.fz S,.fz (.lst (R.map tx)),.fz (.str i7),.fz (.int (((pre.map fun r=>r.count 46).sum:Nat):Int)),un o5,.no,.no,.no,.no,.no,.no]=some [.fz (.tup [.int (w:Int),.int (h:Int)]),.fz S,.fz (.lst (R.map tx)),.fz (.str i7),.fz (.int (((pre.map fun r=>r.count 46).sum:Nat):Int)),.fz (tx r),.no,.no,.no,.no,.no,.no]:=by cases o5<;>rfl
  rw[hb,A6]
  refine⟨_,(congrArg v7 (b1l N4 L6 (w:Int) (h:Int) _ _ ⟨r.toArray⟩ _ _ _ _ _ _ _ _ _ (a9e r w (hr r hm) hw) (a9f r))).trans rfl,some (tx r),?_⟩
  rw[List.map_append,List.sum_append,List.map_singleton,List.sum_singleton,Int.natCast_add]
  rfl)
 exact⟨o5,f⟩
theorem b0w(z:Str):y3 true (.str z) (.str z)=some (.bl false):=by
 simp[y3,toV,a2y]
abbrev slE:ZF:=(a6P (eV 5) (oS (eV 8)) (oS (eV 10)))
theorem b0x(r:List Nat)(hr:r.length≤1000)(x x2:Int)(s0 s1 s2 s3 s4 s6 s7 s9 s11:Sl):slE [s0,s1,s2,s3,s4,.fz (tx r),s6,s7,.fz (.int x),s9,.fz (.int x2),s11]=some (.ok (.str (Txt.slice ⟨r.toArray⟩ (some x) (some x2))) [s0,s1,s2,s3,s4,.fz (tx r),s6,s7,.fz (.int x),s9,.fz (.int x2),s11]):=by
 have e:(Str.mk r.toArray).length≤sizeLine:=by show r.toArray.size≤2 ^ 24;rw[List.size_toArray];omega
 show(if(Str.mk r.toArray).length≤sizeLine then _ else none)=_
 rw[if_pos e]
theorem b0Q(S:Str)(hS:S.length≤100)(k:Nat)(hk:k<S.length):M9 (.str S) (.int (k:Int))=some (ch (u4 S k)):=by
 have hk':k<S.cps.toList.length:=by rw[Array.length_toList];exact hk
 show(if S.length≤sizeLine then Option.map (fun c=>D.str { cps := #[c] }) (atI S.cps.toList (k:Int))else none)=_
 rw[if_pos (by show _≤2 ^ 24;omega),X0 (List.getElem?_eq_getElem hk')]
 unfold u4
 rw[List.getElem?_eq_getElem hk']
 rfl
theorem a3o:i7.length=62:=by decide +kernel
theorem b0y(w h:Nat)(f:Nat→Nat→Nat)(y y2:Nat)(hy:y≤y2)(hy2:y2≤h)(r:List Nat)(m:r∈((j7 w h f).reverse.drop (h-y2)).take (y2-y)):∃v,y≤v∧v<y2∧r=(List.range w).map fun u=>f u v:=by
 obtain⟨i,hi⟩:=List.getElem?_of_mem m
 rw[List.getElem?_take]at hi
 split at hi
 ·rename_i z
  have hl:(j7 w h f).length=h:=by unfold j7;rw[List.length_map,List.length_range]
  rw[List.getElem?_drop,List.getElem?_reverse (by omega),hl]at hi
  unfold j7 at hi
  rw[List.getElem?_map,List.getElem?_range (by omega)]at hi
  exact⟨h-1-(h-y2+i),by omega,by omega,(Option.some.inj hi).symm⟩
 ·cases hi
theorem b0R(w h:Nat)(hw:w≤60)(hh:h≤60)(S:D)(f:Nat→Nat→Nat)(k:Nat)(hk:k<62)(x y x2 y2:Nat)(hx:x≤x2)(hx2:x2≤w)(hy:y≤y2)(hy2:y2≤h)(hf:∀u v,x≤u→u<x2→y≤v→v<y2→f u v=u4 i7 k)(p:Int)(d7:D)(o5:Option D):∃o5':Option D,(a0K (zN (T6 2 (oS (eB k6 (eB g7 (eV 0) (eC (.int 1))) (eV 11))) (oS (eB k6 (eB g7 (eV 0) (eC (.int 1))) (eV 9))))) (b8 5) (gi1 L7 M9 (y3 true) slE)) [.fz (.tup [.int (w:Int),.int (h:Int)]),.fz S,.fz (.lst ((j7 w h f).reverse.map tx)),.fz (.str i7),.fz (.int p),un o5,.fz (.int (k:Int)),.fz d7,.fz (.int (x:Int)),.fz (.int (y:Int)),.fz (.int (x2:Int)),.fz (.int (y2:Int))]=some (.nx [.fz (.tup [.int (w:Int),.int (h:Int)]),.fz S,.fz (.lst ((j7 w h f).reverse.map tx)),.fz (.str i7),.fz (.int p),un o5',.fz (.int (k:Int)),.fz d7,.fz (.int (x:Int)),.fz (.int (y:Int)),.fz (.int (x2:Int)),.fz (.int (y2:Int))]):=by
 obtain⟨e',g,o5',rfl⟩:=a0p (b:=b8 5) (body:=gi1 L7 M9 (y3 true) slE) tx (fun pre e=>∃(o5:Option D),e=[.fz (.tup [.int (w:Int),.int (h:Int)]),.fz S,.fz (.lst ((j7 w h f).reverse.map tx)),.fz (.str i7),.fz (.int p),un o5,.fz (.int (k:Int)),.fz d7,.fz (.int (x:Int)),.fz (.int (y:Int)),.fz (.int (x2:Int)),.fz (.int (y2:Int))]) (((j7 w h f).reverse.drop (h-y2)).take (y2-y)) [.fz (.tup [.int (w:Int),.int (h:Int)]),.fz S,.fz (.lst ((j7 w h f).reverse.map tx)),.fz (.str i7),.fz (.int p),un o5,.fz (.int (k:Int)),.fz d7,.fz (.int (x:Int)),.fz (.int (y:Int)),.fz (.int (x2:Int)),.fz (.int (y2:Int))] ⟨o5,rfl⟩ (by
  rintro pre r post e hq ⟨o5,rfl⟩
  have hm:r∈((j7 w h f).reverse.drop (h-y2)).take (y2-y):=by rw[hq];exact List.mem_append_right _ List.mem_cons_self
  obtain⟨v,v1,v2,hr⟩:=b0y w h f y y2 hy hy2 r hm
  have hb:b8 5 (tx r) [.fz (.tup [.int (w:Int),.int (h:Int)]),.fz S,.fz (.lst ((j7 w h f).reverse.map tx)),.fz (.str i7),.fz (.int p),un o5,.fz (.int (k:Int)),.fz d7,.fz (.int (x:Int)),.fz (.int (y:Int)),.fz (.int (x2:Int)),.fz (.int (y2:Int))]=some [.fz (.tup [.int (w:Int),.int (h:Int)]),.fz S,.fz (.lst ((j7 w h f).reverse.map tx)),.fz (.str i7),.fz (.int p),.fz (tx r),.fz (.int (k:Int)),.fz d7,.fz (.int (x:Int)),.fz (.int (y:Int)),.fz (.int (x2:Int)),.fz (.int (y2:Int))]:=by cases o5<;>rfl
  rw[hb,A6]
  have hrl:r.length≤1000:=by rw[hr,List.length_map,List.length_range];omega
  have h1:=b0x r hrl (x:Int) (x2:Int) (.fz (.tup [.int (w:Int),.int (h:Int)])) (.fz S) (.fz (.lst ((j7 w h f).reverse.map tx))) (.fz (.str i7)) (.fz (.int p)) (.fz (.int (k:Int))) (.fz d7) (.fz (.int (y:Int))) (.fz (.int (y2:Int)))
  have hs:Txt.slice ⟨r.toArray⟩ (some (x:Int)) (some (x2:Int))=⟨(List.replicate (x2-x) (u4 i7 k)).toArray⟩:=by
   rw[hr]
   exact a5X w (fun u=>f u v) x x2 (u4 i7 k) hx hx2 (fun u u1 u2=>hf u v u1 u2 v1 v2)
  rw[hs]at h1
  have h3:L7 (ch (u4 i7 k)) (.int ((x2:Int)-(x:Int)))=some (.str ⟨(List.replicate (x2-x) (u4 i7 k)).toArray⟩):=by
   rw[show(x2:Int)-(x:Int)=((x2-x:Nat):Int) by omega]
   exact a9d _ _ (by omega)
  exact⟨_,(congrArg v7 (b1m L7 M9 (y3 true) slE (k:Int) (x:Int) (x2:Int) (.str i7) _ _ _ _ _ _ _ _ _ _ h1 (b0Q i7 (by rw[a3o];omega) k (by rw[a3o];exact hk)) h3 (b0w _))).trans rfl,some (tx r),rfl⟩)
 refine⟨o5',?_⟩
 have e0:(zN (T6 2 (oS (eB k6 (eB g7 (eV 0) (eC (.int 1))) (eV 11))) (oS (eB k6 (eB g7 (eV 0) (eC (.int 1))) (eV 9))))) [.fz (.tup [.int (w:Int),.int (h:Int)]),.fz S,.fz (.lst ((j7 w h f).reverse.map tx)),.fz (.str i7),.fz (.int p),un o5,.fz (.int (k:Int)),.fz d7,.fz (.int (x:Int)),.fz (.int (y:Int)),.fz (.int (x2:Int)),.fz (.int (y2:Int))]=some (.ok (.lst ((((j7 w h f).reverse.drop (h-y2)).take (y2-y)).map tx)) [.fz (.tup [.int (w:Int),.int (h:Int)]),.fz S,.fz (.lst ((j7 w h f).reverse.map tx)),.fz (.str i7),.fz (.int p),un o5,.fz (.int (k:Int)),.fz d7,.fz (.int (x:Int)),.fz (.int (y:Int)),.fz (.int (x2:Int)),.fz (.int (y2:Int))]):=by
  have hc:a0L ((j7 w h f).reverse.map tx) (some ((h:Int)-(y2:Int))) (some ((h:Int)-(y:Int)))=(((j7 w h f).reverse.drop (h-y2)).take (y2-y)).map tx:=by
   rw[a32 (by omega) (by omega),show((h:Int)-(y2:Int)).toNat=h-y2 by omega,show((h:Int)-(y:Int)-((h:Int)-(y2:Int))).toNat=y2-y by omega,List.map_take,List.map_drop]
  rw[← hc]
  rfl
 unfold a0K
 rw[e0,a2P]
 exact g
theorem a5Y(a:Int):r6 [.int a]=some (.ret (.bl (decide (a≥1) && decide (a≤60)))):=by
 unfold r6 S7
 by_cases z:a≥1
 ·rw[decide_eq_true z,Bool.true_and]
  walk_at "eh"
 ·rw[decide_eq_false z,Bool.false_and]
  walk_at "eh"
theorem b0S(SS FA:List D→Option R1)(GL:D→Option D)(DR RZ:SF)(a b:Int)(p q:Bool)(A B:List D)(g:GL (.str "0123456789abcdefghijklmnopqrstuvwxyzABCDEFGHIJKLMNOPQRSTUVWXYZ")=some (.int 62))(h1:SS [.int a]=some (.ret (.bl p)))(h2:SS [.int b]=some (.ret (.bl q)))(hp:p=true)(hq:q=true)(hl:¬(A.length:Int) > 62)(v:D)(h3:FA [.tup [.int a,.int b],.lst A,.lst B]=some (.ret v))(r:Option RS)(hv:(Z4 true v .non=some (.bl true)∧RZ [.fz (.tup [.int a,.int b]),.fz (.lst A),.fz (.lst B),.fz v,.no,.no,.no,.no,.no]=r∧(∃c,r=some (.ex c)))∨(Z4 true v .non=some (.bl false)∧DR [.fz (.tup [.int a,.int b]),.fz (.lst A),.fz (.lst B),.fz v,.no,.no,.no,.no,.no]=r)):fD 9 3 (c6 (u3 (X9 (x8 (bZ (i9 SS (aC (eB g7 (eV 0) (eC (.int 0))) aN)))) (X9 (x8 (bZ (i9 SS (aC (eB g7 (eV 0) (eC (.int 1))) aN)))) (bZ (eB gGt (Q3 J1 1) (eCB (g1 GL) (aC (eC (.str "0123456789abcdefghijklmnopqrstuvwxyzABCDEFGHIJKLMNOPQRSTUVWXYZ")) aN)))))) (Z5 "NoSheet" (aC (eC (.str "the box or the wares are too many for a sheet")) aN)) v3) (c6 (P4 3 FA (aC (eV 0) (aC (eV 1) (aC (eV 2) aN)))) (c6 (u3 (bZ (eB (Z4 true) (eV 3) (eC .non))) RZ v3) DR))) [.tup [.int a,.int b],.lst A,.lst B]=T5 r:=by
 subst hp hq
 generalize Z4 true=GN at *
 rcases hv with⟨z,e,c,rfl⟩ | ⟨z,e⟩
 ·walk_at "eh"
 ·walk_at "eh"
theorem b0z(w h:Nat)(hw:w≤60)(hh:h≤60)(l:List T4)(hl:l.length≤62)(hp:l.Pairwise fun s t=>ap s t=true)(hb:∀s∈l,inB w h s)(f:Nat→Nat→Nat)(hf:f=M1 i7 (fun _ _=>46) 0 l)(p0:Int)(o5:Option D):∃q5 q6 q7 q8 q9 q10 q11:Option D,(C9 1 (m4 [(b8 6),(b8 7)]) (gr2 n0 (a0K (zN (T6 2 (oS (eB k6 (eB g7 (eV 0) (eC (.int 1))) (eV 11))) (oS (eB k6 (eB g7 (eV 0) (eC (.int 1))) (eV 9))))) (b8 5) (gi1 L7 M9 (y3 true) slE)))) [.fz (.tup [.int (w:Int),.int (h:Int)]),.fz (.lst (l.map t4)),.fz (.lst ((j7 w h f).reverse.map tx)),.fz (.str i7),.fz (.int p0),un o5,.no,.no,.no,.no,.no,.no]=some (.nx [.fz (.tup [.int (w:Int),.int (h:Int)]),.fz (.lst (l.map t4)),.fz (.lst ((j7 w h f).reverse.map tx)),.fz (.str i7),.fz (.int (p0+(l.map a0f).sum)),un q5,un q6,un q7,un q8,un q9,un q10,un q11]):=by
 obtain⟨e',k1,q5,q6,q7,q8,q9,q10,q11,rfl⟩:=a34 (b:=m4 [(b8 6),(b8 7)]) (body:=gr2 n0 (a0K (zN (T6 2 (oS (eB k6 (eB g7 (eV 0) (eC (.int 1))) (eV 11))) (oS (eB k6 (eB g7 (eV 0) (eC (.int 1))) (eV 9))))) (b8 5) (gi1 L7 M9 (y3 true) slE))) (fun k s=>.tup [.int k,t4 s]) (fun pre e=>∃(q5 q6 q7 q8 q9 q10 q11:Option D),e=[.fz (.tup [.int (w:Int),.int (h:Int)]),.fz (.lst (l.map t4)),.fz (.lst ((j7 w h f).reverse.map tx)),.fz (.str i7),.fz (.int (p0+(pre.map a0f).sum)),un q5,un q6,un q7,un q8,un q9,un q10,un q11]) l [.fz (.tup [.int (w:Int),.int (h:Int)]),.fz (.lst (l.map t4)),.fz (.lst ((j7 w h f).reverse.map tx)),.fz (.str i7),.fz (.int p0),un o5,.no,.no,.no,.no,.no,.no] ⟨o5,none,none,none,none,none,none,by rw[List.map_nil,List.sum_nil,Int.add_zero];rfl⟩ (by
  rintro pre s post e hq ⟨q5,q6,q7,q8,q9,q10,q11,rfl⟩
  have hk:pre.length<62:=by have:=congrArg List.length hq;rw[List.length_append,List.length_cons]at this;omega
  have hs:=hb s (by rw[hq];exact List.mem_append_right _ List.mem_cons_self)
  have hat:∀u v,Y3 s u v→f u v=u4 i7 pre.length:=fun u v hi=>by
   rw[hf,hq]
   have:=a5U i7 pre s post (fun _ _=>46) 0 u v (hq▸hp) hi
   rw[Nat.zero_add]at this
   exact this
  obtain⟨X1,Y1,X2,Y2⟩:=s
  obtain⟨a1,a2,a3,a4,a5,a6⟩:=hs
  dsimp only at a1 a2 a3 a4 a5 a6
  obtain⟨x,rfl⟩:=Int.eq_ofNat_of_zero_le a1
  obtain⟨y,rfl⟩:=Int.eq_ofNat_of_zero_le a4
  obtain⟨x2,rfl⟩:=Int.eq_ofNat_of_zero_le (show 0≤X2 by omega)
  obtain⟨y2,rfl⟩:=Int.eq_ofNat_of_zero_le (show 0≤Y2 by omega)
  have hb':m4 [b8 6,b8 7] (.tup [.int (pre.length:Int),t4 ((x:Int),(y:Int),(x2:Int),(y2:Int))]) [.fz (.tup [.int (w:Int),.int (h:Int)]),.fz (.lst (l.map t4)),.fz (.lst ((j7 w h f).reverse.map tx)),.fz (.str i7),.fz (.int (p0+(pre.map a0f).sum)),un q5,un q6,un q7,un q8,un q9,un q10,un q11]=some [.fz (.tup [.int (w:Int),.int (h:Int)]),.fz (.lst (l.map t4)),.fz (.lst ((j7 w h f).reverse.map tx)),.fz (.str i7),.fz (.int (p0+(pre.map a0f).sum)),un q5,.fz (.int (pre.length:Int)),.fz (t4 ((x:Int),(y:Int),(x2:Int),(y2:Int))),un q8,un q9,un q10,un q11]:=by cases q6<;>cases q7<;>rfl
  rw[hb',A6]
  obtain⟨o5',i1⟩:=b0R w h hw hh (.lst (l.map t4)) f pre.length hk x y x2 y2 (by omega) (by omega) (by omega) (by omega) (fun u v u1 u2 v1 v2=>hat u v (by unfold Y3;dsimp only;omega)) (p0+(pre.map a0f).sum+((x2:Int)-(x:Int))*((y2:Int)-(y:Int))) (t4 ((x:Int),(y:Int),(x2:Int),(y2:Int))) q5
  refine⟨_,(congrArg v7 (b1n n0 _ (w:Int) (h:Int) _ (pre.length:Int) (x:Int) (y:Int) (x2:Int) (y2:Int) _ _ _ _ q5 q8 q9 q10 q11 _ (a1e (by omega)) i1)).trans rfl,o5',some (.int (pre.length:Int)),some (t4 ((x:Int),(y:Int),(x2:Int),(y2:Int))),some (.int (x:Int)),some (.int (y:Int)),some (.int (x2:Int)),some (.int (y2:Int)),?_⟩
  rw[List.map_append,List.sum_append,List.map_singleton,List.sum_singleton,← Int.add_assoc]
  rfl)
 refine⟨q5,q6,q7,q8,q9,q10,q11,?_⟩
 show m7 _ _ (G6 0 (l.map t4)) _=_
 rw[U5]
 exact k1
theorem b1p:∀k,k<62→u4 i7 k≠46:=by decide +kernel
theorem a4e(w h:Nat)(hw:w≤60)(hh:h≤60)(l:List T4)(hl:l.length≤62)(hp:l.Pairwise fun s t=>ap s t=true)(hb:∀s∈l,inB w h s):C6 [t2 ((w:Int),(h:Int)),.lst (l.map t4),.lst ((j7 w h (M1 i7 (fun _ _=>46) 0 l)).reverse.map tx)]=some (.ret (.bl true)):=by
 obtain⟨o5,l1⟩:=b0v w h (by omega) (.lst (l.map t4)) (j7 w h (M1 i7 (fun _ _=>46) 0 l)).reverse (fun r m=>by
  obtain⟨y,_,rfl⟩:=List.mem_map.mp (List.mem_reverse.mp m)
  rw[List.length_map,List.length_range])
 have e1:(((j7 w h (M1 i7 (fun _ _=>46) 0 l)).reverse.map fun r=>r.count 46).sum:Nat)=G1 w h (M1 i7 (fun _ _=>46) 0 l):=by
  rw[List.map_reverse,List.sum_reverse,a5W]
 rw[e1]at l1
 obtain⟨q5,q6,q7,q8,q9,q10,q11,l2⟩:=b0z w h hw hh l hl hp hb _ rfl (G1 w h (M1 i7 (fun _ _=>46) 0 l):Int) o5
 have e2:=a3m i7 w h 62 b1p l (fun _ _=>46) 0 (by omega) hp hb (fun _ _ _ _ _=>rfl)
 rw[a45,Int.natCast_mul]at e2
 rw[← e2]at l2
 exact b1o _ _ n0 (w:Int) (h:Int) _ ((w:Int)*(h:Int)) (l.map t4) _ o5 q5 q6 q7 q8 q9 q10 q11 (by rw[List.length_map,List.length_reverse];unfold j7;rw[List.length_map,List.length_range]) (a1e (by omega)) l1 l2
theorem b1q:N4 (.str "0123456789abcdefghijklmnopqrstuvwxyzABCDEFGHIJKLMNOPQRSTUVWXYZ")=some (.int 62):=by
 show(if i7.length≤sizeLine then some (D.int (i7.length:Int))else none)=_
 rw[a3o,if_pos (by show _≤2 ^ 24;omega)]
 rfl
theorem a7D{a:Int}(h:1≤a∧a≤60):(decide (a≥1) && decide (a≤60))=true:=by
 rw[decide_eq_true (show a≥1 from h.1),decide_eq_true h.2];rfl
theorem a9g(L:List (T3×T3))(hl:L.length≤1000)(hb:∀q∈L,O5 q=false)(d0 d3:D):(E6 y0 (aC (eV 1) (aC (eV 2) aN))) [.fz d0,.fz (.lst (L.map wD)),.fz (.lst (L.map pD)),.fz d3,.no,.no,.no,.no,.no]=some (.ok (.lst ((L.map j6).map t4)) [.fz d0,.fz (.lst (L.map wD)),.fz (.lst (L.map pD)),.fz d3,.no,.no,.no,.no,.no]):=by
 have h:=a65 L hl hb
 have e:(L.map j6).map t4=L.map sD:=by rw[List.map_map];rfl
 rw[e]
 show toZ (y0 [.lst (L.map wD),.lst (L.map pD)]) _=_
 rw[h]
 rfl
theorem a3p(w h:Nat)(hw:1≤w∧w≤60)(hh:1≤h∧h≤60)(L:List (T3×T3))(hl:L.length≤62)(hi:∀q∈L,inB w h (j6 q))(g:Good ((w:Int),(h:Int)) L):F7 [t2 ((w:Int),(h:Int)),.lst (L.map wD),.lst (L.map pD)]=some (.own ((j7 w h (M1 i7 (fun _ _=>46) 0 (L.map j6))).reverse.map tx)):=by
 have hb:∀q∈L,O5 q=false:=fun q m=>(g.1 q m).1
 have h1:=b0s i7 (E6 y0 (aC (eV 1) (aC (eV 2) aN))) (by rw[a3o];omega) w h hw.2 hh.2 (.lst (L.map wD)) (.lst (L.map pD)) .non (L.map j6) (by rw[List.length_map,a3o];exact hl) (fun s m=>by
  obtain⟨q,mq,rfl⟩:=List.mem_map.mp m
  exact hi q mq) (a9g L (by omega) hb _ _)
 exact(b0S r6 F6 N4 _ a4U (w:Int) (h:Int) _ _ (L.map wD) (L.map pD) b1q (a5Y _) (a5Y _) (a7D (by omega)) (a7D (by omega)) (by rw[List.length_map];omega) .non (a42 _ L (by omega) g) _ (.inr ⟨rfl,h1⟩)).trans rfl
theorem b0T(SS CE PI CL LA GD DR:List D→Option R1)(GT:D→D→Option D)(ns:List Int)(c0 c1 c2 c3 a b sh:Int)(M Q A B S R R2:List D)(k0:CE [.scr ns,.int 0]=some (.ret (.int c0)))(k1:CE [.scr ns,.int 1]=some (.ret (.int c1)))(k2:CE [.scr ns,.int 2]=some (.ret (.int c2)))(k3:CE [.scr ns,.int 3]=some (.ret (.int c3)))(s0:SS [.int c0]=some (.ret (.int a)))(s1:SS [.int c1]=some (.ret (.int b)))
  (hcl:CL [.scr ns]=some (.own M)) (hpi:PI [.tup [.int a,.int b],.lst M]=some (.own Q)) (hsh:(c2%2=0∧3=sh)∨(c2%2=1∧509=sh)) (hla:LA [.lst Q,.int c3,.int sh]=some (.ret (.tup [.lst A,.lst B,.lst S]))) (hdr:DR [.tup [.int a,.int b],.lst A,.lst B]=some (.own R)) (hgd:GD [.tup [.int a,.int b],.lst S,.lst R]=some (.ret (.bl true))) (ge:GT (.lst [.lst A,.lst B]) (.lst [.lst A,.lst B])=some (.bl false)) (hR:R.length<sizeLine) (hd2:DR [.tup [.int b,.int a],.lst [],.lst []]=some (.own R2)) (hg2:GD [.tup [.int b,.int a],.lst [],.lst R2]=some (.ret (.bl true))):fD 10 1 (c6 (j9 1 (eT (aC (i9 SS (aC (i9 CE (aC (eV 0) (aC (eC (.int 0)) aN))) aN)) (aC (i9 SS (aC (i9 CE (aC (eV 0) (aC (eC (.int 1)) aN))) aN)) aN)))) (c6 (a1b 2 PI (aC (eV 1) (aC (i9 CL (aC (eV 0) aN)) aN))) (c6 (j9 3 (eB A2 (zN (eL (aC (eC (.int 3)) (aC (eC (.int 509)) aN)))) (eB k9 (i9 CE (aC (eV 0) (aC (eC (.int 2)) aN))) (eC (.int 2))))) (c6 (O7 (i9 LA (aC (eV 2) (aC (i9 CE (aC (eV 0) (aC (eC (.int 3)) aN))) (aC (eV 3) aN)))) (m4 [(b8 4),(b8 5),(b8 6)])) (c6 (C1 7 (eL (aC (zN (nCV W0 4)) (aC (zN (nCV W0 5)) aN)))) (c6 (P4 8 DR (aC (eV 1) (aC (F8 A2 7 (eC (.int 0))) (aC (F8 A2 7 (eC (.int 1))) aN)))) (c6 (u3 (a1g (X9 (x8 (bZ (i9 GD (aC (eV 1) (aC (eV 6) (aC (eV 8) aN)))))) (bZ (F8 GT 7 (zN (eL (aC (eV 4) (aC (eV 5) aN)))))))) (n4 (eC (.bl false))) v3) (c6 (L3 8 (eC (.str ""))) (c6 (j9 9 (eT (aC (eB g7 (eV 1) (eC (.int 1))) (aC (eB g7 (eV 1) (eC (.int 0))) aN)))) (c6 (u3 (x8 (bZ (i9 GD (aC (eV 9) (aC (zN (eL aN)) (aC (E6 DR (aC (eV 9) (aC (zN (eL aN)) (aC (zN (eL aN)) aN)))) aN)))))) (n4 (eC (.bl false))) v3) (U3 GD (aC (eV 1) (aC (eV 6) (aC (E6 DR (aC (eV 1) (aC (F8 A2 7 (eC (.int 0))) (aC (F8 A2 7 (eC (.int 1))) aN)))) aN)))))))))))))) [.scr ns]=some (.ret (.bl true)):=by
 rcases hsh with⟨z,rfl⟩ | ⟨z,rfl⟩
 ·walk_at "eh"
 ·walk_at "eh"
theorem b0U(ws ps:List T3)(A B:List D)(e1:ws.map t3=A)(e2:ps.map t3=B):a0b true (.lst [.lst A,.lst B]) (.lst [.lst A,.lst B])=some (.bl false):=by
 subst e1 e2
 exact a5x true (by
  simp only[g8,u5,b0m];rfl) (by
  have h1:=b0n ws
  have h2:=b0n ps
  simp only[L4,B1];omega) rfl
theorem main(ns:List Int)(hl:ns.length≤63)(hb:∀m∈ns,Builtin.Int.intBits m≤2 ^ 20):a7y [.scr ns]=some (.ret (.bl true)):=by
 obtain⟨w,s0,w1,w2⟩:=a3j (B7 ns 0)
 obtain⟨h,s1,h1,h2⟩:=a3j (B7 ns 1)
 obtain⟨M,c1,c2⟩:=a7b ns
 obtain⟨l,p1,c,l1,l2⟩:=a5Q ((w:Int),(h:Int)) (by show 1≤(w:Int);omega) (by show 1≤(h:Int);omega) M c2
 obtain⟨sh,hsh,hs⟩:∃sh:Int,((B7 ns 2%2=0∧3=sh)∨(B7 ns 2%2=1∧509=sh))∧(0<sh∧sh.natAbs.log2<9000):=by
  rcases(show B7 ns 2%2=0∨B7 ns 2%2=1 by omega)with e | e
  ·exact⟨3,.inl ⟨e,rfl⟩,by decide⟩
  ·exact⟨509,.inr ⟨e,rfl⟩,by decide⟩
 obtain⟨L,q1,ld⟩:=a9c ((w:Int),(h:Int)) l c l2 (B7 ns 3) sh hs
 have hL:L.length≤62:=Nat.le_trans ld.len l2
 have g:=ld.good c
 have hi:∀q∈L,inB w h (j6 q):=fun q m=>by
  have:=c.one _ (ld.one q m).2
  unfold Y0 at this
  unfold inB
  dsimp only at this
  omega
 have e3:L.map sD=(L.map j6).map t4:=by rw[List.map_map];rfl
 have hp:(L.map j6).Pairwise fun s t=>ap s t=true:=List.pairwise_map.mpr ld.two
 have d1:=a3p w h ⟨w1,w2⟩ ⟨h1,h2⟩ L hL hi g
 have g1':=a4e w h w2 h2 (L.map j6) (by rw[List.length_map];exact hL) hp (fun s m=>by
  obtain⟨q,mq,rfl⟩:=List.mem_map.mp m
  exact hi q mq)
 have d2:=a3p h w ⟨h1,h2⟩ ⟨w1,w2⟩ [] (by decide) (fun _ m=>by cases m) Good.nil
 have g2':=a4e h w h2 w2 [] (by decide) .nil (fun _ m=>by cases m)
 refine b0T m5 k7 C5 E4 J5 C6 F7 (a0b true) ns _ _ _ _ (w:Int) (h:Int) sh _ _ _ _ _ _ _ (K2 (by omega)) (K2 (by omega)) (K2 (by omega)) (K2 (by omega)) s0 s1 c1 p1 hsh q1 d1 (by rw[e3];exact g1') (b0U (L.map Prod.fst) (L.map Prod.snd) _ _ (by rw[List.map_map];rfl) (by rw[List.map_map];rfl)) ?_ d2 g2'
 rw[List.length_map,List.length_reverse]
 unfold j7
 rw[List.length_map,List.length_range]
 show _<2 ^ 24
 omega
def a1p(K:PySem.W.Frag)(c:Str→Addr):Sp:=fun vs H Q _=>∃a,∃ns:List Int,vs=[.ref a]∧Scr K H a (ns.map V.int)∧(∀m∈ns,Builtin.Int.intBits m≤2 ^ 20)∧ns.length≤63∧∀H',Q (.bl true) H'
theorem b0A{f:Addr}{fd:FuncData}(F:Fun K "law" "law" N8 f fd)(T:Txt K mg c)(G_l_sheet_side:Own P w K mg base 3 "_law_sheet_side" ["_law_cell"] (j3 K c m5))(G_l_cell_at:Own P w K mg base 3 "_law_cell_at" ["_law_script","_law_k"] (j3 K c k7))(G_l_pieces:Own P w K mg base 3 "_law_pieces" ["_law_box","_law_cells_here"] (j3 K c C5))(G_l_cells:Own P w K mg base 5 "_law_cells" ["_law_script"] (j3 K c E4))(G_l_laid:Own P w K mg base 3 "_law_laid" ["_law_pieces_here","_law_cell","_law_share"] (j3 K c J5))(G_drawn:Own P w K mg base 9 "drawn" ["box","wares","places"] (j3 K c F7))(G_l_good:Own P w K mg base 3 "_law_good" ["_law_box","_law_spots","_law_rows"] (j3 K c C6)):FnOk P w K mg base (u9 P w) 11 f fd ["_law_script"] (a1p K c) :=
 (a80 F T G_l_sheet_side G_l_cell_at G_l_pieces G_l_cells G_l_laid G_drawn G_l_good).imp fun vs H Q E ⟨a,ns,e,h,hb,hl,q⟩=>a7Z e h q (main ns hl hb)
def cOf(l:List (Str×Addr))(x:Str):Addr:=(l.lookup x).getD 0
abbrev cL(c0 c1:Addr):=cOf [("BadTurn",c0),("NoSheet",c1)]
theorem all_mk{w:World}{K:PySem.W.Frag}{h:Heap}{mg:Str→Option Value}{fa:Addr}(X:K.In h)(G:h.Ns mainGlobals mg)(hfa:mg "law" = some (.ref fa))
  {c0 c1:Addr} {f_0:Addr} {oc_0 kV_0 dc_0 pm_0 cd_0 ct_0:Value} {od_0 an_0:Option Addr} {sl_0:Array (Option Value)} {f_1:Addr} {oc_1 kV_1 dc_1 pm_1 cd_1 ct_1:Value} {od_1 an_1:Option Addr} {sl_1:Array (Option Value)} {f_2:Addr} {oc_2 kV_2 dc_2 pm_2 cd_2 ct_2:Value} {od_2 an_2:Option Addr} {sl_2:Array (Option Value)} {f_3:Addr} {oc_3 kV_3 dc_3 pm_3 cd_3 ct_3:Value} {od_3 an_3:Option Addr} {sl_3:Array (Option Value)} {f_4:Addr} {oc_4 kV_4 dc_4 pm_4 cd_4 ct_4:Value} {od_4 an_4:Option Addr} {sl_4:Array (Option Value)} {f_5:Addr} {oc_5 kV_5 dc_5 pm_5 cd_5 ct_5:Value} {od_5 an_5:Option Addr} {sl_5:Array (Option Value)} {f_6:Addr} {oc_6 kV_6 dc_6 pm_6 cd_6 ct_6:Value} {od_6 an_6:Option Addr} {sl_6:Array (Option Value)} {f_7:Addr} {oc_7 kV_7 dc_7 pm_7 cd_7 ct_7:Value} {od_7 an_7:Option Addr} {sl_7:Array (Option Value)} {f_8:Addr} {oc_8 kV_8 dc_8 pm_8 cd_8 ct_8:Value} {od_8 an_8:Option Addr} {sl_8:Array (Option Value)} {f_9:Addr} {oc_9 kV_9 dc_9 pm_9 cd_9 ct_9:Value} {od_9 an_9:Option Addr} {sl_9:Array (Option Value)} {f_10:Addr} {oc_10 kV_10 dc_10 pm_10 cd_10 ct_10:Value} {od_10 an_10:Option Addr} {sl_10:Array (Option Value)} {f_11:Addr} {oc_11 kV_11 dc_11 pm_11 cd_11 ct_11:Value} {od_11 an_11:Option Addr} {sl_11:Array (Option Value)} {f_12:Addr} {oc_12 kV_12 dc_12 pm_12 cd_12 ct_12:Value} {od_12 an_12:Option Addr} {sl_12:Array (Option Value)} {f_13:Addr} {oc_13 kV_13 dc_13 pm_13 cd_13 ct_13:Value} {od_13 an_13:Option Addr} {sl_13:Array (Option Value)} {f_14:Addr} {oc_14 kV_14 dc_14 pm_14 cd_14 ct_14:Value} {od_14 an_14:Option Addr} {sl_14:Array (Option Value)} {f_15:Addr} {oc_15 kV_15 dc_15 pm_15 cd_15 ct_15:Value} {od_15 an_15:Option Addr} {sl_15:Array (Option Value)} {kt_MOST_SIDE:Tok} {kt_NOTHING:Tok} {kt_SIGNS:Tok}
  (a_0:PySem.W.nsIn K mainGlobals "sides_of" = some (some (.ref f_0)))
  (l_0:K.lookup f_0=some ⟨oc_0,od_0,.func (PySem.W.fnOf "sides_of" "sides_of" (l7 E7) (j0 E7) (c5 E7) .none kV_0 dc_0 pm_0 an_0 cd_0 ct_0),sl_0⟩)
  (c_0:PySem.W.codeIn K cd_0 "sides_of" = true)
  (k_0:PySem.W.keepIn K (.ref f_0)=true)
  (a_1:PySem.W.nsIn K mainGlobals "spot_of" = some (some (.ref f_1)))
  (l_1:K.lookup f_1=some ⟨oc_1,od_1,.func (PySem.W.fnOf "spot_of" "spot_of" (l7 J9) (j0 J9) (c5 J9) .none kV_1 dc_1 pm_1 an_1 cd_1 ct_1),sl_1⟩)
  (c_1:PySem.W.codeIn K cd_1 "spot_of" = true)
  (k_1:PySem.W.keepIn K (.ref f_1)=true)
  (a_2:PySem.W.nsIn K mainGlobals "spots_of" = some (some (.ref f_2)))
  (l_2:K.lookup f_2=some ⟨oc_2,od_2,.func (PySem.W.fnOf "spots_of" "spots_of" (l7 A7) (j0 A7) (c5 A7) .none kV_2 dc_2 pm_2 an_2 cd_2 ct_2),sl_2⟩)
  (c_2:PySem.W.codeIn K cd_2 "spots_of" = true)
  (k_2:PySem.W.keepIn K (.ref f_2)=true)
  (a_3:PySem.W.nsIn K mainGlobals "apart" = some (some (.ref f_3)))
  (l_3:K.lookup f_3=some ⟨oc_3,od_3,.func (PySem.W.fnOf "apart" "apart" (l7 P8) (j0 P8) (c5 P8) .none kV_3 dc_3 pm_3 an_3 cd_3 ct_3),sl_3⟩)
  (c_3:PySem.W.codeIn K cd_3 "apart" = true)
  (k_3:PySem.W.keepIn K (.ref f_3)=true)
  (a_4:PySem.W.nsIn K mainGlobals "lies_in" = some (some (.ref f_4)))
  (l_4:K.lookup f_4=some ⟨oc_4,od_4,.func (PySem.W.fnOf "lies_in" "lies_in" (l7 K0) (j0 K0) (c5 K0) .none kV_4 dc_4 pm_4 an_4 cd_4 ct_4),sl_4⟩)
  (c_4:PySem.W.codeIn K cd_4 "lies_in" = true)
  (k_4:PySem.W.keepIn K (.ref f_4)=true)
  (a_5:PySem.W.nsIn K mainGlobals "fault" = some (some (.ref f_5)))
  (l_5:K.lookup f_5=some ⟨oc_5,od_5,.func (PySem.W.fnOf "fault" "fault" (l7 P9) (j0 P9) (c5 P9) .none kV_5 dc_5 pm_5 an_5 cd_5 ct_5),sl_5⟩)
  (c_5:PySem.W.codeIn K cd_5 "fault" = true)
  (k_5:PySem.W.keepIn K (.ref f_5)=true)
  (a_6:PySem.W.nsIn K mainGlobals "is_sheet_side" = some (some (.ref f_6)))
  (l_6:K.lookup f_6=some ⟨oc_6,od_6,.func (PySem.W.fnOf "is_sheet_side" "is_sheet_side" (l7 w9) (j0 w9) (c5 w9) .none kV_6 dc_6 pm_6 an_6 cd_6 ct_6),sl_6⟩)
  (c_6:PySem.W.codeIn K cd_6 "is_sheet_side" = true)
  (k_6:PySem.W.keepIn K (.ref f_6)=true)
  (a_7:PySem.W.nsIn K mainGlobals "drawn" = some (some (.ref f_7)))
  (l_7:K.lookup f_7=some ⟨oc_7,od_7,.func (PySem.W.fnOf "drawn" "drawn" (l7 D1) (j0 D1) (c5 D1) .none kV_7 dc_7 pm_7 an_7 cd_7 ct_7),sl_7⟩)
  (c_7:PySem.W.codeIn K cd_7 "drawn" = true)
  (k_7:PySem.W.keepIn K (.ref f_7)=true)
  (a_8:PySem.W.nsIn K mainGlobals "_law_cell_at" = some (some (.ref f_8)))
  (l_8:K.lookup f_8=some ⟨oc_8,od_8,.func (PySem.W.fnOf "_law_cell_at" "_law_cell_at" (l7 D2) (j0 D2) (c5 D2) .none kV_8 dc_8 pm_8 an_8 cd_8 ct_8),sl_8⟩)
  (c_8:PySem.W.codeIn K cd_8 "_law_cell_at" = true)
  (k_8:PySem.W.keepIn K (.ref f_8)=true)
  (a_9:PySem.W.nsIn K mainGlobals "_law_sheet_side" = some (some (.ref f_9)))
  (l_9:K.lookup f_9=some ⟨oc_9,od_9,.func (PySem.W.fnOf "_law_sheet_side" "_law_sheet_side" (l7 z7) (j0 z7) (c5 z7) .none kV_9 dc_9 pm_9 an_9 cd_9 ct_9),sl_9⟩)
  (c_9:PySem.W.codeIn K cd_9 "_law_sheet_side" = true)
  (k_9:PySem.W.keepIn K (.ref f_9)=true)
  (a_10:PySem.W.nsIn K mainGlobals "_law_stream" = some (some (.ref f_10)))
  (l_10:K.lookup f_10=some ⟨oc_10,od_10,.func (PySem.W.fnOf "_law_stream" "_law_stream" (l7 E8) (j0 E8) (c5 E8) .none kV_10 dc_10 pm_10 an_10 cd_10 ct_10),sl_10⟩)
  (c_10:PySem.W.codeIn K cd_10 "_law_stream" = true)
  (k_10:PySem.W.keepIn K (.ref f_10)=true)
  (a_11:PySem.W.nsIn K mainGlobals "_law_cells" = some (some (.ref f_11)))
  (l_11:K.lookup f_11=some ⟨oc_11,od_11,.func (PySem.W.fnOf "_law_cells" "_law_cells" (l7 K1) (j0 K1) (c5 K1) .none kV_11 dc_11 pm_11 an_11 cd_11 ct_11),sl_11⟩)
  (c_11:PySem.W.codeIn K cd_11 "_law_cells" = true)
  (k_11:PySem.W.keepIn K (.ref f_11)=true)
  (a_12:PySem.W.nsIn K mainGlobals "_law_pieces" = some (some (.ref f_12)))
  (l_12:K.lookup f_12=some ⟨oc_12,od_12,.func (PySem.W.fnOf "_law_pieces" "_law_pieces" (l7 E9) (j0 E9) (c5 E9) .none kV_12 dc_12 pm_12 an_12 cd_12 ct_12),sl_12⟩)
  (c_12:PySem.W.codeIn K cd_12 "_law_pieces" = true)
  (k_12:PySem.W.keepIn K (.ref f_12)=true)
  (a_13:PySem.W.nsIn K mainGlobals "_law_laid" = some (some (.ref f_13)))
  (l_13:K.lookup f_13=some ⟨oc_13,od_13,.func (PySem.W.fnOf "_law_laid" "_law_laid" (l7 N0) (j0 N0) (c5 N0) .none kV_13 dc_13 pm_13 an_13 cd_13 ct_13),sl_13⟩)
  (c_13:PySem.W.codeIn K cd_13 "_law_laid" = true)
  (k_13:PySem.W.keepIn K (.ref f_13)=true)
  (a_14:PySem.W.nsIn K mainGlobals "_law_good" = some (some (.ref f_14)))
  (l_14:K.lookup f_14=some ⟨oc_14,od_14,.func (PySem.W.fnOf "_law_good" "_law_good" (l7 N1) (j0 N1) (c5 N1) .none kV_14 dc_14 pm_14 an_14 cd_14 ct_14),sl_14⟩)
  (c_14:PySem.W.codeIn K cd_14 "_law_good" = true)
  (k_14:PySem.W.keepIn K (.ref f_14)=true)
  (a_15:PySem.W.nsIn K mainGlobals "law" = some (some (.ref f_15)))
  (l_15:K.lookup f_15=some ⟨oc_15,od_15,.func (PySem.W.fnOf "law" "law" (l7 N8) (j0 N8) (c5 N8) .none kV_15 dc_15 pm_15 an_15 cd_15 ct_15),sl_15⟩)
  (c_15:PySem.W.codeIn K cd_15 "law" = true)
  (k_15:PySem.W.keepIn K (.ref f_15)=true)
  (z_enumerate:PySem.W.nsIn K mainGlobals "enumerate" = some none)
  (z_isinstance:PySem.W.nsIn K mainGlobals "isinstance" = some none)
  (z_len:PySem.W.nsIn K mainGlobals "len" = some none)
  (z_list:PySem.W.nsIn K mainGlobals "list" = some none)
  (z_range:PySem.W.nsIn K mainGlobals "range" = some none)
  (z_reversed:PySem.W.nsIn K mainGlobals "reversed" = some none)
  (z_str:PySem.W.nsIn K mainGlobals "str" = some none)
  (z_zip:PySem.W.nsIn K mainGlobals "zip" = some none)
  (m_BadTurn:PySem.W.nsIn K mainGlobals "BadTurn" = some (some (.ref c0)))
  (m_NoSheet:PySem.W.nsIn K mainGlobals "NoSheet" = some (some (.ref c1)))
  (x_BadTurn:PySem.W.excIn K c0 a0B "ValueError.__new__" = true)
  (x_NoSheet:PySem.W.excIn K c1 a0B "ValueError.__new__" = true)
  (g_MOST_SIDE:PySem.W.nsIn K mainGlobals "MOST_SIDE" = some (some (.int 60 kt_MOST_SIDE)))
  (g_NOTHING:PySem.W.nsIn K mainGlobals "NOTHING" = some (some (.str "." kt_NOTHING)))
  (g_SIGNS:PySem.W.nsIn K mainGlobals "SIGNS" = some (some (.str "0123456789abcdefghijklmnopqrstuvwxyzABCDEFGHIJKLMNOPQRSTUVWXYZ" kt_SIGNS)))
  : ∃fd:FuncData,(∀(s:Shared) (v:Value),BindsTo s fd ⟨[v],[]⟩ [("_law_script",v)])∧∃c:Str→Addr,∀base:Heap,K.In base→base.Ns mainGlobals mg→FnOk (PySem.Challenge.rw_cratefit_k65_drawn_sign_by_sign).prog w K mg base (u9 (PySem.Challenge.rw_cratefit_k65_drawn_sign_by_sign).prog w) 11 fa fd ["_law_script"] (a1p K c):=by
 have e:=hfa.symm.trans (PySem.W.mg_of X G a_15)
 cases e
 have T:Txt K mg (cL c0 c1):=⟨PySem.W.mg_none_of X G z_enumerate,PySem.W.mg_none_of X G z_isinstance,PySem.W.mg_none_of X G z_len,PySem.W.mg_none_of X G z_list,PySem.W.mg_none_of X G z_range,PySem.W.mg_none_of X G z_reversed,PySem.W.mg_none_of X G z_str,PySem.W.mg_none_of X G z_zip,PySem.W.mg_of X G m_BadTurn,PySem.W.mg_of X G m_NoSheet,x_BadTurn,x_NoSheet,⟨_,PySem.W.mg_of X G g_MOST_SIDE,⟨_,rfl⟩⟩,⟨_,PySem.W.mg_of X G g_NOTHING,⟨_,rfl⟩⟩,⟨_,PySem.W.mg_of X G g_SIGNS,⟨_,rfl⟩⟩⟩
 refine⟨PySem.W.fnOf "law" "law" (l7 N8) (j0 N8) (c5 N8) .none kV_15 dc_15 pm_15 an_15 cd_15 ct_15,fun s v=>.of_eq rfl,cOf [("BadTurn",c0),("NoSheet",c1)],fun base _ _=>?_⟩
 have F_0:=x6 (st:=E7) l_0 c_0 k_0
 have B_0:=F_0.binds (ps:=["ware","lie"]) fun _ _ _ _ _ _ us hl=>match us,hl with | [_,_],_=>rfl
 have O_0:Own (PySem.Challenge.rw_cratefit_k65_drawn_sign_by_sign).prog w K mg base 3 "sides_of" ["ware","lie"] (j3 K (cL c0 c1) L8):=⟨_,_,a3v F_0 T ,B_0,k_0,PySem.W.mg_of X G a_0⟩
 have F_1:=x6 (st:=J9) l_1 c_1 k_1
 have B_1:=F_1.binds (ps:=["ware","place"]) fun _ _ _ _ _ _ us hl=>match us,hl with | [_,_],_=>rfl
 have O_1:Own (PySem.Challenge.rw_cratefit_k65_drawn_sign_by_sign).prog w K mg base 5 "spot_of" ["ware","place"] (j3 K (cL c0 c1) u7):=⟨_,_,a4X F_1 T O_0,B_1,k_1,PySem.W.mg_of X G a_1⟩
 have F_2:=x6 (st:=A7) l_2 c_2 k_2
 have B_2:=F_2.binds (ps:=["wares","places"]) fun _ _ _ _ _ _ us hl=>match us,hl with | [_,_],_=>rfl
 have O_2:Own (PySem.Challenge.rw_cratefit_k65_drawn_sign_by_sign).prog w K mg base 7 "spots_of" ["wares","places"] (j3 K (cL c0 c1) y0):=⟨_,_,a3x F_2 T O_1,B_2,k_2,PySem.W.mg_of X G a_2⟩
 have F_3:=x6 (st:=P8) l_3 c_3 k_3
 have B_3:=F_3.binds (ps:=["one","other"]) fun _ _ _ _ _ _ us hl=>match us,hl with | [_,_],_=>rfl
 have O_3:Own (PySem.Challenge.rw_cratefit_k65_drawn_sign_by_sign).prog w K mg base 3 "apart" ["one","other"] (j3 K (cL c0 c1) N2):=⟨_,_,a6V F_3 T ,B_3,k_3,PySem.W.mg_of X G a_3⟩
 have F_4:=x6 (st:=K0) l_4 c_4 k_4
 have B_4:=F_4.binds (ps:=["box","spot"]) fun _ _ _ _ _ _ us hl=>match us,hl with | [_,_],_=>rfl
 have O_4:Own (PySem.Challenge.rw_cratefit_k65_drawn_sign_by_sign).prog w K mg base 3 "lies_in" ["box","spot"] (j3 K (cL c0 c1) B9):=⟨_,_,a4Y F_4 T ,B_4,k_4,PySem.W.mg_of X G a_4⟩
 have F_5:=x6 (st:=P9) l_5 c_5 k_5
 have B_5:=F_5.binds (ps:=["box","wares","places"]) fun _ _ _ _ _ _ us hl=>match us,hl with | [_,_,_],_=>rfl
 have O_5:Own (PySem.Challenge.rw_cratefit_k65_drawn_sign_by_sign).prog w K mg base 7 "fault" ["box","wares","places"] (j3 K (cL c0 c1) F6):=⟨_,_,a6W F_5 T O_1 O_4 O_3,B_5,k_5,PySem.W.mg_of X G a_5⟩
 have F_6:=x6 (st:=w9) l_6 c_6 k_6
 have B_6:=F_6.binds (ps:=["side"]) fun _ _ _ _ _ _ us hl=>match us,hl with | [_],_=>rfl
 have O_6:Own (PySem.Challenge.rw_cratefit_k65_drawn_sign_by_sign).prog w K mg base 3 "is_sheet_side" ["side"] (j3 K (cL c0 c1) r6):=⟨_,_,a0S F_6 T ,B_6,k_6,PySem.W.mg_of X G a_6⟩
 have F_7:=x6 (st:=D1) l_7 c_7 k_7
 have B_7:=F_7.binds (ps:=["box","wares","places"]) fun _ _ _ _ _ _ us hl=>match us,hl with | [_,_,_],_=>rfl
 have O_7:Own (PySem.Challenge.rw_cratefit_k65_drawn_sign_by_sign).prog w K mg base 9 "drawn" ["box","wares","places"] (j3 K (cL c0 c1) F7):=⟨_,_,a6X F_7 T O_6 O_5 O_2,B_7,k_7,PySem.W.mg_of X G a_7⟩
 have F_8:=x6 (st:=D2) l_8 c_8 k_8
 have B_8:=F_8.binds (ps:=["_law_script","_law_k"]) fun _ _ _ _ _ _ us hl=>match us,hl with | [_,_],_=>rfl
 have O_8:Own (PySem.Challenge.rw_cratefit_k65_drawn_sign_by_sign).prog w K mg base 3 "_law_cell_at" ["_law_script","_law_k"] (j3 K (cL c0 c1) k7):=⟨_,_,a3e F_8 T ,B_8,k_8,PySem.W.mg_of X G a_8⟩
 have F_9:=x6 (st:=z7) l_9 c_9 k_9
 have B_9:=F_9.binds (ps:=["_law_cell"]) fun _ _ _ _ _ _ us hl=>match us,hl with | [_],_=>rfl
 have O_9:Own (PySem.Challenge.rw_cratefit_k65_drawn_sign_by_sign).prog w K mg base 3 "_law_sheet_side" ["_law_cell"] (j3 K (cL c0 c1) m5):=⟨_,_,a1m F_9 T ,B_9,k_9,PySem.W.mg_of X G a_9⟩
 have F_10:=x6 (st:=E8) l_10 c_10 k_10
 have B_10:=F_10.binds (ps:=["_law_cell","_law_many"]) fun _ _ _ _ _ _ us hl=>match us,hl with | [_,_],_=>rfl
 have O_10:Own (PySem.Challenge.rw_cratefit_k65_drawn_sign_by_sign).prog w K mg base 3 "_law_stream" ["_law_cell","_law_many"] (j3 K (cL c0 c1) C4):=⟨_,_,a3y F_10 T ,B_10,k_10,PySem.W.mg_of X G a_10⟩
 have F_11:=x6 (st:=K1) l_11 c_11 k_11
 have B_11:=F_11.binds (ps:=["_law_script"]) fun _ _ _ _ _ _ us hl=>match us,hl with | [_],_=>rfl
 have O_11:Own (PySem.Challenge.rw_cratefit_k65_drawn_sign_by_sign).prog w K mg base 5 "_law_cells" ["_law_script"] (j3 K (cL c0 c1) E4):=⟨_,_,a40 F_11 T O_8 O_10,B_11,k_11,PySem.W.mg_of X G a_11⟩
 have F_12:=x6 (st:=E9) l_12 c_12 k_12
 have B_12:=F_12.binds (ps:=["_law_box","_law_cells_here"]) fun _ _ _ _ _ _ us hl=>match us,hl with | [_,_],_=>rfl
 have O_12:Own (PySem.Challenge.rw_cratefit_k65_drawn_sign_by_sign).prog w K mg base 3 "_law_pieces" ["_law_box","_law_cells_here"] (j3 K (cL c0 c1) C5):=⟨_,_,a3z F_12 T ,B_12,k_12,PySem.W.mg_of X G a_12⟩
 have F_13:=x6 (st:=N0) l_13 c_13 k_13
 have B_13:=F_13.binds (ps:=["_law_pieces_here","_law_cell","_law_share"]) fun _ _ _ _ _ _ us hl=>match us,hl with | [_,_,_],_=>rfl
 have O_13:Own (PySem.Challenge.rw_cratefit_k65_drawn_sign_by_sign).prog w K mg base 3 "_law_laid" ["_law_pieces_here","_law_cell","_law_share"] (j3 K (cL c0 c1) J5):=⟨_,_,a5H F_13 T ,B_13,k_13,PySem.W.mg_of X G a_13⟩
 have F_14:=x6 (st:=N1) l_14 c_14 k_14
 have B_14:=F_14.binds (ps:=["_law_box","_law_spots","_law_rows"]) fun _ _ _ _ _ _ us hl=>match us,hl with | [_,_,_],_=>rfl
 have O_14:Own (PySem.Challenge.rw_cratefit_k65_drawn_sign_by_sign).prog w K mg base 3 "_law_good" ["_law_box","_law_spots","_law_rows"] (j3 K (cL c0 c1) C6):=⟨_,_,a5I F_14 T ,B_14,k_14,PySem.W.mg_of X G a_14⟩
 have F_15:=x6 (st:=N8) l_15 c_15 k_15
 exact b0A F_15 T O_9 O_8 O_12 O_11 O_13 O_7 O_14
end Law
namespace Law
open PySem L2 PyProof.Rows
theorem walk{q:Program}{loose:List Str}{XP:(Str→Option Value)→Heap→Prop}{YP:World→Heap→Prop}{d:DefRec}{K:Params→PySem.W.Frag}(hdf:d.params.defaults=[])(hY:∀(w:World) (h:Heap),YP w h→(K w.params).In h)
  (F:∀(w:World) (mg:Str→Option Value) (fa:Addr) (h:Heap),(K w.params).In h→h.Ns mainGlobals mg→mg d.name=some (.ref fa) →
   ∃fd:FuncData,(∀(s:Shared) (u:Value),BindsTo s fd ⟨[u],[]⟩ [("_law_script",u)])∧∃c:Str→Addr,∀base:Heap,(K w.params).In base→base.Ns mainGlobals mg→FnOk (PySem.Challenge.rw_cratefit_k65_drawn_sign_by_sign).prog w (K w.params) mg base (u9 (PySem.Challenge.rw_cratefit_k65_drawn_sign_by_sign).prog w) 11 fa fd ["_law_script"] (a1p (K w.params) c)) :
  PySem.W.WalkO q loose XP YP (PySem.Challenge.rw_cratefit_k65_drawn_sign_by_sign).row.toRowW d [] (fun f vs=>PySem.call f vs):=by
 refine L2.walk_ofB (l:=PySem.Challenge.rw_cratefit_k65_drawn_sign_by_sign) (n:=63) (k:=11) (x := "_law_script") (K:=K) (CX:=fun w=>u9 (PySem.Challenge.rw_cratefit_k65_drawn_sign_by_sign).prog w) (sp:=fun w vs H Q E=>∀c,a1p (K w.params) c vs H Q E) rfl (by decide) hdf ⟨rfl,by decide,by decide⟩ hY (fun w mg fa h KX G hm=>?_) (fun w H a ns h1 h2 h3 h4 c=>⟨a,ns,rfl,.of h4 h3,h2,h1,fun _=>rfl⟩) fun w H s e s' z=>b0F H s e s' z
 obtain⟨fd,hb,c,hF⟩:=F w mg fa h KX G hm
 exact⟨fd,hb,fun base kb nb=>(hF base kb nb).imp fun vs H Q E z=>z c⟩
end Law
local macro_rules|`(#check 0)=>do
 let g:=fun(n:Lean.Name)=>do
  let y:=Lean.mkIdent (.str `PySem.W.Fast s!"tw{n.hash}")
  `(theorem $y:ident : True:=trivial)
 let mut r:=#[←g `PySem.Challenge.pw_cratefit_k65_drawn_sign_by_sign]
 for x in ["view_39","tree_47","tree_63","tree_78","tree_93","tree_141","tree_211","tree_227","heap_39","heap_46","heap_228","sts_49","sts_64","sts_79","sts_94","sts_142","sts_212","env_41"]++(List.range 185).map (s!"o_{·+43}") do r:=r.push (←g (.str `PySem.Challenge.cw_cratefit_k65_drawn_sign_by_sign_holds x))
 return Lean.mkNullNode r
#check 0
open PySem.W
set_option maxRecDepth 100000 in
set_option maxHeartbeats 0 in
theorem PySem.Challenge.cw_cratefit_k65_drawn_sign_by_sign_holds : PySem.Challenge.rw_cratefit_k65_drawn_sign_by_sign.Holds := by
 w_on;o_law;k_head; (case hw=>w_witness2)
 k_fill
 refine Law.walk rfl (fun w h Y=>PySem.W.kIn_of Y) ?F
 case F =>
  intro w mg fa h KX G hmg
  refine' Law.all_mk KX G hmg ?a_sides_of ?l_sides_of ?c_sides_of ?k_sides_of ?a_spot_of ?l_spot_of ?c_spot_of ?k_spot_of ?a_spots_of ?l_spots_of ?c_spots_of ?k_spots_of ?a_apart ?l_apart ?c_apart ?k_apart ?a_lies_in ?l_lies_in ?c_lies_in ?k_lies_in ?a_fault ?l_fault ?c_fault ?k_fault ?a_is_sheet_side ?l_is_sheet_side ?c_is_sheet_side ?k_is_sheet_side ?a_drawn ?l_drawn ?c_drawn ?k_drawn ?a_l_cell_at ?l_l_cell_at ?c_l_cell_at ?k_l_cell_at ?a_l_sheet_side ?l_l_sheet_side ?c_l_sheet_side ?k_l_sheet_side ?a_l_stream ?l_l_stream ?c_l_stream ?k_l_stream ?a_l_cells ?l_l_cells ?c_l_cells ?k_l_cells ?a_l_pieces ?l_l_pieces ?c_l_pieces ?k_l_pieces ?a_l_laid ?l_l_laid ?c_l_laid ?k_l_laid ?a_l_good ?l_l_good ?c_l_good ?k_l_good ?a_law ?l_law ?c_law ?k_law ?z_enumerate ?z_isinstance ?z_len ?z_list ?z_range ?z_reversed ?z_str ?z_zip ?m_BadTurn ?m_NoSheet ?x_BadTurn ?x_NoSheet ?g_MOST_SIDE ?g_NOTHING ?g_SIGNS
  (case a_sides_of=>k_is)
  (case l_sides_of=>k_is)
  (case c_sides_of=>k_is)
  (case k_sides_of=>k_is)
  (case a_spot_of=>k_is)
  (case l_spot_of=>k_is)
  (case c_spot_of=>k_is)
  (case k_spot_of=>k_is)
  (case a_spots_of=>k_is)
  (case l_spots_of=>k_is)
  (case c_spots_of=>k_is)
  (case k_spots_of=>k_is)
  (case a_apart=>k_is)
  (case l_apart=>k_is)
  (case c_apart=>k_is)
  (case k_apart=>k_is)
  (case a_lies_in=>k_is)
  (case l_lies_in=>k_is)
  (case c_lies_in=>k_is)
  (case k_lies_in=>k_is)
  (case a_fault=>k_is)
  (case l_fault=>k_is)
  (case c_fault=>k_is)
  (case k_fault=>k_is)
  (case a_is_sheet_side=>k_is)
  (case l_is_sheet_side=>k_is)
  (case c_is_sheet_side=>k_is)
  (case k_is_sheet_side=>k_is)
  (case a_drawn=>k_is)
  (case l_drawn=>k_is)
  (case c_drawn=>k_is)
  (case k_drawn=>k_is)
  (case a_l_cell_at=>k_is)
  (case l_l_cell_at=>k_is)
  (case c_l_cell_at=>k_is)
  (case k_l_cell_at=>k_is)
  (case a_l_sheet_side=>k_is)
  (case l_l_sheet_side=>k_is)
  (case c_l_sheet_side=>k_is)
  (case k_l_sheet_side=>k_is)
  (case a_l_stream=>k_is)
  (case l_l_stream=>k_is)
  (case c_l_stream=>k_is)
  (case k_l_stream=>k_is)
  (case a_l_cells=>k_is)
  (case l_l_cells=>k_is)
  (case c_l_cells=>k_is)
  (case k_l_cells=>k_is)
  (case a_l_pieces=>k_is)
  (case l_l_pieces=>k_is)
  (case c_l_pieces=>k_is)
  (case k_l_pieces=>k_is)
  (case a_l_laid=>k_is)
  (case l_l_laid=>k_is)
  (case c_l_laid=>k_is)
  (case k_l_laid=>k_is)
  (case a_l_good=>k_is)
  (case l_l_good=>k_is)
  (case c_l_good=>k_is)
  (case k_l_good=>k_is)
  (case a_law=>k_is)
  (case l_law=>k_is)
  (case c_law=>k_is)
  (case k_law=>k_is)
  (case z_enumerate=>k_is)
  (case z_isinstance=>k_is)
  (case z_len=>k_is)
  (case z_list=>k_is)
  (case z_range=>k_is)
  (case z_reversed=>k_is)
  (case z_str=>k_is)
  (case z_zip=>k_is)
  (case m_BadTurn=>k_is)
  (case m_NoSheet=>k_is)
  (case x_BadTurn=>kernel_rfl)
  (case x_NoSheet=>kernel_rfl)
  (case g_MOST_SIDE=>k_is)
  (case g_NOTHING=>k_is)
  (case g_SIGNS=>k_is)
